/-
  What is proved here: whether a trail shows a growth, as the code tells it; the program answers.
-/
import Derived.Test.YtoacjaecfabahaaDoorMJE
set_option linter.unusedSimpArgs false
set_option linter.unusedVariables false
namespace Go.Proofs.YtoacjaecfabahaaDoor
open Go.ChangeShapes Go.WideShapes Go.ChangeAt Go.RowKit
set_option linter.unusedVariables false
set_option linter.unusedSimpArgs false
set_option maxRecDepth 20000

set_option maxHeartbeats 16000000 in
theorem jIsGrowth_any {w : World} {i k : Int} {A B : Option Addr} {n c m d : Nat} {Ah Be : List (List Int)} {h root : List Int} (hA : InH w A n Ah) (hB : InH w B m Be) (hn : n < 1000000) (hm : m < 1000000) (hh : H32 h) (hr : H32 root) (hTb : Tab w) (hTd : TabD w) :
    Calls Tryd.prog 34 #[.agg (tlc A n c B m d), .int .i64 i, .int .i64 k, hV h, hV root] w fun e w' => e = .returned (.bool (igB i k Ah Be h root)) ∧ Below w.heap.size w w' := by
  obtain ⟨v1, hv1⟩ : ∃ v1, v1 = arB h [⟨0, i, none, 0, 0, Ah⟩] := ⟨_, rfl⟩
  obtain ⟨v2, hv2⟩ : ∃ v2, v2 = arB root [⟨0, i, none, 0, 0, Ah⟩, ⟨i, k, none, 0, 0, Be⟩] := ⟨_, rfl⟩
  have hres : igB i k Ah Be h root = (v1 && v2) := by rw [hv1, hv2]; rfl
  rw [hres]
  obtain ⟨k1, k2, k3, b1⟩ := f3blks w (tlc A n c B m d) (hc32 h) (hc32 root) 48 33 33
  have K1 := hid k1; have K2 := hid k2; have K3 := hid k3; have B1 := hid b1
  have HA := hid hA; have HB := hid hB; have HN := hid hn; have HM := hid hm; have HH := hid hh; have HR := hid hr; have HTb := hid hTb; have HTd := hid hTd
  have HIH := hid (info_hash h hh.len); have HIR := hid (info_hash root hr.len)
  have HV1 := hid hv1; have HV2 := hid hv2
  have a0 := k1.cell 0
  have a1 := k1.cell 1
  have e0 : (tlc A n c B m d)[0]? = some (.slice A n c) := rfl
  have e1 : (tlc A n c B m d)[1]? = some (.slice B m d) := rfl
  rw [e0] at a0; rw [e1] at a1
  have hz := zero_fRng
  clear k1 k2 k3 b1 hA hB hn hm hh hr hTb hTd hres e0 e1 hv1 hv2
  go_enter Tryd.func34, Tryd.ntmps34
  go_upto_region 1 with fail
  generalize ((w.alloc (.cells (tlc A n c B m d) 48)).alloc (.cells (hc32 h) 33)).alloc (.cells (hc32 root) 33) = w0 at K1 K2 K3 B1 a0 a1 ⊢
  go_upto_region 2 with (refine wpList_build rfl 25 _ rfl (built_fRng _ _ _ _ _) ?_)
  have b1 : Below w0.heap.size w0 (w0.alloc (.cells (rgc 0 i (.slice A n c)) 25)) := (Below.refl _ _).alloc (Nat.le_refl _) _
  have P1 := hid (Blk.new w0 25 (rgc 0 i (.slice A n c)))
  have J1 := hid (K1.out.below b1); have J2 := hid (K2.out.below b1); have J3 := hid (K3.out.below b1); have B2 := hid (B1.out.trans (b1.mono B1.out.size))
  clear a0 a1 b1
  obtain ⟨g0, hg0⟩ : ∃ g0, g0 = w0.heap.size := ⟨_, rfl⟩
  rw [← hg0] at P1 ⊢
  generalize w0.alloc (.cells (rgc 0 i (.slice A n c)) 25) = w1 at P1 J1 J2 J3 B2 ⊢
  clear K1 K2 K3 B1 hg0
  have a1 : w1.cell? ⟨w.heap.size, 1, none⟩ = some (.slice B m d) := J1.out.cell 1
  go_upto_region 3 with (refine wpList_build rfl 25 _ rfl (built_fRng _ _ _ _ _) ?_)
  have b1 : Below w1.heap.size w1 (w1.alloc (.cells (rgc i k (.slice B m d)) 25)) := (Below.refl _ _).alloc (Nat.le_refl _) _
  have P2 := hid (Blk.new w1 25 (rgc i k (.slice B m d)))
  have Q1 := hid (P1.out.below b1); have Q2 := hid (J2.out.below b1); have Q3 := hid (J3.out.below b1); have B3 := hid (B2.out.trans (b1.mono B2.out.size))
  clear a1 b1
  obtain ⟨g1, hg1⟩ : ∃ g1, g1 = w1.heap.size := ⟨_, rfl⟩
  rw [← hg1] at P2 ⊢
  generalize w1.alloc (.cells (rgc i k (.slice B m d)) 25) = w3 at P2 Q1 Q2 Q3 B3 ⊢
  clear P1 J1 J2 J3 B2 hg1
  have hb5 : Below w3.heap.size w3 (w3.alloc (.cells (rrs [⟨0, i, A, n, c, Ah⟩]).toArray 25)) := (Below.refl _ _).alloc (Nat.le_refl _) _
  have HB5 := hid hb5
  have B5 := hid (B3.out.trans (hb5.mono B3.out.size))
  have hca := jAre_any (root := h) (k := 1) (R := [⟨0, i, A, n, c, Ah⟩]) HH.out rfl (Blk.new w3 25 (rrs [⟨0, i, A, n, c, Ah⟩]).toArray) (fun r hr => by
    rw [List.mem_singleton.1 hr]
    exact ⟨HA.out.below B5.out, HN.out⟩) (by decide) (HTb.out.below B5.out) (HTd.out.below B5.out)
  have hae : arB h [⟨0, i, A, n, c, Ah⟩] = v1 := by rw [HV1.out]; rfl
  rw [hae] at hca
  have CA := hid hca
  have CB : Hid (∀ (x : World), Below w.heap.size w x → Calls Tryd.prog 55 #[.agg (hc32 root), .slice (some ⟨x.heap.size, 0, none⟩) 2 2] (x.alloc (.cells (rrs [⟨0, i, A, n, c, Ah⟩, ⟨i, k, B, m, d, Be⟩]).toArray 25)) fun e w' => e = .returned (.bool v2) ∧ Below (x.alloc (.cells (rrs [⟨0, i, A, n, c, Ah⟩, ⟨i, k, B, m, d, Be⟩]).toArray 25)).heap.size (x.alloc (.cells (rrs [⟨0, i, A, n, c, Ah⟩, ⟨i, k, B, m, d, Be⟩]).toArray 25)) w') := by
    show ∀ x, _
    intro x hx
    have hb6 : Below w.heap.size w (x.alloc (.cells (rrs [⟨0, i, A, n, c, Ah⟩, ⟨i, k, B, m, d, Be⟩]).toArray 25)) := hx.alloc hx.size _
    have hcb := jAre_any (root := root) (k := 2) (R := [⟨0, i, A, n, c, Ah⟩, ⟨i, k, B, m, d, Be⟩]) HR.out rfl (Blk.new x 25 (rrs [⟨0, i, A, n, c, Ah⟩, ⟨i, k, B, m, d, Be⟩]).toArray) (fun r hr => by
      simp only [List.mem_cons, List.not_mem_nil, or_false] at hr
      rcases hr with rfl | rfl
      · exact ⟨HA.out.below hb6, HN.out⟩
      · exact ⟨HB.out.below hb6, HM.out⟩) (by decide) (HTb.out.below hb6) (HTd.out.below hb6)
    have hae : arB root [⟨0, i, A, n, c, Ah⟩, ⟨i, k, B, m, d, Be⟩] = v2 := by rw [HV2.out]; rfl
    rw [hae] at hcb
    exact hcb
  clear hb5 hca hae
  cases v1 with
  | false =>
    show Code.wp _ _ _ _ _
    go_wp2_with (first
      | (refine load_at rfl 33 (.tmp 8) rfl (w.heap.size + 1) 0 rfl (u8s h) _ (blk_row Q2.out) Tryd.underlying33 rfl HIH.out (hc32 h) rfl ?_)
      | (refine load_at rfl 25 (.tmp 11) rfl g0 0 rfl _ _ (fblk_rng Q1.out) Tryd.underlying25 rfl (info_fRng _ _ _) (rgc 0 i (.slice A n c)) rfl ?_)
      | (go_at_call 55; go_loud (have hj := CA.out; refine hj.mono ?_; clear hj); rintro e w5 ⟨rfl, hb⟩; have B6 := hid (B5.out.trans (hb.mono B5.out.size)); clear hb))
    go_ret
    exact ⟨rfl, B6.out⟩
  | true =>
    go_wp2_with (first
      | (refine load_at rfl 33 (.tmp 8) rfl (w.heap.size + 1) 0 rfl (u8s h) _ (blk_row Q2.out) Tryd.underlying33 rfl HIH.out (hc32 h) rfl ?_)
      | (refine load_at rfl 25 (.tmp 11) rfl g0 0 rfl _ _ (fblk_rng Q1.out) Tryd.underlying25 rfl (info_fRng _ _ _) (rgc 0 i (.slice A n c)) rfl ?_)
      | (go_at_call 55; first
          | (refine CA.out.mono ?_; rintro e w5 ⟨rfl, hb⟩; have B6 := hid (B5.out.trans (hb.mono B5.out.size)); have R1 := hid ((Q1.out.below HB5.out).below hb); have R2 := hid ((P2.out.below HB5.out).below hb); have R3 := hid ((Q3.out.below HB5.out).below hb); have CB6 := hid (CB.out _ B6.out); clear hb CA)
          | (refine CB6.out.mono ?_; rintro e w6 ⟨rfl, hb⟩; have B7 := hid ((B6.out.alloc B6.out.size (.cells (rrs [⟨0, i, A, n, c, Ah⟩, ⟨i, k, B, m, d, Be⟩]).toArray 25)).trans (hb.mono (Nat.le_trans B6.out.size (by simp)))); clear hb))
      | (refine load_at rfl 33 (.tmp 9) rfl (w.heap.size + 1 + 1) 0 rfl (u8s root) _ (blk_row R3.out) Tryd.underlying33 rfl HIR.out (hc32 root) rfl ?_)
      | (refine load_at rfl 25 (.tmp 11) rfl g0 0 rfl _ _ (fblk_rng R1.out) Tryd.underlying25 rfl (info_fRng _ _ _) (rgc 0 i (.slice A n c)) rfl ?_)
      | (refine load_at rfl 25 (.tmp 12) rfl g1 0 rfl _ _ (fblk_rng R2.out) Tryd.underlying25 rfl (info_fRng _ _ _) (rgc i k (.slice B m d)) rfl ?_))
    go_ret
    exact ⟨rfl, B7.out⟩
/-- the hash that awake asks for -/
def aw5 : List Int := 5 :: List.replicate 31 0
theorem aw5_ok : H32 aw5 := ⟨by simp [aw5], fun v hv => by
  rcases List.mem_cons.1 hv with rfl | hv
  · decide
  · rw [(List.mem_replicate.1 hv).2]; decide⟩
theorem aw5_yes : ieB 0 1 1 [] aw5 [] aw5 = true := by decide +kernel
theorem built_jTrail0 : Tryd.prog.built 48 [] = some (tlc none 0 0 none 0 0) := by kernel_rfl
theorem built_aw5 : Tryd.prog.built 33 [(0, .int .u8 5)] = some (hc32 aw5) := by kernel_rfl
set_option maxHeartbeats 4000000 in
theorem jawake_any (w : World) (hTb : Tab w) (hTd : TabD w) : Calls Tryd.prog 25 #[] w fun e w' => e = .returned (.bool true) ∧ Below w.heap.size w w' := by
  have hc := jIsEntry_any (w := w) (i := 0) (k := 1) (c := 0) (d := 0) (InH.nil w none) (InH.nil w none) (by decide) (by decide) aw5_ok aw5_ok hTb hTd
  have e1 : IntKind.i64.wrap ((0 : Int) + 1) = 1 := by decide
  rw [e1, aw5_yes] at hc
  have CI := hid hc
  clear hc hTb hTd e1
  go_enter Tryd.func25, Tryd.ntmps25
  go_wp2_with (first
    | (refine wpList_build rfl 48 _ rfl built_jTrail0 ?_)
    | (refine wpList_build rfl 33 _ rfl built_aw5 ?_)
    | (go_at_call 32; go_loud (have hj := CI.out; refine hj.mono ?_; clear hj); rintro e w5 ⟨rfl, hb⟩; have B6 := hid hb; clear hb))
  go_ret
  exact ⟨rfl, B6.out⟩
end Go.Proofs.YtoacjaecfabahaaDoor
