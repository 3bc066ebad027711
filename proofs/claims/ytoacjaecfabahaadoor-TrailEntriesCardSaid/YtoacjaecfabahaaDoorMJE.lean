/-
  What is proved here: whether a trail shows an entry, or a growth, as the code tells it; the program answers.
-/
import Derived.Test.YtoacjaecfabahaaDoorMJA
set_option linter.unusedSimpArgs false
set_option linter.unusedVariables false
namespace Go.Proofs.YtoacjaecfabahaaDoor
open Go.ChangeShapes Go.WideShapes Go.ChangeAt Go.RowKit
set_option linter.unusedVariables false
set_option linter.unusedSimpArgs false
set_option maxRecDepth 20000

/-- a trail's cells -/
abbrev tlc (A : Option Addr) (n c : Nat) (B : Option Addr) (m d : Nat) : Array Value := #[.slice A n c, .slice B m d]
theorem fr_info : ∃ i0 z, Tryd.prog.info? 25 = some i0 ∧ i0.size = 3 ∧ i0.zero = some z ∧ z.cells.size = 3 := by
  obtain ⟨i0, hi, hs⟩ : ∃ i0, Tryd.prog.info? 25 = some i0 ∧ i0.size = 3 := ⟨_, rfl, by kernel_rfl⟩
  have h : (((Tryd.prog.info? 25).bind (·.zero)).map (·.cells.size)) = some 3 := by kernel_rfl
  rw [hi] at h
  cases hz : i0.zero with
  | none => simp [hz] at h
  | some z => exact ⟨i0, z, hi, hs, hz, by simpa [hz] using h⟩
def rrV (r : Rr) : Value := .agg (rrc r)
theorem rr_flat (L : List Rr) : ((L.map rrV).flatMap fun v => v.cells.toList) = rrs L := by
  induction L with
  | nil => rfl
  | cons f L ih => rw [List.map_cons, List.flatMap_cons, ih]; rfl
theorem run_rlits (w : World) (L : List Rr) (parts : Array (Nat × Value)) (h0 : 0 < L.length) (h9 : L.length ≤ 100)
    (hp : parts.toList = ((L.map rrV).zipIdx 0).map fun x => (x.2, x.1)) :
    (Instr.buildSlice 106 L.length parts).run Tryd.prog w = .ok (.slice (some ⟨w.heap.size, 0, none⟩) L.length L.length) (w.alloc (.cells (rrs L).toArray 25)) := by
  obtain ⟨i0, z, hi, hs, hz, hzs⟩ := fr_info
  refine run_buildSlice w 106 25 L.length parts _ i0 z Tryd.underlying106 hi hz (by rw [hs]; omega) (by rw [hs]; omega) ?_
  rw [hp, hs]
  have h := Great.fill_whole (s := 3) (by decide) (L.map rrV) ((Array.range (L.length * 3)).map (z.cells[· % z.cells.size]!)) (fun v hv => by
    obtain ⟨f, hf, rfl⟩ := List.mem_map.1 hv
    rfl) (by simp)
  rw [rr_flat] at h
  exact h
theorem wp_rlits {o : Oper} {a : Act} {w : World} {K : Act → World → Prop} {Q : Exit → Act → World → Prop} (n : Nat) (parts : Array (Nat × Operand)) (ho : o.op = .buildSlice 106 n parts) (L : List Rr) (hn : n = L.length) (h0 : 0 < L.length) (h9 : L.length ≤ 100)
    (hp : (parts.map fun (i, x) => (i, a.eval x)).toList = ((L.map rrV).zipIdx 0).map fun x => (x.2, x.1))
    (h : K (a.put o.dst (.slice (some ⟨w.heap.size, 0, none⟩) n n)) (w.alloc (.cells (rrs L).toArray 25))) : o.wp Tryd.prog a w K Q := by
  subst hn
  unfold Oper.wp execOp
  simp only [ho, Sem.run_bind, run_rlits w L _ h0 h9 hp, Result.andThen_ok]
  exact h
theorem wpList_rlits {ops : Array Oper} {rest : List Oper} {o : Oper} {a : Act} {w : World} {Q : Exit → Act → World → Prop} (hg : o.guard = none) (n : Nat) (parts : Array (Nat × Operand)) (ho : o.op = .buildSlice 106 n parts) (L : List Rr) (hn : n = L.length) (h0 : 0 < L.length) (h9 : L.length ≤ 100)
    (hp : (parts.map fun (i, x) => (i, a.eval x)).toList = ((L.map rrV).zipIdx 0).map fun x => (x.2, x.1))
    (h : wpList Tryd.prog ops Q rest (a.put o.dst (.slice (some ⟨w.heap.size, 0, none⟩) n n)) (w.alloc (.cells (rrs L).toArray 25))) : wpList Tryd.prog ops Q (o :: rest) a w :=
  wpList_plain hg fun _ hK => wp_rlits n parts ho L hn h0 h9 hp (hK _ _ h)
/-- whether a trail shows an entry -/
def ieB (i i1 k : Int) (Ah : List (List Int)) (h : List Int) (Be : List (List Int)) (root : List Int) : Bool := arB root [⟨0, i, none, 0, 0, Ah⟩, ⟨i, i1, none, 0, 0, [h]⟩, ⟨i1, k, none, 0, 0, Be⟩]
/-- whether a trail shows a growth -/
def igB (m k : Int) (Ah Be : List (List Int)) (old root : List Int) : Bool := arB old [⟨0, m, none, 0, 0, Ah⟩] && arB root [⟨0, m, none, 0, 0, Ah⟩, ⟨m, k, none, 0, 0, Be⟩]
theorem info_jTrail (v u : Value) : (Tryd.prog.info? 48).map (·.size) = some (#[v, u] : Array Value).size := by kernel_rfl
set_option maxHeartbeats 16000000 in
theorem jIsEntry_any {w : World} {i k : Int} {A B : Option Addr} {n c m d : Nat} {Ah Be : List (List Int)} {h root : List Int} (hA : InH w A n Ah) (hB : InH w B m Be) (hn : n < 1000000) (hm : m < 1000000) (hh : H32 h) (hr : H32 root) (hTb : Tab w) (hTd : TabD w) :
    Calls Tryd.prog 32 #[.agg (tlc A n c B m d), .int .i64 i, .int .i64 k, hV h, hV root] w fun e w' => e = .returned (.bool (ieB i (IntKind.i64.wrap (i + 1)) k Ah h Be root)) ∧ Below w.heap.size w w' := by
  obtain ⟨res, hres⟩ : ∃ res, res = ieB i (IntKind.i64.wrap (i + 1)) k Ah h Be root := ⟨_, rfl⟩
  have HRES := hid hres
  obtain ⟨k1, k2, k3, b1⟩ := f3blks w (tlc A n c B m d) (hc32 h) (hc32 root) 48 33 33
  have K1 := hid k1; have K2 := hid k2; have K3 := hid k3; have B1 := hid b1
  have HA := hid hA; have HB := hid hB; have HN := hid hn; have HM := hid hm; have HH := hid hh; have HR := hid hr; have HTb := hid hTb; have HTd := hid hTd
  have HIH := hid (info_hash h hh.len); have HIR := hid (info_hash root hr.len)
  rw [← hres]
  obtain ⟨i1, hi1⟩ : ∃ i1, i1 = IntKind.i64.wrap (i + 1) := ⟨_, rfl⟩
  have HI1 := hid hi1
  have hw1 : IntKind.i64.wrap (i + 1) = i1 := hi1.symm
  have a0 := k1.cell 0
  have a1 := k1.cell 1
  have e0 : (tlc A n c B m d)[0]? = some (.slice A n c) := rfl
  have e1 : (tlc A n c B m d)[1]? = some (.slice B m d) := rfl
  rw [e0] at a0; rw [e1] at a1
  have hz := zero_fRng
  clear k1 k2 k3 b1 hA hB hn hm hh hr hTb hTd hres e0 e1 hi1
  go_enter Tryd.func32, Tryd.ntmps32
  go_upto_region 1 with fail
  generalize ((w.alloc (.cells (tlc A n c B m d) 48)).alloc (.cells (hc32 h) 33)).alloc (.cells (hc32 root) 33) = w0 at K1 K2 K3 B1 a0 a1 ⊢
  go_upto_region 2 with (refine wpList_build rfl 25 _ rfl (built_fRng _ _ _ _ _) ?_)
  have b1 : Below w0.heap.size w0 (w0.alloc (.cells (rgc 0 i (.slice A n c)) 25)) := (Below.refl _ _).alloc (Nat.le_refl _) _
  have P1 := hid (Blk.new w0 25 (rgc 0 i (.slice A n c)))
  have J1 := hid (K1.out.below b1); have J2 := hid (K2.out.below b1); have J3 := hid (K3.out.below b1); have B2 := hid (B1.out.trans (b1.mono B1.out.size))
  clear a0 a1 b1
  obtain ⟨g0, hg0⟩ : ∃ g0, g0 = w0.heap.size := ⟨_, rfl⟩
  rw [← hg0] at P1 ⊢
  generalize w0.alloc (.cells (rgc 0 i (.slice A n c)) 25) = w1 at P1 J1 J2 J3 B2 ⊢
  clear K1 K2 K3 B1 hg0
  go_upto_region 3 with (first
    | (refine load_at rfl 33 (.tmp 8) rfl (w.heap.size + 1) 0 rfl (u8s h) _ (blk_row J2.out) Tryd.underlying33 rfl HIH.out (hc32 h) rfl ?_)
    | (refine wpList_hash_one rfl (.tmp 21) rfl h HH.out rfl ?_)
    | (refine wpList_build rfl 25 _ rfl (built_fRng _ _ _ _ _) ?_))
  have b1 : Below w1.heap.size w1 (w1.alloc (.cells (hcs [h]).toArray 33)) := (Below.refl _ _).alloc (Nat.le_refl _) _
  have nb : Blk (w1.alloc (.cells (hcs [h]).toArray 33)) w1.heap.size 33 (hcs [h]).toArray := Blk.new w1 33 (hcs [h]).toArray
  have hs : (w1.alloc (.cells (hcs [h]).toArray 33)).heap.size = w1.heap.size + 1 := by simp
  have b2 : Below w1.heap.size w1 ((w1.alloc (.cells (hcs [h]).toArray 33)).alloc (.cells (rgc i i1 (.slice (some ⟨w1.heap.size, 0, none⟩) 1 1)) 25)) := b1.alloc b1.size _
  have nr := Blk.new (w1.alloc (.cells (hcs [h]).toArray 33)) 25 (rgc i i1 (.slice (some ⟨w1.heap.size, 0, none⟩) 1 1))
  rw [hs] at nr
  have nb2 := nb.alloc (.cells (rgc i i1 (.slice (some ⟨w1.heap.size, 0, none⟩) 1 1)) 25)
  have P2 := hid (P1.out.below b2); have NR2 := hid nr; have NB2 := hid nb2
  have M1 := hid (J1.out.below b2); have M3 := hid (J3.out.below b2); have B3 := hid (B2.out.trans (b2.mono B2.out.size))
  clear b1 nb hs b2 nr nb2 P1 J1 J2 J3 B2
  obtain ⟨g1, hg1⟩ : ∃ g1, g1 = w1.heap.size := ⟨_, rfl⟩
  rw [← hg1] at NR2 NB2 P2 M1 M3 B3 ⊢
  generalize (w1.alloc (.cells (hcs [h]).toArray 33)).alloc (.cells (rgc i i1 (.slice (some ⟨g1, 0, none⟩) 1 1)) 25) = w2 at P2 NR2 NB2 M1 M3 B3 ⊢
  clear hg1
  have a1 : w2.cell? ⟨w.heap.size, 1, none⟩ = some (.slice B m d) := M1.out.cell 1
  go_upto_region 4 with (refine wpList_build rfl 25 _ rfl (built_fRng _ _ _ _ _) ?_)
  have b1 : Below w2.heap.size w2 (w2.alloc (.cells (rgc i1 k (.slice B m d)) 25)) := (Below.refl _ _).alloc (Nat.le_refl _) _
  have P3 := hid (Blk.new w2 25 (rgc i1 k (.slice B m d)))
  have Q1 := hid (P2.out.below b1); have Q2 := hid (NR2.out.below b1); have QH := hid (NB2.out.below b1); have Q9 := hid (M3.out.below b1); have B4 := hid (B3.out.trans (b1.mono B3.out.size))
  clear b1 P2 NR2 NB2 M1 M3 B3 a1
  obtain ⟨g2, hg2⟩ : ∃ g2, g2 = w2.heap.size := ⟨_, rfl⟩
  rw [← hg2] at P3 ⊢
  generalize w2.alloc (.cells (rgc i1 k (.slice B m d)) 25) = w3 at P3 Q1 Q2 QH Q9 B4 ⊢
  clear hg2
  obtain ⟨R, hR⟩ : ∃ R : List Rr, R = [⟨0, i, A, n, c, Ah⟩, ⟨i, i1, some ⟨g1, 0, none⟩, 1, 1, [h]⟩, ⟨i1, k, B, m, d, Be⟩] := ⟨_, rfl⟩
  have hb5 : Below w3.heap.size w3 (w3.alloc (.cells (rrs R).toArray 25)) := (Below.refl _ _).alloc (Nat.le_refl _) _
  have B5 := hid (B4.out.trans (hb5.mono B4.out.size))
  have hq1 : InH (w3.alloc (.cells (rrs R).toArray 25)) (some ⟨g1, 0, none⟩) 1 [h] := inh_blk (QH.out.below hb5) (fun f hf => by rw [List.mem_singleton.1 hf]; exact HH.out) (by simp)
  have hca := jAre_any (root := root) (k := 3) HR.out (by rw [hR]; rfl) (Blk.new w3 25 (rrs R).toArray) (fun r hr => by
    rw [hR] at hr
    simp only [List.mem_cons, List.not_mem_nil, or_false] at hr
    rcases hr with rfl | rfl | rfl
    · exact ⟨HA.out.below B5.out, HN.out⟩
    · exact ⟨hq1, (by decide : 1 < 1000000)⟩
    · exact ⟨HB.out.below B5.out, HM.out⟩) (Nat.le_refl _) (HTb.out.below B5.out) (HTd.out.below B5.out)
  have hae : arB root R = res := by rw [HRES.out, hR, ← HI1.out]; rfl
  rw [hae] at hca
  clear hae
  subst hR
  have CA := hid hca
  clear hb5 hq1 hca
  go_wp2_with (first
    | (refine load_at rfl 33 (.tmp 9) rfl (w.heap.size + 1 + 1) 0 rfl (u8s root) _ (blk_row Q9.out) Tryd.underlying33 rfl HIR.out (hc32 root) rfl ?_)
    | (with_reducible refine load_g 25 (.tmp 11) rfl ?_; refine load_pl 25 (.tmp 11) rfl rfl g0 0 rfl _ _ (fblk_rng Q1.out) Tryd.underlying25 rfl (info_fRng _ _ _) (rgc 0 i (.slice A n c)) rfl ?_)
    | (with_reducible refine load_g 25 (.tmp 12) rfl ?_; refine load_pl 25 (.tmp 12) rfl rfl (g1 + 1) 0 rfl _ _ (fblk_rng Q2.out) Tryd.underlying25 rfl (info_fRng _ _ _) (rgc i i1 (.slice (some ⟨g1, 0, none⟩) 1 1)) rfl ?_)
    | (with_reducible refine load_g 25 (.tmp 13) rfl ?_; refine load_pl 25 (.tmp 13) rfl rfl g2 0 rfl _ _ (fblk_rng P3.out) Tryd.underlying25 rfl (info_fRng _ _ _) (rgc i1 k (.slice B m d)) rfl ?_)
    | (go_at_call 55; go_loud (have hj := CA.out; refine hj.mono ?_; clear hj); rintro e w5 ⟨rfl, hb⟩; have B6 := hid (B5.out.trans (hb.mono B5.out.size)); clear hb))
  go_ret
  exact ⟨rfl, B6.out⟩
end Go.Proofs.YtoacjaecfabahaaDoor
