/-
  What is proved here: each signature of two storeys that is made is right, whichever were made ahead, and is made alike again: the walk of the statement.
-/
import Derived.Test.YtobceieadjpaaaaDoorMHq4
import Derived.Test.YtobceieadjpaaaaDoorMHs3
import Derived.Test.YtobceieadjpaaaaDoorMHsOpen
import Derived.Test.YtobceieadjpaaaaDoorMHa2
import Derived.Deep.DeepCutAuto
set_option linter.unusedSimpArgs false
set_option linter.unusedVariables false
namespace Go.Proofs.YtobceieadjpaaaaDoor
open Go.ChangeShapes Go.WideShapes Go.ChangeAt Go.RowKit
set_option linter.unusedVariables false
set_option maxRecDepth 20000

theorem SignAt.other2 {w w' : World} {s s' : Nat} {t b k t' b' k' : Int} {sd sd' : List Int} (h : SignAt w s t b k sd) (hs : SignAt w s' t' b' k' sd') (hne : s ≠ s') (ho : OnlyS (Of (some ⟨s', 0, none⟩)) w w') : SignAt w' s t b k sd := by
  obtain ⟨g, la, p, h1, h2, h3⟩ := hs
  exact h.other h1 hne ho
theorem hsg_bs (t b k : Int) (sd : List Int) (n : Nat) (M : List Int) : Bs (hsg t b k sd n M) := by
  unfold hsg tsg bsg
  exact bs_app (bs_app (bs_app (be_bs _ _) (sgt_bs _ _ _ _ _ _)) (bpb_bs _ _ _ _)) (sgt_bs _ _ _ _ _ _)
/-- an asking lies where it lay -/
structure Ar (k0 : Int) (sd : List Int) (w w' : World) : Prop where
  b0 : Blk w' (w.heap.size) 56 (askC k0 sd)
  bl : Below w.heap.size w w'
section
variable {k0 : Int} {sd : List Int} {w w' w2 : World}
theorem Ar.below (h : Ar k0 sd w w') (hb : Below w'.heap.size w' w2) : Ar k0 sd w w2 := ⟨h.b0.below hb, h.bl.trans (hb.mono h.bl.size)⟩
theorem Ar.drew (h : Ar k0 sd w w') : Ar k0 sd w w'.drew := h.below ((Below.refl _ _).drew)
theorem Ar.alloc (h : Ar k0 sd w w') (o : Obj) : Ar k0 sd w (w'.alloc o) := h.below ((Below.refl _ _).alloc (Nat.le_refl _) _)
theorem Ar.row (h : Ar k0 sd w w') {g : Nat} (n0 : w.heap.size ≠ g) (hg : w.heap.size ≤ g) (cs : Array Value) : Ar k0 sd w (w'.setRow g cs) := ⟨h.b0.rowFar n0 cs, below_setRow h.bl hg cs⟩
end
set_option maxHeartbeats 16000000 in
theorem hright_walk (k0 : Int) (sd : List Int) (A1 : Option Addr) (n1 c1 : Nat) (O : List Int) (A2 : Option Addr) (n2 c2 : Nat) (M : List Int) (w : World) (hk0 : 0 ≤ k0 ∧ k0 < 256) (hs : Ky sd) (hin1 : InB w A1 n1 c1 O) (hc1 : n1 ≤ c1) (hin2 : InB w A2 n2 c2 M) (hc2 : n2 ≤ c2) (ht : Tab w) :
    Calls Tryd.prog 9 #[.agg (askC k0 sd), .slice A1 n1 c1, .slice A2 n2 c2] w fun e w' => e = .returned (.bool true) ∧ Below w.heap.size w w' := by
  obtain ⟨Z, HZ, hZ0, hZs⟩ := zero_Hash
  have hz32 : Z.size = 32 := by rw [HZ.out, List.size_toArray, u8s_length]; simp
  have GT : Hid (Ar k0 sd w (w.alloc (.cells (askC k0 sd) 56))) := ⟨Blk.new w 56 _, (Below.refl _ _).alloc (Nat.le_refl _) _⟩
  have CA := hid (fun w1 (hb : Below w.heap.size w w1) => zawake_any w1 (ht.below hb))
  have SDI := hid (hash_info hs.len); have SDC := hid (info_hash sd hs.len); have SDZ : Hid (Z.size = (u8s sd).toArray.size) := hz32.trans (hash_size hs.len).symm
  obtain ⟨hL1, _, hb1, hr1⟩ := hin1
  obtain ⟨hL2, _, hb2, hr2⟩ := hin2
  obtain ⟨ka, kb⟩ := hk0
  have ktm : k0.tmod 2 = k0 % 2 := Int.tmod_eq_emod_of_nonneg ka
  obtain ⟨k, hk⟩ : ∃ k, k = 2 + k0 % 2 := ⟨_, rfl⟩
  have hk23 : k = 2 ∨ k = 3 := by omega
  have hkd : Kd k := by rcases hk23 with rfl | rfl
                        · exact .inr (.inl rfl)
                        · exact .inr (.inr (.inl rfl))
  have h11 : (1 : Int) ≤ 1 ∧ (1 : Int) ≤ 4 := by decide
  have hKn := hkeys_pos h11 h11 hkd
  have hK4 : hkeys 1 1 k = 4 := by unfold hkeys; rw [tkeys_ok h11 hkd]; rfl
  have hwk1 : IntKind.i64.wrap (k0 % 2) = k0 % 2 := IntWalk.i64_in _ (by omega)
  have hwk2 : IntKind.i64.wrap (2 + k0 % 2) = 2 + k0 % 2 := IntWalk.i64_in _ (by omega)
  have HKE := hid hk
  have CN : Hid (∀ w1, Below w.heap.size w w1 → Calls Tryd.prog 26 #[.int .i64 1, .int .i64 1, .int .i64 (2 + k0 % 2), .agg (u8s sd).toArray] w1 fun e w' => ∃ s, e = .returned (.tuple #[.pointer (some ⟨s, 0, none⟩), .int .i64 0]) ∧ w1.heap.size ≤ s ∧ SignAt w' s 1 1 k sd ∧ Below w1.heap.size w1 w') := fun w1 hb => by rw [← hk]; exact hNew_kd 1 1 k sd w1 h11 h11 hkd hs (ht.below hb)
  have HSF : ∃ SGf : Nat → List Int, ∀ n, SGf n = hsg 1 1 k sd n M := ⟨_, fun _ => rfl⟩
  obtain ⟨SGf, hSGf⟩ := HSF
  have CSG : Hid (∀ (s pn : Nat) w1, SignAt w1 s 1 1 k sd → w.heap.size ≤ s → Below w.heap.size w w1 → n2 ≤ 100 → pn < 4 → Calls Tryd.prog 31 #[.pointer (some ⟨s, 0, none⟩), .int .i64 (pn : Nat), .slice A2 n2 c2] w1 fun e w' => ∃ g, e = .returned (.tuple #[.slice (some ⟨g, 0, none⟩) (hsize 1 1 k) (hsize 1 1 k), .int .i64 0]) ∧ Blk w' g 5 (u8s (SGf pn)).toArray ∧ SignAt w' s 1 1 k sd ∧ OnlyS (Of (some ⟨s, 0, none⟩)) w1 w') := fun s pn w1 hsa hsl hb h100 hpn => by
    refine (hSign_at s 1 1 k sd pn A2 n2 c2 M w w1 h11 h11 hkd hs hsa (by omega) hb hsl hL2.symm hr2 hb2 (by omega) hc2 ht).mono fun e w' he => ?_
    obtain ⟨g, he, _, hk', hsa', ho⟩ := he
    rw [← hSGf] at hk'
    exact ⟨g, he, hk', hsa', ho⟩
  have CSP : Hid (∀ (s : Nat) (q : Int) w1, SignAt w1 s 1 1 k sd → (q < 0 ∨ 4 ≤ q) → Calls Tryd.prog 31 #[.pointer (some ⟨s, 0, none⟩), .int .i64 q, .slice A2 n2 c2] w1 fun e w' => e = .returned (.tuple #[.slice none 0 0, .int .i64 7]) ∧ w1 = w') := fun s q w1 hsa hq => hSign_spent s 1 1 k sd q A2 n2 c2 w1 h11 hkd hs hsa (by rw [hK4]; exact hq)
  have CPB : Hid (∀ s w1, SignAt w1 s 1 1 k sd → Calls Tryd.prog 29 #[.pointer (some ⟨s, 0, none⟩)] w1 fun e w' => ∃ g, e = .returned (.slice (some ⟨g, 0, none⟩) 60 60) ∧ Blk w' g 5 (u8s (hpb 1 k sd)).toArray ∧ Below w1.heap.size w1 w') := fun s w1 hsa => by
    refine (hPublic_at s 1 1 k sd w1 h11 h11 hkd hs hsa).mono fun e w' he => ?_
    obtain ⟨g, he, _, hk, hbl⟩ := he
    exact ⟨g, he, hk, hbl⟩
  have CSZ : Hid (∀ w1, Calls Tryd.prog 22 #[.int .i64 1, .int .i64 1, .int .i64 (2 + k0 % 2)] w1 fun e w' => e = .returned (.int .i64 (hsize 1 1 k : Nat)) ∧ Below w1.heap.size w1 w') := fun w1 => by rw [← hk]; exact hSize_any 1 1 k w1
  have HSGL : ∀ n, (SGf n).length = hsize 1 1 k := fun n => by rw [hSGf]; exact hsg_length h11 h11 hkd sd n M
  have HLIM : hsize 1 1 k ≤ 30000 := by
    rw [hsize_ok hKn]
    have := tsize_lim (h := 1) (k := k)
    omega
  have CVR : Hid (∀ (gp gs pn : Nat) w1, Blk w1 gp 5 (u8s (hpb 1 k sd)).toArray → Blk w1 gs 5 (u8s (SGf pn)).toArray → pn < 4 → n2 ≤ 100 → Below w.heap.size w w1 → Calls Tryd.prog 33 #[.slice (some ⟨gp, 0, none⟩) 60 60, .slice A2 n2 c2, .slice (some ⟨gs, 0, none⟩) (hsize 1 1 k) (hsize 1 1 k)] w1 fun e w' => e = .returned (.bool true) ∧ Below w1.heap.size w1 w') := fun gp gs pn w1 hp1 hs1 hpn h100 hb => by
    have hl := HSGL pn
    have := hVerify_any (some ⟨gp, 0, none⟩) A2 (some ⟨gs, 0, none⟩) 60 60 n2 c2 (hsize 1 1 k) (hsize 1 1 k) (hpb 1 k sd) M (SGf pn) w1 (hpb_length ..).symm (blk_rp hp1) (hpb_bs _ _ _) (by rw [hpb_length]; decide) hL2.symm (hr2.belowN hb) hb2 (by omega) hc2 hl.symm (blk_rp hs1) (by rw [hSGf]; exact hsg_bs _ _ _ _ _ _) (by omega) (ht.below hb)
    rw [hSGf, hver_right h11 h11 hkd (n := pn) (by omega) M] at this
    exact this
  have CSM : Hid (∀ (pn ga gb : Nat) w1, Blk w1 ga 5 (u8s (SGf pn)).toArray → Blk w1 gb 5 (u8s (SGf pn)).toArray → Calls Tryd.prog 28 #[.slice (some ⟨ga, 0, none⟩) (hsize 1 1 k) (hsize 1 1 k), .slice (some ⟨gb, 0, none⟩) (hsize 1 1 k) (hsize 1 1 k)] w1 fun e w' => e = .returned (.bool true) ∧ ∃ q, w' = w1.drewN q) := fun pn ga gb w1 ha hb => by
    have hl := HSGL pn
    have := Same_quiet (some ⟨ga, 0, none⟩) (some ⟨gb, 0, none⟩) (hsize 1 1 k) (hsize 1 1 k) (SGf pn) (SGf pn) w1 (blk_rp ha) (blk_rp hb) (by omega) (by omega)
    rw [decide_eq_true rfl, hl] at this
    exact this
  have HRD : Hid (∀ (p : Nat) (wa wc : World), w.heap.size ≤ p → Below w.heap.size w wa → OnlyS (Of (some ⟨p, 0, none⟩)) wa wc → Below w.heap.size w wc) := fun p wa wc hp hb ho => hb.trans (ho.below hb.size (fun k hk => by obtain ⟨a, e, rfl⟩ := hk; injection e with e; subst e; exact hp))
  have HR1 : Hid (∀ w1, Below w.heap.size w w1 → Rp w1 none A1 O) := fun w1 hb => hr1.belowN hb
  have HB1 := hid hb1
  have HL1 := hid hL1
  generalize hpb 1 k sd = PB at CPB CVR
  generalize hsize 1 1 k = HS at CSG CSZ CVR CSM
  clear hL1 hb1 hr1 hL2 hb2 hr2 hc1 hc2 hs ht h11 hkd hKn hK4 hSGf HSGL HLIM hz32 hk23 hk
  go_enter Tryd.func9, Tryd.ntmps9
  go_wp2_with fail
  generalize w.alloc (.cells (askC k0 sd) 56) = w0 at GT ⊢
  refine wp_region_held (S := fun w' => Hid (Ar k0 sd w w')) (by kernel_rfl) ?_
  change wpAnyH _ _ _ _ _ _ _ _ w0.drew
  have Gx0 : Hid (Ar k0 sd w w0.drew) := GT.out.drew
  have HBx0 : Below w0.heap.size w0 w0.drew := (Below.refl _ _).drew
  clear HBx0
  generalize w0.drew = x0 at Gx0  ⊢
  refine wpAnyH_take (i := 0) (oi := { dst := some 24, op := _, type := _, pos := _, after := _, guard := _ }) (v := ?_) rfl (by kernel_rfl) (by kernel_rfl) (by kernel_rfl) (fun _ _ _ h => h) (Or.inl ⟨by kernel_rfl, ?_⟩) (by assumption) ?_
  rotate_left
  · (intro w hSw; go_simp; try with_reducible rfl)
  try simp only [Act.put, List.setIfInBounds_toArray, List.set_cons_zero, List.set_cons_succ]
  refine wpAnyH_take (i := 1) (oi := { dst := some 25, op := _, type := _, pos := _, after := _, guard := _ }) (v := ?_) rfl (by kernel_rfl) (by kernel_rfl) (by kernel_rfl) (fun _ _ _ h => h) (Or.inl ⟨by kernel_rfl, ?_⟩) (by assumption) ?_
  rotate_left
  · (intro w hSw; have c0 := ask_k (Hid.out hSw).b0; go_simp; try with_reducible rfl)
  try simp only [Act.put, List.setIfInBounds_toArray, List.set_cons_zero, List.set_cons_succ]
  refine wpAnyH_take (i := 2) (oi := { dst := some 26, op := _, type := _, pos := _, after := _, guard := _ }) (v := ?_) rfl (by kernel_rfl) (by kernel_rfl) (by kernel_rfl) (fun _ _ _ h => h) (Or.inl ⟨by kernel_rfl, ?_⟩) (by assumption) ?_
  rotate_left
  · (intro w hSw; go_simp; try with_reducible rfl)
  try simp only [Act.put, List.setIfInBounds_toArray, List.set_cons_zero, List.set_cons_succ]
  refine wpAnyH_take (i := 3) (oi := { dst := some 27, op := _, type := _, pos := _, after := _, guard := _ }) (v := .agg ((u8s sd).toArray)) rfl (by kernel_rfl) (by kernel_rfl) (by kernel_rfl) (fun _ _ _ h => h) (yieldsIf_load_mid (cs := u8s sd) (by rfl) _ _ rfl _ _ rfl _ (fun w' hSw => (ask_sd (Hid.out hSw).b0)) Tryd.underlying26 rfl SDI.out) (by assumption) ?_
  try simp only [Act.put, List.setIfInBounds_toArray, List.set_cons_zero, List.set_cons_succ]
  refine wpAnyH_ready (rs := [4]) (by kernel_rfl) (by simp) ?_
  refine (AllReadyH.cons (o := { dst := some 8, op := _, type := _, pos := _, after := _, guard := _ }) rfl (fun Qc hQc => ?_) AllReadyH.nil)
  go_simp
  have Gx1 := hid (Gx0.out.alloc (.cells Z 26))
  have HBx1 : Below x0.heap.size x0 (x0.alloc (.cells Z 26)) := (Below.refl _ _).alloc (Nat.le_refl _) _
  have A := hid (Blk.new x0 26 Z)
  have LE : Hid (w.heap.size < x0.heap.size) := Gx0.out.b0.lt
  clear HBx1
  refine hQc.out _ _ Gx1 (fun hHeld => ?_)
  clear hQc Qc Gx0
  generalize hgx1 : x0.heap.size = gh at A LE  ⊢
  generalize x0.alloc (.cells Z 26) = x1 at Gx1 A  hHeld ⊢
  clear hgx1
  try simp only [Act.put, List.setIfInBounds_toArray, List.set_cons_zero, List.set_cons_succ]
  refine wpAnyH_take (i := 5) (oi := { dst := some 7, op := _, type := _, pos := _, after := _, guard := _ }) (v := ?_) rfl (by kernel_rfl) (by kernel_rfl) (by kernel_rfl) (fun _ _ _ h => h) (Or.inl ⟨by kernel_rfl, ?_⟩) (by assumption) ?_
  rotate_left
  · (intro w hSw; go_simp; try with_reducible rfl)
  try simp only [Act.put, List.setIfInBounds_toArray, List.set_cons_zero, List.set_cons_succ]
  refine wpAnyH_ready (rs := [6]) (by kernel_rfl) (by simp) ?_
  refine (AllReadyH.cons (o := { dst := none, op := _, type := _, pos := _, after := _, guard := _ }) rfl (fun Qc hQc => ?_) AllReadyH.nil)
  rw [if_pos (by rfl)]
  refine wp_store_row 26 (.tmp 8) (.tmp 27) rfl (gh) (u8s sd).toArray rfl rfl 26 Z A.out SDC.out SDZ.out (u8s_all sd) ?_
  have Gx2 := hid (Gx1.out.row (g := gh) (by have := LE.out; omega) (by have := LE.out; omega) (u8s sd).toArray)
  have KWx2 := hid ((A.out).row (u8s sd).toArray)
  refine hQc.out _ _ Gx2 (fun hHeld => ?_)
  clear hQc Qc Gx1
  generalize x1.setRow (gh) (u8s sd).toArray = x2 at Gx2 KWx2 hHeld ⊢
  try simp only [Act.put, List.setIfInBounds_toArray, List.set_cons_zero, List.set_cons_succ]
  refine wpAnyH_done (by kernel_rfl) ?_ _
  try simp only [Act.put, List.setIfInBounds_toArray, List.set_cons_zero, List.set_cons_succ]
  have G1 := hid Gx2.out
  have KH := hid KWx2.out
  generalize x2 = w1 at G1 KH ⊢
  clear Gx2 KWx2 GT hZs hZ0
  by_cases g1 : (10 : Int) < (n1 : Int)
  · have d1 : decide ((10 : Int) < (n1 : Int)) = true := decide_eq_true g1
    clear CN CSG CSP CPB CSZ CVR CSM HRD HR1
    go_wp2_with (first
      | (go_at_call 21; (with_reducible refine (CA.out _ G1.out.bl).mono ?_); rintro e w2 ⟨rfl, hb2⟩; have B2 := hid (G1.out.bl.trans (hb2.mono G1.out.bl.size)); have H2 := hid (KH.out.below hb2); clear hb2)
      | (go_at_call 21; refine (CA.out _ B2.out).mono ?_; rintro e w3 ⟨rfl, hb3⟩; have B3 := hid (B2.out.trans (hb3.mono B2.out.size)); clear hb3))
    go_ret
    exact ⟨rfl, B3.out⟩
  have d1 : decide ((10 : Int) < (n1 : Int)) = false := decide_eq_false g1
  by_cases g2 : (100 : Int) < (n2 : Int)
  · have d2 : decide ((100 : Int) < (n2 : Int)) = true := decide_eq_true g2
    clear CN CSG CSP CPB CSZ CVR CSM HRD HR1
    go_wp2_with (first
      | (go_at_call 21; (with_reducible refine (CA.out _ G1.out.bl).mono ?_); rintro e w2 ⟨rfl, hb2⟩; have B2 := hid (G1.out.bl.trans (hb2.mono G1.out.bl.size)); have H2 := hid (KH.out.below hb2); clear hb2)
      | (go_at_call 21; refine (CA.out _ B2.out).mono ?_; rintro e w3 ⟨rfl, hb3⟩; have B3 := hid (B2.out.trans (hb3.mono B2.out.size)); clear hb3))
    go_ret
    exact ⟨rfl, B3.out⟩
  have d2 : decide ((100 : Int) < (n2 : Int)) = false := decide_eq_false g2
  have HN2 : Hid (n2 ≤ 100) := by show _ ≤ _; omega
  clear g2
  go_wp2_with (first
    | (go_at_call 21; (with_reducible refine (CA.out _ G1.out.bl).mono ?_); rintro e w2 ⟨rfl, hb2⟩; have B2 := hid (G1.out.bl.trans (hb2.mono G1.out.bl.size)); have H2 := hid (KH.out.below hb2); clear hb2)
    | (refine load_at rfl 26 (.tmp 8) rfl gh 0 rfl (u8s sd) _ (blk_row H2.out) Tryd.underlying26 rfl SDI.out (u8s sd).toArray rfl ?_)
    | (go_at_call 26; (with_reducible refine (CN.out _ B2.out).mono ?_); rintro e w3 ⟨s, rfl, hls, hsa, hb3⟩; have LS := hid (Nat.le_trans B2.out.size hls); have S3 := hid hsa; have B3 := hid (B2.out.trans (hb3.mono B2.out.size)); have H3 := hid (H2.out.below hb3); clear hls hsa hb3)
    | (refine load_at rfl 26 (.tmp 8) rfl gh 0 rfl (u8s sd) _ (blk_row H3.out) Tryd.underlying26 rfl SDI.out (u8s sd).toArray rfl ?_)
    | (go_at_call 26; refine (CN.out _ B3.out).mono ?_; rintro e w4 ⟨u, rfl, hlu, hua, hb4⟩; have LU := hid (Nat.le_trans B3.out.size hlu); have NSU : Hid (s ≠ u) := (by have := S3.out.lt; show _ ≠ _; omega); have S4 := hid (S3.out.below hb4); have U4 := hid hua; have B4 := hid (B3.out.trans (hb4.mono B3.out.size)); clear hlu hua hb4))
  clear H2 H3 S3 B2 B3 G1 KH CA CN
  go_loopw [14] (fun i wr => ∃ j : Nat, j ≤ n1 ∧ i = .int .i64 j ∧ Hid (SignAt wr s 1 1 k sd) ∧ Hid (SignAt wr u 1 1 k sd) ∧ Hid (Below w.heap.size w wr)) (fun i _ => n1 - (intOf i).toNat)
  case atStart => exact ⟨0, Nat.zero_le _, rfl, S4, U4, B4⟩
  case round =>
    obtain ⟨j, hj, rfl, SR, UR, BR⟩ := hrel
    clear S4 U4 B4
    by_cases hlt : j < n1
    · have hji : (j : Int) < (n1 : Int) := by omega
      obtain ⟨ob, oo, rfl, hol, horng⟩ := rp_plain (HR1.out _ BR.out) (by rw [HL1.out]; omega)
      obtain ⟨v, hv⟩ : ∃ v, v = O[j]?.getD 0 := ⟨_, rfl⟩
      have hvb := HB1.out.at j
      rw [← hv] at hvb
      have cj : wr.cell? ⟨ob, oo + j, none⟩ = some (.int .u8 v) := by rw [hv]; exact horng j _ (u8s_get _ _ (by rw [HL1.out]; exact hlt))
      obtain ⟨pn, hpn⟩ : ∃ pn : Nat, v % 4 = pn := ⟨(v % 4).toNat, by omega⟩
      have hpn4 : Hid (pn < 4) := by show _ < _; omega
      have htm : v.tmod 4 = (pn : Int) := by rw [Int.tmod_eq_emod_of_nonneg hvb.1]; exact hpn
      have hwp : IntKind.i64.wrap (pn : Int) = (pn : Int) := IntWalk.i64_in _ (by have := hpn4.out; omega)
      have hwp8 : IntKind.u8.wrap (pn : Int) = (pn : Int) := by simp [IntKind.wrap, IntKind.bits, IntKind.signed]; have := hpn4.out; omega
      have hj0a : (0 : Int) ≤ (j : Int) := by omega
      clear hv hvb horng hol
      by_cases hz : j = 0
      · have hjz : (j : Int) = 0 := by omega
        have hjb : ((j : Int) == 0) = true := by rw [beq_iff_eq]; exact hjz
        clear hz hjz
        go_wp2_with (first
        | (go_at_call 31; (with_reducible refine (CSG.out s pn wr SR.out LS.out BR.out HN2.out hpn4.out).mono ?_); rintro e w5 ⟨ga, rfl, hka, hsa, ho⟩; have KA5 := hid hka; have U5 := hid (UR.out.other2 SR.out NSU.out.symm ho); have S5 := hid hsa; have B5 := hid (HRD.out _ _ _ LS.out BR.out ho); clear hka hsa ho)
        | (go_at_call 29; refine (CPB.out _ _ S5.out).mono ?_; rintro e w6 ⟨gp, rfl, hkp, hb6⟩; have KP6 := hid hkp; have KA6 := hid (KA5.out.below hb6); have U6 := hid (U5.out.below hb6); have S6 := hid (S5.out.below hb6); have B6 := hid (B5.out.trans (hb6.mono B5.out.size)); clear hkp hb6)
        | (go_at_call 33; refine (CVR.out _ _ pn _ KP6.out KA6.out hpn4.out HN2.out B6.out).mono ?_; rintro e w7 ⟨rfl, hb7⟩; have KA7 := hid (KA6.out.below hb7); have U7 := hid (U6.out.below hb7); have S7 := hid (S6.out.below hb7); have B7 := hid (B6.out.trans (hb7.mono B6.out.size)); clear hb7)
        | (go_at_call 22; refine (CSZ.out _).mono ?_; rintro e w8 ⟨rfl, hb8⟩; have KA8 := hid (KA7.out.below hb8); have U8 := hid (U7.out.below hb8); have S8 := hid (S7.out.below hb8); have B8 := hid (B7.out.trans (hb8.mono B7.out.size)); clear hb8)
        | (go_at_call 31; refine (CSG.out u pn _ U8.out LU.out B8.out HN2.out hpn4.out).mono ?_; rintro e w9 ⟨gb, rfl, hkb, hua, ho⟩; have KB9 := hid hkb; have NAU : Hid (ga ≠ u) := (by obtain ⟨_, _, _, hub, _⟩ := U8.out; exact Blk.ne KA8.out hub (by decide)); have KA9 := hid (KA8.out.only ho (not_of NAU.out)); have S9 := hid (S8.out.other2 U8.out NSU.out ho); have U9 := hid hua; have B9 := hid (HRD.out _ _ _ LU.out B8.out ho); clear hkb hua ho)
        | (go_at_call 28; refine (CSM.out pn _ _ _ KA9.out KB9.out).mono ?_; rintro e wa ⟨rfl, qa, rfl⟩; have hba : Below w9.heap.size w9 (w9.drewN qa) := below_drewN (Below.refl _ _) qa; have SA := hid (S9.out.below hba); have UA := hid (U9.out.below hba); have BA := hid (B9.out.trans (hba.mono B9.out.size)); clear hba))
        exact ⟨⟨j + 1, by omega, by go_num, SA, UA, BA⟩, by simp [intOf]; omega⟩
      · have hjz : ¬ (j : Int) = 0 := by omega
        have hjb : ((j : Int) == 0) = false := by rw [beq_eq_false_iff_ne]; exact hjz
        go_wp2_with (first
        | (go_at_call 31; (with_reducible refine (CSG.out s pn wr SR.out LS.out BR.out HN2.out hpn4.out).mono ?_); rintro e w5 ⟨ga, rfl, hka, hsa, ho⟩; have KA5 := hid hka; have U5 := hid (UR.out.other2 SR.out NSU.out.symm ho); have S5 := hid hsa; have B5 := hid (HRD.out _ _ _ LS.out BR.out ho); clear hka hsa ho)
        | (go_at_call 29; refine (CPB.out _ _ S5.out).mono ?_; rintro e w6 ⟨gp, rfl, hkp, hb6⟩; have KP6 := hid hkp; have KA6 := hid (KA5.out.below hb6); have U6 := hid (U5.out.below hb6); have S6 := hid (S5.out.below hb6); have B6 := hid (B5.out.trans (hb6.mono B5.out.size)); clear hkp hb6)
        | (go_at_call 33; refine (CVR.out _ _ pn _ KP6.out KA6.out hpn4.out HN2.out B6.out).mono ?_; rintro e w7 ⟨rfl, hb7⟩; have KA7 := hid (KA6.out.below hb7); have U7 := hid (U6.out.below hb7); have S7 := hid (S6.out.below hb7); have B7 := hid (B6.out.trans (hb7.mono B6.out.size)); clear hb7)
        | (go_at_call 22; refine (CSZ.out _).mono ?_; rintro e w8 ⟨rfl, hb8⟩; have KA8 := hid (KA7.out.below hb8); have U8 := hid (U7.out.below hb8); have S8 := hid (S7.out.below hb8); have B8 := hid (B7.out.trans (hb8.mono B7.out.size)); clear hb8))
        exact ⟨⟨j + 1, by omega, by go_num, S8, U8, B8⟩, by simp [intOf]; omega⟩
    · have hjn : ¬ (j : Int) < (n1 : Int) := by omega
      go_wp2_with (first
        | (go_at_call 31; (with_reducible refine (CSP.out s 4 _ SR.out (.inr (Int.le_refl _))).mono ?_); rintro e wq ⟨rfl, rfl⟩)
        | (go_at_call 31; refine (CSP.out s (-1) _ SR.out (.inl (by decide))).mono ?_; rintro e wq ⟨rfl, rfl⟩))
      go_ret
      exact ⟨rfl, BR.out⟩
end Go.Proofs.YtobceieadjpaaaaDoor
