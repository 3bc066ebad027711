/-
  What is proved here: all of a range's hashes put behind the others.
-/
import Derived.Test.YtoacjaecfabahaaDoorMF3
import Derived.Test.YtoacjaecfabahaaDoorMF1
import Derived.Test.YtoacjaecfabahaaDoorMA1
set_option linter.unusedSimpArgs false
set_option linter.unusedVariables false
namespace Go.Proofs.YtoacjaecfabahaaDoor
open Go.ChangeShapes Go.WideShapes Go.ChangeAt Go.RowKit
set_option linter.unusedVariables false
set_option linter.unusedSimpArgs false
set_option maxRecDepth 20000

/-- what is left of a side by side when other blocks turn -/
theorem SdAt.below {w w' : World} {n0 g : Nat} {p : Int} {v1 v2 : Value} {S : List (Nat × List Int)} (H : SdAt w n0 g p v1 v2 S) (hb : Below w.heap.size w w') : SdAt w' n0 g p v1 v2 S := ⟨H.kb.below hb, H.sz.below hb, H.hs.below hb, H.ng⟩
/-- between two puts -/
structure PaI (n0 g e : Nat) (u1 u2 : Value) (w w2 : World) (x : Nat) (a b : Int) (A : Option Addr) (n c : Nat) (sv : Value) (E : List Nat) (Z : List (Nat × List Int)) (S : List (Nat × List Int)) (i : Nat) (v1 v2 : Value) (wr : World) : Prop where
  sd : SdAt wr n0 g ((adv x (E.take i) : Nat) : Int) v1 v2 (pushes ndF x S.reverse (Z.take i)).reverse
  bx : Blk wr e 25 (rgc a b (.slice A n c))
  sg : OwI w.heap.size wr sv (szs E)
  on : OnlyS (SdO g u1 u2) w wr
  o1 : ∀ k, v1.ownBlock = some k → u1.ownBlock = some k ∨ (w.heap.size ≤ k ∧ sv.ownBlock ≠ some k)
  o2 : ∀ k, v2.ownBlock = some k → u2.ownBlock = some k ∨ w.heap.size ≤ k
theorem sdo_ge {n0 g : Nat} {u1 u2 : Value} (hg : n0 ≤ g) (h1 : ∀ k, u1.ownBlock = some k → n0 ≤ k) (h2 : ∀ k, u2.ownBlock = some k → n0 ≤ k) : ∀ k, SdO g u1 u2 k → n0 ≤ k := fun k hk => by
  rcases hk with rfl | hk | hk
  · exact hg
  · exact h1 k hk
  · exact h2 k hk
theorem pa_step {n0 g e : Nat} {u1 u2 : Value} {w w2 : World} {x : Nat} {a b : Int} {A : Option Addr} {n c : Nat} {sv : Value} {E : List Nat} {Z S : List (Nat × List Int)} {i : Nat} {v1 v2 : Value} {wr : World} {m : Nat} {h : List Int} {v1' v2' : Value} {w' : World}
    (H : PaI n0 g e u1 u2 w w2 x a b A n c sv E Z S i v1 v2 wr) (hE : E[i]? = some m) (hZ : Z[i]? = some (m, h)) (hZE : exps (Z.take i) = E.take i) (hl : ∀ k, u1.ownBlock = some k → k < w.heap.size)
    (h1 : SdAt w' n0 g ((adv x (E.take i) + 2 ^ m : Nat) : Int) v1' v2' (push ndF (adv x (E.take i)) (pushes ndF x S.reverse (Z.take i)) m h).reverse) (h2 : OnlyS (SdO g v1 v2) wr w') (h3 : ∀ k, v1'.ownBlock = some k → v1.ownBlock = some k ∨ wr.heap.size ≤ k) (h4 : ∀ k, v2'.ownBlock = some k → v2.ownBlock = some k ∨ wr.heap.size ≤ k) :
    PaI n0 g e u1 u2 w w2 x a b A n c sv E Z S (i + 1) v1' v2' w' := by
  have hne : ∀ k {t : TypeId} {cs : Array Value}, Blk wr k t cs → t ≠ 3 → t ≠ 33 → t ≠ 73 → ¬ SdO g v1 v2 k := fun k t cs hk t1 t2 t3 hs => by
    rcases hs with rfl | hs | hs
    · exact hk.ne H.sd.kb t3 rfl
    · obtain ⟨_, C, hC⟩ := H.sd.sz.ty k hs; exact hk.ne hC t1 rfl
    · obtain ⟨_, C, hC⟩ := H.sd.hs.ty k hs; exact hk.ne hC t2 rfl
  refine ⟨?_, H.bx.same (h2.block e H.bx.lt (hne e H.bx (by decide) (by decide) (by decide))), H.sg.keep (fun k hk => ?_), ?_, fun k hk => ?_, fun k hk => ?_⟩
  · rw [take_snoc hE, adv_snoc, take_snoc hZ, pushes_snoc, hZE]
    exact h1
  · obtain ⟨hk0, C, hC⟩ := H.sg.ty k hk
    refine h2.block k hC.lt (fun hs => ?_)
    rcases hs with rfl | hs | hs
    · exact hC.ne H.sd.kb (by decide) rfl
    · rcases H.o1 k hs with h5 | h5
      · have := hl k h5; omega
      · exact h5.2 hk
    · obtain ⟨_, C', hC'⟩ := H.sd.hs.ty k hs
      exact hC.ne hC' (by decide) rfl
  · refine ⟨h2.os.trans H.on.os, h2.tape.trans H.on.tape, h2.output.trans H.on.output, Nat.le_trans H.on.size h2.size, fun k hk hn => ?_⟩
    refine (h2.block k (Nat.lt_of_lt_of_le hk H.on.size) (fun hs => ?_)).trans (H.on.block k hk hn)
    rcases hs with rfl | hs | hs
    · exact hn (.inl rfl)
    · rcases H.o1 k hs with h5 | h5
      · exact hn (.inr (.inl h5))
      · omega
    · rcases H.o2 k hs with h5 | h5
      · exact hn (.inr (.inr h5))
      · omega
  · rcases h3 k hk with h5 | h5
    · exact H.o1 k h5
    · refine .inr ⟨Nat.le_trans H.on.size h5, fun hs => ?_⟩
      have := (H.sg.lt k hs).2
      omega
  · rcases h4 k hk with h5 | h5
    · exact H.o2 k h5
    · exact .inr (Nat.le_trans H.on.size h5)
set_option maxHeartbeats 8000000 in
theorem fPutAll_any {w : World} {n0 g x y n c : Nat} {A : Option Addr} {u1 u2 : Value} {S : List (Nat × List Int)} {L : List (List Int)} (H : SdAt w n0 g (x : Int) u1 u2 S) (hxy : x ≤ y) (hy : y ≤ 2147483647) (hL : L.length = (seg x y).length) (hln : L.length = n) (hIn : ∀ w', Below n0 w w' → InH w' A n L)
    (hE : ∀ j, (pushes ndF x S.reverse ((zipS (seg x y) L).take j)).length ≤ 900 ∧ ∀ q ∈ pushes ndF x S.reverse ((zipS (seg x y) L).take j), q.1 ≤ 30) (hn0 : n0 ≤ w.heap.size) (hT : ∀ w', Below n0 w w' → Tab w') (hD : ∀ w', Below n0 w w' → TabD w') :
    Calls Tryd.prog 49 #[.pointer (some ⟨g, 0, none⟩), .agg (rgc (x : Int) (y : Int) (.slice A n c))] w (PuA w n0 g (y : Int) u1 u2 (pushes ndF x S.reverse (zipS (seg x y) L)).reverse) := by
  have hb0 : Below w.heap.size w (w.alloc (.cells (rgc (x : Int) (y : Int) (.slice A n c)) 25)) := (Below.refl _ _).alloc (Nat.le_refl _) _
  have KX := hid (Blk.new w 25 (rgc (x : Int) (y : Int) (.slice A n c)))
  have SD0 := hid (H.below hb0)
  have B0 := hid hb0
  have HU1 : Hid (∀ k, u1.ownBlock = some k → n0 ≤ k ∧ k < w.heap.size) := H.sz.lt
  have HU2 : Hid (∀ k, u2.ownBlock = some k → n0 ≤ k ∧ k < w.heap.size) := H.hs.lt
  have HG := hid H.ng
  have hmay : mayR (x : Int) (y : Int) = true := by unfold mayR; rw [decide_eq_true_eq]; omega
  have CS : Hid (∀ w1 : World, Below n0 w w1 → Calls Tryd.prog 46 #[.int .i64 (x : Int), .int .i64 (y : Int)] w1 (SgA w1 (szs (seg x y)))) := fun w1 hb => by
    have h := fSegs_any (x : Int) (y : Int) w1 (hD w1 hb)
    unfold segI at h
    rw [if_pos hmay, Int.toNat_natCast, Int.toNat_natCast] at h
    exact h
  obtain ⟨E, hEE⟩ : ∃ E, E = seg x y := ⟨_, rfl⟩
  rw [← hEE] at hL hE CS ⊢
  have HAD : Hid (adv x E = y) := by show _ = _; rw [hEE]; exact al_adv (al_seg (y - x) (Nat.le_refl _) hxy)
  have HLE : Hid (∀ i, adv x (E.take i) ≤ y) := by show ∀ i, _; rw [hEE]; exact seg_take_le hxy
  have HZX : Hid (∀ i, exps ((zipS E L).take i) = E.take i) := zip_take_exps hL.symm
  have HZL : Hid ((zipS E L).length = n) := by show _ = _; rw [zip_len hL.symm, ← hL, hln]
  have HEL : Hid (E.length = n) := by show _ = _; rw [← hL, hln]
  have HZA : Hid (∀ {i m : Nat} {h : List Int}, E[i]? = some m → L[i]? = some h → (zipS E L)[i]? = some (m, h)) := zip_at
  have HEX := hid hE; have HT := hid hT; have HIN := hid hIn; have HLN := hid hln
  have hn9 : n < 9223372036854775807 := by
    have := (pushes_len ndF (zipS E L) x S.reverse)
    have h62 : E.length ≤ 62 := by rw [hEE]; exact seg_few (by omega)
    omega
  generalize zipS E L = Z at HZX HZL HZA HEX ⊢
  clear H hb0 hxy hL hln hIn hE hT hD hEE hmay
  unfold SgA at CS
  unfold PuA
  go_enter Tryd.func49, Tryd.ntmps49
  have c0 : (w.alloc (.cells (rgc (x : Int) (y : Int) (.slice A n c)) 25)).cell? ⟨w.heap.size, 0, none⟩ = some (.int .i64 (x : Int)) := KX.out.cell 0
  have c1 : (w.alloc (.cells (rgc (x : Int) (y : Int) (.slice A n c)) 25)).cell? ⟨w.heap.size, 1, none⟩ = some (.int .i64 (y : Int)) := KX.out.cell 1
  go_wp2_with (first
    | (go_at_call 46; refine (CS.out _ (B0.out.mono hn0)).mono ?_; rintro e w2 ⟨v, rfl, hsg, hb2⟩; obtain ⟨A9, c9, rfl, hc9, hd9⟩ := hsg.len; have HSG := hid hsg; have KX2 := hid (KX.out.below hb2); have SD2 := hid (SD0.out.below hb2); have B2 := hid (B0.out.trans (hb2.mono B0.out.size)); have SZ2 := hid (Nat.lt_of_lt_of_le KX.out.lt hb2.size); clear hsg hb2 c0 c1)
    | fail)
  rw [szs_len, HEL.out] at HSG ⊢
  have PI0 : Hid (PaI n0 g w.heap.size u1 u2 w w2 x (x : Int) (y : Int) A n c (.slice A9 n c9) E Z S 0 u1 u2 w2) := by
    refine ⟨?_, KX2.out, HSG.out.weak (by simp), OnlyS.of_below B2.out (Nat.le_refl _), fun k hk => .inl hk, fun k hk => .inl hk⟩
    rw [List.take_zero, List.take_zero]
    show SdAt w2 n0 g ((x : Nat) : Int) u1 u2 S.reverse.reverse
    rw [List.reverse_reverse]; exact SD2.out
  clear KX KX2 SD0 SD2 B0 B2 HSG CS hc9
  go_loopw [12] (fun s12 wr => ∃ (i : Nat) (v1 v2 : Value), i ≤ n ∧ s12 = .int .i64 (i : Int) ∧ Hid (PaI n0 g w.heap.size u1 u2 w w2 x (x : Int) (y : Int) A n c (.slice A9 n c9) E Z S i v1 v2 wr)) (fun s _ => n - (intOf s).toNat)
  case atStart => exact ⟨0, u1, u2, Nat.zero_le _, rfl, PI0.out⟩
  case round =>
    obtain ⟨i, v1, v2, hi, rfl, PI⟩ := hrel
    clear PI0
    by_cases hlt : i < n
    · have hei : i < E.length := by rw [HEL.out]; exact hlt
      have hE := List.getElem?_eq_getElem hei
      obtain ⟨m, hm⟩ : ∃ m, m = E[i] := ⟨_, rfl⟩
      rw [← hm] at hE
      have hge := sdo_ge HG.out (fun k hk => (HU1.out k hk).1) (fun k hk => (HU2.out k hk).1)
      have hbel : Below n0 w wr := PI.out.on.below hn0 hge
      obtain ⟨b, o, K, rfl, hK, h32, hblt, hr⟩ := (HIN.out wr hbel).at hlt
      have hsz : (szs E)[i]? = some ((2 ^ m : Nat) : Int) := by unfold szs; rw [List.getElem?_map, hE]; rfl
      obtain ⟨q, rfl, hcell⟩ := own_cell PI.out.sg hsz
      obtain ⟨z, hz⟩ : ∃ z, z = 2 ^ m := ⟨_, rfl⟩
      have hle := HLE.out (i + 1)
      rw [take_snoc hE, adv_snoc] at hle
      have hm30 : m ≤ 30 := by
        refine Nat.le_of_not_lt fun hc => ?_
        have := pow_mono2 (show 31 ≤ m from hc)
        omega
      obtain ⟨hx1, hx2⟩ := HEX.out i
      have CP := fPut_any PI.out.sd h32 hm30 (fun q hq => hx2 q (List.mem_reverse.1 hq)) (by omega) (by rw [List.length_reverse]; omega) (Nat.le_trans hn0 PI.out.on.size) (fun w' hb => HT.out w' (hbel.trans hb))
      rw [List.reverse_reverse, ← hz] at CP
      rw [← hz] at hcell
      have CPh := hid CP
      have HR := hid hr
      have HKI := hid (info_hash K h32.len)
      have c2 : wr.cell? ⟨w.heap.size, 2, none⟩ = some (.slice (some ⟨b, o, none⟩) n c) := PI.out.bx.cell 2
      have STEP : Hid (∀ {v1' v2' : Value} {w' : World}, SdAt w' n0 g ((adv x (E.take i) + z : Nat) : Int) v1' v2' (push ndF (adv x (E.take i)) (pushes ndF x S.reverse (Z.take i)) m K).reverse → OnlyS (SdO g v1 v2) wr w' → (∀ k, v1'.ownBlock = some k → v1.ownBlock = some k ∨ wr.heap.size ≤ k) → (∀ k, v2'.ownBlock = some k → v2.ownBlock = some k ∨ wr.heap.size ≤ k) → PaI n0 g w.heap.size u1 u2 w w2 x (x : Int) (y : Int) (some ⟨b, o, none⟩) n c (.slice (some ⟨q, 0, none⟩) n c9) E Z S (i + 1) v1' v2' w') := by
        show ∀ {v1' v2' : Value} {w' : World}, _
        intro v1' v2' w' h1 h2 h3 h4
        rw [hz] at h1
        exact pa_step PI.out hE (HZA.out hE hK) (HZX.out i) (fun k hk => (HU1.out k hk).2) h1 h2 h3 h4
      clear CP hr hm hE hsz hz hx1 hx2 hge hbel hle hei PI hblt hm30 h32
      unfold PuA at CPh
      go_wp2_with (first
        | (refine load_at rfl 33 (.tmp 22) rfl b (o + i * 32) rfl (u8s K) _ HR.out Tryd.underlying33 rfl HKI.out (hc32 K) rfl ?_)
        | (go_at_call 40; refine CPh.out.mono ?_; rintro e w3 ⟨rfl, v1', v2', h1, h2, h3, h4⟩; have PN := hid (STEP.out h1 h2 h3 h4); clear h1 h2 h3 h4 hcell c2))
      go_roundw
      case rel => exact ⟨i + 1, v1', v2', by omega, by go_num, PN.out⟩
      case measure => simp [intOf]; omega
    · obtain rfl : i = n := by omega
      have e1 : E.take i = E := List.take_of_length_le (by rw [HEL.out]; exact Nat.le_refl _)
      have e2 : Z.take i = Z := List.take_of_length_le (by rw [HZL.out]; exact Nat.le_refl _)
      have hsd := PI.out.sd
      rw [e1, e2, HAD.out] at hsd
      have SDF := hid hsd
      clear hsd e1 e2
      go_wp2
      refine bodyPost_end (results_none rfl _ _ _) rfl ?_
      exact ⟨rfl, v1, v2, SDF.out, PI.out.on, fun k hk => (PI.out.o1 k hk).imp id (fun h => h.1), PI.out.o2⟩
end Go.Proofs.YtoacjaecfabahaaDoor
/-
  What this file is for: ranges as structs; what a range's call answers. Nothing of the program is walked here.
-/
namespace Go.Proofs.YtoacjaecfabahaaDoor
open Go.ChangeShapes Go.WideShapes Go.ChangeAt Go.RowKit
set_option linter.unusedVariables false
set_option linter.unusedSimpArgs false
set_option maxRecDepth 20000

def rgZ : Array Value := rgc 0 0 (.slice none 0 0)
abbrev sdZ (x : Int) : Array Value := #[.int .i64 x, .slice none 0 0, .slice none 0 0]
theorem zero_fRng (w : World) : Sem.run Tryd.prog (zeroValue 25) w = Result.ok (.agg #[.int .i64 0, .int .i64 0, .slice none 0 0]) w := by kernel_rfl
theorem zero_Side (w : World) : Sem.run Tryd.prog (zeroValue 73) w = Result.ok (.agg #[.int .i64 0, .slice none 0 0, .slice none 0 0]) w := by kernel_rfl
theorem built_fRng0 : Tryd.prog.built 25 [] = some (rgc 0 0 (.slice none 0 0)) := by kernel_rfl
theorem info_fRng (a b : Int) (v : Value) : (Tryd.prog.info? 25).map (·.size) = some (rgc a b v).size := by kernel_rfl
theorem info_Side (x : Int) (v1 v2 : Value) : (Tryd.prog.info? 73).map (·.size) = some (#[.int .i64 x, v1, v2] : Array Value).size := by kernel_rfl
theorem zero_gRng (w : World) : Sem.run Tryd.prog (zeroValue 29) w = Result.ok (.agg #[.int .i64 0, .int .i64 0, .slice none 0 0]) w := by kernel_rfl
theorem built_gRng0 : Tryd.prog.built 29 [] = some (rgc 0 0 (.slice none 0 0)) := by kernel_rfl
theorem info_gRng (a b : Int) (v : Value) : (Tryd.prog.info? 29).map (·.size) = some (rgc a b v).size := by kernel_rfl
theorem built_fRng (a b : Int) (A : Option Addr) (n c : Nat) : Tryd.prog.built 25 [(0, .int .i64 a), (1, .int .i64 b), (2, .slice A n c)] = some (rgc a b (.slice A n c)) := by kernel_rfl
theorem built_Side (x : Int) : Tryd.prog.built 73 [(0, .int .i64 x)] = some (sdZ x) := by kernel_rfl
theorem built_gRng (a b : Int) (A : Option Addr) (n c : Nat) : Tryd.prog.built 29 [(0, .int .i64 a), (1, .int .i64 b), (2, .slice A n c)] = some (rgc a b (.slice A n c)) := by kernel_rfl
theorem built_gRng2 (a b : Int) : Tryd.prog.built 29 [(0, .int .i64 a), (1, .int .i64 b)] = some (rgc a b (.slice none 0 0)) := by kernel_rfl
theorem rgc_ones (a b : Int) {v : Value} (hv : v.oneCell' = true) : (rgc a b v).all (·.oneCell') = true := by
  rw [Array.all_eq_true']
  intro x hx
  simp only [rgc, List.mem_toArray, List.mem_cons, List.not_mem_nil, or_false] at hx
  rcases hx with rfl | rfl | rfl
  · rfl
  · rfl
  · exact hv
theorem three_info (ty : TypeId) (h : (Tryd.prog.info? ty).map (·.size) = some 3) (a b : Int) (v : Value) : (Tryd.prog.info? ty).map (·.size) = some (rgc a b v).size := h
/-- what a range's call answers: refused, or a range with these hashes in new memory -/
def RgNo (w : World) (e : Ending) (w' : World) : Prop := e = .returned (.tuple #[.agg (rgc 0 0 (.slice none 0 0)), .int .i64 1]) ∧ Below w.heap.size w w'
def RgYes (w : World) (a b : Int) (Y : List (List Int)) (e : Ending) (w' : World) : Prop := ∃ v, e = .returned (.tuple #[.agg (rgc a b v), .int .i64 0]) ∧ OwH w.heap.size w' v Y ∧ Below w.heap.size w w'
end Go.Proofs.YtoacjaecfabahaaDoor
/-
  What is proved here: the range of a list's hashes, as the code makes it.
-/
namespace Go.Proofs.YtoacjaecfabahaaDoor
open Go.ChangeShapes Go.WideShapes Go.ChangeAt Go.RowKit
set_option linter.unusedVariables false
set_option linter.unusedSimpArgs false
set_option maxRecDepth 20000

set_option maxHeartbeats 4000000 in
theorem fOf_no {w : World} {a : Int} {A : Option Addr} {n c : Nat} (hn : n < 1000000) (h : a < 0 ∨ 2147483647 - (n : Int) < a) : Calls Tryd.prog 13 #[.int .i64 a, .slice A n c] w (RgNo w) := by
  have KR := hid (Blk.new w 25 (rgc 0 0 (.slice none 0 0)))
  have B1 := hid ((Below.refl w.heap.size w).alloc (Nat.le_refl _) (.cells (rgc 0 0 (.slice none 0 0)) 25))
  have HZ := hid zero_fRng
  have HI := hid (info_fRng 0 0 (.slice none 0 0))
  have hz := zero_fRng
  unfold RgNo
  go_enter Tryd.func13, Tryd.ntmps13
  by_cases h1 : a < 0
  · clear h
    go_wp2_with (first
      | (refine wpList_buildTo rfl 25 #[] rfl (some 18) rfl (rgc 0 0 (.slice none 0 0)) built_fRng0 ?_)
      | (refine wpList_store_row rfl 25 (.tmp 4) (.tmp 18) rfl w.heap.size (rgc 0 0 (.slice none 0 0)) rfl rfl 25 (rgc 0 0 (.slice none 0 0)) KR.out HI.out rfl rfl ?_))
    try go_frame
    refine bodyPost_ret (results_cell_slot Tryd.results13 _ _ w.heap.size 25 (rgc 0 0 (.slice none 0 0)) (0, 0) _ rfl KR.out Tryd.underlying25 rfl HI.out) rfl ?_
    exact ⟨rfl, B1.out⟩
  · have h2 : (2147483647 : Int) - (n : Int) < a := by omega
    clear h
    go_wp2_with (first
      | (refine wpList_buildTo rfl 25 #[] rfl (some 18) rfl (rgc 0 0 (.slice none 0 0)) built_fRng0 ?_)
      | (refine wpList_store_row rfl 25 (.tmp 4) (.tmp 18) rfl w.heap.size (rgc 0 0 (.slice none 0 0)) rfl rfl 25 (rgc 0 0 (.slice none 0 0)) KR.out HI.out rfl rfl ?_))
    try go_frame
    refine bodyPost_ret (results_cell_slot Tryd.results13 _ _ w.heap.size 25 (rgc 0 0 (.slice none 0 0)) (0, 0) _ rfl KR.out Tryd.underlying25 rfl HI.out) rfl ?_
    exact ⟨rfl, B1.out⟩
/-- between two of the list's hashes -/
structure OfI (n0 g : Nat) (w : World) (x : Nat) (F : Nat → List Int) (i : Nat) (v1 v2 : Value) (wr : World) : Prop where
  sd : SdAt wr n0 g ((x + i : Nat) : Int) v1 v2 (pushes ndF x [] (unitsF F x i)).reverse
  kr : Blk wr n0 25 (rgc 0 0 (.slice none 0 0))
  bl : Below n0 w wr
theorem ofi_step {n0 g : Nat} {w : World} {x : Nat} {F : Nat → List Int} {i : Nat} {v1 v2 v1' v2' : Value} {wr w' : World} (H : OfI n0 g w x F i v1 v2 wr)
    (h1 : SdAt w' n0 g ((x + i + 1 : Nat) : Int) v1' v2' (push ndF (x + i) (pushes ndF x [] (unitsF F x i)) 0 (F (x + i))).reverse) (h2 : OnlyS (SdO g v1 v2) wr w') (hn : n0 ≤ wr.heap.size) :
    OfI n0 g w x F (i + 1) v1' v2' w' := by
  have hge := sdo_ge H.sd.ng (fun k hk => (H.sd.sz.lt k hk).1) (fun k hk => (H.sd.hs.lt k hk).1)
  refine ⟨?_, H.kr.same (h2.block n0 H.kr.lt (fun hs => ?_)), H.bl.trans (h2.below hn hge)⟩
  · rw [units_succ, pushes_snoc, units_adv ndF]
    exact h1
  · rcases hs with rfl | hs | hs
    · exact H.kr.ne H.sd.kb (by decide) rfl
    · obtain ⟨_, C, hC⟩ := H.sd.sz.ty _ hs; exact H.kr.ne hC (by decide) rfl
    · obtain ⟨_, C, hC⟩ := H.sd.hs.ty _ hs; exact H.kr.ne hC (by decide) rfl
theorem OfI.below {n0 g : Nat} {w : World} {x : Nat} {F : Nat → List Int} {i : Nat} {v1 v2 : Value} {wr w' : World} (H : OfI n0 g w x F i v1 v2 wr) (hb : Below wr.heap.size wr w') (hn : n0 ≤ wr.heap.size) : OfI n0 g w x F i v1 v2 w' :=
  ⟨H.sd.below hb, H.kr.below hb, H.bl.trans (hb.mono hn)⟩
theorem units_take (F : Nat → List Int) (x : Nat) {n i : Nat} (h : i ≤ n) : (unitsF F x n).take i = unitsF F x i := by
  unfold unitsF
  rw [← List.map_take, lst_take F x h]
set_option maxHeartbeats 8000000 in
theorem fOf_yes {w : World} {x : Nat} {A : Option Addr} {n c : Nat} {F : Nat → List Int} (hIn : InH w A n (lst F x n)) (hn : n ≤ 800) (hx : x + n ≤ 2147483647) (hT : Tab w) :
    Calls Tryd.prog 13 #[.int .i64 (x : Int), .slice A n c] w (RgYes w ((x : Nat) : Int) ((x + n : Nat) : Int) (hsT (tw ndF F) x (seg x (x + n)))) := by
  have KR := hid (Blk.new w 25 (rgc 0 0 (.slice none 0 0)))
  have B1 := hid ((Below.refl w.heap.size w).alloc (Nat.le_refl _) (.cells (rgc 0 0 (.slice none 0 0)) 25))
  have hz := zero_fRng
  have hz2 := zero_Side
  obtain ⟨ZH, HZH, hZ0, hZs⟩ := zero_Hash
  have HCV := hid (units_cv ndF F n x)
  have HFEW := hid (fun i (hi : i ≤ n) => by
    have h := pushes_few HCV.out (by omega) i
    rw [units_take F x hi] at h
    exact h)
  have HEND := hid (pushes_end HCV.out)
  have HIN := hid hIn
  have HT := hid hT
  have h1 : ¬ ((x : Int) < 0) := by omega
  have h2 : ¬ ((2147483647 : Int) - (n : Int) < (x : Int)) := by omega
  have K2 : Blk ((w.alloc (.cells (rgc 0 0 (.slice none 0 0)) 25)).alloc (.cells (sdZ (x : Int)) 73)) (w.heap.size + 1) 73 (sdZ (x : Int)) := by
    have h := Blk.new (w.alloc (.cells (rgc 0 0 (.slice none 0 0)) 25)) 73 (sdZ (x : Int))
    rw [show (w.alloc (.cells (rgc 0 0 (.slice none 0 0)) 25)).heap.size = w.heap.size + 1 by simp] at h
    exact h
  have KR3 := hid (KR.out.alloc (.cells (sdZ (x : Int)) 73))
  have B3 := hid (B1.out.alloc B1.out.size (.cells (sdZ (x : Int)) 73))
  obtain ⟨T, hTT⟩ : ∃ T, T = x + n := ⟨_, rfl⟩
  have HTT := hid hTT
  have HEND2 : Hid (hshs (pushes ndF x [] (unitsF F x n)).reverse = hsT (tw ndF F) x (seg x T)) := by show _ = _; rw [hTT]; exact HEND.out.2
  have HIR := hid (info_fRng (x : Int) (T : Int))
  rw [← hTT]
  clear HEND hTT
  have PI0 : Hid (OfI w.heap.size (w.heap.size + 1) w x F 0 (.slice none 0 0) (.slice none 0 0) ((w.alloc (.cells (rgc 0 0 (.slice none 0 0)) 25)).alloc (.cells (sdZ (x : Int)) 73))) := ⟨⟨K2, OwI.nil _ _, OwH.nil _ _, Nat.le_succ _⟩, KR3.out, B3.out⟩
  clear K2 hIn hT KR KR3 B1 B3
  unfold RgYes
  go_enter Tryd.func13, Tryd.ntmps13
  go_wp2
  go_loopw [23] (fun s23 wr => ∃ (i : Nat) (v1 v2 : Value), i ≤ n ∧ s23 = .int .i64 (i : Int) ∧ Hid (OfI w.heap.size (w.heap.size + 1) w x F i v1 v2 wr)) (fun s _ => n - (intOf s).toNat)
  case atStart => exact ⟨0, _, _, Nat.zero_le _, rfl, PI0.out⟩
  case round =>
    obtain ⟨i, v1, v2, hi, rfl, PI⟩ := hrel
    clear PI0
    by_cases hlt : i < n
    · have hin := HIN.out.below PI.out.bl
      obtain ⟨b, o, K, rfl, hK, h32, hblt, hr⟩ := hin.at hlt
      rw [lst_at F x hlt] at hK
      injection hK with hK
      have HKE := hid hK
      have HR := hid hr
      have HKI := hid (info_hash K h32.len)
      have HKS := hid (hz_size HZH h32)
      have hsz : w.heap.size ≤ wr.heap.size := PI.out.bl.size
      have NB := hid (Blk.new wr 33 ZH)
      have hb1 : Below wr.heap.size wr ((wr.alloc (.cells ZH 33)).setRow wr.heap.size (hc32 K)) := below_setRow ((Below.refl _ _).alloc (Nat.le_refl _) _) (Nat.le_refl _) _
      have NB2 := hid (NB.out.row (hc32 K))
      have PI2 := hid (PI.out.below hb1 hsz)
      have hs2 : w.heap.size ≤ ((wr.alloc (.cells ZH 33)).setRow wr.heap.size (hc32 K)).heap.size := Nat.le_trans hsz hb1.size
      obtain ⟨hx1, hx2⟩ := HFEW.out i (by omega)
      have CP := fPut_any PI2.out.sd h32 (show 0 ≤ 30 by omega) (fun q hq => hx2 q (List.mem_reverse.1 hq)) (by omega) (by rw [List.length_reverse]; omega) hs2 (fun w' hb => HT.out.below (PI2.out.bl.trans hb))
      rw [List.reverse_reverse] at CP
      have CPh := hid CP
      have STEP : Hid (∀ {v1' v2' : Value} {w' : World}, SdAt w' w.heap.size (w.heap.size + 1) ((x + i + 2 ^ 0 : Nat) : Int) v1' v2' (push ndF (x + i) (pushes ndF x [] (unitsF F x i)) 0 K).reverse → OnlyS (SdO (w.heap.size + 1) v1 v2) ((wr.alloc (.cells ZH 33)).setRow wr.heap.size (hc32 K)) w' → OfI w.heap.size (w.heap.size + 1) w x F (i + 1) v1' v2' w') := by
        show ∀ {v1' v2' : Value} {w' : World}, _
        intro v1' v2' w' h3 h4
        rw [← HKE.out] at h3
        exact ofi_step PI2.out h3 h4 hs2
      clear CP hr hK hx1 hx2 hblt h32 hin PI PI2 hb1 hs2
      unfold PuA at CPh
      go_wp2_with (first
        | (refine load_at rfl 33 (.tmp 25) rfl b (o + i * 32) rfl (u8s K) _ HR.out Tryd.underlying33 rfl HKI.out (hc32 K) rfl ?_)
        | (refine wpList_store_row rfl 33 (.tmp 8) (.tmp 26) rfl wr.heap.size (hc32 K) rfl rfl 33 ZH NB.out HKI.out HKS.out (u8s_all K) ?_)
        | (refine load_at rfl 33 (.tmp 8) rfl wr.heap.size 0 rfl (u8s K) _ (blk_row NB2.out) Tryd.underlying33 rfl HKI.out (hc32 K) rfl ?_)
        | (go_at_call 40; refine CPh.out.mono ?_; rintro e w3 ⟨rfl, v1', v2', h3, h4, _, _⟩; have PN := hid (STEP.out h3 h4); clear h3 h4))
      go_roundw
      case rel => exact ⟨i + 1, v1', v2', by omega, by go_num, PN.out⟩
      case measure => simp [intOf]; omega
    · obtain rfl : i = n := by omega
      obtain ⟨A2, c2, e2, hc2, hd2⟩ := PI.out.sd.hs.len
      generalize hn2 : (hshs (pushes ndF x [] (unitsF F x i)).reverse).length = n2 at e2
      subst e2
      have hcn : Hid (wr.heap.size = wr.heap.size) := rfl
      have c0 : wr.cell? ⟨w.heap.size + 1, 0, none⟩ = some (.int .i64 ((x + i : Nat) : Int)) := PI.out.sd.kb.cell 0
      have cc2 : wr.cell? ⟨w.heap.size + 1, 2, none⟩ = some (.slice A2 n2 c2) := PI.out.sd.kb.cell 2
      have KRW := hid PI.out.kr
      rw [← HTT.out] at c0
      have HIV := hid (HIR.out (.slice A2 n2 c2))
      have hok : OwH w.heap.size wr (.slice A2 n2 c2) (hsT (tw ndF F) x (seg x T)) := by rw [← HEND2.out]; exact PI.out.sd.hs
      have HOK := hid (hok.keep (w' := wr.setRow w.heap.size (rgc (x : Int) (T : Int) (.slice A2 n2 c2))) (fun k hk => by
        obtain ⟨_, C, hC⟩ := hok.ty k hk
        exact setRow_other _ _ _ _ (hC.ne KRW.out (by decide))))
      clear hok hn2
      go_wp2_with (first
        | (refine wpList_store_row rfl 25 (.tmp 4) (.tmp 35) rfl w.heap.size (rgc (x : Int) (T : Int) (.slice A2 n2 c2)) rfl rfl 25 (rgc 0 0 (.slice none 0 0)) KRW.out HIV.out rfl (rgc_ones _ _ rfl) ?_))
      try go_frame
      refine bodyPost_ret (results_cell_slot Tryd.results13 _ _ w.heap.size 25 (rgc (x : Int) (T : Int) (.slice A2 n2 c2)) (0, 0) _ rfl (KRW.out.row _) Tryd.underlying25 rfl HIV.out) rfl ?_
      exact ⟨_, rfl, HOK.out, below_setRow PI.out.bl (Nat.le_refl _) _⟩
end Go.Proofs.YtoacjaecfabahaaDoor
/-
  What is proved here: two ranges joined, as the code joins them.
-/
namespace Go.Proofs.YtoacjaecfabahaaDoor
open Go.ChangeShapes Go.WideShapes Go.ChangeAt Go.RowKit
set_option linter.unusedVariables false
set_option linter.unusedSimpArgs false
set_option maxRecDepth 20000

theorem fblk_rng {w : World} {g : Nat} {t : TypeId} {cs : Array Value} (h : Blk w g t cs) : w.rangeAt g 0 cs.toList := fun j v hv => by
  rw [h.cell, Nat.zero_add, ← Array.getElem?_toList]; exact hv
theorem f3rng (w : World) (a b c : Array Value) (t : TypeId) : Blk (((w.alloc (.cells a t)).alloc (.cells b t)).alloc (.cells c t)) w.heap.size t a ∧ Blk (((w.alloc (.cells a t)).alloc (.cells b t)).alloc (.cells c t)) (w.heap.size + 1) t b ∧ Blk (((w.alloc (.cells a t)).alloc (.cells b t)).alloc (.cells c t)) (w.heap.size + 1 + 1) t c ∧ Below w.heap.size w (((w.alloc (.cells a t)).alloc (.cells b t)).alloc (.cells c t)) := f3blks w a b c t t t
/-- whether two ranges can be joined -/
def jn (a b a' b' : Int) (n m : Nat) : Bool := frm a b n && (frm a' b' m && decide (b = a'))
set_option maxHeartbeats 8000000 in
theorem fJoin_no {w : World} {a b a' b' : Int} {A B : Option Addr} {n m c d : Nat} (hn : n < 1000000) (hm : m < 1000000) (hT : TabD w) (h : jn a b a' b' n m = false) :
    Calls Tryd.prog 20 #[.agg (rgc a b (.slice A n c)), .agg (rgc a' b' (.slice B m d))] w (RgNo w) := by
  obtain ⟨k1, k2, k3, b1⟩ := f3rng w (rgc a b (.slice A n c)) (rgc a' b' (.slice B m d)) (rgc 0 0 (.slice none 0 0)) 25
  have K1 := hid k1; have K2 := hid k2; have K3 := hid k3; have B1 := hid b1
  have hz := zero_fRng
  have HI := hid (info_fRng 0 0 (.slice none 0 0))
  have HI1 := hid (info_fRng a b (.slice A n c))
  have HI2 := hid (info_fRng a' b' (.slice B m d))
  have CF1 := hid (fun (w1 : World) (hb : Below w.heap.size w w1) => fFormed_any a b A n c w1 (hT.below hb) hn)
  have CF2 := hid (fun (w1 : World) (hb : Below w.heap.size w w1) => fFormed_any a' b' B m d w1 (hT.below hb) hm)
  unfold jn at h
  clear k1 k2 k3 b1 hT
  unfold RgNo
  by_cases h1 : frm a b n = true
  · by_cases h2 : frm a' b' m = true
    · have h3 : ¬ b = a' := by rw [h1, h2] at h; simpa using h
      rw [h1] at CF1
      rw [h2] at CF2
      have hbb : (b != a') = true := by simpa using h3
      clear h h1 h2
      go_enter Tryd.func20, Tryd.ntmps20
      go_wp2_with (first
        | (refine load_at rfl 25 (.tmp 2) rfl w.heap.size 0 rfl _ _ (fblk_rng K1.out) Tryd.underlying25 rfl HI1.out (rgc a b (.slice A n c)) rfl ?_)
        | (refine load_at rfl 25 (.tmp 3) rfl (w.heap.size + 1) 0 rfl _ _ (fblk_rng Q2.out) Tryd.underlying25 rfl HI2.out (rgc a' b' (.slice B m d)) rfl ?_)
        | (go_at_call 18; first
            | (refine (CF1.out _ B1.out).mono ?_; clear CF1; rintro e w1 ⟨rfl, hb1⟩; have B2 := hid (B1.out.trans (hb1.mono B1.out.size)); have Q2 := hid (K2.out.below hb1); have Q1 := hid (K1.out.below hb1); have Q3 := hid (K3.out.below hb1); clear hb1)
            | (refine (CF2.out _ B2.out).mono ?_; clear CF2; rintro e w2 ⟨rfl, hb2⟩; have B3 := hid (B2.out.trans (hb2.mono B2.out.size)); have R2 := hid (Q2.out.below hb2); have R1 := hid (Q1.out.below hb2); have R3 := hid (Q3.out.below hb2); have cc1 : w2.cell? ⟨w.heap.size, 1, none⟩ = some (.int .i64 b) := R1.out.cell 1; have cc2 : w2.cell? ⟨w.heap.size + 1, 0, none⟩ = some (.int .i64 a') := R2.out.cell 0; clear hb2))
        | (refine wpList_store_row rfl 25 (.tmp 4) (.tmp 22) rfl (w.heap.size + 1 + 1) (rgc 0 0 (.slice none 0 0)) rfl rfl 25 (rgc 0 0 (.slice none 0 0)) R3.out HI.out rfl (rgc_ones _ _ rfl) ?_))
      try go_frame
      refine bodyPost_ret (results_cell_slot Tryd.results20 _ _ (w.heap.size + 1 + 1) 25 (rgc 0 0 (.slice none 0 0)) (0, 0) _ rfl (R3.out.row _) Tryd.underlying25 rfl HI.out) rfl ?_
      exact ⟨rfl, below_setRow B3.out (by omega) _⟩
    · have h2' : frm a' b' m = false := by simpa using h2
      rw [h1] at CF1
      rw [h2'] at CF2
      clear h h1 h2 h2'
      go_enter Tryd.func20, Tryd.ntmps20
      go_wp2_with (first
        | (refine load_at rfl 25 (.tmp 2) rfl w.heap.size 0 rfl _ _ (fblk_rng K1.out) Tryd.underlying25 rfl HI1.out (rgc a b (.slice A n c)) rfl ?_)
        | (refine load_at rfl 25 (.tmp 3) rfl (w.heap.size + 1) 0 rfl _ _ (fblk_rng Q2.out) Tryd.underlying25 rfl HI2.out (rgc a' b' (.slice B m d)) rfl ?_)
        | (go_at_call 18; first
            | (refine (CF1.out _ B1.out).mono ?_; clear CF1; rintro e w1 ⟨rfl, hb1⟩; have B2 := hid (B1.out.trans (hb1.mono B1.out.size)); have Q2 := hid (K2.out.below hb1); have Q3 := hid (K3.out.below hb1); clear hb1)
            | (refine (CF2.out _ B2.out).mono ?_; clear CF2; rintro e w2 ⟨rfl, hb2⟩; have B3 := hid (B2.out.trans (hb2.mono B2.out.size)); have R3 := hid (Q3.out.below hb2); clear hb2))
        | (refine wpList_store_row rfl 25 (.tmp 4) (.tmp 22) rfl (w.heap.size + 1 + 1) (rgc 0 0 (.slice none 0 0)) rfl rfl 25 (rgc 0 0 (.slice none 0 0)) R3.out HI.out rfl (rgc_ones _ _ rfl) ?_))
      try go_frame
      refine bodyPost_ret (results_cell_slot Tryd.results20 _ _ (w.heap.size + 1 + 1) 25 (rgc 0 0 (.slice none 0 0)) (0, 0) _ rfl (R3.out.row _) Tryd.underlying25 rfl HI.out) rfl ?_
      exact ⟨rfl, below_setRow B3.out (by omega) _⟩
  · have h1' : frm a b n = false := by simpa using h1
    rw [h1'] at CF1
    clear h h1 h1' CF2
    go_enter Tryd.func20, Tryd.ntmps20
    go_wp2_with (first
      | (refine load_at rfl 25 (.tmp 2) rfl w.heap.size 0 rfl _ _ (fblk_rng K1.out) Tryd.underlying25 rfl HI1.out (rgc a b (.slice A n c)) rfl ?_)
      | (go_at_call 18; refine (CF1.out _ B1.out).mono ?_; clear CF1; rintro e w1 ⟨rfl, hb1⟩; have B2 := hid (B1.out.trans (hb1.mono B1.out.size)); have Q3 := hid (K3.out.below hb1); clear hb1)
      | (refine wpList_store_row rfl 25 (.tmp 4) (.tmp 22) rfl (w.heap.size + 1 + 1) (rgc 0 0 (.slice none 0 0)) rfl rfl 25 (rgc 0 0 (.slice none 0 0)) Q3.out HI.out rfl (rgc_ones _ _ rfl) ?_))
    try go_frame
    refine bodyPost_ret (results_cell_slot Tryd.results20 _ _ (w.heap.size + 1 + 1) 25 (rgc 0 0 (.slice none 0 0)) (0, 0) _ rfl (Q3.out.row _) Tryd.underlying25 rfl HI.out) rfl ?_
    exact ⟨rfl, below_setRow B2.out (by omega) _⟩
end Go.Proofs.YtoacjaecfabahaaDoor
/-
  What is proved here: two ranges that fit, joined as the code joins them: the whole range's segments, with the hashes that come of theirs.
-/
namespace Go.Proofs.YtoacjaecfabahaaDoor
open Go.ChangeShapes Go.WideShapes Go.ChangeAt Go.RowKit
set_option linter.unusedVariables false
set_option linter.unusedSimpArgs false
set_option maxRecDepth 20000

theorem frm_of {x y n : Nat} (hxy : x ≤ y) (hy : y ≤ 2147483647) (hn : n = (seg x y).length) : frm (x : Int) (y : Int) n = true := by
  unfold frm mayR segI mayR
  have h : 0 ≤ (x : Int) ∧ (x : Int) ≤ (y : Int) ∧ (y : Int) ≤ 2147483647 := by omega
  rw [decide_eq_true h, if_pos rfl, szs_len, Int.toNat_natCast, Int.toNat_natCast, hn]; simp
theorem frm_yes {a b : Int} {n : Nat} (h : frm a b n = true) : ∃ x y : Nat, a = (x : Int) ∧ b = (y : Int) ∧ x ≤ y ∧ y ≤ 2147483647 ∧ n = (seg x y).length := by
  unfold frm at h
  rw [Bool.and_eq_true, decide_eq_true_eq] at h
  obtain ⟨h1, h2⟩ := h
  have h3 := h1
  unfold mayR at h3
  rw [decide_eq_true_eq] at h3
  unfold segI at h2
  rw [if_pos h1, szs_len] at h2
  exact ⟨a.toNat, b.toNat, by omega, by omega, by omega, by omega, h2⟩
/-- a range's block stands behind a put -/
theorem rg_far {w w' : World} {n0 g : Nat} {p : Int} {v1 v2 : Value} {S : List (Nat × List Int)} (H : SdAt w n0 g p v1 v2 S) (h2 : OnlyS (SdO g v1 v2) w w') {k : Nat} {cs : Array Value} (hk : Blk w k 25 cs) : Blk w' k 25 cs :=
  hk.same (h2.block k hk.lt (fun hs => by
    rcases hs with rfl | hs | hs
    · exact hk.ne H.kb (by decide) rfl
    · obtain ⟨_, C, hC⟩ := H.sz.ty _ hs; exact hk.ne hC (by decide) rfl
    · obtain ⟨_, C, hC⟩ := H.hs.ty _ hs; exact hk.ne hC (by decide) rfl))
theorem sd_bel {w w' : World} {n0 g : Nat} {p : Int} {v1 v2 : Value} {S : List (Nat × List Int)} (H : SdAt w n0 g p v1 v2 S) (h2 : OnlyS (SdO g v1 v2) w w') (hn : n0 ≤ w.heap.size) : Below n0 w w' :=
  h2.below hn (sdo_ge H.ng (fun k hk => (H.sz.lt k hk).1) (fun k hk => (H.hs.lt k hk).1))
set_option maxHeartbeats 8000000 in
theorem fJoin_yes {w : World} {x y z : Nat} {A B : Option Addr} {n m c d : Nat} {L M : List (List Int)} {T : Nat → Nat → List Int} (hL : InH w A n L) (hM : InH w B m M) (hxy : x ≤ y) (hyz : y ≤ z) (hz : z ≤ 2147483647) (hn : n = (seg x y).length) (hm : m = (seg y z).length) (hTb : Tab w) (hTd : TabD w)
    (hC : Cv ndF T x z (zipS (seg x y) L ++ zipS (seg y z) M)) :
    Calls Tryd.prog 20 #[.agg (rgc (x : Int) (y : Int) (.slice A n c)), .agg (rgc (y : Int) (z : Int) (.slice B m d))] w (RgYes w (x : Int) (z : Int) (hsT T x (seg x z))) := by
  obtain ⟨k1, k2, k3, b1⟩ := f3rng w (rgc (x : Int) (y : Int) (.slice A n c)) (rgc (y : Int) (z : Int) (.slice B m d)) (rgc 0 0 (.slice none 0 0)) 25
  have K1 := hid k1; have K2 := hid k2; have K3 := hid k3; have B1 := hid b1
  have hn62 : n ≤ 62 := by rw [hn]; exact seg_few (by omega)
  have hm62 : m ≤ 62 := by rw [hm]; exact seg_few (by omega)
  have hLl := hL.1; have hMl := hM.1
  have hz0 := zero_fRng
  have hz2 := zero_Side
  have HI1 := hid (info_fRng (x : Int) (y : Int) (.slice A n c))
  have HI2 := hid (info_fRng (y : Int) (z : Int) (.slice B m d))
  have HIR := hid (info_fRng (x : Int) (z : Int))
  have f1 := frm_of hxy (by omega) hn
  have f2 := frm_of hyz hz hm
  have CF1 := hid (fun (w1 : World) (hb : Below w.heap.size w w1) => fFormed_any (x : Int) (y : Int) A n c w1 (hTd.below hb) (by omega))
  have CF2 := hid (fun (w1 : World) (hb : Below w.heap.size w w1) => fFormed_any (y : Int) (z : Int) B m d w1 (hTd.below hb) (by omega))
  rw [f1] at CF1
  rw [f2] at CF2
  have ex1 := zip_exps (E := seg x y) (L := L) (by omega)
  have HAY : adv x (exps (zipS (seg x y) L)) = y := by rw [ex1]; exact al_adv (al_seg (y - x) (Nat.le_refl _) hxy)
  have HEND := hid (pushes_end hC).2
  have hFEW := pushes_few hC (by omega)
  have hz1l : (zipS (seg x y) L).length = n := by rw [zip_len (by omega)]; omega
  have FE1 : ∀ j, (pushes ndF x ([] : List (Nat × List Int)).reverse ((zipS (seg x y) L).take j)).length ≤ 900 ∧ ∀ q ∈ pushes ndF x ([] : List (Nat × List Int)).reverse ((zipS (seg x y) L).take j), q.1 ≤ 30 := fun j => by
    have h := hFEW (min j n)
    rw [List.take_append_of_le_length (by omega)] at h
    have e : (zipS (seg x y) L).take (min j n) = (zipS (seg x y) L).take j := by
      rcases Nat.le_total j n with h1 | h1
      · rw [Nat.min_eq_left h1]
      · rw [Nat.min_eq_right h1, List.take_of_length_le (by omega), List.take_of_length_le (by omega)]
    rw [e] at h
    exact ⟨by have := h.1; show _ ≤ _; simp only [List.reverse_nil]; omega, h.2⟩
  have FE2 : ∀ j, (pushes ndF y (pushes ndF x ([] : List (Nat × List Int)).reverse (zipS (seg x y) L)).reverse.reverse ((zipS (seg y z) M).take j)).length ≤ 900 ∧ ∀ q ∈ pushes ndF y (pushes ndF x ([] : List (Nat × List Int)).reverse (zipS (seg x y) L)).reverse.reverse ((zipS (seg y z) M).take j), q.1 ≤ 30 := fun j => by
    have h := hFEW (n + j)
    rw [List.take_append, hz1l, List.take_of_length_le (by omega), Nat.add_sub_cancel_left, pushes_append, HAY] at h
    rw [List.reverse_reverse]
    exact ⟨by have := h.1; show _ ≤ _; simp only [List.reverse_nil]; omega, h.2⟩
  have C1 := hid (fun (w1 : World) (g : Nat) (v1 v2 : Value) (H : SdAt w1 w.heap.size g (x : Int) v1 v2 []) (hb : Below w.heap.size w w1) => fPutAll_any (c := c) H hxy (by omega) (by omega) hLl (fun w' hb' => hL.below (hb.trans hb')) FE1 hb.size (fun w' hb' => hTb.below (hb.trans hb')) (fun w' hb' => hTd.below (hb.trans hb')))
  have C2 := hid (fun (w1 : World) (g : Nat) (v1 v2 : Value) (H : SdAt w1 w.heap.size g (y : Int) v1 v2 (pushes ndF x ([] : List (Nat × List Int)).reverse (zipS (seg x y) L)).reverse) (hb : Below w.heap.size w w1) => fPutAll_any (c := d) H hyz hz (by omega) hMl (fun w' hb' => hM.below (hb.trans hb')) FE2 hb.size (fun w' hb' => hTb.below (hb.trans hb')) (fun w' hb' => hTd.below (hb.trans hb')))
  have HE2 : Hid ((pushes ndF y (pushes ndF x ([] : List (Nat × List Int)).reverse (zipS (seg x y) L)).reverse.reverse (zipS (seg y z) M)) = pushes ndF x [] (zipS (seg x y) L ++ zipS (seg y z) M)) := by
    show _ = _
    rw [pushes_append, HAY, List.reverse_reverse]; rfl
  rw [HE2.out] at C2
  generalize pushes ndF x [] (zipS (seg x y) L ++ zipS (seg y z) M) = R2 at C2 HEND
  generalize pushes ndF x ([] : List (Nat × List Int)).reverse (zipS (seg x y) L) = R1 at C1 C2
  generalize hsT T x (seg x z) = YY at HEND ⊢
  have k4 := Blk.new (((w.alloc (.cells (rgc (x : Int) (y : Int) (.slice A n c)) 25)).alloc (.cells (rgc (y : Int) (z : Int) (.slice B m d)) 25)).alloc (.cells (rgc 0 0 (.slice none 0 0)) 25)) 73 (sdZ (x : Int))
  clear k1 k2 k3 b1 k4 hL hM hn hm hTb hTd hC HE2 ex1 HAY hFEW FE1 FE2 hz1l f1 f2 hLl hMl hn62 hm62
  unfold RgYes
  unfold PuA at C1 C2
  go_enter Tryd.func20, Tryd.ntmps20
  go_wp2_with (first
    | (refine load_at rfl 25 (.tmp 2) rfl w.heap.size 0 rfl _ _ (fblk_rng K1.out) Tryd.underlying25 rfl HI1.out (rgc (x : Int) (y : Int) (.slice A n c)) rfl ?_)
    | (refine load_at rfl 25 (.tmp 3) rfl (w.heap.size + 1) 0 rfl _ _ (fblk_rng K2.out) Tryd.underlying25 rfl HI2.out (rgc (y : Int) (z : Int) (.slice B m d)) rfl ?_)
    | (go_at_call 18; first
        | (refine (CF1.out _ B1.out).mono ?_; clear CF1; rintro e w1 ⟨rfl, hb1⟩; have B2 := hid (B1.out.trans (hb1.mono B1.out.size)); have Q2 := hid (K2.out.below hb1); have Q1 := hid (K1.out.below hb1); have Q3 := hid (K3.out.below hb1); clear hb1 K1 K2 K3; have K2 := Q2; clear Q2)
        | (refine (CF2.out _ B2.out).mono ?_; clear CF2; rintro e w2 ⟨rfl, hb2⟩; have B3 := hid (B2.out.trans (hb2.mono B2.out.size)); have R2' := hid (K2.out.below hb2); have R1' := hid (Q1.out.below hb2); have R3' := hid (Q3.out.below hb2); have cc1 : w2.cell? ⟨w.heap.size, 1, none⟩ = some (.int .i64 (y : Int)) := R1'.out.cell 1; have cc2 : w2.cell? ⟨w.heap.size + 1, 0, none⟩ = some (.int .i64 (y : Int)) := R2'.out.cell 0; have cc3 : w2.cell? ⟨w.heap.size, 0, none⟩ = some (.int .i64 (x : Int)) := R1'.out.cell 0; have BW := hid (B3.out.alloc B3.out.size (.cells (sdZ (x : Int)) 73)); have RA := hid (R1'.out.alloc (.cells (sdZ (x : Int)) 73)); have RB := hid (R2'.out.alloc (.cells (sdZ (x : Int)) 73)); have RC := hid (R3'.out.alloc (.cells (sdZ (x : Int)) 73)); have S0 : Hid (SdAt (w2.alloc (.cells (sdZ (x : Int)) 73)) w.heap.size w2.heap.size (x : Int) (.slice none 0 0) (.slice none 0 0) []) := ⟨Blk.new w2 73 (sdZ (x : Int)), OwI.nil _ _, OwH.nil _ _, B3.out.size⟩; have CP1 := hid (C1.out _ _ _ _ S0.out BW.out); clear hb2 R1' R2' R3' Q1 Q3 K2))
    | (refine load_at rfl 25 (.tmp 2) rfl w.heap.size 0 rfl _ _ (fblk_rng RA.out) Tryd.underlying25 rfl HI1.out (rgc (x : Int) (y : Int) (.slice A n c)) rfl ?_)
    | (refine load_at rfl 25 (.tmp 3) rfl (w.heap.size + 1) 0 rfl _ _ (fblk_rng RB4.out) Tryd.underlying25 rfl HI2.out (rgc (y : Int) (z : Int) (.slice B m d)) rfl ?_)
    | (go_at_call 49; first
        | (refine CP1.out.mono ?_; clear CP1; rintro e w4 ⟨rfl, v1, v2, h1, h2, _, _⟩; have SD4 := hid h1; have RA4 := hid (rg_far S0.out h2 RA.out); have RB4 := hid (rg_far S0.out h2 RB.out); have RC4 := hid (rg_far S0.out h2 RC.out); have B4 := hid (BW.out.trans (sd_bel S0.out h2 BW.out.size)); have CP2 := hid (C2.out w4 _ v1 v2 h1 B4.out); clear h1 h2 S0 RA RB RC)
        | (refine CP2.out.mono ?_; clear CP2; rintro e w5 ⟨rfl, v1', v2', h1, h2, _, _⟩; have RA5 := hid (rg_far SD4.out h2 RA4.out); have RC5 := hid (rg_far SD4.out h2 RC4.out); have B5 := hid (B4.out.trans (sd_bel SD4.out h2 B4.out.size)); obtain ⟨A2, c2, e2, hc2, hd2⟩ := h1.hs.len; generalize hn2 : (hshs R2.reverse).length = n2 at e2; subst e2; have SD5 := hid h1; have e0 : w5.cell? ⟨w.heap.size, 0, none⟩ = some (.int .i64 (x : Int)) := RA5.out.cell 0; have e1 : w5.cell? ⟨w2.heap.size, 0, none⟩ = some (.int .i64 (z : Int)) := h1.kb.cell 0; have e2 : w5.cell? ⟨w2.heap.size, 2, none⟩ = some (.slice A2 n2 c2) := h1.kb.cell 2; clear h1 h2))
    | (refine wpList_store_row rfl 25 (.tmp 4) (.tmp 36) rfl (w.heap.size + 1 + 1) (rgc (x : Int) (z : Int) (.slice A2 n2 c2)) rfl rfl 25 (rgc 0 0 (.slice none 0 0)) RC5.out (HIR.out _) rfl (rgc_ones _ _ rfl) ?_))
  have hok : OwH w.heap.size w5 (.slice A2 n2 c2) YY := by rw [← HEND.out]; exact SD5.out.hs
  have HOK := hid (hok.keep (w' := w5.setRow (w.heap.size + 1 + 1) (rgc (x : Int) (z : Int) (.slice A2 n2 c2))) (fun k hk => by
    obtain ⟨_, C, hC⟩ := hok.ty k hk
    exact setRow_other _ _ _ _ (hC.ne RC5.out (by decide))))
  try go_frame
  refine bodyPost_ret (results_cell_slot Tryd.results20 _ _ (w.heap.size + 1 + 1) 25 (rgc (x : Int) (z : Int) (.slice A2 n2 c2)) (0, 0) _ rfl (RC5.out.row _) Tryd.underlying25 rfl (HIR.out _)) rfl ?_
  exact ⟨_, rfl, HOK.out, below_setRow B5.out (by omega) _⟩
end Go.Proofs.YtoacjaecfabahaaDoor
/-
  What is proved here: the program answers.
-/
namespace Go.Proofs.YtoacjaecfabahaaDoor
open Go.ChangeShapes Go.WideShapes Go.ChangeAt Go.RowKit
set_option linter.unusedVariables false
set_option linter.unusedSimpArgs false
set_option maxRecDepth 20000

theorem fh_flat (L : List (List Int)) : ((L.map hV).flatMap fun v => v.cells.toList) = hcs L := by
  induction L with
  | nil => rfl
  | cons f L ih => rw [List.map_cons, List.flatMap_cons, ih, hcs_cons]; rfl
theorem run_hlits (w : World) (L : List (List Int)) (parts : Array (Nat × Value)) (hL : ∀ f ∈ L, H32 f) (h0 : 0 < L.length) (h9 : L.length ≤ 100)
    (hp : parts.toList = ((L.map hV).zipIdx 0).map fun x => (x.2, x.1)) :
    (Instr.buildSlice 22 L.length parts).run Tryd.prog w = .ok (.slice (some ⟨w.heap.size, 0, none⟩) L.length L.length) (w.alloc (.cells (hcs L).toArray 33)) := by
  obtain ⟨i0, z, hi, hs, hb, hz, hzs⟩ := fh_info
  refine run_buildSlice w 22 33 L.length parts _ i0 z Tryd.underlying22 hi hz (by rw [hs]; omega) (by rw [hs]; omega) ?_
  rw [hp, hs]
  have h := Great.fill_whole (s := 32) (by decide) (L.map hV) ((Array.range (L.length * 32)).map (z.cells[· % z.cells.size]!)) (fun v hv => by
    obtain ⟨f, hf, rfl⟩ := List.mem_map.1 hv
    exact (hL f hf).size) (by simp)
  rw [fh_flat] at h
  exact h
theorem wpList_hlits {ops : Array Oper} {rest : List Oper} {o : Oper} {a : Act} {w : World} {Q : Exit → Act → World → Prop} (hg : o.guard = none) (n : Nat) (parts : Array (Nat × Operand)) (ho : o.op = .buildSlice 22 n parts) (L : List (List Int)) (hL : ∀ f ∈ L, H32 f) (hn : n = L.length) (h0 : 0 < L.length) (h9 : L.length ≤ 100)
    (hp : (parts.map fun (i, x) => (i, a.eval x)).toList = ((L.map hV).zipIdx 0).map fun x => (x.2, x.1))
    (h : wpList Tryd.prog ops Q rest (a.put o.dst (.slice (some ⟨w.heap.size, 0, none⟩) n n)) (w.alloc (.cells (hcs L).toArray 33))) : wpList Tryd.prog ops Q (o :: rest) a w := by
  subst hn
  refine wpList_plain hg fun _ hK => ?_
  unfold Oper.wp execOp
  simp only [ho, Sem.run_bind, run_hlits w L _ hL h0 h9 hp, Result.andThen_ok]
  exact hK _ _ h
def aw1 : List Int := 1 :: List.replicate 31 0
def aw2 : List Int := 2 :: List.replicate 31 0
def aw3 : List Int := 3 :: List.replicate 31 0
def awL : List (List Int) := [aw1, aw2, aw3]
theorem aw_ok : ∀ f ∈ awL, H32 f := fun f hf => by
  have hb : ∀ (x : Int), 0 ≤ x ∧ x < 256 → H32 (x :: List.replicate 31 0) := fun x hx => ⟨by simp, fun v hv => by
    rcases List.mem_cons.1 hv with rfl | hv
    · exact hx
    · rw [(List.mem_replicate.1 hv).2]; decide⟩
  simp only [awL, List.mem_cons, List.not_mem_nil, or_false] at hf
  rcases hf with rfl | rfl | rfl
  · exact hb 1 (by decide)
  · exact hb 2 (by decide)
  · exact hb 3 (by decide)
theorem zero_hash0 (w : World) : Sem.run Tryd.prog (zeroValue 33) w = Result.ok (hV (List.replicate 32 0)) w := by kernel_rfl
theorem aw_b1 : ((hc32 (List.replicate 32 0)).setIfInBounds 0 (.int .u8 1)) = hc32 aw1 := by rfl
theorem aw_b2 : ((hc32 (List.replicate 32 0)).setIfInBounds 0 (.int .u8 2)) = hc32 aw2 := by rfl
theorem aw_b3 : ((hc32 (List.replicate 32 0)).setIfInBounds 0 (.int .u8 3)) = hc32 aw3 := by rfl
theorem aw_seg : seg 0 3 = [1, 0] := by decide
def awF (p : Nat) : List Int := awL[p]?.getD []
theorem aw_lst : awL = lst awF 0 3 := by rfl
set_option maxHeartbeats 4000000 in
theorem fawake_any (w : World) (hTb : Tab w) : Calls Tryd.prog 12 #[] w fun e w' => e = .returned (.bool true) ∧ Below w.heap.size w w' := by
  have hin : InH (w.alloc (.cells (hcs awL).toArray 33)) (some ⟨w.heap.size, 0, none⟩) 3 awL := inh_blk (Blk.new w 33 _) aw_ok (by decide)
  have hb : Below w.heap.size w (w.alloc (.cells (hcs awL).toArray 33)) := (Below.refl _ _).alloc (Nat.le_refl _) _
  rw [aw_lst] at hin
  have CO := hid (fOf_yes (x := 0) (n := 3) (c := 3) hin (by decide) (by decide) (hTb.below hb))
  rw [← aw_lst] at CO
  have HB := hid hb
  have e2 : ∀ L : List (List Int), L.length = (hsT (tw ndF awF) 0 (seg 0 3)).length → L.length = 2 := fun L h => by rw [h, hs_len, aw_seg]; rfl
  have HLN : Hid ((hsT (tw ndF awF) 0 (seg 0 (0 + 3))).length = 2) := by show _ = _; rw [hs_len, Nat.zero_add, aw_seg]; rfl
  have hz := zero_hash0
  have hzf := zero_fRng
  have P1 := aw_b1; have P2 := aw_b2; have P3 := aw_b3
  have HOK := hid aw_ok
  unfold RgYes at CO
  generalize hsT (tw ndF awF) 0 (seg 0 (0 + 3)) = YY at CO HLN
  clear hin hb e2 hTb
  go_enter Tryd.func12, Tryd.ntmps12
  go_wp2_with (first
    | (refine wpList_hlits rfl 3 #[(0, .tmp 4), (1, .tmp 5), (2, .tmp 6)] rfl awL HOK.out rfl (by decide) (by decide) (by kernel_rfl) ?_)
    | (go_at_call 13; refine CO.out.mono ?_; rintro e w1 ⟨v, rfl, ho, hb1⟩; obtain ⟨A2, c2, e2, hc2, hd2⟩ := ho.len; rw [HLN.out] at e2; subst e2; have B1 := hid (HB.out.trans (hb1.mono HB.out.size)); clear ho hb1))
  go_ret
  exact ⟨rfl, B1.out.alloc B1.out.size _⟩
end Go.Proofs.YtoacjaecfabahaaDoor
