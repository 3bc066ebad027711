/-
  Once spoiled a writer stays so, whatever fields are put ahead and behind: the statement holds of every two lists of fields and number that can be read as data.
-/
import Derived.Test.YtmdclicomneomaaFields
namespace Go.Proofs.Ytmdclicomneomaa
open Go.ChangeShapes Go.WideShapes Go.ChangeAt Go.RowKit
set_option linter.unusedVariables false

/-- what a writer holds behind some fields -/
def stAfter (st : WS) (l : List (Int × Int × List Int)) : WS := l.foldl (fun s f => fStep s f.1 f.2.1 f.2.2) st
theorem stAfter_snoc (st : WS) (l : List (Int × Int × List Int)) (k x : Int) (bb : List Int) : stAfter st (l ++ [(k, x, bb)]) = fStep (stAfter st l) k x bb := by simp [stAfter]
theorem stAfter_take (st : WS) (l : List (Int × Int × List Int)) (i : Nat) (k x : Int) (bb : List Int) (h : l[i]? = some (k, x, bb)) : stAfter st (l.take (i + 1)) = fStep (stAfter st (l.take i)) k x bb := by
  have hlt : i < l.length := by
    rcases Nat.lt_or_ge i l.length with h1 | h1
    · exact h1
    · rw [List.getElem?_eq_none h1] at h; cases h
  have e : l[i] = (k, x, bb) := by rw [List.getElem?_eq_getElem hlt] at h; injection h
  rw [List.take_succ_eq_append_getElem hlt, e, stAfter_snoc]

theorem WS.len_str (st : WS) (xs : List Int) : (st.str xs).len ≤ st.len + xs.length + 2 := by
  unfold WS.str
  split
  · rw [WS.len_spoil]; omega
  · have h1 := WS.len_put (st.put (be xs.length 2)) xs
    have h2 := WS.len_put st (be xs.length 2)
    rw [be_length] at h2
    omega
theorem len_fStep (st : WS) (k x : Int) (bb : List Int) : (fStep st k x bb).len ≤ st.len + bb.length + 8 := by
  unfold fStep
  split
  · have := WS.len_up st 255 (wrap64 x) 1; omega
  · split
    · have := WS.len_up st 65535 (wrap64 x) 2; omega
    · split
      · have := WS.len_put st (be (x % 4294967296) 4); rw [be_length] at this; omega
      · split
        · have := WS.len_put st (be x 8); rw [be_length] at this; omega
        · split
          · have := WS.len_put st [x % 2]; simp at this; omega
          · split
            · have := WS.len_put st bb; omega
            · split
              · have := WS.len_str st bb; omega
              · split
                · have := WS.len_up st 4096 (wrap64 x) 2; omega
                · omega
theorem len_stAfter (l : List (Int × Int × List Int)) (st : WS) (h : ∀ f ∈ l, f.2.2.length ≤ 9000) : (stAfter st l).len ≤ st.len + l.length * 9008 := by
  induction l generalizing st with
  | nil => simp [stAfter]
  | cons f l ih =>
    have h1 := ih (fStep st f.1 f.2.1 f.2.2) (fun g hg => h g (List.mem_cons_of_mem _ hg))
    have h2 := len_fStep st f.1 f.2.1 f.2.2
    have h3 := h f (List.mem_cons_self ..)
    have e : stAfter st (f :: l) = stAfter (fStep st f.1 f.2.1 f.2.2) l := rfl
    rw [e, List.length_cons]
    omega

theorem fStep_bad (k x : Int) (bb : List Int) : fStep .bad k x bb = .bad := by
  unfold fStep
  repeat' split
  all_goals first | rfl | (unfold WS.up; split <;> rfl) | (unfold WS.str; split <;> rfl)
theorem stAfter_bad (l : List (Int × Int × List Int)) : stAfter .bad l = .bad := by
  induction l with
  | nil => rfl
  | cons f l ih => show stAfter (fStep .bad f.1 f.2.1 f.2.2) l = .bad; rw [fStep_bad]; exact ih
def WS.some_ : WS → Prop
  | .none => False
  | _ => True
theorem some_spoil {st : WS} (h : st.some_) : st.spoil = .bad := by cases st <;> first | rfl | cases h
theorem some_put {st : WS} (h : st.some_) (xs : List Int) : (st.put xs).some_ := by cases st <;> first | trivial | cases h
theorem some_spoil' {st : WS} (h : st.some_) : st.spoil.some_ := by rw [some_spoil h]; trivial
theorem some_up {st : WS} (h : st.some_) (m x : Int) (n : Nat) : (st.up m x n).some_ := by unfold WS.up; split <;> first | exact some_spoil' h | exact some_put h _
theorem some_str {st : WS} (h : st.some_) (xs : List Int) : (st.str xs).some_ := by unfold WS.str; split <;> first | exact some_spoil' h | exact some_put (some_put h _) _
theorem some_fStep {st : WS} (h : st.some_) (k x : Int) (bb : List Int) : (fStep st k x bb).some_ := by
  unfold fStep
  repeat' split
  all_goals first | exact some_up h _ _ _ | exact some_put h _ | exact some_str h _ | exact h
theorem some_stAfter (l : List (Int × Int × List Int)) {st : WS} (h : st.some_) : (stAfter st l).some_ := by
  induction l generalizing st with
  | nil => exact h
  | cons f l ih => exact ih (some_fStep h _ _ _)

/-- bytes that lay there ahead don't lie in a new block -/
theorem Rp.new {w w' : World} {A : Option Addr} {xs : List Int} (h : Rp w none A xs) (hb : Below w.heap.size w w') {p : Option Addr} (hp : ∀ k, Of p k → w.heap.size ≤ k) : Rp w' p A xs := fun hx => by
  obtain ⟨ad, e, _, hc⟩ := h hx
  have hlt := block_lt_of_cell (hc 0 hx)
  rw [add_block] at hlt
  refine ⟨ad, e, fun ho => absurd (hp _ ho) (by omega), fun j hj => (hb.cell (by rw [add_block]; exact hlt)).trans (hc j hj)⟩

set_option maxRecDepth 5000 in
set_option maxHeartbeats 2000000 in
theorem spoiled_few (A1 A2 : Option Addr) (n1 n2 c1 c2 : Nat) (l1 l2 : List (Int × Int × List Int)) (x : Int) (w : World) (h1 : InL w A1 n1 l1) (h2 : InL w A2 n2 l2) (hf : (few l1 60 && few l2 60) = false) :
    Calls Try.prog 7 #[.slice A1 n1 c1, .slice A2 n2 c2, .int .u32 x] w fun e w' => e = .returned (.bool true) ∧ Below w.heap.size w w' := by
  have H1 := hid h1; have H2 := hid h2
  clear h1 h2
  cases hf1 : few l1 60 with
  | false =>
    have tok1 : True := trivial
    clear hf
    go_enter Try.func7, Try.ntmps7
    go_wp2_with (first
      | (go_at_call 9; have _t := tok1; refine (awake_any _).mono ?_; rintro e w1 ⟨rfl, hb1⟩; have HB1 := hid hb1; clear tok1 hb1)
      | (go_at_call 10; refine (Few_any A1 n1 c1 l1 60 _ (H1.out.below HB1.out) (by omega)).mono ?_; rintro e w2 ⟨rfl, rfl⟩)
      | (go_at_call 9; refine (awake_any _).mono ?_; rintro e w2 ⟨rfl, hb2⟩; have HB2 := hid (HB1.out.trans (hb2.mono HB1.out.size)); clear hb2))
    go_ret
    exact ⟨rfl, HB2.out⟩
  | true =>
    rw [hf1] at hf
    have hf2 : few l2 60 = false := by simpa using hf
    have tok1 : True := trivial
    have tok2 : True := trivial
    clear hf
    go_enter Try.func7, Try.ntmps7
    go_wp2_with (first
      | (go_at_call 9; have _t := tok1; refine (awake_any _).mono ?_; rintro e w1 ⟨rfl, hb1⟩; have HB1 := hid hb1; clear tok1 hb1)
      | (go_at_call 10; have _t := tok2; refine (Few_any A1 n1 c1 l1 60 _ (H1.out.below HB1.out) (by omega)).mono ?_; rintro e w2 ⟨rfl, rfl⟩; clear tok2)
      | (go_at_call 10; refine (Few_any A2 n2 c2 l2 60 _ (H2.out.below HB1.out) (by omega)).mono ?_; rintro e w2 ⟨rfl, rfl⟩)
      | (go_at_call 9; refine (awake_any _).mono ?_; rintro e w2 ⟨rfl, hb2⟩; have HB2 := hid (HB1.out.trans (hb2.mono HB1.out.size)); clear hb2))
    go_ret
    exact ⟨rfl, HB2.out⟩
/-- a field of the list, put -/
theorem lput_at {w wr : World} {b o k : Nat} {l : List (Int × Int × List Int)} {p : Option Addr} (h : FAt w b o l k) (hb : Below w.heap.size w wr) (hp : ∀ k, Of p k → w.heap.size ≤ k) (hs : ∀ f ∈ l, f.2.2.length ≤ 9000) :
    ∃ kk y bb B cc, l[k]? = some (kk, y, bb) ∧ wr.cell? ⟨b, o + k * 3, none⟩ = some (.int .i64 kk) ∧ wr.cell? ⟨b, o + k * 3 + 1, none⟩ = some (.int .u64 y) ∧ wr.cell? ⟨b, o + k * 3 + 2, none⟩ = some (.slice B bb.length cc) ∧
      ∀ st, WRep wr p st → st.len < 800000000000 → Calls Try.prog 12 #[.pointer p, .agg #[.int .i64 kk, .int .u64 y, .slice B bb.length cc]] wr fun e w' => e = .returned (.tuple #[]) ∧ WRep w' p (fStep st kk y bb) ∧ OnlyS (Of p) wr w' := by
  obtain ⟨kk, y, bb, B, cc, q1, q2, q3, q4, q5, q6, q7, q8, q9⟩ := h
  have hlt := block_lt_of_cell q7
  have key : ∀ j, wr.cell? ⟨b, j, none⟩ = w.cell? ⟨b, j, none⟩ := fun j => hb.cell hlt
  have hbb := hs _ (List.mem_of_getElem? q1)
  exact ⟨kk, y, bb, B, cc, q1, (key _).trans q7, (key _).trans q8, (key _).trans q9, fun st hw hl => lput_any p st kk y B cc bb wr hw (Rp.new q5 hb hp) ⟨q2, q3⟩ (by simp at hbb; omega) hl⟩
theorem size_alloc (w : World) (o : Obj) : (w.alloc o).heap.size = w.heap.size + 1 := by simp
theorem len_good {l : List (Int × Int × List Int)} (hl : l.length ≤ 60) (hs : ∀ f ∈ l, f.2.2.length ≤ 9000) (k : Nat) : (stAfter (.good []) (l.take k)).len < 800000000000 := by
  have h1 := len_stAfter (l.take k) (.good []) (fun f hf => hs f (List.mem_of_mem_take hf))
  have h2 : (l.take k).length ≤ 60 := by rw [List.length_take]; omega
  have e : (WS.good []).len = 0 := rfl
  rw [e] at h1
  have h3 : (l.take k).length * 9008 ≤ 60 * 9008 := Nat.mul_le_mul_right _ h2
  omega

set_option maxRecDepth 5000 in
set_option maxHeartbeats 4000000 in
theorem spoiled_0 (A1 A2 : Option Addr) (n1 n2 c1 c2 : Nat) (l1 l2 : List (Int × Int × List Int)) (x : Int) (w : World) (h1 : InL w A1 n1 l1) (h2 : InL w A2 n2 l2) (hx : 0 ≤ x ∧ x < 4294967296) (hf1 : few l1 60 = true) (hf2 : few l2 60 = true) (hmod : x % 4 = 0) :
    Calls Try.prog 7 #[.slice A1 n1 c1, .slice A2 n2 c2, .int .u32 x] w fun e w' => e = .returned (.bool true) ∧ Below w.heap.size w w' := by
  obtain ⟨hx0, hx1⟩ := hx
  obtain ⟨hl1, hs1⟩ := few_all hf1 (by omega)
  obtain ⟨hl2, hs2⟩ := few_all hf2 (by omega)
  have hn1 : n1 ≤ 60 := by have := h1.1; omega
  have hn2 : n2 ≤ 60 := by have := h2.1; omega
  have H1 := hid h1; have H2 := hid h2
  have HS1 := hid hs1; have HS2 := hid hs2; have HL1 := hid hl1; have HL2 := hid hl2
  obtain ⟨Z, hz, hz0, z0, z1, z2, z3, z4, hZs⟩ := zero_writer
  have tok2 : True := trivial
  clear h1 h2 hs1 hs2 hl1 hl2
  go_enter Try.func7, Try.ntmps7
  go_wp2_with (first
    | (go_at_call 9; refine (awake_any _).mono ?_; rintro e w1 ⟨rfl, hb1⟩; have HB1 := hid hb1; clear hb1)
    | (go_at_call 10; have _t := tok2; refine (Few_any A1 n1 c1 l1 60 _ (H1.out.below HB1.out) (by omega)).mono ?_; rintro e w2 ⟨rfl, rfl⟩; clear tok2)
    | (go_at_call 10; refine (Few_any A2 n2 c2 l2 60 _ (H2.out.below HB1.out) (by omega)).mono ?_; rintro e w2 ⟨rfl, rfl⟩))
  have hw0 : WRep (w1.alloc (.cells Z 30)) (some ⟨w1.heap.size, 0, none⟩) (.good []) := ⟨_, rfl, new_writer (Blk.new w1 30 Z) hz z0.out z1.out z2.out z3.out⟩
  have hb0 : Below w.heap.size w (w1.alloc (.cells Z 30)) := HB1.out.alloc HB1.out.size _
  obtain ⟨g, hg⟩ : ∃ g, g = w1.heap.size := ⟨_, rfl⟩
  rw [← hg] at hw0 ⊢
  have HOF : Hid (∀ k, Of (some ⟨g, 0, none⟩) k → w.heap.size ≤ k) := by
    have := HB1.out.size
    rintro k ⟨a, ha, rfl⟩; injection ha with ha; subst ha; show _ ≤ g; omega
  have HW0 := hid hw0; have HB0 := hid hb0
  clear hw0 hb0 hg
  generalize w1.alloc (.cells Z 30) = W0 at HW0 HB0 ⊢
  clear HB1
  go_loopw [8] (fun i wr => ∃ k : Nat, k ≤ n1 ∧ i = .int .i64 k ∧ WRep wr (some ⟨g, 0, none⟩) (stAfter (.good []) (l1.take k)) ∧ Below w.heap.size w wr) (fun i _ => n1 - (intOf i).toNat)
  case atStart => exact ⟨0, by omega, rfl, HW0.out, HB0.out⟩
  case round =>
    obtain ⟨k, hk, rfl, hat, hbl⟩ := hrel
    have HA := hid hat; have HB := hid hbl
    clear hat hbl HW0 HB0
    by_cases hlt : k < n1
    · obtain ⟨b, o, rfl, _, hfat⟩ := H1.out.at_ (by omega)
      obtain ⟨kk, y, bb, B, cc, q1, q7, q8, q9, hc⟩ := lput_at (hfat k hlt) HB.out HOF.out HS1.out
      have HLP := hid (hc _ HA.out (len_good HL1.out HS1.out k))
      have Q1 := hid q1
      clear hfat q1 hc
      go_wp2_with (go_at_call 12; refine HLP.out.mono ?_; rintro e w3 ⟨rfl, hw3, ho3⟩; have HW3 := hid hw3; have HO3 := hid ho3; clear hw3 ho3)
      go_roundw
      case rel => exact ⟨k + 1, by omega, by go_num, by rw [stAfter_take _ _ _ _ _ _ Q1.out]; exact HW3.out, HB.out.trans (HO3.out.below HB.out.size HOF.out)⟩
      case measure => simp [intOf]; omega
    · have hkn : k = n1 := by omega
      have HST := hid (some_stAfter (l1.take k) (st := .good []) trivial)
      have HSL := hid (len_good HL1.out HS1.out k)
      obtain ⟨st, hst⟩ : ∃ st, st = stAfter (.good []) (l1.take k) := ⟨_, rfl⟩
      rw [← hst] at HA HST HSL
      clear hst
      have hup : st.up 255 (256 + x / 4) 1 = .bad := by unfold WS.up; rw [if_pos (by omega)]; exact some_spoil HST.out
      have hc := WU8_any _ st (256 + x / 4) _ HA.out (by have := HSL.out; omega)
      rw [hup] at hc
      have HC := hid hc
      have hy0 : 0 ≤ x / 4 := by omega
      have hy1 : x / 4 < 1073741824 := by omega
      clear hup hc
      go_wp2_with (go_at_call 23; refine HC.out.mono ?_; rintro e w4 ⟨rfl, hw4, ho4⟩; have HW4 := hid hw4; have HB4 := hid (HB.out.trans (ho4.below HB.out.size HOF.out)); clear hw4 ho4)
      go_loopw [9] (fun i wr => ∃ k : Nat, k ≤ n2 ∧ i = .int .i64 k ∧ WRep wr (some ⟨g, 0, none⟩) .bad ∧ Below w.heap.size w wr) (fun i _ => n2 - (intOf i).toNat)
      case atStart => exact ⟨0, by omega, rfl, HW4.out, HB4.out⟩
      case round =>
        obtain ⟨k2, hk2, rfl, hat, hbl⟩ := hrel
        have HA5 := hid hat; have HB5 := hid hbl
        clear hat hbl HW4 HB4
        by_cases hlt2 : k2 < n2
        · obtain ⟨b, o, rfl, _, hfat⟩ := H2.out.at_ (by omega)
          obtain ⟨kk, y, bb, B, cc, q1, q7, q8, q9, hc⟩ := lput_at (hfat k2 hlt2) HB5.out HOF.out HS2.out
          have HLP := hid (hc _ HA5.out (by simp [WS.len]))
          clear hfat q1 hc
          go_wp2_with (go_at_call 12; refine HLP.out.mono ?_; rintro e w3 ⟨rfl, hw3, ho3⟩; rw [fStep_bad] at hw3; have HW3 := hid hw3; have HO3 := hid ho3; clear hw3 ho3)
          go_roundw
          case rel => exact ⟨k2 + 1, by omega, by go_num, HW3.out, HB5.out.trans (HO3.out.below HB5.out.size HOF.out)⟩
          case measure => simp [intOf]; omega
        · have HOut := hid (Out_bad _ _ HA5.out)
          go_wp2_with (go_at_call 13; refine HOut.out.mono ?_; rintro e w5 ⟨rfl, rfl⟩)
          go_ret
          exact ⟨rfl, HB5.out⟩

set_option maxRecDepth 5000 in
set_option maxHeartbeats 4000000 in
theorem spoiled_1 (A1 A2 : Option Addr) (n1 n2 c1 c2 : Nat) (l1 l2 : List (Int × Int × List Int)) (x : Int) (w : World) (h1 : InL w A1 n1 l1) (h2 : InL w A2 n2 l2) (hx : 0 ≤ x ∧ x < 4294967296) (hf1 : few l1 60 = true) (hf2 : few l2 60 = true) (hmod : x % 4 = 1) :
    Calls Try.prog 7 #[.slice A1 n1 c1, .slice A2 n2 c2, .int .u32 x] w fun e w' => e = .returned (.bool true) ∧ Below w.heap.size w w' := by
  obtain ⟨hx0, hx1⟩ := hx
  obtain ⟨hl1, hs1⟩ := few_all hf1 (by omega)
  obtain ⟨hl2, hs2⟩ := few_all hf2 (by omega)
  have hn1 : n1 ≤ 60 := by have := h1.1; omega
  have hn2 : n2 ≤ 60 := by have := h2.1; omega
  have H1 := hid h1; have H2 := hid h2
  have HS1 := hid hs1; have HS2 := hid hs2; have HL1 := hid hl1; have HL2 := hid hl2
  obtain ⟨Z, hz, hz0, z0, z1, z2, z3, z4, hZs⟩ := zero_writer
  have tok2 : True := trivial
  clear h1 h2 hs1 hs2 hl1 hl2
  go_enter Try.func7, Try.ntmps7
  go_wp2_with (first
    | (go_at_call 9; refine (awake_any _).mono ?_; rintro e w1 ⟨rfl, hb1⟩; have HB1 := hid hb1; clear hb1)
    | (go_at_call 10; have _t := tok2; refine (Few_any A1 n1 c1 l1 60 _ (H1.out.below HB1.out) (by omega)).mono ?_; rintro e w2 ⟨rfl, rfl⟩; clear tok2)
    | (go_at_call 10; refine (Few_any A2 n2 c2 l2 60 _ (H2.out.below HB1.out) (by omega)).mono ?_; rintro e w2 ⟨rfl, rfl⟩))
  have hw0 : WRep (w1.alloc (.cells Z 30)) (some ⟨w1.heap.size, 0, none⟩) (.good []) := ⟨_, rfl, new_writer (Blk.new w1 30 Z) hz z0.out z1.out z2.out z3.out⟩
  have hb0 : Below w.heap.size w (w1.alloc (.cells Z 30)) := HB1.out.alloc HB1.out.size _
  obtain ⟨g, hg⟩ : ∃ g, g = w1.heap.size := ⟨_, rfl⟩
  rw [← hg] at hw0 ⊢
  have HOF : Hid (∀ k, Of (some ⟨g, 0, none⟩) k → w.heap.size ≤ k) := by
    have := HB1.out.size
    rintro k ⟨a, ha, rfl⟩; injection ha with ha; subst ha; show _ ≤ g; omega
  have HW0 := hid hw0; have HB0 := hid hb0
  clear hw0 hb0 hg
  generalize w1.alloc (.cells Z 30) = W0 at HW0 HB0 ⊢
  clear HB1
  go_loopw [8] (fun i wr => ∃ k : Nat, k ≤ n1 ∧ i = .int .i64 k ∧ WRep wr (some ⟨g, 0, none⟩) (stAfter (.good []) (l1.take k)) ∧ Below w.heap.size w wr) (fun i _ => n1 - (intOf i).toNat)
  case atStart => exact ⟨0, by omega, rfl, HW0.out, HB0.out⟩
  case round =>
    obtain ⟨k, hk, rfl, hat, hbl⟩ := hrel
    have HA := hid hat; have HB := hid hbl
    clear hat hbl HW0 HB0
    by_cases hlt : k < n1
    · obtain ⟨b, o, rfl, _, hfat⟩ := H1.out.at_ (by omega)
      obtain ⟨kk, y, bb, B, cc, q1, q7, q8, q9, hc⟩ := lput_at (hfat k hlt) HB.out HOF.out HS1.out
      have HLP := hid (hc _ HA.out (len_good HL1.out HS1.out k))
      have Q1 := hid q1
      clear hfat q1 hc
      go_wp2_with (go_at_call 12; refine HLP.out.mono ?_; rintro e w3 ⟨rfl, hw3, ho3⟩; have HW3 := hid hw3; have HO3 := hid ho3; clear hw3 ho3)
      go_roundw
      case rel => exact ⟨k + 1, by omega, by go_num, by rw [stAfter_take _ _ _ _ _ _ Q1.out]; exact HW3.out, HB.out.trans (HO3.out.below HB.out.size HOF.out)⟩
      case measure => simp [intOf]; omega
    · have hkn : k = n1 := by omega
      have HST := hid (some_stAfter (l1.take k) (st := .good []) trivial)
      have HSL := hid (len_good HL1.out HS1.out k)
      obtain ⟨st, hst⟩ : ∃ st, st = stAfter (.good []) (l1.take k) := ⟨_, rfl⟩
      rw [← hst] at HA HST HSL
      clear hst
      have hup : st.up 65535 (-1 - x / 4) 2 = .bad := by unfold WS.up; rw [if_pos (by omega)]; exact some_spoil HST.out
      have hc := WU16_any _ st (-1 - x / 4) _ HA.out (by have := HSL.out; omega)
      rw [hup] at hc
      have HC := hid hc
      have hy0 : 0 ≤ x / 4 := by omega
      have hy1 : x / 4 < 1073741824 := by omega
      clear hup hc
      go_wp2_with (go_at_call 24; refine HC.out.mono ?_; rintro e w4 ⟨rfl, hw4, ho4⟩; have HW4 := hid hw4; have HB4 := hid (HB.out.trans (ho4.below HB.out.size HOF.out)); clear hw4 ho4)
      go_loopw [9] (fun i wr => ∃ k : Nat, k ≤ n2 ∧ i = .int .i64 k ∧ WRep wr (some ⟨g, 0, none⟩) .bad ∧ Below w.heap.size w wr) (fun i _ => n2 - (intOf i).toNat)
      case atStart => exact ⟨0, by omega, rfl, HW4.out, HB4.out⟩
      case round =>
        obtain ⟨k2, hk2, rfl, hat, hbl⟩ := hrel
        have HA5 := hid hat; have HB5 := hid hbl
        clear hat hbl HW4 HB4
        by_cases hlt2 : k2 < n2
        · obtain ⟨b, o, rfl, _, hfat⟩ := H2.out.at_ (by omega)
          obtain ⟨kk, y, bb, B, cc, q1, q7, q8, q9, hc⟩ := lput_at (hfat k2 hlt2) HB5.out HOF.out HS2.out
          have HLP := hid (hc _ HA5.out (by simp [WS.len]))
          clear hfat q1 hc
          go_wp2_with (go_at_call 12; refine HLP.out.mono ?_; rintro e w3 ⟨rfl, hw3, ho3⟩; rw [fStep_bad] at hw3; have HW3 := hid hw3; have HO3 := hid ho3; clear hw3 ho3)
          go_roundw
          case rel => exact ⟨k2 + 1, by omega, by go_num, HW3.out, HB5.out.trans (HO3.out.below HB5.out.size HOF.out)⟩
          case measure => simp [intOf]; omega
        · have HOut := hid (Out_bad _ _ HA5.out)
          go_wp2_with (go_at_call 13; refine HOut.out.mono ?_; rintro e w5 ⟨rfl, rfl⟩)
          go_ret
          exact ⟨rfl, HB5.out⟩

set_option maxRecDepth 5000 in
set_option maxHeartbeats 4000000 in
theorem spoiled_2 (A1 A2 : Option Addr) (n1 n2 c1 c2 : Nat) (l1 l2 : List (Int × Int × List Int)) (x : Int) (w : World) (h1 : InL w A1 n1 l1) (h2 : InL w A2 n2 l2) (hx : 0 ≤ x ∧ x < 4294967296) (hf1 : few l1 60 = true) (hf2 : few l2 60 = true) (hmod : x % 4 = 2) :
    Calls Try.prog 7 #[.slice A1 n1 c1, .slice A2 n2 c2, .int .u32 x] w fun e w' => e = .returned (.bool true) ∧ Below w.heap.size w w' := by
  obtain ⟨hx0, hx1⟩ := hx
  obtain ⟨hl1, hs1⟩ := few_all hf1 (by omega)
  obtain ⟨hl2, hs2⟩ := few_all hf2 (by omega)
  have hn1 : n1 ≤ 60 := by have := h1.1; omega
  have hn2 : n2 ≤ 60 := by have := h2.1; omega
  have H1 := hid h1; have H2 := hid h2
  have HS1 := hid hs1; have HS2 := hid hs2; have HL1 := hid hl1; have HL2 := hid hl2
  obtain ⟨Z, hz, hz0, z0, z1, z2, z3, z4, hZs⟩ := zero_writer
  have tok2 : True := trivial
  clear h1 h2 hs1 hs2 hl1 hl2
  go_enter Try.func7, Try.ntmps7
  go_wp2_with (first
    | (go_at_call 9; refine (awake_any _).mono ?_; rintro e w1 ⟨rfl, hb1⟩; have HB1 := hid hb1; clear hb1)
    | (go_at_call 10; have _t := tok2; refine (Few_any A1 n1 c1 l1 60 _ (H1.out.below HB1.out) (by omega)).mono ?_; rintro e w2 ⟨rfl, rfl⟩; clear tok2)
    | (go_at_call 10; refine (Few_any A2 n2 c2 l2 60 _ (H2.out.below HB1.out) (by omega)).mono ?_; rintro e w2 ⟨rfl, rfl⟩))
  have hw0 : WRep (w1.alloc (.cells Z 30)) (some ⟨w1.heap.size, 0, none⟩) (.good []) := ⟨_, rfl, new_writer (Blk.new w1 30 Z) hz z0.out z1.out z2.out z3.out⟩
  have hb0 : Below w.heap.size w (w1.alloc (.cells Z 30)) := HB1.out.alloc HB1.out.size _
  obtain ⟨g, hg⟩ : ∃ g, g = w1.heap.size := ⟨_, rfl⟩
  rw [← hg] at hw0 ⊢
  have HOF : Hid (∀ k, Of (some ⟨g, 0, none⟩) k → w.heap.size ≤ k) := by
    have := HB1.out.size
    rintro k ⟨a, ha, rfl⟩; injection ha with ha; subst ha; show _ ≤ g; omega
  have HW0 := hid hw0; have HB0 := hid hb0
  clear hw0 hb0 hg
  generalize w1.alloc (.cells Z 30) = W0 at HW0 HB0 ⊢
  clear HB1
  go_loopw [8] (fun i wr => ∃ k : Nat, k ≤ n1 ∧ i = .int .i64 k ∧ WRep wr (some ⟨g, 0, none⟩) (stAfter (.good []) (l1.take k)) ∧ Below w.heap.size w wr) (fun i _ => n1 - (intOf i).toNat)
  case atStart => exact ⟨0, by omega, rfl, HW0.out, HB0.out⟩
  case round =>
    obtain ⟨k, hk, rfl, hat, hbl⟩ := hrel
    have HA := hid hat; have HB := hid hbl
    clear hat hbl HW0 HB0
    by_cases hlt : k < n1
    · obtain ⟨b, o, rfl, _, hfat⟩ := H1.out.at_ (by omega)
      obtain ⟨kk, y, bb, B, cc, q1, q7, q8, q9, hc⟩ := lput_at (hfat k hlt) HB.out HOF.out HS1.out
      have HLP := hid (hc _ HA.out (len_good HL1.out HS1.out k))
      have Q1 := hid q1
      clear hfat q1 hc
      go_wp2_with (go_at_call 12; refine HLP.out.mono ?_; rintro e w3 ⟨rfl, hw3, ho3⟩; have HW3 := hid hw3; have HO3 := hid ho3; clear hw3 ho3)
      go_roundw
      case rel => exact ⟨k + 1, by omega, by go_num, by rw [stAfter_take _ _ _ _ _ _ Q1.out]; exact HW3.out, HB.out.trans (HO3.out.below HB.out.size HOF.out)⟩
      case measure => simp [intOf]; omega
    · have hkn : k = n1 := by omega
      have HST := hid (some_stAfter (l1.take k) (st := .good []) trivial)
      have HSL := hid (len_good HL1.out HS1.out k)
      obtain ⟨st, hst⟩ : ∃ st, st = stAfter (.good []) (l1.take k) := ⟨_, rfl⟩
      rw [← hst] at HA HST HSL
      clear hst
      have hup : st.up 4096 (4097 + x / 4) 2 = .bad := by unfold WS.up; rw [if_pos (by omega)]; exact some_spoil HST.out
      have hc := WCount_any _ st (4097 + x / 4) _ HA.out (by have := HSL.out; omega)
      rw [hup] at hc
      have HC := hid hc
      have hy0 : 0 ≤ x / 4 := by omega
      have hy1 : x / 4 < 1073741824 := by omega
      clear hup hc
      go_wp2_with (go_at_call 25; refine HC.out.mono ?_; rintro e w4 ⟨rfl, hw4, ho4⟩; have HW4 := hid hw4; have HB4 := hid (HB.out.trans (ho4.below HB.out.size HOF.out)); clear hw4 ho4)
      go_loopw [9] (fun i wr => ∃ k : Nat, k ≤ n2 ∧ i = .int .i64 k ∧ WRep wr (some ⟨g, 0, none⟩) .bad ∧ Below w.heap.size w wr) (fun i _ => n2 - (intOf i).toNat)
      case atStart => exact ⟨0, by omega, rfl, HW4.out, HB4.out⟩
      case round =>
        obtain ⟨k2, hk2, rfl, hat, hbl⟩ := hrel
        have HA5 := hid hat; have HB5 := hid hbl
        clear hat hbl HW4 HB4
        by_cases hlt2 : k2 < n2
        · obtain ⟨b, o, rfl, _, hfat⟩ := H2.out.at_ (by omega)
          obtain ⟨kk, y, bb, B, cc, q1, q7, q8, q9, hc⟩ := lput_at (hfat k2 hlt2) HB5.out HOF.out HS2.out
          have HLP := hid (hc _ HA5.out (by simp [WS.len]))
          clear hfat q1 hc
          go_wp2_with (go_at_call 12; refine HLP.out.mono ?_; rintro e w3 ⟨rfl, hw3, ho3⟩; rw [fStep_bad] at hw3; have HW3 := hid hw3; have HO3 := hid ho3; clear hw3 ho3)
          go_roundw
          case rel => exact ⟨k2 + 1, by omega, by go_num, HW3.out, HB5.out.trans (HO3.out.below HB5.out.size HOF.out)⟩
          case measure => simp [intOf]; omega
        · have HOut := hid (Out_bad _ _ HA5.out)
          go_wp2_with (go_at_call 13; refine HOut.out.mono ?_; rintro e w5 ⟨rfl, rfl⟩)
          go_ret
          exact ⟨rfl, HB5.out⟩

set_option maxRecDepth 5000 in
set_option maxHeartbeats 4000000 in
theorem spoiled_3 (A1 A2 : Option Addr) (n1 n2 c1 c2 : Nat) (l1 l2 : List (Int × Int × List Int)) (x : Int) (w : World) (h1 : InL w A1 n1 l1) (h2 : InL w A2 n2 l2) (hx : 0 ≤ x ∧ x < 4294967296) (hf1 : few l1 60 = true) (hf2 : few l2 60 = true) (hmod : x % 4 = 3) :
    Calls Try.prog 7 #[.slice A1 n1 c1, .slice A2 n2 c2, .int .u32 x] w fun e w' => e = .returned (.bool true) ∧ Below w.heap.size w w' := by
  obtain ⟨hx0, hx1⟩ := hx
  obtain ⟨hl1, hs1⟩ := few_all hf1 (by omega)
  obtain ⟨hl2, hs2⟩ := few_all hf2 (by omega)
  have hn1 : n1 ≤ 60 := by have := h1.1; omega
  have hn2 : n2 ≤ 60 := by have := h2.1; omega
  have H1 := hid h1; have H2 := hid h2
  have HS1 := hid hs1; have HS2 := hid hs2; have HL1 := hid hl1; have HL2 := hid hl2
  obtain ⟨Z, hz, hz0, z0, z1, z2, z3, z4, hZs⟩ := zero_writer
  have tok2 : True := trivial
  clear h1 h2 hs1 hs2 hl1 hl2
  go_enter Try.func7, Try.ntmps7
  go_wp2_with (first
    | (go_at_call 9; refine (awake_any _).mono ?_; rintro e w1 ⟨rfl, hb1⟩; have HB1 := hid hb1; clear hb1)
    | (go_at_call 10; have _t := tok2; refine (Few_any A1 n1 c1 l1 60 _ (H1.out.below HB1.out) (by omega)).mono ?_; rintro e w2 ⟨rfl, rfl⟩; clear tok2)
    | (go_at_call 10; refine (Few_any A2 n2 c2 l2 60 _ (H2.out.below HB1.out) (by omega)).mono ?_; rintro e w2 ⟨rfl, rfl⟩))
  have hw0 : WRep (w1.alloc (.cells Z 30)) (some ⟨w1.heap.size, 0, none⟩) (.good []) := ⟨_, rfl, new_writer (Blk.new w1 30 Z) hz z0.out z1.out z2.out z3.out⟩
  have hb0 : Below w.heap.size w (w1.alloc (.cells Z 30)) := HB1.out.alloc HB1.out.size _
  obtain ⟨g, hg⟩ : ∃ g, g = w1.heap.size := ⟨_, rfl⟩
  rw [← hg] at hw0 ⊢
  have HOF : Hid (∀ k, Of (some ⟨g, 0, none⟩) k → w.heap.size ≤ k) := by
    have := HB1.out.size
    rintro k ⟨a, ha, rfl⟩; injection ha with ha; subst ha; show _ ≤ g; omega
  have HW0 := hid hw0; have HB0 := hid hb0
  clear hw0 hb0 hg
  generalize w1.alloc (.cells Z 30) = W0 at HW0 HB0 ⊢
  clear HB1
  go_loopw [8] (fun i wr => ∃ k : Nat, k ≤ n1 ∧ i = .int .i64 k ∧ WRep wr (some ⟨g, 0, none⟩) (stAfter (.good []) (l1.take k)) ∧ Below w.heap.size w wr) (fun i _ => n1 - (intOf i).toNat)
  case atStart => exact ⟨0, by omega, rfl, HW0.out, HB0.out⟩
  case round =>
    obtain ⟨k, hk, rfl, hat, hbl⟩ := hrel
    have HA := hid hat; have HB := hid hbl
    clear hat hbl HW0 HB0
    by_cases hlt : k < n1
    · obtain ⟨b, o, rfl, _, hfat⟩ := H1.out.at_ (by omega)
      obtain ⟨kk, y, bb, B, cc, q1, q7, q8, q9, hc⟩ := lput_at (hfat k hlt) HB.out HOF.out HS1.out
      have HLP := hid (hc _ HA.out (len_good HL1.out HS1.out k))
      have Q1 := hid q1
      clear hfat q1 hc
      go_wp2_with (go_at_call 12; refine HLP.out.mono ?_; rintro e w3 ⟨rfl, hw3, ho3⟩; have HW3 := hid hw3; have HO3 := hid ho3; clear hw3 ho3)
      go_roundw
      case rel => exact ⟨k + 1, by omega, by go_num, by rw [stAfter_take _ _ _ _ _ _ Q1.out]; exact HW3.out, HB.out.trans (HO3.out.below HB.out.size HOF.out)⟩
      case measure => simp [intOf]; omega
    · have hkn : k = n1 := by omega
      have HST := hid (some_stAfter (l1.take k) (st := .good []) trivial)
      have HSL := hid (len_good HL1.out HS1.out k)
      obtain ⟨st, hst⟩ : ∃ st, st = stAfter (.good []) (l1.take k) := ⟨_, rfl⟩
      rw [← hst] at HA HST HSL
      clear hst
      have hmk : ∀ u : World, (Instr.makeSlice 33 (.int .i64 8193) (.int .i64 8193)).run Try.prog u = .ok (.slice (some ⟨u.heap.size, 0, none⟩) 8193 8193) (u.alloc (.cells (List.replicate 8193 (Value.int .u8 0)).toArray 5)) := fun u => make_bytes 8193 (by omega) u
      obtain ⟨zs, hzs⟩ : ∃ zs, zs = (List.replicate 8193 (Value.int .u8 0)).toArray := ⟨_, rfl⟩
      rw [← hzs] at hmk
      have hlen : (List.replicate 8193 (0 : Int)).length = 8193 := List.length_replicate
      have hup : st.str (List.replicate 8193 (0 : Int)) = .bad := by unfold WS.str; rw [hlen, if_pos (by omega)]; exact some_spoil HST.out
      have hrp : Rp (wr.alloc (.cells zs 5)) (some ⟨g, 0, none⟩) (some ⟨wr.heap.size, 0, none⟩) (List.replicate 8193 (0 : Int)) := fun _ => by
        refine ⟨_, rfl, fun ho => absurd (HA.out.lt ho) (Nat.lt_irrefl _), fun j hj => ?_⟩
        have e : (⟨wr.heap.size, 0, none⟩ : Addr).add j = ⟨wr.heap.size, j, none⟩ := by rw [Addr.add_lit, Nat.zero_add]
        rw [hlen] at hj
        rw [e, (Blk.new wr 5 zs).cell, hzs, List.getElem?_toArray, List.getElem?_replicate, if_pos hj, List.getElem?_replicate, if_pos hj]
        rfl
      have hc := WString_any (some ⟨g, 0, none⟩) st (some ⟨wr.heap.size, 0, none⟩) 8193 (List.replicate 8193 (0 : Int)) _ (HA.out.alloc (.cells zs 5)) hrp (by rw [hlen]; omega) (by have := HSL.out; omega)
      rw [hup, hlen] at hc
      have HC := hid hc
      clear hup hc hrp hlen hzs
      go_wp2_with (go_at_call 26; refine HC.out.mono ?_; rintro e w4 ⟨rfl, hw4, ho4⟩; have HW4 := hid hw4; have HB4 := hid ((HB.out.alloc HB.out.size _).trans (ho4.below (by rw [size_alloc]; exact Nat.le_succ_of_le HB.out.size) HOF.out)); clear hw4 ho4)
      go_loopw [9] (fun i wr => ∃ k : Nat, k ≤ n2 ∧ i = .int .i64 k ∧ WRep wr (some ⟨g, 0, none⟩) .bad ∧ Below w.heap.size w wr) (fun i _ => n2 - (intOf i).toNat)
      case atStart => exact ⟨0, by omega, rfl, HW4.out, HB4.out⟩
      case round =>
        obtain ⟨k2, hk2, rfl, hat, hbl⟩ := hrel
        have HA5 := hid hat; have HB5 := hid hbl
        clear hat hbl HW4 HB4
        by_cases hlt2 : k2 < n2
        · obtain ⟨b, o, rfl, _, hfat⟩ := H2.out.at_ (by omega)
          obtain ⟨kk, y, bb, B, cc, q1, q7, q8, q9, hc⟩ := lput_at (hfat k2 hlt2) HB5.out HOF.out HS2.out
          have HLP := hid (hc _ HA5.out (by simp [WS.len]))
          clear hfat q1 hc
          go_wp2_with (go_at_call 12; refine HLP.out.mono ?_; rintro e w3 ⟨rfl, hw3, ho3⟩; rw [fStep_bad] at hw3; have HW3 := hid hw3; have HO3 := hid ho3; clear hw3 ho3)
          go_roundw
          case rel => exact ⟨k2 + 1, by omega, by go_num, HW3.out, HB5.out.trans (HO3.out.below HB5.out.size HOF.out)⟩
          case measure => simp [intOf]; omega
        · have HOut := hid (Out_bad _ _ HA5.out)
          go_wp2_with (go_at_call 13; refine HOut.out.mono ?_; rintro e w5 ⟨rfl, rfl⟩)
          go_ret
          exact ⟨rfl, HB5.out⟩
end Go.Proofs.Ytmdclicomneomaa
