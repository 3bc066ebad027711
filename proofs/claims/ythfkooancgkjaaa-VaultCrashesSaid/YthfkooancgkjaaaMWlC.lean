/-
  What this file is for: what a torn page of a log can be; which records are found behind a crash. Nothing of the program is walked here.
-/
import Derived.Test.YthfkooancgkjaaaMWlM
set_option linter.unusedSimpArgs false
set_option linter.unusedVariables false
namespace Go.Proofs.Ythfkooancgkjaaa
open Go.ChangeShapes Go.WideShapes Go.ChangeAt Go.RowKit
set_option linter.unusedVariables false
set_option maxRecDepth 20000

theorem be4_low {g : Int} (h : 0 ≤ g ∧ g < 256) : be g 4 = [0, 0, 0, g] := by
  have e1 : g / 256 ^ 3 % 256 = 0 := by have : (256 : Int) ^ 3 = 16777216 := by decide
                                        rw [this]; omega
  have e2 : g / 256 ^ 2 % 256 = 0 := by have : (256 : Int) ^ 2 = 65536 := by decide
                                        rw [this]; omega
  have e3 : g / 256 ^ 1 % 256 = 0 := by have : (256 : Int) ^ 1 = 256 := by decide
                                        rw [this]; omega
  have e4 : g / 256 ^ 0 % 256 = g := by have : (256 : Int) ^ 0 = 1 := by decide
                                        rw [this]; omega
  show [g / 256 ^ 3 % 256, g / 256 ^ 2 % 256, g / 256 ^ 1 % 256, g / 256 ^ 0 % 256] = _
  rw [e1, e2, e3, e4]
theorem mk_low {g p : Int} (h : 0 ≤ g ∧ g < 256) : mk g p = 0 :: 0 :: 0 :: g :: be p 4 := by unfold mk; rw [be4_low h]; rfl
theorem wpg_at {g p kd : Int} {b : List Int} (h : b.length ≤ 110) {j : Nat} (hj : j < 8) : (wpg g p kd b)[j]? = (mk g p)[j]? ∧ (wpg g p kd b)[120 + j]? = (mk g p)[j]? := by
  refine ⟨?_, ?_⟩
  · rw [← wpg_front g p kd b, List.getElem?_take, if_pos hj]
  · rw [← wpg_back (g := g) (p := p) (kd := kd) h, List.getElem?_drop]
/-- a page that a log with generations up to g may have left -/
structure Cg (g : Int) (X : List Int) : Prop where
  len : X.length = 128
  bs : Bs X
  z1 : ∀ j, j < 3 → X[j]? = some 0
  z2 : ∀ j, j < 3 → X[120 + j]? = some 0
  f : ∃ a, X[3]? = some a ∧ a ≤ g
  t : ∃ a, X[123]? = some a ∧ a ≤ g
theorem Cg.more {g g' : Int} {X : List Int} (h : Cg g X) (hg : g ≤ g') : Cg g' X := by
  obtain ⟨h1, h2, h3, h4, ⟨a, h5, h6⟩, ⟨c, h7, h8⟩⟩ := h
  exact ⟨h1, h2, h3, h4, ⟨a, h5, by omega⟩, ⟨c, h7, by omega⟩⟩
theorem cg_front {g : Int} {X : List Int} (h : Cg g X) : ∃ a, X.take 4 = [0, 0, 0, a] ∧ X[3]? = some a ∧ a ≤ g := by
  obtain ⟨a, h5, h6⟩ := h.f
  refine ⟨a, ?_, h5, h6⟩
  apply List.ext_getElem?
  intro j
  rw [List.getElem?_take]
  match j with
  | 0 => simpa using h.z1 0 (by omega)
  | 1 => simpa using h.z1 1 (by omega)
  | 2 => simpa using h.z1 2 (by omega)
  | 3 => simpa using h5
  | j + 4 => rw [if_neg (by omega)]; rfl
theorem val_low (a : Int) : val [0, 0, 0, a] = a := by simp [val]
/-- what such a page tells has a generation of those -/
theorem cg_rt {g : Int} {X : List Int} (h : Cg g X) {p l g' kd : Int} {b : List Int} (hr : rt X p l = some (g', kd, b)) : g' ≤ g := by
  obtain ⟨a, h1, h2, h3⟩ := cg_front h
  have := (rt_some hr).2.1
  rw [h1, val_low] at this
  omega
theorem cg_wpg {g p kd : Int} {b : List Int} (hg : 0 ≤ g ∧ g < 256) (hk : 0 ≤ kd ∧ kd ≤ 3) (hl : b.length ≤ 110) (hb : Bs b) : Cg g (wpg g p kd b) := by
  have hm := mk_low (p := p) hg
  refine ⟨wpg_len hl, wpg_bs (by omega) hl hb, fun j hj => ?_, fun j hj => ?_, ⟨g, ?_, Int.le_refl _⟩, ⟨g, ?_, Int.le_refl _⟩⟩
  · rw [(wpg_at hl (by omega)).1, hm]
    match j, hj with
    | 0, _ => rfl
    | 1, _ => rfl
    | 2, _ => rfl
  · rw [(wpg_at hl (by omega)).2, hm]
    match j, hj with
    | 0, _ => rfl
    | 1, _ => rfl
    | 2, _ => rfl
  · rw [(wpg_at hl (by omega)).1, hm]; rfl
  · rw [show 123 = 120 + 3 from rfl, (wpg_at hl (by omega)).2, hm]; rfl
theorem torn_w {g p kd : Int} {b O : List Int} {t : Nat} (hg : 1 ≤ g ∧ g < 256) (hk : 0 ≤ kd ∧ kd ≤ 3) (hl : b.length ≤ 110) (hb : Bs b) (hO : Cg (g - 1) O) (ht : t ≤ 128) :
    (mx O (wpg g p kd b) t = O ∨ mx O (wpg g p kd b) t = wpg g p kd b ∨ ∀ l, rt (mx O (wpg g p kd b) t) p l = none) ∧ Cg g (mx O (wpg g p kd b) t) := by
  have hN := cg_wpg (p := p) (kd := kd) (by omega : 0 ≤ g ∧ g < 256) hk hl hb
  have hO' := hO.more (show g - 1 ≤ g by omega)
  have hat : ∀ j, (mx O (wpg g p kd b) t)[j]? = if j < t then (wpg g p kd b)[j]? else O[j]? := fun j => cat_at _ _ (by rw [hN.len, hO.len]) t j
  have hC : Cg g (mx O (wpg g p kd b) t) := by
    refine ⟨mx_length hO.len hN.len ht, mx_bs hO.bs hN.bs t, fun j hj => ?_, fun j hj => ?_, ?_, ?_⟩
    · rw [hat]; split
      · exact hN.z1 j hj
      · exact hO.z1 j hj
    · rw [hat]; split
      · exact hN.z2 j hj
      · exact hO.z2 j hj
    · rw [hat]; split
      · exact hN.f
      · exact hO'.f
    · rw [hat]; split
      · exact hN.t
      · exact hO'.t
  refine ⟨?_, hC⟩
  by_cases h3 : t ≤ 3
  · left
    apply List.ext_getElem?
    intro j
    rw [hat]
    split
    · rw [hN.z1 j (by omega), hO.z1 j (by omega)]
    · rfl
  · by_cases heq : mx O (wpg g p kd b) t = wpg g p kd b
    · exact .inr (.inl heq)
    · right; right
      intro l
      cases hr : rt (mx O (wpg g p kd b) t) p l with
      | none => rfl
      | some y =>
        exfalso
        obtain ⟨g', kd', b'⟩ := y
        obtain ⟨_, h2, _, h4, h5⟩ := rt_some hr
        have hm := mk_low (p := p) (by omega : 0 ≤ g ∧ g < 256)
        have hg' : g' = g := by
          obtain ⟨a, e1, e2, _⟩ := cg_front hC
          rw [e1, val_low] at h2
          rw [hat, if_pos (by omega), (wpg_at hl (by omega)).1, hm] at e2
          have e3 : g = a := by injection e2
          omega
        subst hg'
        have hback : (mx O (wpg g' p kd b) t).drop 120 = mk g' p := by rw [h5]; exact wpg_back h4
        by_cases h123 : t ≤ 123
        · obtain ⟨a, e1, e2⟩ := hO.t
          have e3 := congrArg (fun z => z[3]?) hback
          simp only [List.getElem?_drop] at e3
          rw [show 120 + 3 = 123 from rfl, hat, if_neg (by omega), e1, hm] at e3
          have : a = g' := by injection e3
          omega
        · apply heq
          apply List.ext_getElem?
          intro j
          by_cases hj : j < 120
          · rw [hat, if_pos (by omega)]
          · have e1 := congrArg (fun z => z[j - 120]?) hback
            have e2 := congrArg (fun z => z[j - 120]?) (wpg_back (g := g') (p := p) (kd := kd) hl)
            simp only [List.getElem?_drop] at e1 e2
            rw [show 120 + (j - 120) = j by omega] at e1 e2
            rw [e1, e2]

/-! Records as pages. -/
/-- all parts but the last one are full -/
def PtOk : List (List Int) → Prop
  | [] => False
  | [b] => b.length ≤ 110
  | b :: c :: r => b.length = 110 ∧ PtOk (c :: r)
/-- the pages of a record's parts, from page i on -/
def rpg (g : Int) : Nat → Bool → List (List Int) → List (List Int)
  | _, _, [] => []
  | i, first, [b] => [wpg g ((i : Int) + 1) (if first then 3 else 2) b]
  | i, first, b :: c :: r => wpg g ((i : Int) + 1) (if first then 1 else 0) b :: rpg g (i + 1) false (c :: r)
theorem rpg_len (g : Int) : ∀ (parts : List (List Int)) (i : Nat) (first : Bool), (rpg g i first parts).length = parts.length
  | [], _, _ => rfl
  | [b], _, _ => rfl
  | b :: c :: r, i, first => by
    show (rpg g (i + 1) false (c :: r)).length + 1 = _
    rw [rpg_len g (c :: r)]; rfl
def Dead (g : Int) (Z : Nat → List Int) (k : Nat) : Prop := ∀ l, g ≤ l → rt (Z k) ((k : Int) + 1) l = none
/-- all of it is there, or it isn't found -/
theorem nx_rpg {g : Int} (hg : 0 ≤ g ∧ g < 4294967296) {Z : Nat → List Int} : ∀ (parts : List (List Int)) (i f : Nat) (l : Int) (first : Bool) (acc : List Int), PtOk parts → l ≤ g → (first = false → l = g) → parts.length ≤ f → (acc ++ parts.flatten).length ≤ 6000 →
    ((∀ j, j < parts.length → Z (i + j) = (rpg g i first parts)[j]?.getD []) → nx Z f i l first acc = some (acc ++ parts.flatten, i + parts.length, g)) ∧
    (l = g → (∀ j, j < parts.length → Z (i + j) = (rpg g i first parts)[j]?.getD [] ∨ Dead g Z (i + j)) → nx Z f i l first acc = some (acc ++ parts.flatten, i + parts.length, g) ∨ nx Z f i l first acc = none)
  | [], i, f, l, first, acc, h, _, _, _, _ => h.elim
  | [b], i, 0, l, first, acc, h, _, _, hf, _ => by simp at hf
  | [b], i, f + 1, l, first, acc, h, hl, hfl, hf, h6 => by
    have key : Z i = wpg g ((i : Int) + 1) (if first then 3 else 2) b → nx Z (f + 1) i l first acc = some (acc ++ [b].flatten, i + 1, g) := fun e => by
      have hr := rt_wpg (p := (i : Int) + 1) (kd := if first then 3 else 2) hg hl (by split <;> omega) (show b.length ≤ 110 from h) (fun _ => by split <;> omega)
      unfold nx
      rw [e, hr]
      simp only
      rw [if_neg, if_pos (by split <;> omega)]
      · simp
      · rintro (h1 | h1 | h1)
        · cases first <;> simp at h1
        · exact h1.2 (hfl h1.1).symm
        · simp at h6; simp at h1; omega
    refine ⟨fun h1 => key (h1 0 (by simp)), fun hlg h1 => ?_⟩
    rcases h1 0 (by simp) with h2 | h2
    · exact .inl (key h2)
    · right
      unfold nx
      rw [show Z i = Z (i + 0) from rfl, show ((i : Int) + 1) = (((i + 0 : Nat) : Int) + 1) by simp, h2 l (by omega)]
  | b :: c :: r, i, 0, l, first, acc, h, _, _, hf, _ => by simp at hf
  | b :: c :: r, i, f + 1, l, first, acc, h, hl, hfl, hf, h6 => by
    have h6' : ((acc ++ b) ++ (c :: r).flatten).length ≤ 6000 := by simpa [List.append_assoc] using h6
    have ih := nx_rpg hg (Z := Z) (c :: r) (i + 1) f g false (acc ++ b) h.2 (Int.le_refl _) (fun _ => rfl) (by simpa using hf) h6'
    have step : Z i = wpg g ((i : Int) + 1) (if first then 1 else 0) b → nx Z (f + 1) i l first acc = nx Z f (i + 1) g false (acc ++ b) := fun e => by
      have hr := rt_wpg (p := (i : Int) + 1) (kd := if first then 1 else 0) (b := b) hg hl (by split <;> omega) (by have := h.1; omega) (fun h9 => by have := h.1; omega)
      conv => lhs; unfold nx
      rw [e, hr]
      simp only
      rw [if_neg, if_neg (by split <;> omega)]
      rintro (h1 | h1 | h1)
      · cases first <;> simp at h1
      · exact h1.2 (hfl h1.1).symm
      · simp at h6; simp at h1; omega
    have e1 : acc ++ (b :: c :: r).flatten = (acc ++ b) ++ (c :: r).flatten := by simp [List.append_assoc]
    have e2 : i + (b :: c :: r).length = (i + 1) + (c :: r).length := by simp; omega
    have z0 : ∀ x, Z (i + 0) = x → Z i = x := fun x h => h
    have sh : ∀ j, (rpg g i first (b :: c :: r))[j + 1]?.getD [] = (rpg g (i + 1) false (c :: r))[j]?.getD [] := fun j => rfl
    refine ⟨fun h1 => ?_, fun hlg h1 => ?_⟩
    · rw [step (z0 _ (h1 0 (by simp))), e1, e2]
      exact ih.1 (fun j hj => by
        have := h1 (j + 1) (by simpa using hj)
        rw [sh] at this
        rw [← this]; congr 1; omega)
    · rcases h1 0 (by simp) with h2 | h2
      · rw [step (z0 _ h2), e1, e2]
        exact ih.2 rfl (fun j hj => by
          have := h1 (j + 1) (by simpa using hj)
          rw [sh, show i + (j + 1) = i + 1 + j by omega] at this
          exact this)
      · right
        unfold nx
        rw [show Z i = Z (i + 0) from rfl, show ((i : Int) + 1) = (((i + 0 : Nat) : Int) + 1) by simp, h2 l (by omega)]
end Go.Proofs.Ythfkooancgkjaaa
