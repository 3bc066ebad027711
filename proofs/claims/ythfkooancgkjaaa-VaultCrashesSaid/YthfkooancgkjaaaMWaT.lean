/-
  What is proved here: what the code takes from a page: place, generation, kind and part, if it is formed as a record's page is.
-/
import Derived.Test.YthfkooancgkjaaaMWa3
import Derived.Test.YthfkooancgkjaaaMC1
import Derived.Test.YthfkooancgkjaaaMSlT
set_option linter.unusedSimpArgs false
set_option linter.unusedVariables false
namespace Go.Proofs.Ythfkooancgkjaaa
open Go.ChangeShapes Go.WideShapes Go.ChangeAt Go.RowKit
set_option linter.unusedVariables false
set_option maxRecDepth 20000

theorem ru8_as {p : Option Addr} {st st1 : RS} {w : World} {a : Int} (h : RRep w p st) (e : st.num 1 255 = (a, st1)) :
    Calls Try.prog 79 #[.pointer p] w fun e w' => e = .returned (.int .i64 a) ∧ RRep w' p st1 ∧ OnlyS (Of p) w w' := by
  have := RU8_any p st w h; rw [e] at this; exact this
theorem rplw_as {p : Option Addr} {st st1 : RS} {w : World} {v : List Int} {k : Int} {n : Nat} (h : RRep w p st) (e : st.plain k = (v, st1)) (hn : n = v.length) :
    Calls Try.prog 71 #[.pointer p, .int .i64 k] w fun e w' => ∃ A' c', e = .returned (.slice A' n c') ∧ Fresh w w' A' v ∧ RRep w' p st1 ∧ OnlyS (Of p) w w' := by
  have := RPlain_any p st k w h; rw [e] at this; rw [hn]
  exact this.mono fun e w' ⟨A', c', h1, _, h4, h2, h3⟩ => ⟨A', c', h1, h4, h2, h3⟩
theorem plain_ok (l : List Int) (n : Nat) (h : n ≤ l.length) : (RS.got false l).plain n = (l.take n, .got false (l.drop n)) := by
  unfold RS.plain
  simp only
  rw [if_neg (by omega), Int.toNat_natCast]
theorem plain_bad (l : List Int) (k : Int) (h : k < 0 ∨ (l.length : Int) < k) : (RS.got false l).plain k = ([], .got true l) := by
  unfold RS.plain
  simp only
  rw [if_pos h]
theorem plain_fail (l : List Int) (k : Int) : (RS.got true l).plain k = ([], .got true l) := rfl
theorem val_one (x : Int) : val [x] = x := by simp [val]
theorem one8 {X : List Int} (hX : X.length = 128) : (X.drop 8).take 1 = [b8 X] ∧ (X.drop 9).take 1 = [b9 X] := by
  have h8 : 8 < X.length := by omega
  have h9 : 9 < X.length := by omega
  constructor
  · rw [List.drop_eq_getElem_cons h8]; unfold b8; rw [List.getElem?_eq_getElem h8]; rfl
  · rw [List.drop_eq_getElem_cons h9]; unfold b9; rw [List.getElem?_eq_getElem h9]; rfl
/-- what the fields of a page are, one behind the other -/
theorem takew_math (X : List Int) (hX : X.length = 128) (hb : Bs X) : ∃ a st1 kd st2 sz st3 v st4 r st5 z st6 dn,
    (RS.got false X).num 8 18446744073709551615 = (a, st1) ∧ st1.num 1 255 = (kd, st2) ∧ st2.num 1 255 = (sz, st3) ∧ st3.plain sz = (v, st4) ∧ st4.plain (110 - sz) = (r, st5) ∧ st5.num 8 18446744073709551615 = (z, st6) ∧ st6.done = dn ∧
    (0 ≤ a ∧ a < 18446744073709551616) ∧ (0 ≤ z ∧ z < 18446744073709551616) ∧ (0 ≤ kd ∧ kd < 256) ∧ (0 ≤ sz ∧ sz < 256) ∧ r.length ≤ 110 ∧
    tkw X = if dn = true ∧ a = z ∧ kd ≤ 3 ∧ oth r = false ∧ (sz = 110 ∨ 2 ≤ kd) then some (a % 4294967296, a / 4294967296, kd, v) else none := by
  obtain ⟨v1, v3⟩ := val8 hX hb
  obtain ⟨h8, h9⟩ := b8_bs hb
  obtain ⟨o8, o9⟩ := one8 hX
  have h1 := num_ok X 8 18446744073709551615 (by omega) (by omega)
  have h2 := num_ok (X.drop 8) 1 255 (by rw [List.length_drop]; omega) (by rw [o8, val_one]; omega)
  rw [o8, val_one, List.drop_drop] at h2
  have h3 := num_ok (X.drop 9) 1 255 (by rw [List.length_drop]; omega) (by rw [o9, val_one]; omega)
  rw [o9, val_one, List.drop_drop] at h3
  obtain ⟨n, hn⟩ : ∃ n : Nat, b9 X = n := ⟨(b9 X).toNat, by omega⟩
  rw [hn] at h3
  by_cases hle : n ≤ 110
  · have h4 := plain_ok (X.drop 10) n (by rw [List.length_drop]; omega)
    rw [List.drop_drop] at h4
    have h5 := plain_ok (X.drop (10 + n)) (110 - n) (by rw [List.length_drop]; omega)
    rw [List.drop_drop, show 10 + n + (110 - n) = 120 by omega, show (((110 - n : Nat) : Nat) : Int) = 110 - (n : Int) by omega] at h5
    have ht : (X.drop 120).take 8 = X.drop 120 := List.take_of_length_le (by rw [List.length_drop]; omega)
    have h6 := num_ok (X.drop 120) 8 18446744073709551615 (by rw [List.length_drop]; omega) (by rw [ht]; omega)
    rw [ht] at h6
    refine ⟨_, _, _, _, _, _, _, _, _, _, _, _, true, h1, h2, h3, h4, h5, h6, ?_, v1, v3, h8, by omega, by rw [List.length_take, List.length_drop]; omega, ?_⟩
    · unfold RS.done
      simp [RS.fails, RS.left, List.length_drop, hX]
    · unfold tkw
      rw [hn, Int.toNat_natCast]
      by_cases hc : val (X.take 8) = val (X.drop 120) ∧ b8 X ≤ 3 ∧ (n : Int) ≤ 110 ∧ (∀ y ∈ (X.drop (10 + n)).take (110 - n), y = 0) ∧ ((n : Int) = 110 ∨ 2 ≤ b8 X)
      · rw [if_pos hc, if_pos]
        exact ⟨rfl, hc.1, hc.2.1, (oth_iff _).2 hc.2.2.2.1, hc.2.2.2.2⟩
      · rw [if_neg hc, if_neg]
        rintro ⟨_, k1, k2, k3, k4⟩
        exact hc ⟨k1, k2, by omega, (oth_iff _).1 k3, k4⟩
  · have ho : tkw X = none := by
      unfold tkw
      rw [if_neg]
      rintro ⟨_, _, h, _⟩
      omega
    by_cases h118 : n ≤ 118
    · have h4 := plain_ok (X.drop 10) n (by rw [List.length_drop]; omega)
      rw [List.drop_drop] at h4
      refine ⟨_, _, _, _, _, _, _, _, _, _, _, _, false, h1, h2, h3, h4, plain_bad _ _ (.inl (by omega)), num_fail _ _ _, rfl, v1, by decide, h8, by omega, by simp, ?_⟩
      rw [ho, if_neg (by rintro ⟨h, _⟩; cases h)]
    · refine ⟨_, _, _, _, _, _, _, _, _, _, _, _, false, h1, h2, h3, plain_bad _ _ (.inr (by rw [List.length_drop]; omega)), plain_fail _ _, num_fail _ _ _, rfl, v1, by decide, h8, by omega, by simp, ?_⟩
      rw [ho, if_neg (by rintro ⟨h, _⟩; cases h)]
theorem only4 (w : World) (g : Nat) (a b c d : Value) : OnlyS (fun k => k = g) w ((((w.setCell ⟨g, 0, none⟩ a).setCell ⟨g, 1, none⟩ b).setCell ⟨g, 2, none⟩ c).setCell ⟨g, 3, none⟩ d) :=
  (((only_set (R := fun k => k = g) rfl 0 a).trans (only_set (R := fun k => k = g) rfl 1 b)).trans (only_set (R := fun k => k = g) rfl 2 c)).trans (only_set (R := fun k => k = g) rfl 3 d)
theorem results_cell_slot {P : Program} {fn : Func} {p q : Tmp} {ty : TypeId} (h : fn.results = #[.cell p ty, .tmp q]) (tmps : Array Value) (w : World) (g : Nat) (t : TypeId) (cs : Array Value) (fr : Nat × Nat) (d : TypeDesc)
    (hp : tmps.getD p undef = .pointer (some ⟨g, 0, none⟩)) (hg : w.heap[g]? = some (.cells cs t fr))
    (hu : P.underlying ty = some d) (hd : (match d with | .struct _ | .array _ _ => true | _ => false) = true) (hi : (P.info? ty).map (·.size) = some cs.size) :
    (results fn tmps).run P w = .ok (.tuple #[.agg cs, tmps.getD q undef]) w := by
  have hp' : tmps[p]?.getD undef = .pointer (some ⟨g, 0, none⟩) := by simpa using hp
  simp [results, h, hp', asAddr, run_loadVar_row w g t ty cs fr d hg hu hd hi]
/-- what Take answers -/
def TkA (w : World) (o : Option (Int × Int × Int × List Int)) (e : Ending) (w' : World) : Prop :=
  match o with
  | none => e = .returned (.tuple #[.agg #[.int .u32 0, .int .u32 0, .int .i64 0, .slice none 0 0], .bool false]) ∧ Below w.heap.size w w'
  | some (q, g, kd, b) => ∃ V m c, e = .returned (.tuple #[.agg #[.int .u32 q, .int .u32 g, .int .i64 kd, .slice V m c], .bool true]) ∧ m = b.length ∧ Fresh w w' V b ∧ Below w.heap.size w w'
set_option maxHeartbeats 4000000 in
theorem wtake_any (A : Option Addr) (c : Nat) (X : List Int) (w : World) (hr : Rp w none A X) (hX : X.length = 128) (hb : Bs X) :
    Calls Try.prog 74 #[.slice A 128 c] w (TkA w (tkw X)) := by
  obtain ⟨a, st1, kd, st2, sz, st3, v, st4, r, st5, z, st6, dn, h1, h2, h3, h4, h5, h6, h7, ha, hz, hkd, hsz, hrl, hres⟩ := takew_math X hX hb
  have hi : Hid ((Try.prog.info? 123).map (·.size) = some 4) := by show _ = _; kernel_rfl
  have hw0 : Rp (w.alloc (.cells #[.int .u32 0, .int .u32 0, .int .i64 0, .slice none 0 0] 123)) none A X := hr.belowN ((Below.refl w.heap.size w).alloc (Nat.le_refl _) _)
  have hcn := New_any A c X (w.alloc (.cells #[.int .u32 0, .int .u32 0, .int .i64 0, .slice none 0 0] 123)) hw0 (by omega) hb
  rw [hX] at hcn
  have CN := hid hcn
  have B0 : Hid (Below w.heap.size w (w.alloc (.cells #[.int .u32 0, .int .u32 0, .int .i64 0, .slice none 0 0] 123))) := (Below.refl _ _).alloc (Nat.le_refl _) _
  have PB0 := hid (Blk.new w 123 #[.int .u32 0, .int .u32 0, .int .i64 0, .slice none 0 0])
  have SZ0 : Hid ((w.alloc (.cells #[.int .u32 0, .int .u32 0, .int .i64 0, .slice none 0 0] 123)).heap.size = w.heap.size + 1) := by show _ = _; simp
  obtain ⟨m, hm⟩ : ∃ m, m = v.length := ⟨_, rfl⟩
  obtain ⟨k, hk⟩ : ∃ k, k = r.length := ⟨_, rfl⟩
  have hk110 : k ≤ 110 := by omega
  have H1 := hid h1; have H2 := hid h2; have H3 := hid h3; have H4 := hid h4; have H5 := hid h5; have H6 := hid h6; have H7 := hid h7; have HM := hid hm; have HK := hid hk
  rw [hres]
  clear h1 h2 h3 h4 h5 h6 h7 hm hk hres hr hX hb hcn hrl hw0
  have s1 : IntKind.u32.wrap a = a % 4294967296 := rfl
  have s2 : IntKind.u32.wrap (a / 4294967296) = a / 4294967296 := by rw [(show ∀ x, IntKind.u32.wrap x = x % 4294967296 by intro x; rfl)]; omega
  obtain ⟨ha0, ha1⟩ := ha
  obtain ⟨hz0, hz1⟩ := hz
  obtain ⟨hkd0, hkd1⟩ := hkd
  obtain ⟨hsz0, hsz1⟩ := hsz
  by_cases c1 : dn = true
  · subst c1
    by_cases c2 : a = z
    · subst c2
      have g2 : (a != a) = false := by simp
      by_cases c3 : kd ≤ 3
      · have g3 : ¬ 3 < kd := by omega
        have hw2 := and_two kd ⟨hkd0, c3⟩
        by_cases c4 : oth r = false
        · rw [c4]
          by_cases c5 : sz = 110
          · have g5 : (sz != 110) = false := by simpa using c5
            rw [if_pos ⟨rfl, rfl, c3, rfl, .inl c5⟩]
            clear c5
            go_enter Try.func74, Try.ntmps74
            go_wp2_with (first
              | (go_at_call 36; refine CN.out.mono ?_; rintro e w1 ⟨g, rfl, hg, hrep, hb1⟩; have HG := hid hg; have BB1 := hid hb1; have BS1 := hid (hrep.lt ⟨_, rfl, rfl⟩); have C1 := hid (ru64_as hrep H1.out); clear hg hrep hb1)
              | (go_at_call 69; (with_reducible refine C1.out.mono ?_); rintro e w2 ⟨rfl, hrep, ho⟩; have BB2 := hid (BB1.out.trans (ho.below BB1.out.size (of_lt HG.out))); have BS2 := hid (show g < w2.heap.size from Nat.lt_of_lt_of_le BS1.out ho.size); have C2 := hid (ru8_as hrep H2.out); clear hrep ho)
              | (go_at_call 79; (with_reducible refine C2.out.mono ?_); rintro e w3 ⟨rfl, hrep, ho⟩; have BB3 := hid (BB2.out.trans (ho.below BB2.out.size (of_lt HG.out))); have BS3 := hid (show g < w3.heap.size from Nat.lt_of_lt_of_le BS2.out ho.size); have C3 := hid (ru8_as hrep H3.out); clear hrep ho)
              | (go_at_call 79; (with_reducible refine C3.out.mono ?_); rintro e w4 ⟨rfl, hrep, ho⟩; have BB4 := hid (BB3.out.trans (ho.below BB3.out.size (of_lt HG.out))); have BS4 := hid (show g < w4.heap.size from Nat.lt_of_lt_of_le BS3.out ho.size); have C4 := hid (rplw_as hrep H4.out HM.out); clear hrep ho)
              | (go_at_call 71; (with_reducible refine C4.out.mono ?_); rintro e w5 ⟨V, cv, rfl, hf, hrep, ho⟩; have F5 := hid hf; have BB5 := hid (BB4.out.trans (ho.below BB4.out.size (of_lt HG.out))); have BS5 := hid (show g < w5.heap.size from Nat.lt_of_lt_of_le BS4.out ho.size); have C5 := hid (rplw_as hrep H5.out HK.out); clear hrep ho hf)
              | (go_at_call 71; (with_reducible refine C5.out.mono ?_); rintro e w6 ⟨V6, c6, rfl, hf, hrep, ho⟩; have F6 := hid (F5.out.keep ho (fun k hk1 hk2 hk3 => by obtain ⟨a, e1, e2⟩ := hk3; injection e1 with e1; subst e1; have h9 := BS4.out; simp only at e2; omega)); have R6 := hid hf; have BB6 := hid (BB5.out.trans (ho.below BB5.out.size (of_lt HG.out))); have BS6 := hid (show g < w6.heap.size from Nat.lt_of_lt_of_le BS5.out ho.size); have C6 := hid (ru64_as hrep H6.out); clear hrep ho hf)
              | (go_at_call 69; (with_reducible refine C6.out.mono ?_); rintro e w7 ⟨rfl, hrep, ho⟩; have F7 := hid (F6.out.keep ho (fun k hk1 hk2 hk3 => by obtain ⟨a, e1, e2⟩ := hk3; injection e1 with e1; subst e1; have h9 := BS4.out; simp only at e2; omega)); have R7 := hid (R6.out.keep ho (fun k hk1 hk2 hk3 => by obtain ⟨a, e1, e2⟩ := hk3; injection e1 with e1; subst e1; have h9 := BS5.out; simp only at e2; omega)).rp0; have BB7 := hid (BB6.out.trans (ho.below BB6.out.size (of_lt HG.out))); have BS7 := hid (show g < w7.heap.size from Nat.lt_of_lt_of_le BS6.out ho.size); have C7 := hid (rdn_as hrep H7.out); have CX := hid (wcontains_any V6 k c6 r w7 R7.out HK.out (by omega)); have PB := PB0.out.same (BB7.out.block w.heap.size (by rw [SZ0.out]; omega)); have p0 := PB.cell 0; have p1 := PB.cell 1; have p2 := PB.cell 2; have p3 := PB.cell 3; have q0 := PB.frozen 0; have q1 := PB.frozen 1; have q2 := PB.frozen 2; have q3 := PB.frozen 3; have PB := hid PB; simp only [List.getElem?_toArray, List.getElem?_cons_zero, List.getElem?_cons_succ] at p0 p1 p2 p3; clear hrep ho)
              | (go_at_call 39; (with_reducible refine C7.out.mono ?_); rintro e wq ⟨rfl, rfl⟩)
              | (go_at_call 80; (with_reducible refine CX.out.mono ?_); rintro e wq ⟨rfl, rfl⟩))
            have N1 := (((PB.out.setd 0 (.int .u32 (a % 4294967296))).setd 1 (.int .u32 (a / 4294967296))).setd 2 (.int .i64 kd)).setd 3 (.slice V m cv)
            have OY : OnlyS (fun k => k = w.heap.size) w7 ((((w7.setCell ⟨w.heap.size, 0, none⟩ (.int .u32 (a % 4294967296))).setCell ⟨w.heap.size, 1, none⟩ (.int .u32 (a / 4294967296))).setCell ⟨w.heap.size, 2, none⟩ (.int .i64 kd)).setCell ⟨w.heap.size, 3, none⟩ (.slice V m cv)) := only4 _ _ _ _ _ _
            have B7 : Below w.heap.size w w7 := B0.out.trans (BB7.out.mono (by rw [SZ0.out]; omega))
            have B8 := hid (B7.trans (OY.below B7.size (fun k hk => by omega)))
            clear p0 p1 p2 p3 q0 q1 q2 q3
            have FX := hid ((F7.out.keep OY (fun k h1 h2 h3 => by have := BB4.out.size; rw [SZ0.out] at this; omega)).more (Nat.le_trans B0.out.size BB4.out.size))
            have HN := hid N1
            clear OY B7 N1
            try simp only [Exit.inBlock, Exit.then]
            refine bodyPost_ret (results_cell_slot Try.results74 _ _ w.heap.size 123 _ (0, 0) _ rfl HN.out Try.underlying123 rfl hi.out) rfl ?_
            exact ⟨V, m, cv, rfl, HM.out, FX.out, B8.out⟩
          · have g5 : (sz != 110) = true := by simpa using c5
            by_cases c6 : 2 ≤ kd
            · rw [if_pos ⟨rfl, rfl, c3, rfl, .inr c6⟩]
              rw [if_pos c6] at hw2
              go_enter Try.func74, Try.ntmps74
              go_wp2_with (first
                | (go_at_call 36; refine CN.out.mono ?_; rintro e w1 ⟨g, rfl, hg, hrep, hb1⟩; have HG := hid hg; have BB1 := hid hb1; have BS1 := hid (hrep.lt ⟨_, rfl, rfl⟩); have C1 := hid (ru64_as hrep H1.out); clear hg hrep hb1)
                | (go_at_call 69; (with_reducible refine C1.out.mono ?_); rintro e w2 ⟨rfl, hrep, ho⟩; have BB2 := hid (BB1.out.trans (ho.below BB1.out.size (of_lt HG.out))); have BS2 := hid (show g < w2.heap.size from Nat.lt_of_lt_of_le BS1.out ho.size); have C2 := hid (ru8_as hrep H2.out); clear hrep ho)
                | (go_at_call 79; (with_reducible refine C2.out.mono ?_); rintro e w3 ⟨rfl, hrep, ho⟩; have BB3 := hid (BB2.out.trans (ho.below BB2.out.size (of_lt HG.out))); have BS3 := hid (show g < w3.heap.size from Nat.lt_of_lt_of_le BS2.out ho.size); have C3 := hid (ru8_as hrep H3.out); clear hrep ho)
                | (go_at_call 79; (with_reducible refine C3.out.mono ?_); rintro e w4 ⟨rfl, hrep, ho⟩; have BB4 := hid (BB3.out.trans (ho.below BB3.out.size (of_lt HG.out))); have BS4 := hid (show g < w4.heap.size from Nat.lt_of_lt_of_le BS3.out ho.size); have C4 := hid (rplw_as hrep H4.out HM.out); clear hrep ho)
                | (go_at_call 71; (with_reducible refine C4.out.mono ?_); rintro e w5 ⟨V, cv, rfl, hf, hrep, ho⟩; have F5 := hid hf; have BB5 := hid (BB4.out.trans (ho.below BB4.out.size (of_lt HG.out))); have BS5 := hid (show g < w5.heap.size from Nat.lt_of_lt_of_le BS4.out ho.size); have C5 := hid (rplw_as hrep H5.out HK.out); clear hrep ho hf)
                | (go_at_call 71; (with_reducible refine C5.out.mono ?_); rintro e w6 ⟨V6, c6, rfl, hf, hrep, ho⟩; have F6 := hid (F5.out.keep ho (fun k hk1 hk2 hk3 => by obtain ⟨a, e1, e2⟩ := hk3; injection e1 with e1; subst e1; have h9 := BS4.out; simp only at e2; omega)); have R6 := hid hf; have BB6 := hid (BB5.out.trans (ho.below BB5.out.size (of_lt HG.out))); have BS6 := hid (show g < w6.heap.size from Nat.lt_of_lt_of_le BS5.out ho.size); have C6 := hid (ru64_as hrep H6.out); clear hrep ho hf)
                | (go_at_call 69; (with_reducible refine C6.out.mono ?_); rintro e w7 ⟨rfl, hrep, ho⟩; have F7 := hid (F6.out.keep ho (fun k hk1 hk2 hk3 => by obtain ⟨a, e1, e2⟩ := hk3; injection e1 with e1; subst e1; have h9 := BS4.out; simp only at e2; omega)); have R7 := hid (R6.out.keep ho (fun k hk1 hk2 hk3 => by obtain ⟨a, e1, e2⟩ := hk3; injection e1 with e1; subst e1; have h9 := BS5.out; simp only at e2; omega)).rp0; have BB7 := hid (BB6.out.trans (ho.below BB6.out.size (of_lt HG.out))); have BS7 := hid (show g < w7.heap.size from Nat.lt_of_lt_of_le BS6.out ho.size); have C7 := hid (rdn_as hrep H7.out); have CX := hid (wcontains_any V6 k c6 r w7 R7.out HK.out (by omega)); have PB := PB0.out.same (BB7.out.block w.heap.size (by rw [SZ0.out]; omega)); have p0 := PB.cell 0; have p1 := PB.cell 1; have p2 := PB.cell 2; have p3 := PB.cell 3; have q0 := PB.frozen 0; have q1 := PB.frozen 1; have q2 := PB.frozen 2; have q3 := PB.frozen 3; have PB := hid PB; simp only [List.getElem?_toArray, List.getElem?_cons_zero, List.getElem?_cons_succ] at p0 p1 p2 p3; clear hrep ho)
                | (go_at_call 39; (with_reducible refine C7.out.mono ?_); rintro e wq ⟨rfl, rfl⟩)
                | (go_at_call 80; (with_reducible refine CX.out.mono ?_); rintro e wq ⟨rfl, rfl⟩))
              have N1 := (((PB.out.setd 0 (.int .u32 (a % 4294967296))).setd 1 (.int .u32 (a / 4294967296))).setd 2 (.int .i64 kd)).setd 3 (.slice V m cv)
              have OY : OnlyS (fun k => k = w.heap.size) w7 ((((w7.setCell ⟨w.heap.size, 0, none⟩ (.int .u32 (a % 4294967296))).setCell ⟨w.heap.size, 1, none⟩ (.int .u32 (a / 4294967296))).setCell ⟨w.heap.size, 2, none⟩ (.int .i64 kd)).setCell ⟨w.heap.size, 3, none⟩ (.slice V m cv)) := only4 _ _ _ _ _ _
              have B7 : Below w.heap.size w w7 := B0.out.trans (BB7.out.mono (by rw [SZ0.out]; omega))
              have B8 := hid (B7.trans (OY.below B7.size (fun k hk => by omega)))
              clear p0 p1 p2 p3 q0 q1 q2 q3
              have FX := hid ((F7.out.keep OY (fun k h1 h2 h3 => by have := BB4.out.size; rw [SZ0.out] at this; omega)).more (Nat.le_trans B0.out.size BB4.out.size))
              have HN := hid N1
              clear OY B7 N1
              try simp only [Exit.inBlock, Exit.then]
              refine bodyPost_ret (results_cell_slot Try.results74 _ _ w.heap.size 123 _ (0, 0) _ rfl HN.out Try.underlying123 rfl hi.out) rfl ?_
              exact ⟨V, m, cv, rfl, HM.out, FX.out, B8.out⟩
            · rw [if_neg (by rintro ⟨_, _, _, _, h | h⟩; exact c5 h; exact c6 h)]
              rw [if_neg c6] at hw2
              go_enter Try.func74, Try.ntmps74
              go_wp2_with (first
                | (go_at_call 36; refine CN.out.mono ?_; rintro e w1 ⟨g, rfl, hg, hrep, hb1⟩; have HG := hid hg; have BB1 := hid hb1; have BS1 := hid (hrep.lt ⟨_, rfl, rfl⟩); have C1 := hid (ru64_as hrep H1.out); clear hg hrep hb1)
                | (go_at_call 69; (with_reducible refine C1.out.mono ?_); rintro e w2 ⟨rfl, hrep, ho⟩; have BB2 := hid (BB1.out.trans (ho.below BB1.out.size (of_lt HG.out))); have BS2 := hid (show g < w2.heap.size from Nat.lt_of_lt_of_le BS1.out ho.size); have C2 := hid (ru8_as hrep H2.out); clear hrep ho)
                | (go_at_call 79; (with_reducible refine C2.out.mono ?_); rintro e w3 ⟨rfl, hrep, ho⟩; have BB3 := hid (BB2.out.trans (ho.below BB2.out.size (of_lt HG.out))); have BS3 := hid (show g < w3.heap.size from Nat.lt_of_lt_of_le BS2.out ho.size); have C3 := hid (ru8_as hrep H3.out); clear hrep ho)
                | (go_at_call 79; (with_reducible refine C3.out.mono ?_); rintro e w4 ⟨rfl, hrep, ho⟩; have BB4 := hid (BB3.out.trans (ho.below BB3.out.size (of_lt HG.out))); have BS4 := hid (show g < w4.heap.size from Nat.lt_of_lt_of_le BS3.out ho.size); have C4 := hid (rplw_as hrep H4.out HM.out); clear hrep ho)
                | (go_at_call 71; (with_reducible refine C4.out.mono ?_); rintro e w5 ⟨V, cv, rfl, hf, hrep, ho⟩; have F5 := hid hf; have BB5 := hid (BB4.out.trans (ho.below BB4.out.size (of_lt HG.out))); have BS5 := hid (show g < w5.heap.size from Nat.lt_of_lt_of_le BS4.out ho.size); have C5 := hid (rplw_as hrep H5.out HK.out); clear hrep ho hf)
                | (go_at_call 71; (with_reducible refine C5.out.mono ?_); rintro e w6 ⟨V6, c6, rfl, hf, hrep, ho⟩; have F6 := hid (F5.out.keep ho (fun k hk1 hk2 hk3 => by obtain ⟨a, e1, e2⟩ := hk3; injection e1 with e1; subst e1; have h9 := BS4.out; simp only at e2; omega)); have R6 := hid hf; have BB6 := hid (BB5.out.trans (ho.below BB5.out.size (of_lt HG.out))); have BS6 := hid (show g < w6.heap.size from Nat.lt_of_lt_of_le BS5.out ho.size); have C6 := hid (ru64_as hrep H6.out); clear hrep ho hf)
                | (go_at_call 69; (with_reducible refine C6.out.mono ?_); rintro e w7 ⟨rfl, hrep, ho⟩; have F7 := hid (F6.out.keep ho (fun k hk1 hk2 hk3 => by obtain ⟨a, e1, e2⟩ := hk3; injection e1 with e1; subst e1; have h9 := BS4.out; simp only at e2; omega)); have R7 := hid (R6.out.keep ho (fun k hk1 hk2 hk3 => by obtain ⟨a, e1, e2⟩ := hk3; injection e1 with e1; subst e1; have h9 := BS5.out; simp only at e2; omega)).rp0; have BB7 := hid (BB6.out.trans (ho.below BB6.out.size (of_lt HG.out))); have BS7 := hid (show g < w7.heap.size from Nat.lt_of_lt_of_le BS6.out ho.size); have C7 := hid (rdn_as hrep H7.out); have CX := hid (wcontains_any V6 k c6 r w7 R7.out HK.out (by omega)); have PB := PB0.out.same (BB7.out.block w.heap.size (by rw [SZ0.out]; omega)); have p0 := PB.cell 0; have p1 := PB.cell 1; have p2 := PB.cell 2; have p3 := PB.cell 3; have q0 := PB.frozen 0; have q1 := PB.frozen 1; have q2 := PB.frozen 2; have q3 := PB.frozen 3; have PB := hid PB; simp only [List.getElem?_toArray, List.getElem?_cons_zero, List.getElem?_cons_succ] at p0 p1 p2 p3; clear hrep ho)
                | (go_at_call 39; (with_reducible refine C7.out.mono ?_); rintro e wq ⟨rfl, rfl⟩)
                | (go_at_call 80; (with_reducible refine CX.out.mono ?_); rintro e wq ⟨rfl, rfl⟩))
              have N1 := (((PB.out.setd 0 (.int .u32 0)).setd 1 (.int .u32 0)).setd 2 (.int .i64 0)).setd 3 (.slice none 0 0)
              have OY : OnlyS (fun k => k = w.heap.size) w7 ((((w7.setCell ⟨w.heap.size, 0, none⟩ (.int .u32 0)).setCell ⟨w.heap.size, 1, none⟩ (.int .u32 0)).setCell ⟨w.heap.size, 2, none⟩ (.int .i64 0)).setCell ⟨w.heap.size, 3, none⟩ (.slice none 0 0)) := only4 _ _ _ _ _ _
              have B7 : Below w.heap.size w w7 := B0.out.trans (BB7.out.mono (by rw [SZ0.out]; omega))
              have B8 := hid (B7.trans (OY.below B7.size (fun k hk => by omega)))
              clear p0 p1 p2 p3 q0 q1 q2 q3
              have HN := hid N1
              clear OY B7 N1
              try simp only [Exit.inBlock, Exit.then]
              refine bodyPost_ret (results_cell_slot Try.results74 _ _ w.heap.size 123 _ (0, 0) _ rfl HN.out Try.underlying123 rfl hi.out) rfl ?_
              exact ⟨rfl, B8.out⟩
        · have c4' : oth r = true := by simpa using c4
          rw [c4', if_neg (by rintro ⟨_, _, _, h, _⟩; cases h)]
          go_enter Try.func74, Try.ntmps74
          go_wp2_with (first
            | (go_at_call 36; refine CN.out.mono ?_; rintro e w1 ⟨g, rfl, hg, hrep, hb1⟩; have HG := hid hg; have BB1 := hid hb1; have BS1 := hid (hrep.lt ⟨_, rfl, rfl⟩); have C1 := hid (ru64_as hrep H1.out); clear hg hrep hb1)
            | (go_at_call 69; (with_reducible refine C1.out.mono ?_); rintro e w2 ⟨rfl, hrep, ho⟩; have BB2 := hid (BB1.out.trans (ho.below BB1.out.size (of_lt HG.out))); have BS2 := hid (show g < w2.heap.size from Nat.lt_of_lt_of_le BS1.out ho.size); have C2 := hid (ru8_as hrep H2.out); clear hrep ho)
            | (go_at_call 79; (with_reducible refine C2.out.mono ?_); rintro e w3 ⟨rfl, hrep, ho⟩; have BB3 := hid (BB2.out.trans (ho.below BB2.out.size (of_lt HG.out))); have BS3 := hid (show g < w3.heap.size from Nat.lt_of_lt_of_le BS2.out ho.size); have C3 := hid (ru8_as hrep H3.out); clear hrep ho)
            | (go_at_call 79; (with_reducible refine C3.out.mono ?_); rintro e w4 ⟨rfl, hrep, ho⟩; have BB4 := hid (BB3.out.trans (ho.below BB3.out.size (of_lt HG.out))); have BS4 := hid (show g < w4.heap.size from Nat.lt_of_lt_of_le BS3.out ho.size); have C4 := hid (rplw_as hrep H4.out HM.out); clear hrep ho)
            | (go_at_call 71; (with_reducible refine C4.out.mono ?_); rintro e w5 ⟨V, cv, rfl, hf, hrep, ho⟩; have F5 := hid hf; have BB5 := hid (BB4.out.trans (ho.below BB4.out.size (of_lt HG.out))); have BS5 := hid (show g < w5.heap.size from Nat.lt_of_lt_of_le BS4.out ho.size); have C5 := hid (rplw_as hrep H5.out HK.out); clear hrep ho hf)
            | (go_at_call 71; (with_reducible refine C5.out.mono ?_); rintro e w6 ⟨V6, c6, rfl, hf, hrep, ho⟩; have F6 := hid (F5.out.keep ho (fun k hk1 hk2 hk3 => by obtain ⟨a, e1, e2⟩ := hk3; injection e1 with e1; subst e1; have h9 := BS4.out; simp only at e2; omega)); have R6 := hid hf; have BB6 := hid (BB5.out.trans (ho.below BB5.out.size (of_lt HG.out))); have BS6 := hid (show g < w6.heap.size from Nat.lt_of_lt_of_le BS5.out ho.size); have C6 := hid (ru64_as hrep H6.out); clear hrep ho hf)
            | (go_at_call 69; (with_reducible refine C6.out.mono ?_); rintro e w7 ⟨rfl, hrep, ho⟩; have F7 := hid (F6.out.keep ho (fun k hk1 hk2 hk3 => by obtain ⟨a, e1, e2⟩ := hk3; injection e1 with e1; subst e1; have h9 := BS4.out; simp only at e2; omega)); have R7 := hid (R6.out.keep ho (fun k hk1 hk2 hk3 => by obtain ⟨a, e1, e2⟩ := hk3; injection e1 with e1; subst e1; have h9 := BS5.out; simp only at e2; omega)).rp0; have BB7 := hid (BB6.out.trans (ho.below BB6.out.size (of_lt HG.out))); have BS7 := hid (show g < w7.heap.size from Nat.lt_of_lt_of_le BS6.out ho.size); have C7 := hid (rdn_as hrep H7.out); have CX := hid (wcontains_any V6 k c6 r w7 R7.out HK.out (by omega)); have PB := PB0.out.same (BB7.out.block w.heap.size (by rw [SZ0.out]; omega)); have p0 := PB.cell 0; have p1 := PB.cell 1; have p2 := PB.cell 2; have p3 := PB.cell 3; have q0 := PB.frozen 0; have q1 := PB.frozen 1; have q2 := PB.frozen 2; have q3 := PB.frozen 3; have PB := hid PB; simp only [List.getElem?_toArray, List.getElem?_cons_zero, List.getElem?_cons_succ] at p0 p1 p2 p3; clear hrep ho)
            | (go_at_call 39; (with_reducible refine C7.out.mono ?_); rintro e wq ⟨rfl, rfl⟩)
            | (go_at_call 80; (with_reducible refine CX.out.mono ?_); rintro e wq ⟨rfl, rfl⟩))
          have N1 := (((PB.out.setd 0 (.int .u32 0)).setd 1 (.int .u32 0)).setd 2 (.int .i64 0)).setd 3 (.slice none 0 0)
          have OY : OnlyS (fun k => k = w.heap.size) w7 ((((w7.setCell ⟨w.heap.size, 0, none⟩ (.int .u32 0)).setCell ⟨w.heap.size, 1, none⟩ (.int .u32 0)).setCell ⟨w.heap.size, 2, none⟩ (.int .i64 0)).setCell ⟨w.heap.size, 3, none⟩ (.slice none 0 0)) := only4 _ _ _ _ _ _
          have B7 : Below w.heap.size w w7 := B0.out.trans (BB7.out.mono (by rw [SZ0.out]; omega))
          have B8 := hid (B7.trans (OY.below B7.size (fun k hk => by omega)))
          clear p0 p1 p2 p3 q0 q1 q2 q3
          have HN := hid N1
          clear OY B7 N1
          try simp only [Exit.inBlock, Exit.then]
          refine bodyPost_ret (results_cell_slot Try.results74 _ _ w.heap.size 123 _ (0, 0) _ rfl HN.out Try.underlying123 rfl hi.out) rfl ?_
          exact ⟨rfl, B8.out⟩
      · have g3 : 3 < kd := by omega
        rw [if_neg (by rintro ⟨_, _, h, _⟩; exact c3 h)]
        go_enter Try.func74, Try.ntmps74
        go_wp2_with (first
          | (go_at_call 36; refine CN.out.mono ?_; rintro e w1 ⟨g, rfl, hg, hrep, hb1⟩; have HG := hid hg; have BB1 := hid hb1; have BS1 := hid (hrep.lt ⟨_, rfl, rfl⟩); have C1 := hid (ru64_as hrep H1.out); clear hg hrep hb1)
          | (go_at_call 69; (with_reducible refine C1.out.mono ?_); rintro e w2 ⟨rfl, hrep, ho⟩; have BB2 := hid (BB1.out.trans (ho.below BB1.out.size (of_lt HG.out))); have BS2 := hid (show g < w2.heap.size from Nat.lt_of_lt_of_le BS1.out ho.size); have C2 := hid (ru8_as hrep H2.out); clear hrep ho)
          | (go_at_call 79; (with_reducible refine C2.out.mono ?_); rintro e w3 ⟨rfl, hrep, ho⟩; have BB3 := hid (BB2.out.trans (ho.below BB2.out.size (of_lt HG.out))); have BS3 := hid (show g < w3.heap.size from Nat.lt_of_lt_of_le BS2.out ho.size); have C3 := hid (ru8_as hrep H3.out); clear hrep ho)
          | (go_at_call 79; (with_reducible refine C3.out.mono ?_); rintro e w4 ⟨rfl, hrep, ho⟩; have BB4 := hid (BB3.out.trans (ho.below BB3.out.size (of_lt HG.out))); have BS4 := hid (show g < w4.heap.size from Nat.lt_of_lt_of_le BS3.out ho.size); have C4 := hid (rplw_as hrep H4.out HM.out); clear hrep ho)
          | (go_at_call 71; (with_reducible refine C4.out.mono ?_); rintro e w5 ⟨V, cv, rfl, hf, hrep, ho⟩; have F5 := hid hf; have BB5 := hid (BB4.out.trans (ho.below BB4.out.size (of_lt HG.out))); have BS5 := hid (show g < w5.heap.size from Nat.lt_of_lt_of_le BS4.out ho.size); have C5 := hid (rplw_as hrep H5.out HK.out); clear hrep ho hf)
          | (go_at_call 71; (with_reducible refine C5.out.mono ?_); rintro e w6 ⟨V6, c6, rfl, hf, hrep, ho⟩; have F6 := hid (F5.out.keep ho (fun k hk1 hk2 hk3 => by obtain ⟨a, e1, e2⟩ := hk3; injection e1 with e1; subst e1; have h9 := BS4.out; simp only at e2; omega)); have R6 := hid hf; have BB6 := hid (BB5.out.trans (ho.below BB5.out.size (of_lt HG.out))); have BS6 := hid (show g < w6.heap.size from Nat.lt_of_lt_of_le BS5.out ho.size); have C6 := hid (ru64_as hrep H6.out); clear hrep ho hf)
          | (go_at_call 69; (with_reducible refine C6.out.mono ?_); rintro e w7 ⟨rfl, hrep, ho⟩; have F7 := hid (F6.out.keep ho (fun k hk1 hk2 hk3 => by obtain ⟨a, e1, e2⟩ := hk3; injection e1 with e1; subst e1; have h9 := BS4.out; simp only at e2; omega)); have R7 := hid (R6.out.keep ho (fun k hk1 hk2 hk3 => by obtain ⟨a, e1, e2⟩ := hk3; injection e1 with e1; subst e1; have h9 := BS5.out; simp only at e2; omega)).rp0; have BB7 := hid (BB6.out.trans (ho.below BB6.out.size (of_lt HG.out))); have BS7 := hid (show g < w7.heap.size from Nat.lt_of_lt_of_le BS6.out ho.size); have C7 := hid (rdn_as hrep H7.out); have CX := hid (wcontains_any V6 k c6 r w7 R7.out HK.out (by omega)); have PB := PB0.out.same (BB7.out.block w.heap.size (by rw [SZ0.out]; omega)); have p0 := PB.cell 0; have p1 := PB.cell 1; have p2 := PB.cell 2; have p3 := PB.cell 3; have q0 := PB.frozen 0; have q1 := PB.frozen 1; have q2 := PB.frozen 2; have q3 := PB.frozen 3; have PB := hid PB; simp only [List.getElem?_toArray, List.getElem?_cons_zero, List.getElem?_cons_succ] at p0 p1 p2 p3; clear hrep ho)
          | (go_at_call 39; (with_reducible refine C7.out.mono ?_); rintro e wq ⟨rfl, rfl⟩)
          | (go_at_call 80; (with_reducible refine CX.out.mono ?_); rintro e wq ⟨rfl, rfl⟩))
        have N1 := (((PB.out.setd 0 (.int .u32 0)).setd 1 (.int .u32 0)).setd 2 (.int .i64 0)).setd 3 (.slice none 0 0)
        have OY : OnlyS (fun k => k = w.heap.size) w7 ((((w7.setCell ⟨w.heap.size, 0, none⟩ (.int .u32 0)).setCell ⟨w.heap.size, 1, none⟩ (.int .u32 0)).setCell ⟨w.heap.size, 2, none⟩ (.int .i64 0)).setCell ⟨w.heap.size, 3, none⟩ (.slice none 0 0)) := only4 _ _ _ _ _ _
        have B7 : Below w.heap.size w w7 := B0.out.trans (BB7.out.mono (by rw [SZ0.out]; omega))
        have B8 := hid (B7.trans (OY.below B7.size (fun k hk => by omega)))
        clear p0 p1 p2 p3 q0 q1 q2 q3
        have HN := hid N1
        clear OY B7 N1
        try simp only [Exit.inBlock, Exit.then]
        refine bodyPost_ret (results_cell_slot Try.results74 _ _ w.heap.size 123 _ (0, 0) _ rfl HN.out Try.underlying123 rfl hi.out) rfl ?_
        exact ⟨rfl, B8.out⟩
    · have g2 : (a != z) = true := by simpa using c2
      rw [if_neg (by rintro ⟨_, h, _⟩; exact c2 h)]
      go_enter Try.func74, Try.ntmps74
      go_wp2_with (first
        | (go_at_call 36; refine CN.out.mono ?_; rintro e w1 ⟨g, rfl, hg, hrep, hb1⟩; have HG := hid hg; have BB1 := hid hb1; have BS1 := hid (hrep.lt ⟨_, rfl, rfl⟩); have C1 := hid (ru64_as hrep H1.out); clear hg hrep hb1)
        | (go_at_call 69; (with_reducible refine C1.out.mono ?_); rintro e w2 ⟨rfl, hrep, ho⟩; have BB2 := hid (BB1.out.trans (ho.below BB1.out.size (of_lt HG.out))); have BS2 := hid (show g < w2.heap.size from Nat.lt_of_lt_of_le BS1.out ho.size); have C2 := hid (ru8_as hrep H2.out); clear hrep ho)
        | (go_at_call 79; (with_reducible refine C2.out.mono ?_); rintro e w3 ⟨rfl, hrep, ho⟩; have BB3 := hid (BB2.out.trans (ho.below BB2.out.size (of_lt HG.out))); have BS3 := hid (show g < w3.heap.size from Nat.lt_of_lt_of_le BS2.out ho.size); have C3 := hid (ru8_as hrep H3.out); clear hrep ho)
        | (go_at_call 79; (with_reducible refine C3.out.mono ?_); rintro e w4 ⟨rfl, hrep, ho⟩; have BB4 := hid (BB3.out.trans (ho.below BB3.out.size (of_lt HG.out))); have BS4 := hid (show g < w4.heap.size from Nat.lt_of_lt_of_le BS3.out ho.size); have C4 := hid (rplw_as hrep H4.out HM.out); clear hrep ho)
        | (go_at_call 71; (with_reducible refine C4.out.mono ?_); rintro e w5 ⟨V, cv, rfl, hf, hrep, ho⟩; have F5 := hid hf; have BB5 := hid (BB4.out.trans (ho.below BB4.out.size (of_lt HG.out))); have BS5 := hid (show g < w5.heap.size from Nat.lt_of_lt_of_le BS4.out ho.size); have C5 := hid (rplw_as hrep H5.out HK.out); clear hrep ho hf)
        | (go_at_call 71; (with_reducible refine C5.out.mono ?_); rintro e w6 ⟨V6, c6, rfl, hf, hrep, ho⟩; have F6 := hid (F5.out.keep ho (fun k hk1 hk2 hk3 => by obtain ⟨a, e1, e2⟩ := hk3; injection e1 with e1; subst e1; have h9 := BS4.out; simp only at e2; omega)); have R6 := hid hf; have BB6 := hid (BB5.out.trans (ho.below BB5.out.size (of_lt HG.out))); have BS6 := hid (show g < w6.heap.size from Nat.lt_of_lt_of_le BS5.out ho.size); have C6 := hid (ru64_as hrep H6.out); clear hrep ho hf)
        | (go_at_call 69; (with_reducible refine C6.out.mono ?_); rintro e w7 ⟨rfl, hrep, ho⟩; have F7 := hid (F6.out.keep ho (fun k hk1 hk2 hk3 => by obtain ⟨a, e1, e2⟩ := hk3; injection e1 with e1; subst e1; have h9 := BS4.out; simp only at e2; omega)); have R7 := hid (R6.out.keep ho (fun k hk1 hk2 hk3 => by obtain ⟨a, e1, e2⟩ := hk3; injection e1 with e1; subst e1; have h9 := BS5.out; simp only at e2; omega)).rp0; have BB7 := hid (BB6.out.trans (ho.below BB6.out.size (of_lt HG.out))); have BS7 := hid (show g < w7.heap.size from Nat.lt_of_lt_of_le BS6.out ho.size); have C7 := hid (rdn_as hrep H7.out); have CX := hid (wcontains_any V6 k c6 r w7 R7.out HK.out (by omega)); have PB := PB0.out.same (BB7.out.block w.heap.size (by rw [SZ0.out]; omega)); have p0 := PB.cell 0; have p1 := PB.cell 1; have p2 := PB.cell 2; have p3 := PB.cell 3; have q0 := PB.frozen 0; have q1 := PB.frozen 1; have q2 := PB.frozen 2; have q3 := PB.frozen 3; have PB := hid PB; simp only [List.getElem?_toArray, List.getElem?_cons_zero, List.getElem?_cons_succ] at p0 p1 p2 p3; clear hrep ho)
        | (go_at_call 39; (with_reducible refine C7.out.mono ?_); rintro e wq ⟨rfl, rfl⟩)
        | (go_at_call 80; (with_reducible refine CX.out.mono ?_); rintro e wq ⟨rfl, rfl⟩))
      have N1 := (((PB.out.setd 0 (.int .u32 0)).setd 1 (.int .u32 0)).setd 2 (.int .i64 0)).setd 3 (.slice none 0 0)
      have OY : OnlyS (fun k => k = w.heap.size) w7 ((((w7.setCell ⟨w.heap.size, 0, none⟩ (.int .u32 0)).setCell ⟨w.heap.size, 1, none⟩ (.int .u32 0)).setCell ⟨w.heap.size, 2, none⟩ (.int .i64 0)).setCell ⟨w.heap.size, 3, none⟩ (.slice none 0 0)) := only4 _ _ _ _ _ _
      have B7 : Below w.heap.size w w7 := B0.out.trans (BB7.out.mono (by rw [SZ0.out]; omega))
      have B8 := hid (B7.trans (OY.below B7.size (fun k hk => by omega)))
      clear p0 p1 p2 p3 q0 q1 q2 q3
      have HN := hid N1
      clear OY B7 N1
      try simp only [Exit.inBlock, Exit.then]
      refine bodyPost_ret (results_cell_slot Try.results74 _ _ w.heap.size 123 _ (0, 0) _ rfl HN.out Try.underlying123 rfl hi.out) rfl ?_
      exact ⟨rfl, B8.out⟩
  · have c1' : dn = false := by simpa using c1
    subst c1'
    rw [if_neg (by rintro ⟨h, _⟩; cases h)]
    go_enter Try.func74, Try.ntmps74
    go_wp2_with (first
      | (go_at_call 36; refine CN.out.mono ?_; rintro e w1 ⟨g, rfl, hg, hrep, hb1⟩; have HG := hid hg; have BB1 := hid hb1; have BS1 := hid (hrep.lt ⟨_, rfl, rfl⟩); have C1 := hid (ru64_as hrep H1.out); clear hg hrep hb1)
      | (go_at_call 69; (with_reducible refine C1.out.mono ?_); rintro e w2 ⟨rfl, hrep, ho⟩; have BB2 := hid (BB1.out.trans (ho.below BB1.out.size (of_lt HG.out))); have BS2 := hid (show g < w2.heap.size from Nat.lt_of_lt_of_le BS1.out ho.size); have C2 := hid (ru8_as hrep H2.out); clear hrep ho)
      | (go_at_call 79; (with_reducible refine C2.out.mono ?_); rintro e w3 ⟨rfl, hrep, ho⟩; have BB3 := hid (BB2.out.trans (ho.below BB2.out.size (of_lt HG.out))); have BS3 := hid (show g < w3.heap.size from Nat.lt_of_lt_of_le BS2.out ho.size); have C3 := hid (ru8_as hrep H3.out); clear hrep ho)
      | (go_at_call 79; (with_reducible refine C3.out.mono ?_); rintro e w4 ⟨rfl, hrep, ho⟩; have BB4 := hid (BB3.out.trans (ho.below BB3.out.size (of_lt HG.out))); have BS4 := hid (show g < w4.heap.size from Nat.lt_of_lt_of_le BS3.out ho.size); have C4 := hid (rplw_as hrep H4.out HM.out); clear hrep ho)
      | (go_at_call 71; (with_reducible refine C4.out.mono ?_); rintro e w5 ⟨V, cv, rfl, hf, hrep, ho⟩; have F5 := hid hf; have BB5 := hid (BB4.out.trans (ho.below BB4.out.size (of_lt HG.out))); have BS5 := hid (show g < w5.heap.size from Nat.lt_of_lt_of_le BS4.out ho.size); have C5 := hid (rplw_as hrep H5.out HK.out); clear hrep ho hf)
      | (go_at_call 71; (with_reducible refine C5.out.mono ?_); rintro e w6 ⟨V6, c6, rfl, hf, hrep, ho⟩; have F6 := hid (F5.out.keep ho (fun k hk1 hk2 hk3 => by obtain ⟨a, e1, e2⟩ := hk3; injection e1 with e1; subst e1; have h9 := BS4.out; simp only at e2; omega)); have R6 := hid hf; have BB6 := hid (BB5.out.trans (ho.below BB5.out.size (of_lt HG.out))); have BS6 := hid (show g < w6.heap.size from Nat.lt_of_lt_of_le BS5.out ho.size); have C6 := hid (ru64_as hrep H6.out); clear hrep ho hf)
      | (go_at_call 69; (with_reducible refine C6.out.mono ?_); rintro e w7 ⟨rfl, hrep, ho⟩; have F7 := hid (F6.out.keep ho (fun k hk1 hk2 hk3 => by obtain ⟨a, e1, e2⟩ := hk3; injection e1 with e1; subst e1; have h9 := BS4.out; simp only at e2; omega)); have R7 := hid (R6.out.keep ho (fun k hk1 hk2 hk3 => by obtain ⟨a, e1, e2⟩ := hk3; injection e1 with e1; subst e1; have h9 := BS5.out; simp only at e2; omega)).rp0; have BB7 := hid (BB6.out.trans (ho.below BB6.out.size (of_lt HG.out))); have BS7 := hid (show g < w7.heap.size from Nat.lt_of_lt_of_le BS6.out ho.size); have C7 := hid (rdn_as hrep H7.out); have CX := hid (wcontains_any V6 k c6 r w7 R7.out HK.out (by omega)); have PB := PB0.out.same (BB7.out.block w.heap.size (by rw [SZ0.out]; omega)); have p0 := PB.cell 0; have p1 := PB.cell 1; have p2 := PB.cell 2; have p3 := PB.cell 3; have q0 := PB.frozen 0; have q1 := PB.frozen 1; have q2 := PB.frozen 2; have q3 := PB.frozen 3; have PB := hid PB; simp only [List.getElem?_toArray, List.getElem?_cons_zero, List.getElem?_cons_succ] at p0 p1 p2 p3; clear hrep ho)
      | (go_at_call 39; (with_reducible refine C7.out.mono ?_); rintro e wq ⟨rfl, rfl⟩)
      | (go_at_call 80; (with_reducible refine CX.out.mono ?_); rintro e wq ⟨rfl, rfl⟩))
    have N1 := (((PB.out.setd 0 (.int .u32 0)).setd 1 (.int .u32 0)).setd 2 (.int .i64 0)).setd 3 (.slice none 0 0)
    have OY : OnlyS (fun k => k = w.heap.size) w7 ((((w7.setCell ⟨w.heap.size, 0, none⟩ (.int .u32 0)).setCell ⟨w.heap.size, 1, none⟩ (.int .u32 0)).setCell ⟨w.heap.size, 2, none⟩ (.int .i64 0)).setCell ⟨w.heap.size, 3, none⟩ (.slice none 0 0)) := only4 _ _ _ _ _ _
    have B7 : Below w.heap.size w w7 := B0.out.trans (BB7.out.mono (by rw [SZ0.out]; omega))
    have B8 := hid (B7.trans (OY.below B7.size (fun k hk => by omega)))
    clear p0 p1 p2 p3 q0 q1 q2 q3
    have HN := hid N1
    clear OY B7 N1
    try simp only [Exit.inBlock, Exit.then]
    refine bodyPost_ret (results_cell_slot Try.results74 _ _ w.heap.size 123 _ (0, 0) _ rfl HN.out Try.underlying123 rfl hi.out) rfl ?_
    exact ⟨rfl, B8.out⟩
end Go.Proofs.Ythfkooancgkjaaa
