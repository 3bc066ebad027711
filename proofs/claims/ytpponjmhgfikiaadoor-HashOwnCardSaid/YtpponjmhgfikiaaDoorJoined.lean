/-
  What is proved here: the bytes that the code makes of a state.
-/
import Derived.Test.YtpponjmhgfikiaaDoorStV
namespace Go.Proofs.YtpponjmhgfikiaaDoor
open Go.ChangeShapes Go.WideShapes Go.ChangeAt Go.RowKit
set_option linter.unusedVariables false

/-- the bytes of a hash as a value -/
def hashV (l : List Int) : Value := .agg (u8s l).toArray
/-- the bytes of a state -/
def joinS (s : St) : List Int := (List.range 32).map fun i => u (s.list[i / 4]?.getD 0) / 256 ^ (3 - i % 4) % 256

theorem zero_Hash : ∃ Z : Array Value, Hid (Z = (u8s (List.replicate 32 0)).toArray) ∧ (¬ Z = #[]) ∧ ∀ w : World, Sem.run Tryd.prog (zeroValue 25) w = Result.ok (.agg Z) w := by
  refine ⟨(List.replicate 32 (.int .u8 0)).toArray, ?_, ?_, fun w => by kernel_rfl⟩
  · show _ = _
    unfold u8s
    rw [List.map_replicate]
  · intro h
    have := congrArg Array.size h
    simp at this

theorem u8s_set (l : List Int) (i : Nat) (x : Int) : (u8s l).toArray.setIfInBounds i (.int .u8 x) = (u8s (l.set i x)).toArray := by
  simp [u8s, List.map_set]
theorem u8s_at (l : List Int) (i : Nat) (h : i < l.length) : (u8s l).toArray[i]? = some (.int .u8 (l[i]?.getD 0)) := by
  rw [List.getElem?_toArray, u8s_get l i h]
theorem join_get (s : St) (i : Nat) (h : i < 32) : (joinS s)[i]? = some (u (s.list[i / 4]?.getD 0) / 256 ^ (3 - i % 4) % 256) := by
  simp [joinS, h]

theorem idx8 (s : St) (k : Nat) (hk : k < 8) (w' : World) : (Instr.index 41 (.agg #[.int .u32 (u s.a), .int .u32 (u s.b), .int .u32 (u s.c), .int .u32 (u s.d), .int .u32 (u s.e), .int .u32 (u s.f), .int .u32 (u s.g), .int .u32 (u s.h)]) (.int .i64 (k : Int))).run Tryd.prog w' = .ok (.int .u32 (u (s.list[k]?.getD 0))) w' := by
  match k, hk with
  | 0, _ => exact (by kernel_rfl : (Instr.index 41 (.agg #[.int .u32 (u s.a), .int .u32 (u s.b), .int .u32 (u s.c), .int .u32 (u s.d), .int .u32 (u s.e), .int .u32 (u s.f), .int .u32 (u s.g), .int .u32 (u s.h)]) (.int .i64 0)).run Tryd.prog w' = .ok (.int .u32 (u s.a)) w')
  | 1, _ => exact (by kernel_rfl : (Instr.index 41 (.agg #[.int .u32 (u s.a), .int .u32 (u s.b), .int .u32 (u s.c), .int .u32 (u s.d), .int .u32 (u s.e), .int .u32 (u s.f), .int .u32 (u s.g), .int .u32 (u s.h)]) (.int .i64 1)).run Tryd.prog w' = .ok (.int .u32 (u s.b)) w')
  | 2, _ => exact (by kernel_rfl : (Instr.index 41 (.agg #[.int .u32 (u s.a), .int .u32 (u s.b), .int .u32 (u s.c), .int .u32 (u s.d), .int .u32 (u s.e), .int .u32 (u s.f), .int .u32 (u s.g), .int .u32 (u s.h)]) (.int .i64 2)).run Tryd.prog w' = .ok (.int .u32 (u s.c)) w')
  | 3, _ => exact (by kernel_rfl : (Instr.index 41 (.agg #[.int .u32 (u s.a), .int .u32 (u s.b), .int .u32 (u s.c), .int .u32 (u s.d), .int .u32 (u s.e), .int .u32 (u s.f), .int .u32 (u s.g), .int .u32 (u s.h)]) (.int .i64 3)).run Tryd.prog w' = .ok (.int .u32 (u s.d)) w')
  | 4, _ => exact (by kernel_rfl : (Instr.index 41 (.agg #[.int .u32 (u s.a), .int .u32 (u s.b), .int .u32 (u s.c), .int .u32 (u s.d), .int .u32 (u s.e), .int .u32 (u s.f), .int .u32 (u s.g), .int .u32 (u s.h)]) (.int .i64 4)).run Tryd.prog w' = .ok (.int .u32 (u s.e)) w')
  | 5, _ => exact (by kernel_rfl : (Instr.index 41 (.agg #[.int .u32 (u s.a), .int .u32 (u s.b), .int .u32 (u s.c), .int .u32 (u s.d), .int .u32 (u s.e), .int .u32 (u s.f), .int .u32 (u s.g), .int .u32 (u s.h)]) (.int .i64 5)).run Tryd.prog w' = .ok (.int .u32 (u s.f)) w')
  | 6, _ => exact (by kernel_rfl : (Instr.index 41 (.agg #[.int .u32 (u s.a), .int .u32 (u s.b), .int .u32 (u s.c), .int .u32 (u s.d), .int .u32 (u s.e), .int .u32 (u s.f), .int .u32 (u s.g), .int .u32 (u s.h)]) (.int .i64 6)).run Tryd.prog w' = .ok (.int .u32 (u s.g)) w')
  | 7, _ => exact (by kernel_rfl : (Instr.index 41 (.agg #[.int .u32 (u s.a), .int .u32 (u s.b), .int .u32 (u s.c), .int .u32 (u s.d), .int .u32 (u s.e), .int .u32 (u s.f), .int .u32 (u s.g), .int .u32 (u s.h)]) (.int .i64 7)).run Tryd.prog w' = .ok (.int .u32 (u s.h)) w')

set_option maxRecDepth 100000 in
set_option maxHeartbeats 1000000 in
theorem joined_any (s : St) (w : World) :
    Calls Tryd.prog 22 #[stV s] w fun e w' => e = .returned (hashV (joinS s)) ∧ Below w.heap.size w w' := by
  obtain ⟨Z, HZ, hZ0, hZs⟩ := zero_Hash
  have e0 : stV s = .agg #[.int .u32 (u s.a), .int .u32 (u s.b), .int .u32 (u s.c), .int .u32 (u s.d), .int .u32 (u s.e), .int .u32 (u s.f), .int .u32 (u s.g), .int .u32 (u s.h)] := rfl
  rw [e0]
  obtain ⟨R, hR⟩ : ∃ R, R = hashV (joinS s) := ⟨_, rfl⟩
  rw [← hR]
  have HR := hid hR
  clear hR e0
  go_enter Tryd.func22, Tryd.ntmps22
  go_wp2
  have hB0 : Below w.heap.size w (((w.alloc (.cells #[.int .u32 (u s.a), .int .u32 (u s.b), .int .u32 (u s.c), .int .u32 (u s.d), .int .u32 (u s.e), .int .u32 (u s.f), .int .u32 (u s.g), .int .u32 (u s.h)] 41)).alloc (.cells Z 25)).alloc (.cells Z 25)) := (((Below.refl _ _).alloc (Nat.le_refl _) _).alloc (by simp) _).alloc (by simp; omega) _
  have hK1 : Blk (((w.alloc (.cells #[.int .u32 (u s.a), .int .u32 (u s.b), .int .u32 (u s.c), .int .u32 (u s.d), .int .u32 (u s.e), .int .u32 (u s.f), .int .u32 (u s.g), .int .u32 (u s.h)] 41)).alloc (.cells Z 25)).alloc (.cells Z 25)) (w.heap.size + 1) 25 Z := by
    have := (Blk.new (w.alloc (.cells #[.int .u32 (u s.a), .int .u32 (u s.b), .int .u32 (u s.c), .int .u32 (u s.d), .int .u32 (u s.e), .int .u32 (u s.f), .int .u32 (u s.g), .int .u32 (u s.h)] 41)) 25 Z).alloc (.cells Z 25)
    rwa [show (w.alloc (.cells #[.int .u32 (u s.a), .int .u32 (u s.b), .int .u32 (u s.c), .int .u32 (u s.d), .int .u32 (u s.e), .int .u32 (u s.f), .int .u32 (u s.g), .int .u32 (u s.h)] 41)).heap.size = w.heap.size + 1 by simp] at this
  have hK2 : Blk (((w.alloc (.cells #[.int .u32 (u s.a), .int .u32 (u s.b), .int .u32 (u s.c), .int .u32 (u s.d), .int .u32 (u s.e), .int .u32 (u s.f), .int .u32 (u s.g), .int .u32 (u s.h)] 41)).alloc (.cells Z 25)).alloc (.cells Z 25)) (w.heap.size + 1 + 1) 25 Z := by
    have := Blk.new ((w.alloc (.cells #[.int .u32 (u s.a), .int .u32 (u s.b), .int .u32 (u s.c), .int .u32 (u s.d), .int .u32 (u s.e), .int .u32 (u s.f), .int .u32 (u s.g), .int .u32 (u s.h)] 41)).alloc (.cells Z 25)) 25 Z
    rwa [show ((w.alloc (.cells #[.int .u32 (u s.a), .int .u32 (u s.b), .int .u32 (u s.c), .int .u32 (u s.d), .int .u32 (u s.e), .int .u32 (u s.f), .int .u32 (u s.g), .int .u32 (u s.h)] 41)).alloc (.cells Z 25)).heap.size = w.heap.size + 1 + 1 by simp] at this
  have B0 := hid hB0; have K1 := hid hK1; have K2 := hid hK2
  clear hB0 hK1 hK2
  go_loopw [7] (fun i wr => ∃ (k : Nat) (l : List Int), k ≤ 8 ∧ i = .int .i64 k ∧ l.length = 32 ∧ (∀ j, j < 4 * k → l[j]? = (joinS s)[j]?) ∧ Blk wr (w.heap.size + 1 + 1) 25 (u8s l).toArray ∧ Blk wr (w.heap.size + 1) 25 Z ∧ Below w.heap.size w wr) (fun i _ => 8 - (intOf i).toNat)
  case atStart => exact ⟨0, List.replicate 32 0, by omega, rfl, by simp, fun j hj => by omega, by rw [← HZ.out]; exact K2.out, K1.out, B0.out⟩
  case round =>
    obtain ⟨k, l, hk, rfl, hll, hlj, hb1, hb2, hbel⟩ := hrel
    have HLL := hid hll; have HLJ := hid hlj; have HB1 := hid hb1; have HB2 := hid hb2; have HBL := hid hbel
    clear hll hlj hb1 hb2 hbel
    by_cases hlt : k < 8
    · obtain ⟨x, hx⟩ : ∃ x, x = s.list[k]?.getD 0 := ⟨_, rfl⟩
      have hidx : ∀ w' : World, (Instr.index 41 (.agg #[.int .u32 (u s.a), .int .u32 (u s.b), .int .u32 (u s.c), .int .u32 (u s.d), .int .u32 (u s.e), .int .u32 (u s.f), .int .u32 (u s.g), .int .u32 (u s.h)]) (.int .i64 (k : Int))).run Tryd.prog w' = .ok (.int .u32 (u x)) w' := by
        intro w'
        rw [hx]
        exact idx8 s k hlt w'
      have HX := hid hx
      have hget : ∀ j, j < 32 → wr.cell? ⟨w.heap.size + 1 + 1, j, none⟩ = some (.int .u8 (l[j]?.getD 0)) := fun j hj => by
        rw [HB1.out.cell]; exact u8s_at l j (by have := HLL.out; omega)
      have c0 := hget (4 * k) (by omega)
      have c1 := hget (4 * k + 1) (by omega)
      have c2 := hget (4 * k + 2) (by omega)
      have c3 := hget (4 * k + 3) (by omega)
      have f0 : wr.frozen? ⟨w.heap.size + 1 + 1, 4 * k, none⟩ = false := HB1.out.frozen _
      have f1 : wr.frozen? ⟨w.heap.size + 1 + 1, 4 * k + 1, none⟩ = false := HB1.out.frozen _
      have f2 : wr.frozen? ⟨w.heap.size + 1 + 1, 4 * k + 2, none⟩ = false := HB1.out.frozen _
      have f3 : wr.frozen? ⟨w.heap.size + 1 + 1, 4 * k + 3, none⟩ = false := HB1.out.frozen _
      have xl := u_lo x
      have xh := u_hi x
      clear hget hx xl xh
      go_wp2
      go_roundw
      case rel =>
        have hll := HLL.out
        have g1 := (((HB1.out.setd (4 * k) (.int .u8 (u x / 16777216 % 256))).setd (4 * k + 1) (.int .u8 (u x / 65536 % 256))).setd (4 * k + 2) (.int .u8 (u x / 256 % 256))).setd (4 * k + 3) (.int .u8 (u x % 256))
        rw [u8s_set, u8s_set, u8s_set, u8s_set] at g1
        have g2 := (((HB2.out.far (p := ⟨w.heap.size + 1 + 1, 4 * k, none⟩) (by simp) (.int .u8 (u x / 16777216 % 256))).far (p := ⟨w.heap.size + 1 + 1, 4 * k + 1, none⟩) (by simp) (.int .u8 (u x / 65536 % 256))).far (p := ⟨w.heap.size + 1 + 1, 4 * k + 2, none⟩) (by simp) (.int .u8 (u x / 256 % 256))).far (p := ⟨w.heap.size + 1 + 1, 4 * k + 3, none⟩) (by simp) (.int .u8 (u x % 256))
        refine ⟨k + 1, (((l.set (4 * k) (u x / 16777216 % 256)).set (4 * k + 1) (u x / 65536 % 256)).set (4 * k + 2) (u x / 256 % 256)).set (4 * k + 3) (u x % 256), by omega, by go_num, by simp [hll], fun j hj => ?_, g1, g2, (((HBL.out.setCell (by simp; omega) _).setCell (by simp; omega) _).setCell (by simp; omega) _).setCell (by simp; omega) _⟩
        by_cases h3 : j = 4 * k + 3
        · subst h3
          rw [List.getElem?_set_self (by simp [hll]; omega), join_get s _ (by omega), show (4 * k + 3) / 4 = k by omega, show 3 - (4 * k + 3) % 4 = 0 by omega, ← HX.out]
          simp
        rw [List.getElem?_set_ne (by omega)]
        by_cases h2 : j = 4 * k + 2
        · subst h2
          rw [List.getElem?_set_self (by simp [hll]; omega), join_get s _ (by omega), show (4 * k + 2) / 4 = k by omega, show 3 - (4 * k + 2) % 4 = 1 by omega, ← HX.out]
          rfl
        rw [List.getElem?_set_ne (by omega)]
        by_cases h1 : j = 4 * k + 1
        · subst h1
          rw [List.getElem?_set_self (by simp [hll]; omega), join_get s _ (by omega), show (4 * k + 1) / 4 = k by omega, show 3 - (4 * k + 1) % 4 = 2 by omega, ← HX.out]
          rfl
        rw [List.getElem?_set_ne (by omega)]
        by_cases h0 : j = 4 * k
        · subst h0
          rw [List.getElem?_set_self (by simp [hll]; omega), join_get s _ (by omega), show (4 * k) / 4 = k by omega, show 3 - (4 * k) % 4 = 3 by omega, ← HX.out]
          rfl
        rw [List.getElem?_set_ne (by omega)]
        exact HLJ.out j (by omega)
      case measure => simp [intOf]; omega
    · have hk8 : 8 ≤ k := by omega
      have hi32 : Hid ((Tryd.prog.info? 25).map (·.size) = some (u8s l).toArray.size) := by
        show _ = _
        rw [List.size_toArray, u8s_length, HLL.out]; kernel_rfl
      have hz32 : Hid (Z.size = (u8s l).toArray.size) := by
        show _ = _
        rw [HZ.out, List.size_toArray, List.size_toArray, u8s_length, u8s_length, HLL.out]; simp
      have ho32 : Hid ((u8s l).toArray.all (·.oneCell') = true) := by
        show _ = _
        rw [Array.all_eq_true_iff_forall_mem]
        intro v hv
        exact u8s_one l v (by simpa using hv)
      go_wp2_with (first
        | (refine wpList_load_row rfl 25 (.tmp 3) rfl (w.heap.size + 1 + 1) rfl 25 (u8s l).toArray (0, 0) _ HB1.out Tryd.underlying25 rfl hi32.out ?_)
        | (refine wpList_store_row rfl 25 (.tmp 2) (.tmp 38) rfl (w.heap.size + 1) (u8s l).toArray rfl rfl 25 Z HB2.out hi32.out hz32.out ho32.out ?_))
      have hfin : l = joinS s := by
        have hll := HLL.out
        apply List.ext_getElem?
        intro j
        rcases Nat.lt_or_ge j 32 with h | h
        · exact HLJ.out j (by omega)
        · rw [List.getElem?_eq_none (by omega), List.getElem?_eq_none (by simp [joinS]; omega)]
      refine bodyPost_ret (results_cell_row Tryd.results22 _ _ (w.heap.size + 1) 25 (u8s l).toArray (0, 0) _ rfl (HB2.out.row _) Tryd.underlying25 rfl hi32.out) rfl ?_
      rw [HR.out, ← hfin]
      exact ⟨rfl, below_setRow HBL.out (by omega) _⟩
end Go.Proofs.YtpponjmhgfikiaaDoor
