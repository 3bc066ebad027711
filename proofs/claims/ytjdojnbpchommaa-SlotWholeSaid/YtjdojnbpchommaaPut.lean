/-
  What is proved here: what a writer's own 'put' and 'spoil' do, called on no writer, on a spoiled one, on a good one.
-/
import Derived.Test.YtjdojnbpchommaaKit
import Derived.BigQuiet
import Derived.Deep.QuietTactic
import Derived.IntWalk
namespace Go.Proofs.Ytjdojnbpchommaa
open Go.ChangeShapes Go.WideShapes Go.ChangeAt Go.RowKit
set_option linter.unusedVariables false
set_option maxRecDepth 20000

theorem size_arr : ∃ N, Hid (N = 256) ∧ (¬ N = 0) ∧ ((256 = N) = True) ∧ ∀ w : World, Sem.run Try.prog (sizeOf 76) w = Result.ok N w :=
  ⟨256, rfl, by decide, by decide, Try.sizeOf76⟩
theorem zero_block : ∃ Z : List Value, Z.length = 256 ∧ ∀ w : World, Sem.run Try.prog (zeroValue 95) w = Result.ok (.agg (.pointer none :: Z).toArray) w :=
  ⟨List.replicate 256 (.int .u8 0), List.length_replicate, fun w => by kernel_rfl⟩

theorem spoil_nil (w : World) : Calls Try.prog 51 #[.pointer none] w fun e w' => e = .returned (.tuple #[]) ∧ w = w' := by
  go_enter Try.func51, Try.ntmps51
  go_wp2
  go_end0
  exact ⟨rfl, rfl⟩

theorem wput_nil (s : Value) (w : World) : Calls Try.prog 52 #[.pointer none, s] w fun e w' => e = .returned (.tuple #[]) ∧ w = w' := by
  go_enter Try.func52, Try.ntmps52
  go_wp2
  refine bodyPost_ret (results_none rfl _ _ _) rfl ?_
  exact ⟨rfl, rfl⟩

theorem wput_sp (b : Nat) (s : Value) (w : World) (h : WSp w b) : Calls Try.prog 52 #[.pointer (some ⟨b, 0, none⟩), s] w fun e w' => e = .returned (.tuple #[]) ∧ w = w' := by
  obtain ⟨c, h1, h2, h3⟩ := h
  have h4 : w.cell? ⟨b, 258, none⟩ = some (.bool true) := by rw [h1.cell]; exact h3
  clear h1 h2 h3
  go_enter Try.func52, Try.ntmps52
  go_wp2
  refine bodyPost_ret (results_none rfl _ _ _) rfl ?_
  exact ⟨rfl, rfl⟩

set_option maxHeartbeats 1000000 in
theorem wput_ok (b : Nat) (bs xs : List Int) (A : Option Addr) (cap : Nat) (w : World) (h : WAt w b bs) (hr : Rd w b A xs) (hlen : bs.length + xs.length < 1000000000000) :
    Calls Try.prog 52 #[.pointer (some ⟨b, 0, none⟩), .slice A xs.length cap] w fun e w' => e = .returned (.tuple #[]) ∧ WAt w' b (bs ++ xs) ∧ Only b w w' := by
  have hn2 : xs.length ≤ 9223372036854775807 := by omega
  obtain ⟨n, hn⟩ : ∃ n, n = xs.length := ⟨_, rfl⟩
  rw [← hn] at hlen hn2 ⊢
  have h1 : w.cell? ⟨b, 258, none⟩ = some (.bool false) := by obtain ⟨c, full, h1, h2, h3, h4, h5, _⟩ := h; rw [h1.cell]; exact h5
  have HN := hid hn; clear hn
  go_enter Try.func52, Try.ntmps52
  go_wp2
  go_loopw [16] (fun i wr => ∃ k : Nat, k ≤ n ∧ i = .int .i64 k ∧ WAt wr b (bs ++ xs.take k) ∧ Only b w wr) (fun i _ => n - (intOf i).toNat)
  case atStart => exact ⟨0, by omega, rfl, by simpa using h, Only.refl b w⟩
  case round =>
    obtain ⟨k, hk, rfl, hat, hon⟩ := hrel
    clear h1 h
    by_cases hlt : k < n
    · have hkx : k < xs.length := by have := HN.out; omega
      obtain ⟨ad, rfl, hadb, hadc⟩ := (hr.keep hon) (by omega)
      have hx := hadc k hkx
      have htk : xs.take (k + 1) = xs.take k ++ [xs[k]?.getD 0] := by rw [List.take_succ_eq_append_getElem hkx]; simp [hkx]
      have hlk : (bs ++ xs.take k).length = bs.length + k := by simp; omega
      obtain ⟨ys, hys⟩ : ∃ ys, ys = bs ++ xs.take k := ⟨_, rfl⟩
      rw [← hys] at hat hlk
      have hnext : bs ++ xs.take (k + 1) = ys ++ [xs[k]?.getD 0] := by rw [htk, hys, List.append_assoc]
      obtain ⟨c, full, b1, b2, b3, b4, b5, b6, b7, b8⟩ := hat
      obtain ⟨sz, hsz⟩ : ∃ sz, sz = ys.length := ⟨_, rfl⟩
      rw [← hsz] at b4
      have h257 : wr.cell? ⟨b, 257, none⟩ = some (.int .i64 sz) := by rw [b1.cell]; exact b4
      have f257 : wr.frozen? ⟨b, 257, none⟩ = false := b1.frozen _
      have hszlt : sz < 1000000000000 := by omega
      obtain ⟨m, hm⟩ : ∃ m, m = sz % 256 := ⟨_, rfl⟩
      have hm2 : m < 256 := by omega
      have hm1 : (sz : Int) % 256 = m := by omega
      have fm : wr.frozen? ⟨b, 1 + m, none⟩ = false := b1.frozen _
      obtain ⟨u, hu⟩ := b6 m hm2
      have cm : wr.cell? ⟨b, 1 + m, none⟩ = some (.int .u8 u) := by rw [b1.cell]; exact hu
      obtain ⟨x, hxx⟩ : ∃ x, x = xs[k]?.getD 0 := ⟨_, rfl⟩
      rw [← hxx] at hx hnext
      obtain ⟨N, hN, hN0, hN1, hNs⟩ := size_arr
      obtain ⟨Z, hZ, hZs⟩ := zero_block
      have H1 := hid hnext; have H2 := hid hys; have H3 := hid hsz; have H4 := hid hm; have H5 := hid b2; have H6 := hid b3; have H7 := hid b5; have H8 := hid b6; have H9 := hid b7
      have G1 := hid hadc; have G2 := hid hxx; have G3 := hid hlk; have G4 := hid hr
      have hblt := b1.lt
      clear hnext hys hsz hm b2 b3 b4 b5 b6 b7 hadc hxx hlk htk hu hr
      go_wp2
      go_region
      go_wp2
      · have hW := (b1.setd (1 + m) (.int .u8 x)).setd 257 (.int .i64 ((sz : Int) + 1))
        have hO : Only b wr ((wr.setCell ⟨b, 1 + m, none⟩ (.int .u8 x)).setCell ⟨b, 257, none⟩ (.int .i64 ((sz : Int) + 1))).drew :=
          (((Only.refl b wr).setCell (.inl rfl) _).setCell (.inl rfl) _).drew
        replace hW := hW.drew
        have htest : ((sz : Int) + 1) % 256 = 0 := by simpa using (show ((((sz : Int) + 1) % 256 == 0) = true) by assumption)
        generalize ((wr.setCell ⟨b, 1 + m, none⟩ (.int .u8 x)).setCell ⟨b, 257, none⟩ (.int .i64 ((sz : Int) + 1))).drew = W1 at hW hO ⊢
        have HT := hid htest
        have c0 : W1.cell? ⟨b, 0, none⟩ = some (.pointer full) := by
          rw [hW.cell, Array.getElem?_setIfInBounds, if_neg (by omega), Array.getElem?_setIfInBounds, if_neg (by omega)]; exact H6.out
        have f0 : W1.frozen? ⟨b, 0, none⟩ = false := hW.frozen _
        have hbl : b < W1.heap.size := hW.lt
        have hrun : (loadCellsFrom ⟨b, 1, none⟩ 0 N #[]).run Try.prog W1.drew = .ok (((c.setIfInBounds (1 + m) (.int .u8 x)).setIfInBounds 257 (.int .i64 ((sz : Int) + 1))).extract 1 (1 + N)) W1.drew :=
          load_part Try.prog W1.drew b 1 N 78 _ hW.drew (by simp [H5.out, hN.out])
        obtain ⟨tail, htl⟩ : ∃ tail, tail = ((c.setIfInBounds (1 + m) (.int .u8 x)).setIfInBounds 257 (.int .i64 ((sz : Int) + 1))).extract 1 (1 + N) := ⟨_, rfl⟩
        rw [← htl] at hrun
        have ht : tail.size = 256 := by rw [htl]; simp [H5.out, hN.out]
        have HTL := hid htl
        clear htl htest
        go_region
        go_wp2
        go_roundw
        case rel =>
          obtain ⟨cc, hcc, q1, q2, q3⟩ := fill_row (.pointer full) Z hZ tail ht
          rw [hcc]
          have H3' := H3.out
          refine ⟨k + 1, by omega, by go_num, ?_, ?_⟩
          · rw [H1.out]
            have ho : Only b W1 ((W1.setCell ⟨b, 0, none⟩ (.pointer (some ⟨W1.heap.size, 0, none⟩))).alloc (.cells cc 95)).drew := ((((Only.refl b W1).setCell (.inl rfl) _).alloc _)).drew
            have e1 := ((hW.setd 0 (.pointer (some ⟨W1.heap.size, 0, none⟩))).alloc (.cells cc 95)).drew
            have e2 := (Blk.new (W1.setCell ⟨b, 0, none⟩ (.pointer (some ⟨W1.heap.size, 0, none⟩))) 95 cc).drew
            rw [show (W1.setCell ⟨b, 0, none⟩ (.pointer (some ⟨W1.heap.size, 0, none⟩))).heap.size = W1.heap.size by simp [World.setCell]] at e2
            have HT' := HT.out
            have H9' := H9.out
            subst H3'
            refine WAt.full x b1 H5.out H6.out H7.out H8.out H9' b8 (by omega) H4.out e1 e2 q1 q2 (fun i hi => ?_) (hO.trans ho)
            rw [q3 i hi, HTL.out, Array.getElem?_extract, hN.out, if_pos (by simp [H5.out]; omega)]
          · exact ((((hon.trans hO).setCell (.inl rfl) _).alloc _)).drew
        case measure => simp [intOf]; omega
      · have htest : ¬ ((sz : Int) + 1) % 256 = 0 := by simpa using (show ((((sz : Int) + 1) % 256 == 0) = false) by assumption)
        have HT := hid htest
        clear htest
        go_roundw
        case rel =>
          have H3' := H3.out
          have HT' := HT.out
          refine ⟨k + 1, by omega, by go_num, ?_, ?_⟩
          · rw [H1.out]
            have hW := ((b1.setd (1 + m) (.int .u8 x)).setd 257 (.int .i64 ((sz : Int) + 1))).drew
            have H9' := H9.out
            subst H3'
            exact WAt.one x b1 H5.out H6.out H7.out H8.out H9' b8 (by omega) H4.out hW ((((Only.refl b wr).setCell (.inl rfl) _).setCell (.inl rfl) _).drew)
          · exact ((hon.setCell (.inl rfl) _).setCell (.inl rfl) _).drew
        case measure => simp [intOf]; omega
    · have hkn : k = n := by omega
      subst hkn
      have he : xs.take k = xs := by rw [HN.out]; simp
      rw [he] at hat
      have HA := hid hat
      clear hat he
      go_wp2
      go_end0
      exact ⟨rfl, HA.out, hon⟩
end Go.Proofs.Ytjdojnbpchommaa
