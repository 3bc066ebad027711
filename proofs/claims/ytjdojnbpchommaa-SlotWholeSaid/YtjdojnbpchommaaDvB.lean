/-
  What is proved here: a device's fuse burns; is set; all that waits lasts; a device is made.
-/
import Derived.Test.YtjdojnbpchommaaDvS
namespace Go.Proofs.Ytjdojnbpchommaa
open Go.ChangeShapes Go.WideShapes Go.ChangeAt Go.RowKit
set_option linter.unusedVariables false
set_option maxRecDepth 20000

theorem ne_dp : (62 : TypeId) ≠ 67 := by intro h; cases h
theorem ne_dw : (62 : TypeId) ≠ 69 := by intro h; cases h
theorem ne_pw : (67 : TypeId) ≠ 69 := by intro h; cases h
/-- a row's block isn't one of another type -/
theorem own_ne {w : World} {base size n g : Nat} {t : TypeId} {v : Value} {xs : List Value} {cs : Array Value} (h : w.ownsRow base 69 size v n xs) (hb : Blk w g t cs) (hne : t ≠ 69) : v.ownBlock ≠ some g := fun e => by
  rcases h.2 with ⟨rfl, _⟩ | ⟨k, cap, cur, rfl, _, hh, _⟩
  · cases e
  · injection e with e
    have e' : k = g := e
    subst e'
    exact hb.ne (show Blk w k 69 cur from hh) hne rfl
/-- the device's own cells are other ones -/
theorem DAt.turned {w w' : World} {R : Nat → Prop} {b : Nat} {L : List (List Int)} {Q : List Wr} {F' : Int} {D D' : Bool} {g : Nat} {vW : Value} {fz fz' : Bool} {fu fu' : Int}
    (h1 : Blk w b 62 (devC g L.length vW fz fu D)) (h2 : Blk w g 67 (pcs (pg L Q)).toArray) (h3 : w.ownsRow 0 69 129 vW Q.length (wcs (un L Q)))
    (h4 : R b ∧ R g ∧ (∀ k, vW.ownBlock = some k → R k)) (h5 : PgOk L ∧ QOk L.length Q ∧ L.length ≤ 4096)
    (n1 : Blk w' b 62 (devC g L.length vW fz' fu' D')) (hk : ∀ k, k ≠ b → w'.heap[k]? = w.heap[k]?) (e1 : fz' = decide (0 ≤ F')) (e2 : 0 ≤ F' → fu' = F') (e3 : F' ≤ 9223372036854775807) : DAt w' R b L Q F' D' :=
  ⟨g, vW, fz', fu', n1, h2.same (hk g (h1.ne h2 ne_dp).symm), own_same h3 (fun k hl hv => hk k (fun e => own_ne h3 h1 ne_dw (by rw [hv, e]))), h4.1, h4.2.1, h4.2.2, e1, e2, e3, h5.1, h5.2.1, h5.2.2⟩
theorem other_set (w : World) (b i : Nat) (v : Value) : ∀ k, k ≠ b → (w.setCell ⟨b, i, none⟩ v).heap[k]? = w.heap[k]? := fun k hk => Below.heap_setCell w ⟨b, i, none⟩ v k hk
theorem only_set {R : Nat → Prop} {w : World} {b : Nat} (h : R b) (i : Nat) (v : Value) : OnlyS R w (w.setCell ⟨b, i, none⟩ v) := (OnlyS.refl R w).setCell (.inl h) v

section
variable {w : World} {R : Nat → Prop} {b : Nat} {L : List (List Int)} {Q : List Wr} {F : Int} {D : Bool} (h : DAt w R b L Q F D)
include h
theorem burn_none (hF : F < 0) : Calls Try.prog 31 #[.pointer (some ⟨b, 0, none⟩)] w fun e w' => e = .returned (.bool true) ∧ w = w' := by
  obtain ⟨g, vW, fz, fu, h1, h2, h3, r1, r2, r3, e1, e2, e3, rest⟩ := h
  have hz : fz = false := by rw [e1]; simp; omega
  rw [hz] at h1
  have c2 : w.cell? ⟨b, 2, none⟩ = some (.bool false) := h1.cell 2
  clear h1 h2 h3 e1 e2 hz r3 rest
  go_enter Try.func31, Try.ntmps31
  go_wp2
  go_ret
  exact ⟨rfl, rfl⟩
theorem burn_out (hF : F = 0) : Calls Try.prog 31 #[.pointer (some ⟨b, 0, none⟩)] w fun e w' => e = .returned (.bool false) ∧ DAt w' R b L Q 0 true ∧ OnlyS R w w' := by
  subst hF
  obtain ⟨g, vW, fz, fu, h1, h2, h3, r1, r2, r3, e1, e2, e3, e4, e5, e6⟩ := h
  have hz : fz = true := by rw [e1]; simp
  have hu : fu = 0 := e2 (Int.le_refl _)
  rw [hz, hu] at h1
  have c2 : w.cell? ⟨b, 2, none⟩ = some (.bool true) := h1.cell 2
  have c3 : w.cell? ⟨b, 3, none⟩ = some (.int .i64 0) := h1.cell 3
  have c4 : w.cell? ⟨b, 4, none⟩ = some (.bool D) := h1.cell 4
  have f4 : w.frozen? ⟨b, 4, none⟩ = false := h1.frozen 4
  have N1 : Blk (w.setCell ⟨b, 4, none⟩ (.bool true)) b 62 (devC g L.length vW true 0 true) := h1.setd 4 _
  have HD : Hid (DAt (w.setCell ⟨b, 4, none⟩ (.bool true)) R b L Q 0 true) := DAt.turned h1 h2 h3 ⟨r1, r2, r3⟩ ⟨e4, e5, e6⟩ N1 (other_set _ _ _ _) (by simp) (fun _ => rfl) (by omega)
  have HO : Hid (OnlyS R w (w.setCell ⟨b, 4, none⟩ (.bool true))) := only_set r1 _ _
  clear h1 h2 h3 e1 e2 hz r3 e4 e5 e6 N1
  go_enter Try.func31, Try.ntmps31
  go_wp2
  go_ret
  exact ⟨rfl, HD.out, HO.out⟩
theorem burn_on (hF : 0 < F) : Calls Try.prog 31 #[.pointer (some ⟨b, 0, none⟩)] w fun e w' => e = .returned (.bool true) ∧ DAt w' R b L Q (F - 1) D ∧ OnlyS R w w' := by
  obtain ⟨g, vW, fz, fu, h1, h2, h3, r1, r2, r3, e1, e2, e3, e4, e5, e6⟩ := h
  have hz : fz = true := by rw [e1]; simp; omega
  have hu : fu = F := e2 (by omega)
  rw [hz, hu] at h1
  have c2 : w.cell? ⟨b, 2, none⟩ = some (.bool true) := h1.cell 2
  have c3 : w.cell? ⟨b, 3, none⟩ = some (.int .i64 F) := h1.cell 3
  have f4 : w.frozen? ⟨b, 3, none⟩ = false := h1.frozen 3
  have N1 : Blk (w.setCell ⟨b, 3, none⟩ (.int .i64 (F - 1))) b 62 (devC g L.length vW true (F - 1) D) := h1.setd 3 _
  have HD : Hid (DAt (w.setCell ⟨b, 3, none⟩ (.int .i64 (F - 1))) R b L Q (F - 1) D) := DAt.turned h1 h2 h3 ⟨r1, r2, r3⟩ ⟨e4, e5, e6⟩ N1 (other_set _ _ _ _) (by simp; omega) (fun _ => rfl) (by omega)
  have HO : Hid (OnlyS R w (w.setCell ⟨b, 3, none⟩ (.int .i64 (F - 1)))) := only_set r1 _ _
  have hs : IntKind.i64.wrap (F - 1) = F - 1 := IntWalk.i64_in _ (by omega)
  have hne : (F == 0) = false := by simp; omega
  have hne2 : ¬ F = 0 := by omega
  clear h1 h2 h3 e1 e2 hz r3 e4 e5 e6 N1
  go_enter Try.func31, Try.ntmps31
  go_wp2
  go_ret
  exact ⟨rfl, by simpa [hs] using HD.out, by simpa [hs] using HO.out⟩
theorem dSetFuse_at (n : Int) (hn : -9223372036854775808 ≤ n ∧ n ≤ 9223372036854775807) : Calls Try.prog 16 #[.pointer (some ⟨b, 0, none⟩), .int .i64 n] w fun e w' => e = .returned (.tuple #[]) ∧ DAt w' R b L Q (max n (-1)) D ∧ OnlyS R w w' := by
  obtain ⟨g, vW, fz, fu, h1, h2, h3, r1, r2, r3, e1, e2, e3, e4, e5, e6⟩ := h
  have c2 : w.cell? ⟨b, 2, none⟩ = some (.bool fz) := h1.cell 2
  have c3 : w.cell? ⟨b, 3, none⟩ = some (.int .i64 fu) := h1.cell 3
  have f2 : w.frozen? ⟨b, 2, none⟩ = false := h1.frozen 2
  have f3 : w.frozen? ⟨b, 3, none⟩ = false := h1.frozen 3
  have N0 : Blk (w.setCell ⟨b, 2, none⟩ (.bool (decide (0 ≤ n)))) b 62 (devC g L.length vW (decide (0 ≤ n)) fu D) := h1.setd 2 _
  have N1 : Blk ((w.setCell ⟨b, 2, none⟩ (.bool (decide (0 ≤ n)))).setCell ⟨b, 3, none⟩ (.int .i64 n)) b 62 (devC g L.length vW (decide (0 ≤ n)) n D) := N0.setd 3 _
  have HD : Hid (DAt ((w.setCell ⟨b, 2, none⟩ (.bool (decide (0 ≤ n)))).setCell ⟨b, 3, none⟩ (.int .i64 n)) R b L Q (max n (-1)) D) := DAt.turned h1 h2 h3 ⟨r1, r2, r3⟩ ⟨e4, e5, e6⟩ N1 (fun k hk => (other_set _ _ _ _ k hk).trans (other_set _ _ _ _ k hk)) (decide_eq_decide.2 (by omega)) (fun h => by omega) (by omega)
  have HO : Hid (OnlyS R w ((w.setCell ⟨b, 2, none⟩ (.bool (decide (0 ≤ n)))).setCell ⟨b, 3, none⟩ (.int .i64 n))) := (only_set r1 _ _).trans (only_set r1 _ _)
  clear h1 h2 h3 e1 e2 r3 e4 e5 e6 N1 N0 hn
  go_enter Try.func16, Try.ntmps16
  go_wp2
  go_end0
  exact ⟨rfl, HD.out, HO.out⟩
end
/-- the fuse behind an operation -/
def bn (F : Int) : Int := if 0 < F then F - 1 else F
section
variable {w : World} {R : Nat → Prop} {b : Nat} {L : List (List Int)} {Q : List Wr} {F : Int} {D : Bool} (h : DAt w R b L Q F D)
include h
theorem burn_any (hF : F ≠ 0) : Calls Try.prog 31 #[.pointer (some ⟨b, 0, none⟩)] w fun e w' => e = .returned (.bool true) ∧ DAt w' R b L Q (bn F) D ∧ OnlyS R w w' := by
  unfold bn
  by_cases h0 : 0 < F
  · rw [if_pos h0]; exact burn_on h h0
  · rw [if_neg h0]
    refine (burn_none h (by omega)).mono fun e w' ⟨he, hw⟩ => ?_
    subst hw
    exact ⟨he, h, OnlyS.refl R w⟩
/-- nothing waits any more -/
theorem DAt.flushed : ∃ u f1 f2, w.cell? ⟨b, 1, none⟩ = some u ∧ w.frozen? ⟨b, 1, none⟩ = false ∧ Hid (DAt (w.setCell ⟨b, 1, none⟩ (.slice none 0 0)) R b (pg L Q) [] F D) ∧ Hid (OnlyS R w (w.setCell ⟨b, 1, none⟩ (.slice none 0 0))) ∧ f1 = f2 + 0 := by
  obtain ⟨g, vW, fz, fu, h1, h2, h3, r1, r2, r3, e1, e2, e3, e4, e5, e6⟩ := h
  refine ⟨vW, 0, 0, h1.cell 1, h1.frozen 1, ?_, only_set r1 _ _, rfl⟩
  have N1 : Blk (w.setCell ⟨b, 1, none⟩ (.slice none 0 0)) b 62 (devC g (pg L Q).length (.slice none 0 0) fz fu D) := by
    rw [pg_length]; exact h1.setd 1 _
  refine ⟨g, .slice none 0 0, fz, fu, N1, ?_, ?_, r1, r2, ?_, e1, e2, e3, pg_ok Q L e4 e5, QOk.nil _, by rw [pg_length]; exact e6⟩
  · exact h2.same (other_set _ _ _ _ g (h1.ne h2 ne_dp).symm)
  · exact ⟨rfl, .inl ⟨rfl, rfl⟩⟩
  · intro k hk; cases hk
theorem dFlush_out (hd : D = false) (hF : F = 0) : Calls Try.prog 19 #[.pointer (some ⟨b, 0, none⟩)] w fun e w' => e = .returned (.int .i64 6) ∧ DAt w' R b L Q 0 true ∧ OnlyS R w w' := by
  subst hd
  have CD := hid (dDown_at h); have CB := hid (burn_out h hF)
  clear h hF
  go_enter Try.func19, Try.ntmps19
  go_wp2_with (first
    | (go_at_call 24; refine CD.out.mono ?_; rintro e wq ⟨rfl, rfl⟩)
    | (go_at_call 31; refine CB.out.mono ?_; rintro e w1 ⟨rfl, hd1, ho1⟩; have H1 := hid hd1; have O1 := hid ho1; clear hd1 ho1))
  go_ret
  exact ⟨rfl, H1.out, O1.out⟩
theorem dFlush_ok (hd : D = false) (hF : F ≠ 0) : Calls Try.prog 19 #[.pointer (some ⟨b, 0, none⟩)] w fun e w' => e = .returned (.int .i64 0) ∧ DAt w' R b (pg L Q) [] (bn F) false ∧ OnlyS R w w' := by
  subst hd
  have CD := hid (dDown_at h); have CB := hid (burn_any h hF)
  clear h hF
  go_enter Try.func19, Try.ntmps19
  go_wp2_with (first
    | (go_at_call 24; refine CD.out.mono ?_; rintro e wq ⟨rfl, rfl⟩)
    | (go_at_call 31; refine CB.out.mono ?_; rintro e w1 ⟨rfl, hd1, ho1⟩; have O1 := hid ho1; obtain ⟨u, _, _, c1, f1, H2, O2, _⟩ := hd1.flushed; clear hd1 ho1))
  go_ret
  exact ⟨rfl, H2.out, O1.out.trans O2.out⟩
end
theorem dFlush_down {w : World} {R : Nat → Prop} {b : Nat} {L : List (List Int)} {Q : List Wr} {F : Int} (h : DAt w R b L Q F true) : Calls Try.prog 19 #[.pointer (some ⟨b, 0, none⟩)] w fun e w' => e = .returned (.int .i64 6) ∧ w = w' := by
  have CD := hid (dDown_at h)
  clear h
  go_enter Try.func19, Try.ntmps19
  go_wp2_with (go_at_call 24; refine CD.out.mono ?_; rintro e wq ⟨rfl, rfl⟩)
  go_ret
  exact ⟨rfl, rfl⟩
theorem dFlush_nil (w : World) : Calls Try.prog 19 #[.pointer none] w fun e w' => e = .returned (.int .i64 6) ∧ w = w' := by
  have CD := hid (dDown_nil w)
  go_enter Try.func19, Try.ntmps19
  go_wp2_with (go_at_call 24; refine CD.out.mono ?_; rintro e wq ⟨rfl, rfl⟩)
  go_ret
  exact ⟨rfl, rfl⟩
theorem dSetFuse_nil (n : Int) (w : World) : Calls Try.prog 16 #[.pointer none, .int .i64 n] w fun e w' => e = .returned (.tuple #[]) ∧ w = w' := by
  go_enter Try.func16, Try.ntmps16
  go_wp2
  go_end0
  exact ⟨rfl, rfl⟩

/-! Made. -/
def zpg : List Int := List.replicate 128 0
theorem info_page : (Try.prog.info? 67).map (fun i => (i.zero, i.size, i.bytes)) = some (some (.agg (u8s zpg).toArray), 128, 128) := by kernel_rfl
theorem zpg_at (j : Nat) (hj : j < 128) : (u8s zpg)[j]? = some (.int .u8 0) := by
  have e : zpg[j]? = some 0 := by unfold zpg; rw [List.getElem?_replicate, if_pos hj]
  unfold u8s
  rw [List.getElem?_map, e]; rfl
theorem flat_rep : ∀ n j, j < 128 * n → (pcs (List.replicate n zpg))[j]? = some (.int .u8 0) := fun n j hj => by
  have hok : PgOk (List.replicate n zpg) := fun p hp => by rw [List.eq_of_mem_replicate hp]; rfl
  have hlt : j / 128 < n := by omega
  have := pcs_at hok (i := j / 128) (by rw [List.length_replicate]; exact hlt) (j % 128) (by omega)
  rw [show 128 * (j / 128) + j % 128 = j by omega] at this
  have e : (List.replicate n zpg)[j / 128]?.getD [] = zpg := by rw [List.getElem?_replicate, if_pos hlt]; rfl
  rw [this, e]
  exact zpg_at _ (by omega)
theorem make_pages (n : Nat) (hn : n ≤ 4096) (u : World) : (Instr.makeSlice 59 (.int .i64 (n : Int)) (.int .i64 (n : Int))).run Try.prog u =
      .ok (.slice (some ⟨u.heap.size, 0, none⟩) n n) (u.alloc (.cells (pcs (List.replicate n zpg)).toArray 67)) := by
  obtain ⟨i0, hi, hz0, hz1, hz2⟩ := info_parts info_page
  have h := run_make (P := Try.prog) u 59 67 i0 (.agg (u8s zpg).toArray) Try.underlying59 hi hz0 .i64 .i64 (n : Int) (n : Int) (by omega) (Int.le_refl _) (by rw [hz2]; omega) (by omega)
  have e : ((n : Int)).toNat = n := by omega
  rw [e] at h
  have e2 : madeCells (Value.agg (u8s zpg).toArray).cells (n * i0.size) = (pcs (List.replicate n zpg)).toArray := by
    rw [hz1]
    have hsz : (pcs (List.replicate n zpg)).length = 128 * n := by
      rw [pcs_len (fun p hp => by rw [List.eq_of_mem_replicate hp]; rfl), List.length_replicate]
    unfold madeCells
    refine Array.ext (by simp [hsz]; omega) (fun j h1 h2 => ?_)
    have hj : j < 128 * n := by simp [hsz] at h2; exact h2
    have hf := flat_rep n j hj
    have hr : (pcs (List.replicate n zpg)).toArray[j] = Value.int .u8 0 := by
      have : (pcs (List.replicate n zpg)).toArray[j]? = some (Value.int .u8 0) := by rw [List.getElem?_toArray]; exact hf
      rw [Array.getElem?_eq_getElem h2] at this
      exact Option.some.inj this
    rw [hr]
    have hsz2 : (Value.agg (u8s zpg).toArray).cells.size = 128 := rfl
    have hall : ∀ i, i < 128 → (Value.agg (u8s zpg).toArray).cells[i]! = Value.int .u8 0 := fun i hi => by
      show (u8s zpg).toArray[i]! = _
      rw [getElem!_def, List.getElem?_toArray, zpg_at i hi]
    simp only [Array.getElem_map, Array.getElem_range, hsz2]
    exact hall (j % 128) (Nat.mod_lt _ (by omega))
  rw [e2] at h
  exact h
theorem dev_built (g n : Nat) : Try.prog.built 62 [(0, .slice (some ⟨g, 0, none⟩) n n)] = some (devC g n (.slice none 0 0) false 0 false) := by kernel_rfl
theorem dNew_no (n : Int) (w : World) (hn : n < 0 ∨ 4096 < n) : Calls Try.prog 10 #[.int .i64 n] w fun e w' => e = .returned (.tuple #[.pointer none, .int .i64 1]) ∧ w = w' := by
  rcases hn with hn | hn
  · have h1 : decide (n < 0) = true := by simp; omega
    go_enter Try.func10, Try.ntmps10
    go_wp2
    go_ret2
    exact ⟨rfl, rfl⟩
  · have h1 : decide (n < 0) = false := by simp; omega
    have h2 : decide (4096 < n) = true := by simp; omega
    go_enter Try.func10, Try.ntmps10
    go_wp2
    go_ret2
    exact ⟨rfl, rfl⟩
set_option maxHeartbeats 1000000 in
theorem dNew_ok (n : Nat) (w : World) (hn : n ≤ 4096) : Calls Try.prog 10 #[.int .i64 n] w fun e w' => e = .returned (.tuple #[.pointer (some ⟨w.heap.size + 1, 0, none⟩), .int .i64 0]) ∧
    DAt w' (fun k => w.heap.size ≤ k ∧ k < w.heap.size + 2) (w.heap.size + 1) (List.replicate n zpg) [] (-1) false ∧ Below w.heap.size w w' ∧ w'.heap.size = w.heap.size + 2 := by
  have hmk := make_pages n hn
  have hb := dev_built w.heap.size n
  have h1 : decide ((n : Int) < 0) = false := by simp
  have h2 : decide (4096 < (n : Int)) = false := by simp; omega
  have hok : PgOk (List.replicate n zpg) := fun p hp => by rw [List.eq_of_mem_replicate hp]; rfl
  have HP : Hid (DAt ((w.alloc (.cells (pcs (List.replicate n zpg)).toArray 67)).alloc (.cells (devC w.heap.size n (.slice none 0 0) false 0 false) 62)) (fun k => w.heap.size ≤ k ∧ k < w.heap.size + 2) (w.heap.size + 1) (List.replicate n zpg) [] (-1) false) := by
    refine ⟨w.heap.size, .slice none 0 0, false, 0, ?_, (Blk.new w _ _).alloc _, ⟨rfl, .inl ⟨rfl, rfl⟩⟩, by omega, by omega, (fun k hk => by cases hk), by simp, (fun h => by omega), by omega, hok, QOk.nil _, by rw [List.length_replicate]; exact hn⟩
    rw [List.length_replicate]
    have := Blk.new (w.alloc (.cells (pcs (List.replicate n zpg)).toArray 67)) 62 (devC w.heap.size n (.slice none 0 0) false 0 false)
    simpa using this
  have HB : Hid (Below w.heap.size w ((w.alloc (.cells (pcs (List.replicate n zpg)).toArray 67)).alloc (.cells (devC w.heap.size n (.slice none 0 0) false 0 false) 62))) := ((Below.refl _ _).alloc (Nat.le_refl _) _).alloc (by simp) _
  generalize (pcs (List.replicate n zpg)).toArray = PC at hmk HP HB
  have hn' : (n : Int) ≤ 4096 := by omega
  clear hok hn
  go_enter Try.func10, Try.ntmps10
  go_wp2_with (refine wpList_build rfl 62 _ rfl (by simp [Act.eval, hb]) ?_)
  go_ret2
  exact ⟨by simp, HP.out, HB.out, by simp⟩
end Go.Proofs.Ytjdojnbpchommaa
