/-
  What is proved here: a put: one more segment's hash behind the others, made one with those before it as long as they fit.
-/
import Derived.Test.YtoacjaecfabahaaDoorMF2
set_option linter.unusedSimpArgs false
set_option linter.unusedVariables false
namespace Go.Proofs.YtoacjaecfabahaaDoor
open Go.ChangeShapes Go.WideShapes Go.ChangeAt Go.RowKit
set_option linter.unusedVariables false
set_option linter.unusedSimpArgs false
set_option maxRecDepth 20000

section
variable {P : Program}
theorem wp_app_at {w : World} {o : Oper} {a : Act} {K : Act → World → Prop} {Q : Exit → Act → World → Prop} (s x : Operand) (t : TypeId)
    (ho : o.op = .call { callee := .builtin .append, args := #[s, x], argTypes := #[t, t] })
    (base : Nat) (e : TypeId) (i : TypeInfo) (z : Value) (size bytes : Nat) (ht : P.underlying t = some (.slice e)) (hi : P.info? e = some i) (hz : i.zero = some z)
    (hsize : i.size = size) (hby : i.bytes = bytes) (hzs : z.cells.size = size) (hsz : 0 < size)
    (v : Value) (n : Nat) (xs : List Value) (hs : a.eval s = v) (hown : w.ownsRow base e size v n xs)
    (ad : Addr) (m c : Nat) (news : List Value) (hx : a.eval x = .slice (some ad) m c) (hl : news.length = m * size) (hnews : ∀ j u, news[j]? = some u → w.cell? (ad.add j) = some u) (h1 : ∀ u ∈ news, u.oneCell' = true)
    (h63 : n + m ≤ maxLen) (hbytes : (n + m) * bytes ≤ 140737488355328) (hbase : base ≤ w.heap.size)
    (h : ∀ v' w', w'.ownsRow base e size v' (n + m) (xs ++ news) → w.grownBy w' v.ownBlock → (v'.ownBlock = v.ownBlock ∨ v'.ownBlock = some w.heap.size) → K (a.put o.dst v') w') : o.wp P a w K Q := by
  obtain ⟨v', w', hr, h2, h3, h4, h5⟩ := run_append_own_at (P := P) w base t o.type e i z size bytes ht hi hz hsize hby hzs hsz v n xs hown ad m c news hl hnews h1 h63 hbytes hbase
  unfold Oper.wp execOp
  simp only [ho, resolve, invoke, builtin, Sem.run_bind, Sem.run_pure, Result.andThen_ok, List.map_toArray, List.map_cons, List.map_nil, hs, hx, hr]
  exact h v' w' h2 h3 h5
end
theorem wp_app_i1 {w : World} {o : Oper} {a : Act} {K : Act → World → Prop} {Q : Exit → Act → World → Prop} (s x : Operand)
    (ho : o.op = .call { callee := .builtin .append, args := #[s, x], argTypes := #[71, 71] })
    (base : Nat) (v : Value) (X : List Int) (hs : a.eval s = v) (hown : OwI base w v X) (g : Nat) (y : Int) (hg : Blk w g 3 #[.int .i64 y]) (hx : a.eval x = .slice (some ⟨g, 0, none⟩) 1 1) (h63 : X.length + 1 < 1000000) (hbase : base ≤ w.heap.size)
    (h : ∀ v' w', OwI base w' v' (X ++ [y]) → w.grownBy w' v.ownBlock → (v'.ownBlock = v.ownBlock ∨ v'.ownBlock = some w.heap.size) → K (a.put o.dst v') w') : o.wp Tryd.prog a w K Q := by
  obtain ⟨i0, hi, hz0, hz1, hz2⟩ := info_parts info_i64
  refine wp_app_at s x 71 ho base 3 i0 (.int .i64 0) 1 8 Tryd.underlying71 hi hz0 hz1 hz2 rfl (by decide) v X.length (nis X) hs hown ⟨g, 0, none⟩ 1 1 (nis [y]) hx rfl (fun j u hu => ?_) (nis_ones _) (by unfold maxLen; omega) (by omega) hbase ?_
  · have e : (#[Value.int .i64 y] : Array Value) = (nis [y]).toArray := rfl
    rw [Addr.add_lit, Nat.zero_add, hg.cell, e, List.getElem?_toArray]; exact hu
  · intro v' w' h1 h2 h4
    refine h v' w' ?_ h2 h4
    show World.ownsRow _ _ _ _ _ _ _
    rw [List.length_append, nis_append]
    exact h1
theorem wp_app_h1 {w : World} {o : Oper} {a : Act} {K : Act → World → Prop} {Q : Exit → Act → World → Prop} (s x : Operand)
    (ho : o.op = .call { callee := .builtin .append, args := #[s, x], argTypes := #[22, 22] })
    (base : Nat) (v : Value) (X : List (List Int)) (hs : a.eval s = v) (hown : OwH base w v X) (g : Nat) (f : List Int) (hf : H32 f) (hg : Blk w g 33 (hcs [f]).toArray) (hx : a.eval x = .slice (some ⟨g, 0, none⟩) 1 1) (h63 : X.length + 1 < 1000000) (hbase : base ≤ w.heap.size)
    (h : ∀ v' w', OwH base w' v' (X ++ [f]) → w.grownBy w' v.ownBlock → (v'.ownBlock = v.ownBlock ∨ v'.ownBlock = some w.heap.size) → K (a.put o.dst v') w') : o.wp Tryd.prog a w K Q := by
  obtain ⟨i0, z, hi, hz1, hz2, hz0, hzs⟩ := fh_info
  refine wp_app_at s x 22 ho base 33 i0 z 32 32 Tryd.underlying22 hi hz0 hz1 hz2 hzs (by decide) v X.length (hcs X) hs hown.row ⟨g, 0, none⟩ 1 1 (hcs [f]) hx (by rw [hcs_one, u8s_length, hf.len]) (fun j u hu => ?_) (hcs_ones _) (by unfold maxLen; omega) (by omega) hbase ?_
  · rw [Addr.add_lit, Nat.zero_add, hg.cell, List.getElem?_toArray]; exact hu
  · intro v' w' h1 h2 h4
    refine h v' w' ⟨?_, fun k hk => ?_⟩ h2 h4
    · rw [List.length_append, hcs_append]
      exact h1
    · rcases List.mem_append.1 hk with hk | hk
      · exact hown.ok k hk
      · rw [List.mem_singleton.1 hk]; exact hf
/-- what a put answers -/
def PuA (w : World) (n0 g : Nat) (p : Int) (u1 u2 : Value) (S : List (Nat × List Int)) (e : Ending) (w' : World) : Prop := e = .returned (.tuple #[]) ∧
  ∃ v1 v2, SdAt w' n0 g p v1 v2 S ∧ OnlyS (SdO g u1 u2) w w' ∧ (∀ k, v1.ownBlock = some k → u1.ownBlock = some k ∨ w.heap.size ≤ k) ∧ (∀ k, v2.ownBlock = some k → u2.ownBlock = some k ∨ w.heap.size ≤ k)
theorem own_cell {w : World} {n0 n c : Nat} {A : Option Addr} {X : List Int} {k : Nat} {z : Int} (h : OwI n0 w (.slice A n c) X) (hk : X[k]? = some z) : ∃ q, A = some ⟨q, 0, none⟩ ∧ w.cell? ⟨q, k, none⟩ = some (.int .i64 z) := by
  have h1 : w.ownsRow n0 3 1 (.slice A n c) X.length (nis X) := h
  rcases h1.2 with ⟨_, h0⟩ | ⟨q, cap, cur, hv, _⟩
  · rw [List.length_eq_zero_iff.1 h0] at hk; cases hk
  · injection hv with hA
    have h2 := World.ownsRow.cells h1 (g := q) (by rw [hA]; rfl) _ _ (nis_at hk)
    rw [Addr.add_lit, Nat.zero_add] at h2
    exact ⟨q, hA, h2⟩
theorem own_rng {w : World} {n0 n c : Nat} {A : Option Addr} {Y : List (List Int)} {k : Nat} {f : List Int} (h : OwH n0 w (.slice A n c) Y) (hk : Y[k]? = some f) : ∃ q, A = some ⟨q, 0, none⟩ := by
  rcases h.row.2 with ⟨_, h0⟩ | ⟨q, cap, cur, hv, _⟩
  · rw [List.length_eq_zero_iff.1 h0] at hk; cases hk
  · injection hv with hA
    exact ⟨q, hA⟩
theorem own_rng2 {w : World} {n0 n c q : Nat} {Y : List (List Int)} {k : Nat} {f : List Int} (h : OwH n0 w (.slice (some ⟨q, 0, none⟩) n c) Y) (hk : Y[k]? = some f) : w.rangeAt q (k * 32) (u8s f) := fun j v hv => by
  have h2 := World.ownsRow.cells h.row (g := q) rfl _ v (hcs_at h.ok hk j v hv)
  rw [Addr.add_lit, Nat.zero_add] at h2
  exact h2
theorem snoc_at {α : Type} (S : List α) (x : α) : (S ++ [x])[S.length]? = some x := by simp
theorem hsh_at {S : List (Nat × List Int)} {n : Nat} {k : Nat} {f : List Int} (hn : S.length = n) : (hshs (S ++ [(k, f)]))[n]? = some f := by subst hn; simp
theorem szs_at {S : List (Nat × List Int)} {n : Nat} {k : Nat} {f : List Int} (hn : S.length = n) : (szs (exps (S ++ [(k, f)])))[n]? = some ((2 ^ k : Nat) : Int) := by subst hn; simp [szs]
theorem push_rev_go (p : Nat) (S : List (Nat × List Int)) (k : Nat) (f h : List Int) (hb : p.testBit k = true) : push ndF p (S ++ [(k, f)]).reverse k h = push ndF p S.reverse (k + 1) (ndF f h) := by
  rw [List.reverse_append]
  show push ndF p ((k, f) :: S.reverse) k h = _
  rw [push, if_pos ⟨rfl, hb⟩]
theorem push_rev_stop (p : Nat) (S : List (Nat × List Int)) (j k : Nat) (f h : List Int) (hb : ¬ (j = k ∧ p.testBit k = true)) : push ndF p (S ++ [(j, f)]).reverse k h = (k, h) :: (S ++ [(j, f)]).reverse := by
  rw [List.reverse_append]
  show push ndF p ((j, f) :: S.reverse) k h = _
  rw [push, if_neg hb]; rfl
theorem pow2_inj {i j : Nat} (h : 2 ^ i = 2 ^ j) : i = j := by
  rcases Nat.lt_trichotomy i j with hl | he | hl
  · have := Nat.pow_lt_pow_right (a := 2) (by decide) hl; omega
  · exact he
  · have := Nat.pow_lt_pow_right (a := 2) (by decide) hl; omega
theorem snoc_cases {α : Type} (S : List α) : S = [] ∨ ∃ S' q, S = S' ++ [q] := by
  rcases h : S.reverse with _ | ⟨q, T⟩
  · exact .inl (List.reverse_eq_nil_iff.1 h)
  · exact .inr ⟨T.reverse, q, by rw [← List.reverse_reverse S, h, List.reverse_cons]⟩
def TrueW (w : World) : Prop := True
def SdB (n0 g : Nat) (P : Int) (v1 v2 : Value) (S : List (Nat × List Int)) (w : World) : Prop := SdAt w n0 g P v1 v2 S
structure PuB (g e : Nat) (P : Int) (v1 v2 : Value) (h : List Int) (x : World) : Prop where
  kb : Blk x g 73 #[.int .i64 P, v1, v2]
  box : Blk x e 33 (hc32 h)
theorem blk_grown {n0 g e : Nat} {u1 u2 : Value} {w : World} {P : Int} {V1 V2 v1 v2 : Value} {X : List Int} {Y : List (List Int)} {h : List Int} {x y : World} {k : Nat} {cs : Array Value} (H : PuS n0 g e u1 u2 w P V1 V2 v1 v2 X Y h x) (hk : Blk x k 33 cs) (hg : x.grownBy y v1.ownBlock) : Blk y k 33 cs :=
  hk.same (hg.block k hk.lt (fun e' => by
    obtain ⟨_, C, hC⟩ := H.sz.ty k e'.symm
    exact hk.ne hC (by decide) rfl))
set_option maxHeartbeats 16000000 in
theorem fPut_any {w : World} {n0 g p m0 : Nat} {u1 u2 : Value} {S0 : List (Nat × List Int)} {h0 : List Int} (H : SdAt w n0 g (p : Int) u1 u2 S0) (hh : H32 h0) (hm : m0 ≤ 30) (hS : ∀ q ∈ S0, q.1 ≤ 30) (hp : p + 2 ^ m0 < 4294967296) (hn : S0.length < 1000) (hn0 : n0 ≤ w.heap.size) (hT : ∀ w', Below n0 w w' → Tab w') :
    Calls Tryd.prog 40 #[.pointer (some ⟨g, 0, none⟩), .int .i64 ((2 ^ m0 : Nat) : Int), hV h0] w (PuA w n0 g ((p + 2 ^ m0 : Nat) : Int) u1 u2 (push ndF p S0.reverse m0 h0).reverse) := by
  obtain ⟨R, hR⟩ : ∃ R, R = push ndF p S0.reverse m0 h0 := ⟨_, rfl⟩
  obtain ⟨z0, hz0⟩ : ∃ z0, z0 = 2 ^ m0 := ⟨_, rfl⟩
  have HTB := hid hT
  have hz30 : z0 ≤ 1073741824 := by rw [hz0]; exact pow_mono2 hm
  rw [← hR, ← hz0]
  rw [← hz0] at hp
  have PI0 := hid (pus_of H hn0 hh)
  obtain ⟨A1, c1, e1, hc1, hd1⟩ := H.sz.len
  obtain ⟨A2, c2, e2, hc2, hd2⟩ := H.hs.len
  rw [szs_len, List.length_map] at e1 hc1
  rw [List.length_map] at e2 hc2
  have HPN0 : Hid (R = push ndF p S0.reverse m0 h0) := hR
  have HZ0 := hid hz0; have HS0 := hid hS
  obtain ⟨N0, hN0⟩ : ∃ N0, N0 = S0.length := ⟨_, rfl⟩
  rw [← hN0] at e1 e2 hc1 hc2 hn
  have HM0 : Hid (S0.length = N0) := hN0.symm
  have HU1 := hid e1; have HU2 := hid e2
  clear hR hz0 hT H hh hS hN0 e1 e2
  unfold PuA
  have c0 : (w.alloc (.cells (hc32 h0) 33)).cell? ⟨g, 0, none⟩ = some (.int .i64 (p : Int)) := PI0.out.kb.cell 0
  have d0 : (w.alloc (.cells (hc32 h0) 33)).cell? ⟨g, 1, none⟩ = some (.slice A1 N0 c1) := by rw [← HU1.out]; exact PI0.out.kb.cell 1
  have f0 : (w.alloc (.cells (hc32 h0) 33)).frozen? ⟨g, 0, none⟩ = false := PI0.out.kb.frozen 0
  go_enter Tryd.func40, Tryd.ntmps40
  go_wp2
  clear c0 d0 f0
  have PI1 := hid (PI0.out.field 0 (.int .i64 ((p : Int) + (z0 : Int))) (P' := (p : Int) + (z0 : Int)) rfl)
  clear PI0
  generalize w.heap.size = e at PI1
  have HPP : Hid ((p : Int) + (z0 : Int) = ((p + z0 : Nat) : Int)) := by show _ = _; omega
  generalize hP : (p : Int) + (z0 : Int) = P at PI1 HPP
  try rw [hP]
  clear hP
  generalize (w.alloc (.cells (hc32 h0) 33)).setCell ⟨g, 0, none⟩ (.int .i64 P) = w1 at PI1 ⊢
  go_loopw [1, 7] (fun s1 s7 wr => ∃ (S : List (Nat × List Int)) (n k z : Nat) (j : Int) (h : List Int) (v1 v2 : Value), s1 = .int .i64 (z : Int) ∧ s7 = .int .i64 j ∧ j = (n : Int) - 1 ∧ Hid (PuS n0 g e u1 u2 w P v1 v2 v1 v2 (szs (exps S)) (hshs S) h wr) ∧ Hid (R = push ndF p S.reverse k h) ∧ Hid (z = 2 ^ k) ∧ k ≤ 31 ∧ Hid (∀ q ∈ S, q.1 ≤ 30) ∧ Hid (S.length = n) ∧ n < 1000) (fun _ i _ => (intOf i + 1).toNat)
  case atStart => exact ⟨S0, N0, m0, z0, _, h0, u1, u2, rfl, rfl, rfl, PI1.out, HPN0.out, HZ0.out, by omega, HS0.out, HM0.out, hn⟩
  case round =>
    obtain ⟨S, n, k, z, j, h, v1, v2, rfl, rfl, hj, PI, HPN, HZ, hk, HS, HM, hn9⟩ := hrel
    clear PI1 HM0 HS0 HZ0 HPN0 HU1 HU2
    have hzb : z ≤ 2147483648 := by rw [HZ.out]; exact pow_mono2 hk
    have hz1 : 0 < z := by rw [HZ.out]; exact pow_pos2 k
    have hbit := and_bit p k (by omega) hk
    rw [← HZ.out] at hbit
    obtain ⟨A1, c1, e1, hc1, hd1⟩ := PI.out.sz.len
    obtain ⟨A2, c2, e2, hc2, hd2⟩ := PI.out.hs.len
    rw [szs_len, List.length_map, HM.out] at e1 hc1
    rw [List.length_map, HM.out] at e2 hc2
    have HV1 := hid e1; have HV2 := hid e2
    have HK := hid hk
    have fg : wr.cell? ⟨g, 1, none⟩ = some (.slice A1 n c1) := by rw [← HV1.out]; exact PI.out.kb.cell 1
    clear e1 e2 hk
    by_cases hgo : ∃ S' f, S = S' ++ [(k, f)] ∧ p.testBit k = true
    · obtain ⟨S', f, hSS, hb⟩ := hgo
      subst hSS
      rw [if_pos hb] at hbit
      have hlen := HM.out
      rw [List.length_append] at hlen
      obtain ⟨m, rfl⟩ : ∃ m, n = m + 1 := ⟨S'.length, hlen.symm⟩
      have HMm : Hid (S'.length = m) := Nat.succ.inj hlen
      have ej : j = (m : Int) := by omega
      subst ej
      have PX := PI
      rw [HV1.out, HV2.out] at PX
      have HPN2 := hid (HPN.out.trans (push_rev_go p S' k f h hb))
      have HZ2 : Hid (z * 2 = 2 ^ (k + 1)) := by show _ = _; rw [HZ.out, Nat.pow_succ]
      have HK30 : k ≤ 30 := HS.out (k, f) (by simp)
      have HSN : Hid (∀ q ∈ S', q.1 ≤ 30) := fun q hq => HS.out q (by simp [hq])
      obtain ⟨q1, rfl, hcc⟩ := own_cell PX.out.sz (szs_at HMm.out)
      obtain ⟨q2, rfl⟩ := own_rng PX.out.hs (hsh_at HMm.out)
      rw [← HZ.out] at hcc
      have HF : Hid (H32 f) := PX.out.hs.ok f (by simp)
      have HIF := hid (info_hash f HF.out.len)
      have HIN := hid (info_hash (ndF f h) (h32_sum (ndT f h)).len)
      have HSZ : Hid ((hc32 h).size = (hc32 (ndF f h)).size) := by exact PX.out.hh.size.trans (H32.size (h32_sum (ndT f h))).symm
      have hne : ((z : Int) != 0) = true := by simp; omega
      have hmc1 : ¬ (c1 = 0) := by omega
      have hmc2 : ¬ (c2 = 0) := by omega
      have hle1 : m ≤ c1 := by omega
      have hle2 : m ≤ c2 := by omega
      clear HM HS HPN PI HK hj
      have HM := HMm
      have HK := hid HK30
      clear HMm HK30 hlen hb HV1 HV2
      go_wp2
      clear fg hcc hbit hne
      refine wp_region_held (S := fun w' => Hid (SdB n0 g P (.slice (some ⟨q1, 0, none⟩) (m + 1) c1) (.slice (some ⟨q2, 0, none⟩) (m + 1) c2) (S' ++ [(k, f)]) w')) (by kernel_rfl) ?_
      change wpAnyH _ _ _ _ _ _ _ _ wr.drew
      have Gx0 : Hid (SdB n0 g P (.slice (some ⟨q1, 0, none⟩) (m + 1) c1) (.slice (some ⟨q2, 0, none⟩) (m + 1) c2) (S' ++ [(k, f)]) wr.drew) := (PX.out.below ((Below.refl _ _).drew)).done
      have PX' : Hid (PuS n0 g e u1 u2 w P (.slice (some ⟨q1, 0, none⟩) (m + 1) c1) (.slice (some ⟨q2, 0, none⟩) (m + 1) c2) (.slice (some ⟨q1, 0, none⟩) (m + 1) c1) (.slice (some ⟨q2, 0, none⟩) (m + 1) c2) (szs (exps (S' ++ [(k, f)]))) (hshs (S' ++ [(k, f)])) h wr.drew) := PX.out.below ((Below.refl _ _).drew)
      clear PX
      have PX := PX'
      clear PX'
      generalize wr.drew = x0 at Gx0 PX ⊢
      refine wpAnyH_take (i := 0) (oi := { dst := some 47, op := _, type := _, pos := _, after := _, guard := _ }) (v := ?_) rfl (by kernel_rfl) (by kernel_rfl) (by kernel_rfl) (fun _ _ _ h => h) (Or.inl ⟨by kernel_rfl, ?_⟩) Gx0 ?_
      rotate_left
      · (intro w hSw; go_simp; try with_reducible rfl)
      try simp only [Act.put, List.setIfInBounds_toArray, List.set_cons_zero, List.set_cons_succ]
      refine wpAnyH_take (i := 1) (oi := { dst := some 48, op := _, type := _, pos := _, after := _, guard := _ }) (v := ?_) rfl (by kernel_rfl) (by kernel_rfl) (by kernel_rfl) (fun _ _ _ h => h) (Or.inl ⟨by kernel_rfl, ?_⟩) Gx0 ?_
      rotate_left
      · (intro w hSw; go_simp; try with_reducible rfl)
      try simp only [Act.put, List.setIfInBounds_toArray, List.set_cons_zero, List.set_cons_succ]
      refine wpAnyH_take (i := 2) (oi := { dst := some 49, op := _, type := _, pos := _, after := _, guard := _ }) (v := ?_) rfl (by kernel_rfl) (by kernel_rfl) (by kernel_rfl) (fun _ _ _ h => h) (Or.inl ⟨by kernel_rfl, ?_⟩) Gx0 ?_
      rotate_left
      · (intro w hSw; go_simp; try with_reducible rfl)
      try simp only [Act.put, List.setIfInBounds_toArray, List.set_cons_zero, List.set_cons_succ]
      refine wpAnyH_take (i := 3) (oi := { dst := some 50, op := _, type := _, pos := _, after := _, guard := _ }) (v := ?_) rfl (by kernel_rfl) (by kernel_rfl) (by kernel_rfl) (fun _ _ _ h => h) (Or.inl ⟨by kernel_rfl, ?_⟩) Gx0 ?_
      rotate_left
      · (intro w hSw; have c2 : w.cell? ⟨g, 2, none⟩ = some (.slice (some ⟨q2, 0, none⟩) (m + 1) c2) := hSw.out.kb.cell 2; go_simp; try with_reducible rfl)
      try simp only [Act.put, List.setIfInBounds_toArray, List.set_cons_zero, List.set_cons_succ]
      refine wpAnyH_take (i := 4) (oi := { dst := some 51, op := _, type := _, pos := _, after := _, guard := _ }) (v := ?_) rfl (by kernel_rfl) (by kernel_rfl) (by kernel_rfl) (fun _ _ _ h => h) (Or.inl ⟨by kernel_rfl, ?_⟩) Gx0 ?_
      rotate_left
      · (intro w hSw; go_simp; try with_reducible rfl)
      try simp only [Act.put, List.setIfInBounds_toArray, List.set_cons_zero, List.set_cons_succ]
      refine wpAnyH_take (i := 5) (oi := { dst := some 52, op := _, type := _, pos := _, after := _, guard := _ }) (v := ?_) rfl (by kernel_rfl) (by kernel_rfl) (by kernel_rfl) (fun _ _ _ h => h) (Or.inl ⟨by kernel_rfl, ?_⟩) Gx0 ?_
      rotate_left
      · (intro w hSw; have hml : (m : Int) < (m : Int) + 1 := (by omega); go_simp; try with_reducible rfl)
      try simp only [Act.put, List.setIfInBounds_toArray, List.set_cons_zero, List.set_cons_succ]
      refine wpAnyH_take (i := 6) (oi := { dst := some 53, op := _, type := _, pos := _, after := _, guard := _ }) (v := .agg (hc32 f)) rfl (by kernel_rfl) (by kernel_rfl) (by kernel_rfl) (fun _ _ _ h => h) (yieldsIf_load_mid (cs := u8s f) (by rfl) _ _ rfl _ _ rfl _ (fun w' hSw => own_rng2 hSw.out.hs (hsh_at HM.out)) Tryd.underlying33 rfl HIF.out) Gx0 ?_
      try simp only [Act.put, List.setIfInBounds_toArray, List.set_cons_zero, List.set_cons_succ]
      refine wpAnyH_ready (rs := [7]) (by kernel_rfl) (by simp) ?_
      refine (AllReadyH.cons (o := { dst := some 54, op := _, type := _, pos := _, after := _, guard := _ }) rfl (fun Qc hQc => ?_) AllReadyH.nil)
      rw [if_pos (by rfl)]
      refine wp_load_mid 33 (.tmp 5) rfl e 0 rfl (u8s h) _ ((blk_row PX.out.box)) Tryd.underlying33 rfl (info_hash h PX.out.hh.len) ?_
      refine hQc.out _ _ Gx0 (fun hHeld => ?_)
      clear hQc Qc
      try simp only [Act.put, List.setIfInBounds_toArray, List.set_cons_zero, List.set_cons_succ]
      refine wpAnyH_ready (rs := [8]) (by kernel_rfl) (by simp) ?_
      refine (AllReadyH.cons (o := { dst := some 55, op := _, type := _, pos := _, after := _, guard := _ }) rfl (fun Qc hQc => ?_) AllReadyH.nil)
      go_simp
      have CN := hid (fNode_any HF.out PX.out.hh (HTB.out x0 PX.out.bel))
      go_at_call 44
      refine CN.out.mono ?_
      clear CN
      rintro e1 x1 ⟨rfl, hb⟩
      have PY := hid (PX.out.below hb)
      have Gx1 : Hid (SdAt x1 n0 g P (.slice (some ⟨q1, 0, none⟩) (m + 1) c1) (.slice (some ⟨q2, 0, none⟩) (m + 1) c2) (S' ++ [(k, f)])) := PY.out.done
      clear hb PX
      have PX := PY
      clear PY
      go_wp2_with fail
      refine hQc.out _ _ Gx1 (fun hHeld => ?_)
      clear hQc Qc hHeld
      try simp only [Act.put, List.setIfInBounds_toArray, List.set_cons_zero, List.set_cons_succ]
      refine wpAnyH_ready (rs := [9]) (by kernel_rfl) (by simp) ?_
      refine (AllReadyH.cons (o := { dst := none, op := _, type := _, pos := _, after := _, guard := _ }) rfl (fun Qc hQc => ?_) AllReadyH.nil)
      rw [if_pos (by rfl)]
      refine wp_store_row 33 (.tmp 5) (.tmp 55) rfl e (hc32 (ndF f h)) rfl rfl 33 (hc32 h) PX.out.box HIN.out HSZ.out (u8s_all _) ?_
      have PY := hid (PX.out.boxed (h' := ndF f h) (h32_sum (ndT f h)))
      have Gx2 : Hid (SdAt (x1.setRow e (hc32 (ndF f h))) n0 g P (.slice (some ⟨q1, 0, none⟩) (m + 1) c1) (.slice (some ⟨q2, 0, none⟩) (m + 1) c2) (S' ++ [(k, f)])) := PY.out.done
      refine hQc.out _ _ Gx2 (fun hHeld => ?_)
      clear hQc Qc hHeld PX
      generalize x1.setRow e (hc32 (ndF f h)) = x2 at PY Gx2 ⊢
      have PX : Hid (PuS n0 g e u1 u2 w P (.slice (some ⟨q1, 0, none⟩) (m + 1) c1) (.slice (some ⟨q2, 0, none⟩) (m + 1) c2) (.slice (some ⟨q1, 0, none⟩) (m + 1) c1) (.slice (some ⟨q2, 0, none⟩) (m + 1) c2) (szs (exps (S' ++ [(k, f)]))) (hshs (S' ++ [(k, f)])) (ndF f h) x2) := PY
      clear PY
      try simp only [Act.put, List.setIfInBounds_toArray, List.set_cons_zero, List.set_cons_succ]
      refine wpAnyH_done (by kernel_rfl) ?_ _
      try simp only [Act.put, List.setIfInBounds_toArray, List.set_cons_zero, List.set_cons_succ]
      go_wp2
      refine wp_region_held (S := fun w' => Hid (TrueW w')) (by kernel_rfl) ?_
      change wpAnyH _ _ _ _ _ _ _ _ x2.drew
      have Gx0 : Hid (TrueW x2.drew) := trivial
      have PX' : Hid (PuS n0 g e u1 u2 w P (.slice (some ⟨q1, 0, none⟩) (m + 1) c1) (.slice (some ⟨q2, 0, none⟩) (m + 1) c2) (.slice (some ⟨q1, 0, none⟩) (m + 1) c1) (.slice (some ⟨q2, 0, none⟩) (m + 1) c2) (szs (exps (S' ++ [(k, f)]))) (hshs (S' ++ [(k, f)])) (ndF f h) x2.drew) := PX.out.below ((Below.refl _ _).drew)
      clear PX
      have PX := PX'
      clear PX'
      generalize x2.drew = x0 at Gx0 PX ⊢
      refine wpAnyH_take (i := 0) (oi := { dst := some 58, op := _, type := _, pos := _, after := _, guard := _ }) (v := ?_) rfl (by kernel_rfl) (by kernel_rfl) (by kernel_rfl) (fun _ _ _ h => h) (Or.inl ⟨by kernel_rfl, ?_⟩) Gx0 ?_
      rotate_left
      · (intro w hSw; go_simp; try with_reducible rfl)
      try simp only [Act.put, List.setIfInBounds_toArray, List.set_cons_zero, List.set_cons_succ]
      refine wpAnyH_take (i := 1) (oi := { dst := some 59, op := _, type := _, pos := _, after := _, guard := _ }) (v := ?_) rfl (by kernel_rfl) (by kernel_rfl) (by kernel_rfl) (fun _ _ _ h => h) (Or.inl ⟨by kernel_rfl, ?_⟩) Gx0 ?_
      rotate_left
      · (intro w hSw; go_simp; try with_reducible rfl)
      try simp only [Act.put, List.setIfInBounds_toArray, List.set_cons_zero, List.set_cons_succ]
      refine wpAnyH_take (i := 2) (oi := { dst := some 60, op := _, type := _, pos := _, after := _, guard := _ }) (v := ?_) rfl (by kernel_rfl) (by kernel_rfl) (by kernel_rfl) (fun _ _ _ h => h) (Or.inl ⟨by kernel_rfl, ?_⟩) Gx0 ?_
      rotate_left
      · (intro w hSw; go_simp; try with_reducible rfl)
      try simp only [Act.put, List.setIfInBounds_toArray, List.set_cons_zero, List.set_cons_succ]
      refine wpAnyH_take (i := 3) (oi := { dst := some 61, op := _, type := _, pos := _, after := _, guard := _ }) (v := ?_) rfl (by kernel_rfl) (by kernel_rfl) (by kernel_rfl) (fun _ _ _ h => h) (Or.inl ⟨by kernel_rfl, ?_⟩) Gx0 ?_
      rotate_left
      · (intro w hSw; go_simp; try with_reducible rfl)
      try simp only [Act.put, List.setIfInBounds_toArray, List.set_cons_zero, List.set_cons_succ]
      refine wpAnyH_take (i := 4) (oi := { dst := some 62, op := _, type := _, pos := _, after := _, guard := _ }) (v := ?_) rfl (by kernel_rfl) (by kernel_rfl) (by kernel_rfl) (fun _ _ _ h => h) (Or.inl ⟨by kernel_rfl, ?_⟩) Gx0 ?_
      rotate_left
      · (intro w hSw; go_simp; try with_reducible rfl)
      try simp only [Act.put, List.setIfInBounds_toArray, List.set_cons_zero, List.set_cons_succ]
      refine wpAnyH_take (i := 6) (oi := { dst := some 64, op := _, type := _, pos := _, after := _, guard := _ }) (v := ?_) rfl (by kernel_rfl) (by kernel_rfl) (by kernel_rfl) (fun _ _ _ h => h) (Or.inl ⟨by kernel_rfl, ?_⟩) Gx0 ?_
      rotate_left
      · (intro w hSw; go_simp; try with_reducible rfl)
      try simp only [Act.put, List.setIfInBounds_toArray, List.set_cons_zero, List.set_cons_succ]
      refine wpAnyH_take (i := 8) (oi := { dst := some 66, op := _, type := _, pos := _, after := _, guard := _ }) (v := ?_) rfl (by kernel_rfl) (by kernel_rfl) (by kernel_rfl) (fun _ _ _ h => h) (Or.inl ⟨by kernel_rfl, ?_⟩) Gx0 ?_
      rotate_left
      · (intro w hSw; go_simp; try with_reducible rfl)
      try simp only [Act.put, List.setIfInBounds_toArray, List.set_cons_zero, List.set_cons_succ]
      refine wpAnyH_take (i := 9) (oi := { dst := some 67, op := _, type := _, pos := _, after := _, guard := _ }) (v := ?_) rfl (by kernel_rfl) (by kernel_rfl) (by kernel_rfl) (fun _ _ _ h => h) (Or.inl ⟨by kernel_rfl, ?_⟩) Gx0 ?_
      rotate_left
      · (intro w hSw; go_simp; try with_reducible rfl)
      try simp only [Act.put, List.setIfInBounds_toArray, List.set_cons_zero, List.set_cons_succ]
      refine wpAnyH_take (i := 10) (oi := { dst := some 68, op := _, type := _, pos := _, after := _, guard := _ }) (v := ?_) rfl (by kernel_rfl) (by kernel_rfl) (by kernel_rfl) (fun _ _ _ h => h) (Or.inl ⟨by kernel_rfl, ?_⟩) Gx0 ?_
      rotate_left
      · (intro w hSw; go_simp; try with_reducible rfl)
      try simp only [Act.put, List.setIfInBounds_toArray, List.set_cons_zero, List.set_cons_succ]
      refine wpAnyH_take (i := 12) (oi := { dst := some 70, op := _, type := _, pos := _, after := _, guard := _ }) (v := ?_) rfl (by kernel_rfl) (by kernel_rfl) (by kernel_rfl) (fun _ _ _ h => h) (Or.inl ⟨by kernel_rfl, ?_⟩) Gx0 ?_
      rotate_left
      · (intro w hSw; go_simp; try with_reducible rfl)
      try simp only [Act.put, List.setIfInBounds_toArray, List.set_cons_zero, List.set_cons_succ]
      refine wpAnyH_ready (rs := [5, 11]) (by kernel_rfl) (by simp) ?_
      refine (AllReadyH.cons (o := { dst := some 63, op := _, type := _, pos := _, after := _, guard := _ }) rfl (fun Qc hQc => ?_) (AllReadyH.cons (o := { dst := some 69, op := _, type := _, pos := _, after := _, guard := _ }) rfl (fun Qc hQc => ?_) AllReadyH.nil))
      ·
        have c1 : x0.cell? ⟨g, 1, none⟩ = some (.slice (some ⟨q1, 0, none⟩) (m + 1) c1) := PX.out.kb.cell 1
        go_simp
        refine hQc.out _ _ Gx0 (fun hHeld => ?_)
        clear hQc Qc c1
        try simp only [Act.put, List.setIfInBounds_toArray, List.set_cons_zero, List.set_cons_succ]
        refine wpAnyH_take (i := 7) (oi := { dst := some 65, op := _, type := _, pos := _, after := _, guard := _ }) (v := ?_) rfl (by kernel_rfl) (by kernel_rfl) (by kernel_rfl) (fun _ _ _ h => h) (Or.inl ⟨by kernel_rfl, ?_⟩) Gx0 ?_
        rotate_left
        · (intro w hSw; go_simp; try with_reducible rfl)
        try simp only [Act.put, List.setIfInBounds_toArray, List.set_cons_zero, List.set_cons_succ]
        refine wpAnyH_ready (rs := [11]) (by kernel_rfl) (by simp) ?_
        refine (AllReadyH.cons (o := { dst := some 69, op := _, type := _, pos := _, after := _, guard := _ }) rfl (fun Qc hQc => ?_) AllReadyH.nil)
        have c2 : x0.cell? ⟨g, 2, none⟩ = some (.slice (some ⟨q2, 0, none⟩) (m + 1) c2) := PX.out.kb.cell 2
        go_simp
        refine hQc.out _ _ Gx0 (fun hHeld => ?_)
        clear hQc Qc c2
        try simp only [Act.put, List.setIfInBounds_toArray, List.set_cons_zero, List.set_cons_succ]
        refine wpAnyH_take (i := 13) (oi := { dst := some 71, op := _, type := _, pos := _, after := _, guard := _ }) (v := ?_) rfl (by kernel_rfl) (by kernel_rfl) (by kernel_rfl) (fun _ _ _ h => h) (Or.inl ⟨by kernel_rfl, ?_⟩) Gx0 ?_
        rotate_left
        · (intro w hSw; go_simp; try with_reducible rfl)
        try simp only [Act.put, List.setIfInBounds_toArray, List.set_cons_zero, List.set_cons_succ]
        refine wpAnyH_take (i := 14) (oi := { dst := some 72, op := _, type := _, pos := _, after := _, guard := _ }) (v := ?_) rfl (by kernel_rfl) (by kernel_rfl) (by kernel_rfl) (fun _ _ _ h => h) (Or.inl ⟨by kernel_rfl, ?_⟩) Gx0 ?_
        rotate_left
        · (intro w hSw; go_simp; try with_reducible rfl)
        try simp only [Act.put, List.setIfInBounds_toArray, List.set_cons_zero, List.set_cons_succ]
        refine wpAnyH_take (i := 15) (oi := { dst := some 73, op := _, type := _, pos := _, after := _, guard := _ }) (v := ?_) rfl (by kernel_rfl) (by kernel_rfl) (by kernel_rfl) (fun _ _ _ h => h) (Or.inl ⟨by kernel_rfl, ?_⟩) Gx0 ?_
        rotate_left
        · (intro w hSw; go_simp; try with_reducible rfl)
        try simp only [Act.put, List.setIfInBounds_toArray, List.set_cons_zero, List.set_cons_succ]
        refine wpAnyH_ready (rs := [16]) (by kernel_rfl) (by simp) ?_
        refine (AllReadyH.cons (o := { dst := none, op := _, type := _, pos := _, after := _, guard := _ }) rfl (fun Qc hQc => ?_) AllReadyH.nil)
        have c1 : x0.cell? ⟨g, 1, none⟩ = some (.slice (some ⟨q1, 0, none⟩) (m + 1) c1) := PX.out.kb.cell 1
        have f1 : x0.frozen? ⟨g, 1, none⟩ = false := PX.out.kb.frozen 1
        go_simp
        clear c1 f1
        have PY := hid (PX.out.field 1 (Value.slice (some ⟨q1, 0, none⟩) m c1) rfl)
        have Gx1 : Hid True := trivial
        refine hQc.out _ _ Gx1 (fun hHeld => ?_)
        clear hQc Qc hHeld PX
        generalize x0.setCell ⟨g, 1, none⟩ (Value.slice (some ⟨q1, 0, none⟩) m c1) = x1 at PY ⊢
        have PX := PY
        clear PY
        try simp only [Act.put, List.setIfInBounds_toArray, List.set_cons_zero, List.set_cons_succ]
        refine wpAnyH_take (i := 17) (oi := { dst := some 74, op := _, type := _, pos := _, after := _, guard := _ }) (v := ?_) rfl (by kernel_rfl) (by kernel_rfl) (by kernel_rfl) (fun _ _ _ h => h) (Or.inl ⟨by kernel_rfl, ?_⟩) Gx1 ?_
        rotate_left
        · (intro w hSw; go_simp; try with_reducible rfl)
        try simp only [Act.put, List.setIfInBounds_toArray, List.set_cons_zero, List.set_cons_succ]
        refine wpAnyH_take (i := 18) (oi := { dst := some 75, op := _, type := _, pos := _, after := _, guard := _ }) (v := ?_) rfl (by kernel_rfl) (by kernel_rfl) (by kernel_rfl) (fun _ _ _ h => h) (Or.inl ⟨by kernel_rfl, ?_⟩) Gx1 ?_
        rotate_left
        · (intro w hSw; go_simp; try with_reducible rfl)
        try simp only [Act.put, List.setIfInBounds_toArray, List.set_cons_zero, List.set_cons_succ]
        refine wpAnyH_ready (rs := [19]) (by kernel_rfl) (by simp) ?_
        refine (AllReadyH.cons (o := { dst := none, op := _, type := _, pos := _, after := _, guard := _ }) rfl (fun Qc hQc => ?_) AllReadyH.nil)
        have c1 : x1.cell? ⟨g, 2, none⟩ = some (.slice (some ⟨q2, 0, none⟩) (m + 1) c2) := PX.out.kb.cell 2
        have f1 : x1.frozen? ⟨g, 2, none⟩ = false := PX.out.kb.frozen 2
        go_simp
        clear c1 f1
        have PY := hid (PX.out.field 2 (Value.slice (some ⟨q2, 0, none⟩) m c2) rfl)
        have Gx2 : Hid True := trivial
        refine hQc.out _ _ Gx2 (fun hHeld => ?_)
        clear hQc Qc hHeld PX
        generalize x1.setCell ⟨g, 2, none⟩ (Value.slice (some ⟨q2, 0, none⟩) m c2) = x2 at PY ⊢
        have PX := PY
        clear PY
        try simp only [Act.put, List.setIfInBounds_toArray, List.set_cons_zero, List.set_cons_succ]
        refine wpAnyH_done (by kernel_rfl) ?_ _
        try simp only [Act.put, List.setIfInBounds_toArray, List.set_cons_zero, List.set_cons_succ]
        go_wp2
        have PZ := hid (PX.out.pop HM.out)
        go_roundw
        case rel => exact ⟨S', m, k + 1, z * 2, (m : Int) - 1, ndF f h, (Value.slice (some ⟨q1, 0, none⟩) m c1), (Value.slice (some ⟨q2, 0, none⟩) m c2), by go_num, by go_num, rfl, PZ.out, HPN2.out, HZ2.out, by have := HK.out; omega, HSN.out, HM.out, by omega⟩
        case measure => first | (simp [intOf]; done) | (simp [intOf]; omega)
      ·
        have c2 : x0.cell? ⟨g, 2, none⟩ = some (.slice (some ⟨q2, 0, none⟩) (m + 1) c2) := PX.out.kb.cell 2
        go_simp
        refine hQc.out _ _ Gx0 (fun hHeld => ?_)
        clear hQc Qc c2
        try simp only [Act.put, List.setIfInBounds_toArray, List.set_cons_zero, List.set_cons_succ]
        refine wpAnyH_take (i := 13) (oi := { dst := some 71, op := _, type := _, pos := _, after := _, guard := _ }) (v := ?_) rfl (by kernel_rfl) (by kernel_rfl) (by kernel_rfl) (fun _ _ _ h => h) (Or.inl ⟨by kernel_rfl, ?_⟩) Gx0 ?_
        rotate_left
        · (intro w hSw; go_simp; try with_reducible rfl)
        try simp only [Act.put, List.setIfInBounds_toArray, List.set_cons_zero, List.set_cons_succ]
        refine wpAnyH_ready (rs := [5]) (by kernel_rfl) (by simp) ?_
        refine (AllReadyH.cons (o := { dst := some 63, op := _, type := _, pos := _, after := _, guard := _ }) rfl (fun Qc hQc => ?_) AllReadyH.nil)
        have c1 : x0.cell? ⟨g, 1, none⟩ = some (.slice (some ⟨q1, 0, none⟩) (m + 1) c1) := PX.out.kb.cell 1
        go_simp
        refine hQc.out _ _ Gx0 (fun hHeld => ?_)
        clear hQc Qc c1
        try simp only [Act.put, List.setIfInBounds_toArray, List.set_cons_zero, List.set_cons_succ]
        refine wpAnyH_take (i := 7) (oi := { dst := some 65, op := _, type := _, pos := _, after := _, guard := _ }) (v := ?_) rfl (by kernel_rfl) (by kernel_rfl) (by kernel_rfl) (fun _ _ _ h => h) (Or.inl ⟨by kernel_rfl, ?_⟩) Gx0 ?_
        rotate_left
        · (intro w hSw; go_simp; try with_reducible rfl)
        try simp only [Act.put, List.setIfInBounds_toArray, List.set_cons_zero, List.set_cons_succ]
        refine wpAnyH_take (i := 14) (oi := { dst := some 72, op := _, type := _, pos := _, after := _, guard := _ }) (v := ?_) rfl (by kernel_rfl) (by kernel_rfl) (by kernel_rfl) (fun _ _ _ h => h) (Or.inl ⟨by kernel_rfl, ?_⟩) Gx0 ?_
        rotate_left
        · (intro w hSw; go_simp; try with_reducible rfl)
        try simp only [Act.put, List.setIfInBounds_toArray, List.set_cons_zero, List.set_cons_succ]
        refine wpAnyH_take (i := 15) (oi := { dst := some 73, op := _, type := _, pos := _, after := _, guard := _ }) (v := ?_) rfl (by kernel_rfl) (by kernel_rfl) (by kernel_rfl) (fun _ _ _ h => h) (Or.inl ⟨by kernel_rfl, ?_⟩) Gx0 ?_
        rotate_left
        · (intro w hSw; go_simp; try with_reducible rfl)
        try simp only [Act.put, List.setIfInBounds_toArray, List.set_cons_zero, List.set_cons_succ]
        refine wpAnyH_ready (rs := [16]) (by kernel_rfl) (by simp) ?_
        refine (AllReadyH.cons (o := { dst := none, op := _, type := _, pos := _, after := _, guard := _ }) rfl (fun Qc hQc => ?_) AllReadyH.nil)
        have c1 : x0.cell? ⟨g, 1, none⟩ = some (.slice (some ⟨q1, 0, none⟩) (m + 1) c1) := PX.out.kb.cell 1
        have f1 : x0.frozen? ⟨g, 1, none⟩ = false := PX.out.kb.frozen 1
        go_simp
        clear c1 f1
        have PY := hid (PX.out.field 1 (Value.slice (some ⟨q1, 0, none⟩) m c1) rfl)
        have Gx3 : Hid True := trivial
        refine hQc.out _ _ Gx3 (fun hHeld => ?_)
        clear hQc Qc hHeld PX
        generalize x0.setCell ⟨g, 1, none⟩ (Value.slice (some ⟨q1, 0, none⟩) m c1) = x3 at PY ⊢
        have PX := PY
        clear PY
        try simp only [Act.put, List.setIfInBounds_toArray, List.set_cons_zero, List.set_cons_succ]
        refine wpAnyH_take (i := 17) (oi := { dst := some 74, op := _, type := _, pos := _, after := _, guard := _ }) (v := ?_) rfl (by kernel_rfl) (by kernel_rfl) (by kernel_rfl) (fun _ _ _ h => h) (Or.inl ⟨by kernel_rfl, ?_⟩) Gx3 ?_
        rotate_left
        · (intro w hSw; go_simp; try with_reducible rfl)
        try simp only [Act.put, List.setIfInBounds_toArray, List.set_cons_zero, List.set_cons_succ]
        refine wpAnyH_take (i := 18) (oi := { dst := some 75, op := _, type := _, pos := _, after := _, guard := _ }) (v := ?_) rfl (by kernel_rfl) (by kernel_rfl) (by kernel_rfl) (fun _ _ _ h => h) (Or.inl ⟨by kernel_rfl, ?_⟩) Gx3 ?_
        rotate_left
        · (intro w hSw; go_simp; try with_reducible rfl)
        try simp only [Act.put, List.setIfInBounds_toArray, List.set_cons_zero, List.set_cons_succ]
        refine wpAnyH_ready (rs := [19]) (by kernel_rfl) (by simp) ?_
        refine (AllReadyH.cons (o := { dst := none, op := _, type := _, pos := _, after := _, guard := _ }) rfl (fun Qc hQc => ?_) AllReadyH.nil)
        have c1 : x3.cell? ⟨g, 2, none⟩ = some (.slice (some ⟨q2, 0, none⟩) (m + 1) c2) := PX.out.kb.cell 2
        have f1 : x3.frozen? ⟨g, 2, none⟩ = false := PX.out.kb.frozen 2
        go_simp
        clear c1 f1
        have PY := hid (PX.out.field 2 (Value.slice (some ⟨q2, 0, none⟩) m c2) rfl)
        have Gx4 : Hid True := trivial
        refine hQc.out _ _ Gx4 (fun hHeld => ?_)
        clear hQc Qc hHeld PX
        generalize x3.setCell ⟨g, 2, none⟩ (Value.slice (some ⟨q2, 0, none⟩) m c2) = x4 at PY ⊢
        have PX := PY
        clear PY
        try simp only [Act.put, List.setIfInBounds_toArray, List.set_cons_zero, List.set_cons_succ]
        refine wpAnyH_done (by kernel_rfl) ?_ _
        try simp only [Act.put, List.setIfInBounds_toArray, List.set_cons_zero, List.set_cons_succ]
        go_wp2
        have PZ := hid (PX.out.pop HM.out)
        go_roundw
        case rel => exact ⟨S', m, k + 1, z * 2, (m : Int) - 1, ndF f h, (Value.slice (some ⟨q1, 0, none⟩) m c1), (Value.slice (some ⟨q2, 0, none⟩) m c2), by go_num, by go_num, rfl, PZ.out, HPN2.out, HZ2.out, by have := HK.out; omega, HSN.out, HM.out, by omega⟩
        case measure => first | (simp [intOf]; done) | (simp [intOf]; omega)
    · have HRS : Hid (R = (k, h) :: S.reverse) := by
        show _ = _
        rw [HPN.out]
        rcases snoc_cases S with hS0 | ⟨S', q, hS0⟩
        · subst hS0; rfl
        · obtain ⟨j', f⟩ := q
          subst hS0
          exact push_rev_stop p S' j' k f h (fun hc => hgo ⟨S', f, by rw [hc.1], hc.2⟩)
      have HFN : Hid (∀ {x : World} {v1' v2' : Value}, PuS n0 g e u1 u2 w P v1' v2' v1' v2' (szs (exps S) ++ [(z : Int)]) (hshs S ++ [h]) h x → SdAt x n0 g ((p + z0 : Nat) : Int) v1' v2' R.reverse) := by
        show ∀ {x : World} {v1' v2' : Value}, _
        intro x v1' v2' H
        have e1 : R.reverse = S ++ [(k, h)] := by rw [HRS.out]; simp
        rw [e1, ← HPP.out]
        refine ⟨H.kb, ?_, ?_, H.ng⟩
        · rw [exps_append, show exps [(k, h)] = [k] from rfl, szs_snoc, ← HZ.out]; exact H.sz
        · rw [hshs, List.map_append]; exact H.hs
      have HLS : Hid ((szs (exps S)).length + 1 < 1000000) := by show _ < _; rw [szs_len, List.length_map, HM.out]; omega
      have HLH : Hid ((hshs S).length + 1 < 1000000) := by show _ < _; rw [List.length_map, HM.out]; omega
      have HIH := hid (info_hash h PI.out.hh.len)
      rcases snoc_cases S with hS0 | ⟨S', ⟨j', f⟩, hS0⟩
      · have hn0 : n = 0 := by rw [← HM.out, hS0]; rfl
        have ej : j = -1 := by omega
        clear hS0 hgo hbit hj HM HS HPN HK HV1 HV2 fg
        subst ej
        go_wp2
        clear hn0
        have PX := PI
        refine wp_region_L (B := fun w' => Hid (PuB g e P v1 v2 h w')) [18, 21] (by kernel_rfl) ?_
        change wpAnyL _ _ _ _ _ _ _ _ _ wr.drew
        have Gx0 : Hid (PuB g e P v1 v2 h wr.drew) := ⟨PI.out.kb, PI.out.box⟩
        have PX' : Hid (PuS n0 g e u1 u2 w P v1 v2 v1 v2 (szs (exps S)) (hshs S) h wr.drew) := PI.out.below ((Below.refl _ _).drew)
        clear PX
        have PX := PX'
        clear PX'
        generalize wr.drew = x0 at Gx0 PX ⊢
        refine wpAnyL_pure (i := 0) (oi := { dst := some 76, op := _, type := _, pos := _, after := _, guard := _ }) (v := ?_) rfl (by kernel_rfl) (by kernel_rfl) (by kernel_rfl) (by rfl) (fun _ _ _ h => h) (Or.inl ⟨by kernel_rfl, ?_⟩) (fun _ => Gx0) ?_
        rotate_left
        · (intro w _; go_simp; try with_reducible rfl)
        try simp only [Act.put, List.setIfInBounds_toArray, List.set_cons_zero, List.set_cons_succ]
        refine wpAnyL_pure (i := 1) (oi := { dst := some 77, op := _, type := _, pos := _, after := _, guard := _ }) (v := ?_) rfl (by kernel_rfl) (by kernel_rfl) (by kernel_rfl) (by rfl) (fun _ _ _ h => h) (Or.inl ⟨by kernel_rfl, ?_⟩) (fun _ => Gx0) ?_
        rotate_left
        · (intro w _; go_simp; try with_reducible rfl)
        try simp only [Act.put, List.setIfInBounds_toArray, List.set_cons_zero, List.set_cons_succ]
        refine wpAnyL_pure (i := 2) (oi := { dst := some 78, op := _, type := _, pos := _, after := _, guard := _ }) (v := ?_) rfl (by kernel_rfl) (by kernel_rfl) (by kernel_rfl) (by rfl) (fun _ _ _ h => h) (Or.inl ⟨by kernel_rfl, ?_⟩) (fun _ => Gx0) ?_
        rotate_left
        · (intro w _; go_simp; try with_reducible rfl)
        try simp only [Act.put, List.setIfInBounds_toArray, List.set_cons_zero, List.set_cons_succ]
        refine wpAnyL_pure (i := 3) (oi := { dst := some 79, op := _, type := _, pos := _, after := _, guard := _ }) (v := ?_) rfl (by kernel_rfl) (by kernel_rfl) (by kernel_rfl) (by rfl) (fun _ _ _ h => h) (Or.inl ⟨by kernel_rfl, ?_⟩) (fun _ => Gx0) ?_
        rotate_left
        · (intro w _; go_simp; try with_reducible rfl)
        try simp only [Act.put, List.setIfInBounds_toArray, List.set_cons_zero, List.set_cons_succ]
        refine wpAnyL_pure (i := 4) (oi := { dst := some 80, op := _, type := _, pos := _, after := _, guard := _ }) (v := ?_) rfl (by kernel_rfl) (by kernel_rfl) (by kernel_rfl) (by rfl) (fun _ _ _ h => h) (Or.inl ⟨by kernel_rfl, ?_⟩) (fun _ => Gx0) ?_
        rotate_left
        · (intro w _; go_simp; try with_reducible rfl)
        try simp only [Act.put, List.setIfInBounds_toArray, List.set_cons_zero, List.set_cons_succ]
        refine wpAnyL_take (i := 5) (oi := { dst := some 81, op := _, type := _, pos := _, after := _, guard := _ }) (v := ?_) [8, 15, 16, 17, 18, 19, 20, 21] rfl (by kernel_rfl) (by kernel_rfl) (by kernel_rfl) (by kernel_rfl) (fun _ _ _ h => h) (Or.inl ⟨by kernel_rfl, ?_⟩) Gx0 ?_
        rotate_left
        · (intro w hSw; have c1 : w.cell? ⟨g, 1, none⟩ = some v1 := hSw.out.kb.cell 1; go_simp; try with_reducible rfl)
        try simp only [Act.put, List.setIfInBounds_toArray, List.set_cons_zero, List.set_cons_succ]
        refine wpAnyL_pure (i := 6) (oi := { dst := some 82, op := _, type := _, pos := _, after := _, guard := _ }) (v := ?_) rfl (by kernel_rfl) (by kernel_rfl) (by kernel_rfl) (by rfl) (fun _ _ _ h => h) (Or.inl ⟨by kernel_rfl, ?_⟩) (fun _ => Gx0) ?_
        rotate_left
        · (intro w _; go_simp; try with_reducible rfl)
        try simp only [Act.put, List.setIfInBounds_toArray, List.set_cons_zero, List.set_cons_succ]
        refine wpAnyL_pure (i := 9) (oi := { dst := some 85, op := _, type := _, pos := _, after := _, guard := _ }) (v := ?_) rfl (by kernel_rfl) (by kernel_rfl) (by kernel_rfl) (by rfl) (fun _ _ _ h => h) (Or.inl ⟨by kernel_rfl, ?_⟩) (fun _ => Gx0) ?_
        rotate_left
        · (intro w _; go_simp; try with_reducible rfl)
        try simp only [Act.put, List.setIfInBounds_toArray, List.set_cons_zero, List.set_cons_succ]
        refine wpAnyL_pure (i := 10) (oi := { dst := some 86, op := _, type := _, pos := _, after := _, guard := _ }) (v := ?_) rfl (by kernel_rfl) (by kernel_rfl) (by kernel_rfl) (by rfl) (fun _ _ _ h => h) (Or.inl ⟨by kernel_rfl, ?_⟩) (fun _ => Gx0) ?_
        rotate_left
        · (intro w _; go_simp; try with_reducible rfl)
        try simp only [Act.put, List.setIfInBounds_toArray, List.set_cons_zero, List.set_cons_succ]
        refine wpAnyL_pure (i := 11) (oi := { dst := some 87, op := _, type := _, pos := _, after := _, guard := _ }) (v := ?_) rfl (by kernel_rfl) (by kernel_rfl) (by kernel_rfl) (by rfl) (fun _ _ _ h => h) (Or.inl ⟨by kernel_rfl, ?_⟩) (fun _ => Gx0) ?_
        rotate_left
        · (intro w _; go_simp; try with_reducible rfl)
        try simp only [Act.put, List.setIfInBounds_toArray, List.set_cons_zero, List.set_cons_succ]
        refine wpAnyL_take (i := 12) (oi := { dst := some 88, op := _, type := _, pos := _, after := _, guard := _ }) (v := ?_) [15, 16, 17, 18, 19, 20, 21] rfl (by kernel_rfl) (by kernel_rfl) (by kernel_rfl) (by kernel_rfl) (fun _ _ _ h => h) (Or.inl ⟨by kernel_rfl, ?_⟩) Gx0 ?_
        rotate_left
        · (intro w hSw; have c2 : w.cell? ⟨g, 2, none⟩ = some v2 := hSw.out.kb.cell 2; go_simp; try with_reducible rfl)
        try simp only [Act.put, List.setIfInBounds_toArray, List.set_cons_zero, List.set_cons_succ]
        refine wpAnyL_take (i := 13) (oi := { dst := some 89, op := _, type := _, pos := _, after := _, guard := _ }) (v := .agg (hc32 h)) [14, 15, 16, 17, 18, 19, 20, 21] rfl (by kernel_rfl) (by kernel_rfl) (by kernel_rfl) (by kernel_rfl) (fun _ _ _ h => h) (yieldsIf_load_mid (cs := u8s h) (by rfl) _ _ rfl _ _ rfl _ (fun w' hSw => blk_row hSw.out.box) Tryd.underlying33 rfl HIH.out) Gx0 ?_
        try simp only [Act.put, List.setIfInBounds_toArray, List.set_cons_zero, List.set_cons_succ]
        refine wpAnyL_ready (rs := [7, 14]) (by kernel_rfl) (by simp) ?_
        refine (AllReadyL.cons (o := { dst := some 83, op := _, type := _, pos := _, after := _, guard := _ }) rfl (fun Qc hQc => ?_) (AllReadyL.cons (o := { dst := some 90, op := _, type := _, pos := _, after := _, guard := _ }) rfl (fun Qc hQc => ?_) AllReadyL.nil))
        ·
          go_simp
          have NB7 : Hid (Blk (x0.alloc (.cells #[.int .i64 (z : Int)] 3)) x0.heap.size 3 #[.int .i64 (z : Int)]) := Blk.new x0 3 #[.int .i64 (z : Int)]
          have hb : Below x0.heap.size x0 (x0.alloc (.cells #[.int .i64 (z : Int)] 3)) := (Below.refl _ _).alloc (Nat.le_refl _) _
          have PY := hid (PX.out.below hb)
          clear hb
          have Gx1 : Hid (PuB g e P v1 v2 h (x0.alloc (.cells #[.int .i64 (z : Int)] 3))) := ⟨PY.out.kb, PY.out.box⟩
          refine hQc.out _ _ (fun _ => Gx1) ?_
          generalize x0.heap.size = g7 at NB7 ⊢
          generalize x0.alloc (.cells #[.int .i64 (z : Int)] 3) = x1 at NB7 PY Gx1 ⊢
          clear hQc Qc PX
          have PX := PY
          clear PY
          try simp only [Act.put, List.setIfInBounds_toArray, List.set_cons_zero, List.set_cons_succ]
          refine wpAnyL_ready (rs := [8, 14]) (by kernel_rfl) (by simp) ?_
          refine (AllReadyL.cons (o := { dst := some 84, op := _, type := _, pos := _, after := _, guard := _ }) rfl (fun Qc hQc => ?_) (AllReadyL.cons (o := { dst := some 90, op := _, type := _, pos := _, after := _, guard := _ }) rfl (fun Qc hQc => ?_) AllReadyL.nil))
          ·
            rw [if_pos (by rfl)]
            refine wp_app_i1 (.tmp 81) (.tmp 83) rfl n0 v1 (szs (exps S)) rfl PX.out.sz g7 (z : Int) NB7.out rfl HLS.out (Nat.le_trans PX.out.nw PX.out.on.size) ?_
            intro v1' x2 ho hg ha
            obtain ⟨B1, d1, hv1, _, _⟩ := ho.len
            generalize (szs (exps S) ++ [(z : Int)]).length = n1 at hv1
            subst hv1
            have PY := hid (PX.out.app1 ho hg ha)
            clear ho hg ha NB7
            have Gx2 : Hid (PuB g e P v1 v2 h x2) := ⟨PY.out.kb, PY.out.box⟩
            refine hQc.out _ _ (fun _ => Gx2) ?_
            clear hQc Qc PX
            have PX := PY
            clear PY
            try simp only [Act.put, List.setIfInBounds_toArray, List.set_cons_zero, List.set_cons_succ]
            refine wpAnyL_ready (rs := [14]) (by kernel_rfl) (by simp) ?_
            refine (AllReadyL.cons (o := { dst := some 90, op := _, type := _, pos := _, after := _, guard := _ }) rfl (fun Qc hQc => ?_) AllReadyL.nil)
            rw [if_pos (by rfl)]
            refine wp_hash_one (.tmp 89) rfl h PX.out.hh rfl ?_
            have NB14 : Hid (Blk (x2.alloc (.cells (hcs [h]).toArray 33)) x2.heap.size 33 (hcs [h]).toArray) := Blk.new x2 33 (hcs [h]).toArray
            have hb : Below x2.heap.size x2 (x2.alloc (.cells (hcs [h]).toArray 33)) := (Below.refl _ _).alloc (Nat.le_refl _) _
            have PY := hid (PX.out.below hb)
            clear hb
            have Gx3 : Hid (PuB g e P v1 v2 h (x2.alloc (.cells (hcs [h]).toArray 33))) := ⟨PY.out.kb, PY.out.box⟩
            refine hQc.out _ _ (fun _ => Gx3) ?_
            generalize x2.heap.size = g14 at NB14 ⊢
            generalize x2.alloc (.cells (hcs [h]).toArray 33) = x3 at NB14 PY Gx3 ⊢
            clear hQc Qc PX
            have PX := PY
            clear PY
            try simp only [Act.put, List.setIfInBounds_toArray, List.set_cons_zero, List.set_cons_succ]
            refine wpAnyL_ready (rs := [15]) (by kernel_rfl) (by simp) ?_
            refine (AllReadyL.cons (o := { dst := some 91, op := _, type := _, pos := _, after := _, guard := _ }) rfl (fun Qc hQc => ?_) AllReadyL.nil)
            rw [if_pos (by rfl)]
            refine wp_app_h1 (.tmp 88) (.tmp 90) rfl n0 v2 (hshs S) rfl PX.out.hs g14 h PX.out.hh NB14.out rfl HLH.out (Nat.le_trans PX.out.nw PX.out.on.size) ?_
            intro v2' x4 ho hg ha
            obtain ⟨B2, d2, hv2, _, _⟩ := ho.len
            generalize (hshs S ++ [h]).length = n2 at hv2
            subst hv2
            have PY := hid (PX.out.app2 ho hg ha)
            clear ho hg ha NB14
            have Gx4 : Hid (PuB g e P v1 v2 h x4) := ⟨PY.out.kb, PY.out.box⟩
            refine hQc.out _ _ (fun _ => Gx4) ?_
            clear hQc Qc PX
            have PX := PY
            clear PY
            try simp only [Act.put, List.setIfInBounds_toArray, List.set_cons_zero, List.set_cons_succ]
            refine wpAnyL_pure (i := 16) (oi := { dst := some 92, op := _, type := _, pos := _, after := _, guard := _ }) (v := ?_) rfl (by kernel_rfl) (by kernel_rfl) (by kernel_rfl) (by rfl) (fun _ _ _ h => h) (Or.inl ⟨by kernel_rfl, ?_⟩) (fun _ => Gx4) ?_
            rotate_left
            · (intro w _; go_simp; try with_reducible rfl)
            try simp only [Act.put, List.setIfInBounds_toArray, List.set_cons_zero, List.set_cons_succ]
            refine wpAnyL_pure (i := 17) (oi := { dst := some 93, op := _, type := _, pos := _, after := _, guard := _ }) (v := ?_) rfl (by kernel_rfl) (by kernel_rfl) (by kernel_rfl) (by rfl) (fun _ _ _ h => h) (Or.inl ⟨by kernel_rfl, ?_⟩) (fun _ => Gx4) ?_
            rotate_left
            · (intro w _; go_simp; try with_reducible rfl)
            try simp only [Act.put, List.setIfInBounds_toArray, List.set_cons_zero, List.set_cons_succ]
            refine wpAnyL_ready (rs := [18]) (by kernel_rfl) (by simp) ?_
            refine (AllReadyL.cons (o := { dst := none, op := _, type := _, pos := _, after := _, guard := _ }) rfl (fun Qc hQc => ?_) AllReadyL.nil)
            have c1 : x4.cell? ⟨g, 1, none⟩ = some v1 := PX.out.kb.cell 1
            have f1 : x4.frozen? ⟨g, 1, none⟩ = false := PX.out.kb.frozen 1
            go_simp
            clear c1 f1
            have PY := hid (PX.out.field 1 (Value.slice B1 n1 d1) rfl)
            refine hQc.out _ _ (unl_no (d := 18) (by rfl) (by kernel_rfl)) ?_
            generalize x4.setCell ⟨g, 1, none⟩ (Value.slice B1 n1 d1) = x5 at PY ⊢
            clear hQc Qc PX
            have PX := PY
            clear PY
            try simp only [Act.put, List.setIfInBounds_toArray, List.set_cons_zero, List.set_cons_succ]
            refine wpAnyL_pure (i := 19) (oi := { dst := some 94, op := _, type := _, pos := _, after := _, guard := _ }) (v := ?_) rfl (by kernel_rfl) (by kernel_rfl) (by kernel_rfl) (by rfl) (fun _ _ _ h => h) (Or.inl ⟨by kernel_rfl, ?_⟩) (unl_no (d := 18) (by rfl) (by kernel_rfl)) ?_
            rotate_left
            · (intro w _; go_simp; try with_reducible rfl)
            try simp only [Act.put, List.setIfInBounds_toArray, List.set_cons_zero, List.set_cons_succ]
            refine wpAnyL_pure (i := 20) (oi := { dst := some 95, op := _, type := _, pos := _, after := _, guard := _ }) (v := ?_) rfl (by kernel_rfl) (by kernel_rfl) (by kernel_rfl) (by rfl) (fun _ _ _ h => h) (Or.inl ⟨by kernel_rfl, ?_⟩) (unl_no (d := 18) (by rfl) (by kernel_rfl)) ?_
            rotate_left
            · (intro w _; go_simp; try with_reducible rfl)
            try simp only [Act.put, List.setIfInBounds_toArray, List.set_cons_zero, List.set_cons_succ]
            refine wpAnyL_ready (rs := [21]) (by kernel_rfl) (by simp) ?_
            refine (AllReadyL.cons (o := { dst := none, op := _, type := _, pos := _, after := _, guard := _ }) rfl (fun Qc hQc => ?_) AllReadyL.nil)
            have c1 : x5.cell? ⟨g, 2, none⟩ = some v2 := PX.out.kb.cell 2
            have f1 : x5.frozen? ⟨g, 2, none⟩ = false := PX.out.kb.frozen 2
            go_simp
            clear c1 f1
            have PY := hid (PX.out.field 2 (Value.slice B2 n2 d2) rfl)
            refine hQc.out _ _ (unl_no (d := 21) (by rfl) (by kernel_rfl)) ?_
            generalize x5.setCell ⟨g, 2, none⟩ (Value.slice B2 n2 d2) = x6 at PY ⊢
            clear hQc Qc PX
            have PX := PY
            clear PY
            try simp only [Act.put, List.setIfInBounds_toArray, List.set_cons_zero, List.set_cons_succ]
            refine wpAnyL_done (by kernel_rfl) ?_ _
            try simp only [Act.put, List.setIfInBounds_toArray, List.set_cons_zero, List.set_cons_succ]
            go_wp2
            try go_frame
            refine bodyPost_end (results_none rfl _ _ _) rfl ?_
            exact ⟨rfl, _, _, HFN.out PX.out, PX.out.on, PX.out.o1, fun k hk => (PX.out.o2 k hk).1⟩
          ·
            rw [if_pos (by rfl)]
            refine wp_hash_one (.tmp 89) rfl h PX.out.hh rfl ?_
            have NB14 : Hid (Blk (x1.alloc (.cells (hcs [h]).toArray 33)) x1.heap.size 33 (hcs [h]).toArray) := Blk.new x1 33 (hcs [h]).toArray
            have hb : Below x1.heap.size x1 (x1.alloc (.cells (hcs [h]).toArray 33)) := (Below.refl _ _).alloc (Nat.le_refl _) _
            have PY := hid (PX.out.below hb)
            have AT7 := hid (NB7.out.below hb)
            clear NB7
            have NB7 := AT7
            clear AT7
            clear hb
            have Gx7 : Hid (PuB g e P v1 v2 h (x1.alloc (.cells (hcs [h]).toArray 33))) := ⟨PY.out.kb, PY.out.box⟩
            refine hQc.out _ _ (fun _ => Gx7) ?_
            generalize x1.heap.size = g14 at NB14 ⊢
            generalize x1.alloc (.cells (hcs [h]).toArray 33) = x7 at NB14 PY Gx7 NB7 ⊢
            clear hQc Qc PX
            have PX := PY
            clear PY
            try simp only [Act.put, List.setIfInBounds_toArray, List.set_cons_zero, List.set_cons_succ]
            refine wpAnyL_ready (rs := [8]) (by kernel_rfl) (by simp) ?_
            refine (AllReadyL.cons (o := { dst := some 84, op := _, type := _, pos := _, after := _, guard := _ }) rfl (fun Qc hQc => ?_) AllReadyL.nil)
            rw [if_pos (by rfl)]
            refine wp_app_i1 (.tmp 81) (.tmp 83) rfl n0 v1 (szs (exps S)) rfl PX.out.sz g7 (z : Int) NB7.out rfl HLS.out (Nat.le_trans PX.out.nw PX.out.on.size) ?_
            intro v1' x8 ho hg ha
            obtain ⟨B1, d1, hv1, _, _⟩ := ho.len
            generalize (szs (exps S) ++ [(z : Int)]).length = n1 at hv1
            subst hv1
            have PY := hid (PX.out.app1 ho hg ha)
            have AT14 := hid (blk_grown PX.out NB14.out hg)
            clear NB14
            have NB14 := AT14
            clear AT14
            clear ho hg ha NB7
            have Gx8 : Hid (PuB g e P v1 v2 h x8) := ⟨PY.out.kb, PY.out.box⟩
            refine hQc.out _ _ (fun _ => Gx8) ?_
            clear hQc Qc PX
            have PX := PY
            clear PY
            try simp only [Act.put, List.setIfInBounds_toArray, List.set_cons_zero, List.set_cons_succ]
            refine wpAnyL_ready (rs := [15]) (by kernel_rfl) (by simp) ?_
            refine (AllReadyL.cons (o := { dst := some 91, op := _, type := _, pos := _, after := _, guard := _ }) rfl (fun Qc hQc => ?_) AllReadyL.nil)
            rw [if_pos (by rfl)]
            refine wp_app_h1 (.tmp 88) (.tmp 90) rfl n0 v2 (hshs S) rfl PX.out.hs g14 h PX.out.hh NB14.out rfl HLH.out (Nat.le_trans PX.out.nw PX.out.on.size) ?_
            intro v2' x9 ho hg ha
            obtain ⟨B2, d2, hv2, _, _⟩ := ho.len
            generalize (hshs S ++ [h]).length = n2 at hv2
            subst hv2
            have PY := hid (PX.out.app2 ho hg ha)
            clear ho hg ha NB14
            have Gx9 : Hid (PuB g e P v1 v2 h x9) := ⟨PY.out.kb, PY.out.box⟩
            refine hQc.out _ _ (fun _ => Gx9) ?_
            clear hQc Qc PX
            have PX := PY
            clear PY
            try simp only [Act.put, List.setIfInBounds_toArray, List.set_cons_zero, List.set_cons_succ]
            refine wpAnyL_pure (i := 16) (oi := { dst := some 92, op := _, type := _, pos := _, after := _, guard := _ }) (v := ?_) rfl (by kernel_rfl) (by kernel_rfl) (by kernel_rfl) (by rfl) (fun _ _ _ h => h) (Or.inl ⟨by kernel_rfl, ?_⟩) (fun _ => Gx9) ?_
            rotate_left
            · (intro w _; go_simp; try with_reducible rfl)
            try simp only [Act.put, List.setIfInBounds_toArray, List.set_cons_zero, List.set_cons_succ]
            refine wpAnyL_pure (i := 17) (oi := { dst := some 93, op := _, type := _, pos := _, after := _, guard := _ }) (v := ?_) rfl (by kernel_rfl) (by kernel_rfl) (by kernel_rfl) (by rfl) (fun _ _ _ h => h) (Or.inl ⟨by kernel_rfl, ?_⟩) (fun _ => Gx9) ?_
            rotate_left
            · (intro w _; go_simp; try with_reducible rfl)
            try simp only [Act.put, List.setIfInBounds_toArray, List.set_cons_zero, List.set_cons_succ]
            refine wpAnyL_ready (rs := [18]) (by kernel_rfl) (by simp) ?_
            refine (AllReadyL.cons (o := { dst := none, op := _, type := _, pos := _, after := _, guard := _ }) rfl (fun Qc hQc => ?_) AllReadyL.nil)
            have c1 : x9.cell? ⟨g, 1, none⟩ = some v1 := PX.out.kb.cell 1
            have f1 : x9.frozen? ⟨g, 1, none⟩ = false := PX.out.kb.frozen 1
            go_simp
            clear c1 f1
            have PY := hid (PX.out.field 1 (Value.slice B1 n1 d1) rfl)
            refine hQc.out _ _ (unl_no (d := 18) (by rfl) (by kernel_rfl)) ?_
            generalize x9.setCell ⟨g, 1, none⟩ (Value.slice B1 n1 d1) = x10 at PY ⊢
            clear hQc Qc PX
            have PX := PY
            clear PY
            try simp only [Act.put, List.setIfInBounds_toArray, List.set_cons_zero, List.set_cons_succ]
            refine wpAnyL_pure (i := 19) (oi := { dst := some 94, op := _, type := _, pos := _, after := _, guard := _ }) (v := ?_) rfl (by kernel_rfl) (by kernel_rfl) (by kernel_rfl) (by rfl) (fun _ _ _ h => h) (Or.inl ⟨by kernel_rfl, ?_⟩) (unl_no (d := 18) (by rfl) (by kernel_rfl)) ?_
            rotate_left
            · (intro w _; go_simp; try with_reducible rfl)
            try simp only [Act.put, List.setIfInBounds_toArray, List.set_cons_zero, List.set_cons_succ]
            refine wpAnyL_pure (i := 20) (oi := { dst := some 95, op := _, type := _, pos := _, after := _, guard := _ }) (v := ?_) rfl (by kernel_rfl) (by kernel_rfl) (by kernel_rfl) (by rfl) (fun _ _ _ h => h) (Or.inl ⟨by kernel_rfl, ?_⟩) (unl_no (d := 18) (by rfl) (by kernel_rfl)) ?_
            rotate_left
            · (intro w _; go_simp; try with_reducible rfl)
            try simp only [Act.put, List.setIfInBounds_toArray, List.set_cons_zero, List.set_cons_succ]
            refine wpAnyL_ready (rs := [21]) (by kernel_rfl) (by simp) ?_
            refine (AllReadyL.cons (o := { dst := none, op := _, type := _, pos := _, after := _, guard := _ }) rfl (fun Qc hQc => ?_) AllReadyL.nil)
            have c1 : x10.cell? ⟨g, 2, none⟩ = some v2 := PX.out.kb.cell 2
            have f1 : x10.frozen? ⟨g, 2, none⟩ = false := PX.out.kb.frozen 2
            go_simp
            clear c1 f1
            have PY := hid (PX.out.field 2 (Value.slice B2 n2 d2) rfl)
            refine hQc.out _ _ (unl_no (d := 21) (by rfl) (by kernel_rfl)) ?_
            generalize x10.setCell ⟨g, 2, none⟩ (Value.slice B2 n2 d2) = x11 at PY ⊢
            clear hQc Qc PX
            have PX := PY
            clear PY
            try simp only [Act.put, List.setIfInBounds_toArray, List.set_cons_zero, List.set_cons_succ]
            refine wpAnyL_done (by kernel_rfl) ?_ _
            try simp only [Act.put, List.setIfInBounds_toArray, List.set_cons_zero, List.set_cons_succ]
            go_wp2
            try go_frame
            refine bodyPost_end (results_none rfl _ _ _) rfl ?_
            exact ⟨rfl, _, _, HFN.out PX.out, PX.out.on, PX.out.o1, fun k hk => (PX.out.o2 k hk).1⟩
        ·
          rw [if_pos (by rfl)]
          refine wp_hash_one (.tmp 89) rfl h PX.out.hh rfl ?_
          have NB14 : Hid (Blk (x0.alloc (.cells (hcs [h]).toArray 33)) x0.heap.size 33 (hcs [h]).toArray) := Blk.new x0 33 (hcs [h]).toArray
          have hb : Below x0.heap.size x0 (x0.alloc (.cells (hcs [h]).toArray 33)) := (Below.refl _ _).alloc (Nat.le_refl _) _
          have PY := hid (PX.out.below hb)
          clear hb
          have Gx12 : Hid (PuB g e P v1 v2 h (x0.alloc (.cells (hcs [h]).toArray 33))) := ⟨PY.out.kb, PY.out.box⟩
          refine hQc.out _ _ (fun _ => Gx12) ?_
          generalize x0.heap.size = g14 at NB14 ⊢
          generalize x0.alloc (.cells (hcs [h]).toArray 33) = x12 at NB14 PY Gx12 ⊢
          clear hQc Qc PX
          have PX := PY
          clear PY
          try simp only [Act.put, List.setIfInBounds_toArray, List.set_cons_zero, List.set_cons_succ]
          refine wpAnyL_ready (rs := [7]) (by kernel_rfl) (by simp) ?_
          refine (AllReadyL.cons (o := { dst := some 83, op := _, type := _, pos := _, after := _, guard := _ }) rfl (fun Qc hQc => ?_) AllReadyL.nil)
          go_simp
          have NB7 : Hid (Blk (x12.alloc (.cells #[.int .i64 (z : Int)] 3)) x12.heap.size 3 #[.int .i64 (z : Int)]) := Blk.new x12 3 #[.int .i64 (z : Int)]
          have hb : Below x12.heap.size x12 (x12.alloc (.cells #[.int .i64 (z : Int)] 3)) := (Below.refl _ _).alloc (Nat.le_refl _) _
          have PY := hid (PX.out.below hb)
          have AT14 := hid (NB14.out.below hb)
          clear NB14
          have NB14 := AT14
          clear AT14
          clear hb
          have Gx13 : Hid (PuB g e P v1 v2 h (x12.alloc (.cells #[.int .i64 (z : Int)] 3))) := ⟨PY.out.kb, PY.out.box⟩
          refine hQc.out _ _ (fun _ => Gx13) ?_
          generalize x12.heap.size = g7 at NB7 ⊢
          generalize x12.alloc (.cells #[.int .i64 (z : Int)] 3) = x13 at NB7 PY Gx13 NB14 ⊢
          clear hQc Qc PX
          have PX := PY
          clear PY
          try simp only [Act.put, List.setIfInBounds_toArray, List.set_cons_zero, List.set_cons_succ]
          refine wpAnyL_ready (rs := [8]) (by kernel_rfl) (by simp) ?_
          refine (AllReadyL.cons (o := { dst := some 84, op := _, type := _, pos := _, after := _, guard := _ }) rfl (fun Qc hQc => ?_) AllReadyL.nil)
          rw [if_pos (by rfl)]
          refine wp_app_i1 (.tmp 81) (.tmp 83) rfl n0 v1 (szs (exps S)) rfl PX.out.sz g7 (z : Int) NB7.out rfl HLS.out (Nat.le_trans PX.out.nw PX.out.on.size) ?_
          intro v1' x14 ho hg ha
          obtain ⟨B1, d1, hv1, _, _⟩ := ho.len
          generalize (szs (exps S) ++ [(z : Int)]).length = n1 at hv1
          subst hv1
          have PY := hid (PX.out.app1 ho hg ha)
          have AT14 := hid (blk_grown PX.out NB14.out hg)
          clear NB14
          have NB14 := AT14
          clear AT14
          clear ho hg ha NB7
          have Gx14 : Hid (PuB g e P v1 v2 h x14) := ⟨PY.out.kb, PY.out.box⟩
          refine hQc.out _ _ (fun _ => Gx14) ?_
          clear hQc Qc PX
          have PX := PY
          clear PY
          try simp only [Act.put, List.setIfInBounds_toArray, List.set_cons_zero, List.set_cons_succ]
          refine wpAnyL_ready (rs := [15]) (by kernel_rfl) (by simp) ?_
          refine (AllReadyL.cons (o := { dst := some 91, op := _, type := _, pos := _, after := _, guard := _ }) rfl (fun Qc hQc => ?_) AllReadyL.nil)
          rw [if_pos (by rfl)]
          refine wp_app_h1 (.tmp 88) (.tmp 90) rfl n0 v2 (hshs S) rfl PX.out.hs g14 h PX.out.hh NB14.out rfl HLH.out (Nat.le_trans PX.out.nw PX.out.on.size) ?_
          intro v2' x15 ho hg ha
          obtain ⟨B2, d2, hv2, _, _⟩ := ho.len
          generalize (hshs S ++ [h]).length = n2 at hv2
          subst hv2
          have PY := hid (PX.out.app2 ho hg ha)
          clear ho hg ha NB14
          have Gx15 : Hid (PuB g e P v1 v2 h x15) := ⟨PY.out.kb, PY.out.box⟩
          refine hQc.out _ _ (fun _ => Gx15) ?_
          clear hQc Qc PX
          have PX := PY
          clear PY
          try simp only [Act.put, List.setIfInBounds_toArray, List.set_cons_zero, List.set_cons_succ]
          refine wpAnyL_pure (i := 16) (oi := { dst := some 92, op := _, type := _, pos := _, after := _, guard := _ }) (v := ?_) rfl (by kernel_rfl) (by kernel_rfl) (by kernel_rfl) (by rfl) (fun _ _ _ h => h) (Or.inl ⟨by kernel_rfl, ?_⟩) (fun _ => Gx15) ?_
          rotate_left
          · (intro w _; go_simp; try with_reducible rfl)
          try simp only [Act.put, List.setIfInBounds_toArray, List.set_cons_zero, List.set_cons_succ]
          refine wpAnyL_pure (i := 17) (oi := { dst := some 93, op := _, type := _, pos := _, after := _, guard := _ }) (v := ?_) rfl (by kernel_rfl) (by kernel_rfl) (by kernel_rfl) (by rfl) (fun _ _ _ h => h) (Or.inl ⟨by kernel_rfl, ?_⟩) (fun _ => Gx15) ?_
          rotate_left
          · (intro w _; go_simp; try with_reducible rfl)
          try simp only [Act.put, List.setIfInBounds_toArray, List.set_cons_zero, List.set_cons_succ]
          refine wpAnyL_ready (rs := [18]) (by kernel_rfl) (by simp) ?_
          refine (AllReadyL.cons (o := { dst := none, op := _, type := _, pos := _, after := _, guard := _ }) rfl (fun Qc hQc => ?_) AllReadyL.nil)
          have c1 : x15.cell? ⟨g, 1, none⟩ = some v1 := PX.out.kb.cell 1
          have f1 : x15.frozen? ⟨g, 1, none⟩ = false := PX.out.kb.frozen 1
          go_simp
          clear c1 f1
          have PY := hid (PX.out.field 1 (Value.slice B1 n1 d1) rfl)
          refine hQc.out _ _ (unl_no (d := 18) (by rfl) (by kernel_rfl)) ?_
          generalize x15.setCell ⟨g, 1, none⟩ (Value.slice B1 n1 d1) = x16 at PY ⊢
          clear hQc Qc PX
          have PX := PY
          clear PY
          try simp only [Act.put, List.setIfInBounds_toArray, List.set_cons_zero, List.set_cons_succ]
          refine wpAnyL_pure (i := 19) (oi := { dst := some 94, op := _, type := _, pos := _, after := _, guard := _ }) (v := ?_) rfl (by kernel_rfl) (by kernel_rfl) (by kernel_rfl) (by rfl) (fun _ _ _ h => h) (Or.inl ⟨by kernel_rfl, ?_⟩) (unl_no (d := 18) (by rfl) (by kernel_rfl)) ?_
          rotate_left
          · (intro w _; go_simp; try with_reducible rfl)
          try simp only [Act.put, List.setIfInBounds_toArray, List.set_cons_zero, List.set_cons_succ]
          refine wpAnyL_pure (i := 20) (oi := { dst := some 95, op := _, type := _, pos := _, after := _, guard := _ }) (v := ?_) rfl (by kernel_rfl) (by kernel_rfl) (by kernel_rfl) (by rfl) (fun _ _ _ h => h) (Or.inl ⟨by kernel_rfl, ?_⟩) (unl_no (d := 18) (by rfl) (by kernel_rfl)) ?_
          rotate_left
          · (intro w _; go_simp; try with_reducible rfl)
          try simp only [Act.put, List.setIfInBounds_toArray, List.set_cons_zero, List.set_cons_succ]
          refine wpAnyL_ready (rs := [21]) (by kernel_rfl) (by simp) ?_
          refine (AllReadyL.cons (o := { dst := none, op := _, type := _, pos := _, after := _, guard := _ }) rfl (fun Qc hQc => ?_) AllReadyL.nil)
          have c1 : x16.cell? ⟨g, 2, none⟩ = some v2 := PX.out.kb.cell 2
          have f1 : x16.frozen? ⟨g, 2, none⟩ = false := PX.out.kb.frozen 2
          go_simp
          clear c1 f1
          have PY := hid (PX.out.field 2 (Value.slice B2 n2 d2) rfl)
          refine hQc.out _ _ (unl_no (d := 21) (by rfl) (by kernel_rfl)) ?_
          generalize x16.setCell ⟨g, 2, none⟩ (Value.slice B2 n2 d2) = x17 at PY ⊢
          clear hQc Qc PX
          have PX := PY
          clear PY
          try simp only [Act.put, List.setIfInBounds_toArray, List.set_cons_zero, List.set_cons_succ]
          refine wpAnyL_done (by kernel_rfl) ?_ _
          try simp only [Act.put, List.setIfInBounds_toArray, List.set_cons_zero, List.set_cons_succ]
          go_wp2
          try go_frame
          refine bodyPost_end (results_none rfl _ _ _) rfl ?_
          exact ⟨rfl, _, _, HFN.out PX.out, PX.out.on, PX.out.o1, fun k hk => (PX.out.o2 k hk).1⟩
      · have hnn : n = S'.length + 1 := by rw [← HM.out, hS0, List.length_append]; rfl
        obtain ⟨m, hm⟩ : ∃ m, m = S'.length := ⟨_, rfl⟩
        rw [← hm] at hnn
        subst hnn
        have ej : j = (m : Int) := by omega
        subst ej
        have hsz : (szs (exps S))[m]? = some ((2 ^ j' : Nat) : Int) := by rw [hS0]; exact szs_at hm.symm
        have PX := PI
        rw [HV1.out] at PX
        obtain ⟨q1, rfl, hcc⟩ := own_cell PX.out.sz hsz
        clear PX
        by_cases hjk : j' = k
        · subst hjk
          have hb : ¬ p.testBit j' = true := fun hb => hgo ⟨S', f, hS0, hb⟩
          rw [if_neg hb] at hbit
          rw [← HZ.out] at hcc
          clear hS0 hgo hj HM HS HPN HK HV1 HV2 hsz hb hm
          go_wp2
          clear fg hcc hbit
          have PX := PI
          refine wp_region_L (B := fun w' => Hid (PuB g e P v1 v2 h w')) [18, 21] (by kernel_rfl) ?_
          change wpAnyL _ _ _ _ _ _ _ _ _ wr.drew
          have Gx0 : Hid (PuB g e P v1 v2 h wr.drew) := ⟨PI.out.kb, PI.out.box⟩
          have PX' : Hid (PuS n0 g e u1 u2 w P v1 v2 v1 v2 (szs (exps S)) (hshs S) h wr.drew) := PI.out.below ((Below.refl _ _).drew)
          clear PX
          have PX := PX'
          clear PX'
          generalize wr.drew = x0 at Gx0 PX ⊢
          refine wpAnyL_pure (i := 0) (oi := { dst := some 76, op := _, type := _, pos := _, after := _, guard := _ }) (v := ?_) rfl (by kernel_rfl) (by kernel_rfl) (by kernel_rfl) (by rfl) (fun _ _ _ h => h) (Or.inl ⟨by kernel_rfl, ?_⟩) (fun _ => Gx0) ?_
          rotate_left
          · (intro w _; go_simp; try with_reducible rfl)
          try simp only [Act.put, List.setIfInBounds_toArray, List.set_cons_zero, List.set_cons_succ]
          refine wpAnyL_pure (i := 1) (oi := { dst := some 77, op := _, type := _, pos := _, after := _, guard := _ }) (v := ?_) rfl (by kernel_rfl) (by kernel_rfl) (by kernel_rfl) (by rfl) (fun _ _ _ h => h) (Or.inl ⟨by kernel_rfl, ?_⟩) (fun _ => Gx0) ?_
          rotate_left
          · (intro w _; go_simp; try with_reducible rfl)
          try simp only [Act.put, List.setIfInBounds_toArray, List.set_cons_zero, List.set_cons_succ]
          refine wpAnyL_pure (i := 2) (oi := { dst := some 78, op := _, type := _, pos := _, after := _, guard := _ }) (v := ?_) rfl (by kernel_rfl) (by kernel_rfl) (by kernel_rfl) (by rfl) (fun _ _ _ h => h) (Or.inl ⟨by kernel_rfl, ?_⟩) (fun _ => Gx0) ?_
          rotate_left
          · (intro w _; go_simp; try with_reducible rfl)
          try simp only [Act.put, List.setIfInBounds_toArray, List.set_cons_zero, List.set_cons_succ]
          refine wpAnyL_pure (i := 3) (oi := { dst := some 79, op := _, type := _, pos := _, after := _, guard := _ }) (v := ?_) rfl (by kernel_rfl) (by kernel_rfl) (by kernel_rfl) (by rfl) (fun _ _ _ h => h) (Or.inl ⟨by kernel_rfl, ?_⟩) (fun _ => Gx0) ?_
          rotate_left
          · (intro w _; go_simp; try with_reducible rfl)
          try simp only [Act.put, List.setIfInBounds_toArray, List.set_cons_zero, List.set_cons_succ]
          refine wpAnyL_pure (i := 4) (oi := { dst := some 80, op := _, type := _, pos := _, after := _, guard := _ }) (v := ?_) rfl (by kernel_rfl) (by kernel_rfl) (by kernel_rfl) (by rfl) (fun _ _ _ h => h) (Or.inl ⟨by kernel_rfl, ?_⟩) (fun _ => Gx0) ?_
          rotate_left
          · (intro w _; go_simp; try with_reducible rfl)
          try simp only [Act.put, List.setIfInBounds_toArray, List.set_cons_zero, List.set_cons_succ]
          refine wpAnyL_take (i := 5) (oi := { dst := some 81, op := _, type := _, pos := _, after := _, guard := _ }) (v := ?_) [8, 15, 16, 17, 18, 19, 20, 21] rfl (by kernel_rfl) (by kernel_rfl) (by kernel_rfl) (by kernel_rfl) (fun _ _ _ h => h) (Or.inl ⟨by kernel_rfl, ?_⟩) Gx0 ?_
          rotate_left
          · (intro w hSw; have c1 : w.cell? ⟨g, 1, none⟩ = some v1 := hSw.out.kb.cell 1; go_simp; try with_reducible rfl)
          try simp only [Act.put, List.setIfInBounds_toArray, List.set_cons_zero, List.set_cons_succ]
          refine wpAnyL_pure (i := 6) (oi := { dst := some 82, op := _, type := _, pos := _, after := _, guard := _ }) (v := ?_) rfl (by kernel_rfl) (by kernel_rfl) (by kernel_rfl) (by rfl) (fun _ _ _ h => h) (Or.inl ⟨by kernel_rfl, ?_⟩) (fun _ => Gx0) ?_
          rotate_left
          · (intro w _; go_simp; try with_reducible rfl)
          try simp only [Act.put, List.setIfInBounds_toArray, List.set_cons_zero, List.set_cons_succ]
          refine wpAnyL_pure (i := 9) (oi := { dst := some 85, op := _, type := _, pos := _, after := _, guard := _ }) (v := ?_) rfl (by kernel_rfl) (by kernel_rfl) (by kernel_rfl) (by rfl) (fun _ _ _ h => h) (Or.inl ⟨by kernel_rfl, ?_⟩) (fun _ => Gx0) ?_
          rotate_left
          · (intro w _; go_simp; try with_reducible rfl)
          try simp only [Act.put, List.setIfInBounds_toArray, List.set_cons_zero, List.set_cons_succ]
          refine wpAnyL_pure (i := 10) (oi := { dst := some 86, op := _, type := _, pos := _, after := _, guard := _ }) (v := ?_) rfl (by kernel_rfl) (by kernel_rfl) (by kernel_rfl) (by rfl) (fun _ _ _ h => h) (Or.inl ⟨by kernel_rfl, ?_⟩) (fun _ => Gx0) ?_
          rotate_left
          · (intro w _; go_simp; try with_reducible rfl)
          try simp only [Act.put, List.setIfInBounds_toArray, List.set_cons_zero, List.set_cons_succ]
          refine wpAnyL_pure (i := 11) (oi := { dst := some 87, op := _, type := _, pos := _, after := _, guard := _ }) (v := ?_) rfl (by kernel_rfl) (by kernel_rfl) (by kernel_rfl) (by rfl) (fun _ _ _ h => h) (Or.inl ⟨by kernel_rfl, ?_⟩) (fun _ => Gx0) ?_
          rotate_left
          · (intro w _; go_simp; try with_reducible rfl)
          try simp only [Act.put, List.setIfInBounds_toArray, List.set_cons_zero, List.set_cons_succ]
          refine wpAnyL_take (i := 12) (oi := { dst := some 88, op := _, type := _, pos := _, after := _, guard := _ }) (v := ?_) [15, 16, 17, 18, 19, 20, 21] rfl (by kernel_rfl) (by kernel_rfl) (by kernel_rfl) (by kernel_rfl) (fun _ _ _ h => h) (Or.inl ⟨by kernel_rfl, ?_⟩) Gx0 ?_
          rotate_left
          · (intro w hSw; have c2 : w.cell? ⟨g, 2, none⟩ = some v2 := hSw.out.kb.cell 2; go_simp; try with_reducible rfl)
          try simp only [Act.put, List.setIfInBounds_toArray, List.set_cons_zero, List.set_cons_succ]
          refine wpAnyL_take (i := 13) (oi := { dst := some 89, op := _, type := _, pos := _, after := _, guard := _ }) (v := .agg (hc32 h)) [14, 15, 16, 17, 18, 19, 20, 21] rfl (by kernel_rfl) (by kernel_rfl) (by kernel_rfl) (by kernel_rfl) (fun _ _ _ h => h) (yieldsIf_load_mid (cs := u8s h) (by rfl) _ _ rfl _ _ rfl _ (fun w' hSw => blk_row hSw.out.box) Tryd.underlying33 rfl HIH.out) Gx0 ?_
          try simp only [Act.put, List.setIfInBounds_toArray, List.set_cons_zero, List.set_cons_succ]
          refine wpAnyL_ready (rs := [7, 14]) (by kernel_rfl) (by simp) ?_
          refine (AllReadyL.cons (o := { dst := some 83, op := _, type := _, pos := _, after := _, guard := _ }) rfl (fun Qc hQc => ?_) (AllReadyL.cons (o := { dst := some 90, op := _, type := _, pos := _, after := _, guard := _ }) rfl (fun Qc hQc => ?_) AllReadyL.nil))
          ·
            go_simp
            have NB7 : Hid (Blk (x0.alloc (.cells #[.int .i64 (z : Int)] 3)) x0.heap.size 3 #[.int .i64 (z : Int)]) := Blk.new x0 3 #[.int .i64 (z : Int)]
            have hb : Below x0.heap.size x0 (x0.alloc (.cells #[.int .i64 (z : Int)] 3)) := (Below.refl _ _).alloc (Nat.le_refl _) _
            have PY := hid (PX.out.below hb)
            clear hb
            have Gx1 : Hid (PuB g e P v1 v2 h (x0.alloc (.cells #[.int .i64 (z : Int)] 3))) := ⟨PY.out.kb, PY.out.box⟩
            refine hQc.out _ _ (fun _ => Gx1) ?_
            generalize x0.heap.size = g7 at NB7 ⊢
            generalize x0.alloc (.cells #[.int .i64 (z : Int)] 3) = x1 at NB7 PY Gx1 ⊢
            clear hQc Qc PX
            have PX := PY
            clear PY
            try simp only [Act.put, List.setIfInBounds_toArray, List.set_cons_zero, List.set_cons_succ]
            refine wpAnyL_ready (rs := [8, 14]) (by kernel_rfl) (by simp) ?_
            refine (AllReadyL.cons (o := { dst := some 84, op := _, type := _, pos := _, after := _, guard := _ }) rfl (fun Qc hQc => ?_) (AllReadyL.cons (o := { dst := some 90, op := _, type := _, pos := _, after := _, guard := _ }) rfl (fun Qc hQc => ?_) AllReadyL.nil))
            ·
              rw [if_pos (by rfl)]
              refine wp_app_i1 (.tmp 81) (.tmp 83) rfl n0 v1 (szs (exps S)) rfl PX.out.sz g7 (z : Int) NB7.out rfl HLS.out (Nat.le_trans PX.out.nw PX.out.on.size) ?_
              intro v1' x2 ho hg ha
              obtain ⟨B1, d1, hv1, _, _⟩ := ho.len
              generalize (szs (exps S) ++ [(z : Int)]).length = n1 at hv1
              subst hv1
              have PY := hid (PX.out.app1 ho hg ha)
              clear ho hg ha NB7
              have Gx2 : Hid (PuB g e P v1 v2 h x2) := ⟨PY.out.kb, PY.out.box⟩
              refine hQc.out _ _ (fun _ => Gx2) ?_
              clear hQc Qc PX
              have PX := PY
              clear PY
              try simp only [Act.put, List.setIfInBounds_toArray, List.set_cons_zero, List.set_cons_succ]
              refine wpAnyL_ready (rs := [14]) (by kernel_rfl) (by simp) ?_
              refine (AllReadyL.cons (o := { dst := some 90, op := _, type := _, pos := _, after := _, guard := _ }) rfl (fun Qc hQc => ?_) AllReadyL.nil)
              rw [if_pos (by rfl)]
              refine wp_hash_one (.tmp 89) rfl h PX.out.hh rfl ?_
              have NB14 : Hid (Blk (x2.alloc (.cells (hcs [h]).toArray 33)) x2.heap.size 33 (hcs [h]).toArray) := Blk.new x2 33 (hcs [h]).toArray
              have hb : Below x2.heap.size x2 (x2.alloc (.cells (hcs [h]).toArray 33)) := (Below.refl _ _).alloc (Nat.le_refl _) _
              have PY := hid (PX.out.below hb)
              clear hb
              have Gx3 : Hid (PuB g e P v1 v2 h (x2.alloc (.cells (hcs [h]).toArray 33))) := ⟨PY.out.kb, PY.out.box⟩
              refine hQc.out _ _ (fun _ => Gx3) ?_
              generalize x2.heap.size = g14 at NB14 ⊢
              generalize x2.alloc (.cells (hcs [h]).toArray 33) = x3 at NB14 PY Gx3 ⊢
              clear hQc Qc PX
              have PX := PY
              clear PY
              try simp only [Act.put, List.setIfInBounds_toArray, List.set_cons_zero, List.set_cons_succ]
              refine wpAnyL_ready (rs := [15]) (by kernel_rfl) (by simp) ?_
              refine (AllReadyL.cons (o := { dst := some 91, op := _, type := _, pos := _, after := _, guard := _ }) rfl (fun Qc hQc => ?_) AllReadyL.nil)
              rw [if_pos (by rfl)]
              refine wp_app_h1 (.tmp 88) (.tmp 90) rfl n0 v2 (hshs S) rfl PX.out.hs g14 h PX.out.hh NB14.out rfl HLH.out (Nat.le_trans PX.out.nw PX.out.on.size) ?_
              intro v2' x4 ho hg ha
              obtain ⟨B2, d2, hv2, _, _⟩ := ho.len
              generalize (hshs S ++ [h]).length = n2 at hv2
              subst hv2
              have PY := hid (PX.out.app2 ho hg ha)
              clear ho hg ha NB14
              have Gx4 : Hid (PuB g e P v1 v2 h x4) := ⟨PY.out.kb, PY.out.box⟩
              refine hQc.out _ _ (fun _ => Gx4) ?_
              clear hQc Qc PX
              have PX := PY
              clear PY
              try simp only [Act.put, List.setIfInBounds_toArray, List.set_cons_zero, List.set_cons_succ]
              refine wpAnyL_pure (i := 16) (oi := { dst := some 92, op := _, type := _, pos := _, after := _, guard := _ }) (v := ?_) rfl (by kernel_rfl) (by kernel_rfl) (by kernel_rfl) (by rfl) (fun _ _ _ h => h) (Or.inl ⟨by kernel_rfl, ?_⟩) (fun _ => Gx4) ?_
              rotate_left
              · (intro w _; go_simp; try with_reducible rfl)
              try simp only [Act.put, List.setIfInBounds_toArray, List.set_cons_zero, List.set_cons_succ]
              refine wpAnyL_pure (i := 17) (oi := { dst := some 93, op := _, type := _, pos := _, after := _, guard := _ }) (v := ?_) rfl (by kernel_rfl) (by kernel_rfl) (by kernel_rfl) (by rfl) (fun _ _ _ h => h) (Or.inl ⟨by kernel_rfl, ?_⟩) (fun _ => Gx4) ?_
              rotate_left
              · (intro w _; go_simp; try with_reducible rfl)
              try simp only [Act.put, List.setIfInBounds_toArray, List.set_cons_zero, List.set_cons_succ]
              refine wpAnyL_ready (rs := [18]) (by kernel_rfl) (by simp) ?_
              refine (AllReadyL.cons (o := { dst := none, op := _, type := _, pos := _, after := _, guard := _ }) rfl (fun Qc hQc => ?_) AllReadyL.nil)
              have c1 : x4.cell? ⟨g, 1, none⟩ = some v1 := PX.out.kb.cell 1
              have f1 : x4.frozen? ⟨g, 1, none⟩ = false := PX.out.kb.frozen 1
              go_simp
              clear c1 f1
              have PY := hid (PX.out.field 1 (Value.slice B1 n1 d1) rfl)
              refine hQc.out _ _ (unl_no (d := 18) (by rfl) (by kernel_rfl)) ?_
              generalize x4.setCell ⟨g, 1, none⟩ (Value.slice B1 n1 d1) = x5 at PY ⊢
              clear hQc Qc PX
              have PX := PY
              clear PY
              try simp only [Act.put, List.setIfInBounds_toArray, List.set_cons_zero, List.set_cons_succ]
              refine wpAnyL_pure (i := 19) (oi := { dst := some 94, op := _, type := _, pos := _, after := _, guard := _ }) (v := ?_) rfl (by kernel_rfl) (by kernel_rfl) (by kernel_rfl) (by rfl) (fun _ _ _ h => h) (Or.inl ⟨by kernel_rfl, ?_⟩) (unl_no (d := 18) (by rfl) (by kernel_rfl)) ?_
              rotate_left
              · (intro w _; go_simp; try with_reducible rfl)
              try simp only [Act.put, List.setIfInBounds_toArray, List.set_cons_zero, List.set_cons_succ]
              refine wpAnyL_pure (i := 20) (oi := { dst := some 95, op := _, type := _, pos := _, after := _, guard := _ }) (v := ?_) rfl (by kernel_rfl) (by kernel_rfl) (by kernel_rfl) (by rfl) (fun _ _ _ h => h) (Or.inl ⟨by kernel_rfl, ?_⟩) (unl_no (d := 18) (by rfl) (by kernel_rfl)) ?_
              rotate_left
              · (intro w _; go_simp; try with_reducible rfl)
              try simp only [Act.put, List.setIfInBounds_toArray, List.set_cons_zero, List.set_cons_succ]
              refine wpAnyL_ready (rs := [21]) (by kernel_rfl) (by simp) ?_
              refine (AllReadyL.cons (o := { dst := none, op := _, type := _, pos := _, after := _, guard := _ }) rfl (fun Qc hQc => ?_) AllReadyL.nil)
              have c1 : x5.cell? ⟨g, 2, none⟩ = some v2 := PX.out.kb.cell 2
              have f1 : x5.frozen? ⟨g, 2, none⟩ = false := PX.out.kb.frozen 2
              go_simp
              clear c1 f1
              have PY := hid (PX.out.field 2 (Value.slice B2 n2 d2) rfl)
              refine hQc.out _ _ (unl_no (d := 21) (by rfl) (by kernel_rfl)) ?_
              generalize x5.setCell ⟨g, 2, none⟩ (Value.slice B2 n2 d2) = x6 at PY ⊢
              clear hQc Qc PX
              have PX := PY
              clear PY
              try simp only [Act.put, List.setIfInBounds_toArray, List.set_cons_zero, List.set_cons_succ]
              refine wpAnyL_done (by kernel_rfl) ?_ _
              try simp only [Act.put, List.setIfInBounds_toArray, List.set_cons_zero, List.set_cons_succ]
              go_wp2
              try go_frame
              refine bodyPost_end (results_none rfl _ _ _) rfl ?_
              exact ⟨rfl, _, _, HFN.out PX.out, PX.out.on, PX.out.o1, fun k hk => (PX.out.o2 k hk).1⟩
            ·
              rw [if_pos (by rfl)]
              refine wp_hash_one (.tmp 89) rfl h PX.out.hh rfl ?_
              have NB14 : Hid (Blk (x1.alloc (.cells (hcs [h]).toArray 33)) x1.heap.size 33 (hcs [h]).toArray) := Blk.new x1 33 (hcs [h]).toArray
              have hb : Below x1.heap.size x1 (x1.alloc (.cells (hcs [h]).toArray 33)) := (Below.refl _ _).alloc (Nat.le_refl _) _
              have PY := hid (PX.out.below hb)
              have AT7 := hid (NB7.out.below hb)
              clear NB7
              have NB7 := AT7
              clear AT7
              clear hb
              have Gx7 : Hid (PuB g e P v1 v2 h (x1.alloc (.cells (hcs [h]).toArray 33))) := ⟨PY.out.kb, PY.out.box⟩
              refine hQc.out _ _ (fun _ => Gx7) ?_
              generalize x1.heap.size = g14 at NB14 ⊢
              generalize x1.alloc (.cells (hcs [h]).toArray 33) = x7 at NB14 PY Gx7 NB7 ⊢
              clear hQc Qc PX
              have PX := PY
              clear PY
              try simp only [Act.put, List.setIfInBounds_toArray, List.set_cons_zero, List.set_cons_succ]
              refine wpAnyL_ready (rs := [8]) (by kernel_rfl) (by simp) ?_
              refine (AllReadyL.cons (o := { dst := some 84, op := _, type := _, pos := _, after := _, guard := _ }) rfl (fun Qc hQc => ?_) AllReadyL.nil)
              rw [if_pos (by rfl)]
              refine wp_app_i1 (.tmp 81) (.tmp 83) rfl n0 v1 (szs (exps S)) rfl PX.out.sz g7 (z : Int) NB7.out rfl HLS.out (Nat.le_trans PX.out.nw PX.out.on.size) ?_
              intro v1' x8 ho hg ha
              obtain ⟨B1, d1, hv1, _, _⟩ := ho.len
              generalize (szs (exps S) ++ [(z : Int)]).length = n1 at hv1
              subst hv1
              have PY := hid (PX.out.app1 ho hg ha)
              have AT14 := hid (blk_grown PX.out NB14.out hg)
              clear NB14
              have NB14 := AT14
              clear AT14
              clear ho hg ha NB7
              have Gx8 : Hid (PuB g e P v1 v2 h x8) := ⟨PY.out.kb, PY.out.box⟩
              refine hQc.out _ _ (fun _ => Gx8) ?_
              clear hQc Qc PX
              have PX := PY
              clear PY
              try simp only [Act.put, List.setIfInBounds_toArray, List.set_cons_zero, List.set_cons_succ]
              refine wpAnyL_ready (rs := [15]) (by kernel_rfl) (by simp) ?_
              refine (AllReadyL.cons (o := { dst := some 91, op := _, type := _, pos := _, after := _, guard := _ }) rfl (fun Qc hQc => ?_) AllReadyL.nil)
              rw [if_pos (by rfl)]
              refine wp_app_h1 (.tmp 88) (.tmp 90) rfl n0 v2 (hshs S) rfl PX.out.hs g14 h PX.out.hh NB14.out rfl HLH.out (Nat.le_trans PX.out.nw PX.out.on.size) ?_
              intro v2' x9 ho hg ha
              obtain ⟨B2, d2, hv2, _, _⟩ := ho.len
              generalize (hshs S ++ [h]).length = n2 at hv2
              subst hv2
              have PY := hid (PX.out.app2 ho hg ha)
              clear ho hg ha NB14
              have Gx9 : Hid (PuB g e P v1 v2 h x9) := ⟨PY.out.kb, PY.out.box⟩
              refine hQc.out _ _ (fun _ => Gx9) ?_
              clear hQc Qc PX
              have PX := PY
              clear PY
              try simp only [Act.put, List.setIfInBounds_toArray, List.set_cons_zero, List.set_cons_succ]
              refine wpAnyL_pure (i := 16) (oi := { dst := some 92, op := _, type := _, pos := _, after := _, guard := _ }) (v := ?_) rfl (by kernel_rfl) (by kernel_rfl) (by kernel_rfl) (by rfl) (fun _ _ _ h => h) (Or.inl ⟨by kernel_rfl, ?_⟩) (fun _ => Gx9) ?_
              rotate_left
              · (intro w _; go_simp; try with_reducible rfl)
              try simp only [Act.put, List.setIfInBounds_toArray, List.set_cons_zero, List.set_cons_succ]
              refine wpAnyL_pure (i := 17) (oi := { dst := some 93, op := _, type := _, pos := _, after := _, guard := _ }) (v := ?_) rfl (by kernel_rfl) (by kernel_rfl) (by kernel_rfl) (by rfl) (fun _ _ _ h => h) (Or.inl ⟨by kernel_rfl, ?_⟩) (fun _ => Gx9) ?_
              rotate_left
              · (intro w _; go_simp; try with_reducible rfl)
              try simp only [Act.put, List.setIfInBounds_toArray, List.set_cons_zero, List.set_cons_succ]
              refine wpAnyL_ready (rs := [18]) (by kernel_rfl) (by simp) ?_
              refine (AllReadyL.cons (o := { dst := none, op := _, type := _, pos := _, after := _, guard := _ }) rfl (fun Qc hQc => ?_) AllReadyL.nil)
              have c1 : x9.cell? ⟨g, 1, none⟩ = some v1 := PX.out.kb.cell 1
              have f1 : x9.frozen? ⟨g, 1, none⟩ = false := PX.out.kb.frozen 1
              go_simp
              clear c1 f1
              have PY := hid (PX.out.field 1 (Value.slice B1 n1 d1) rfl)
              refine hQc.out _ _ (unl_no (d := 18) (by rfl) (by kernel_rfl)) ?_
              generalize x9.setCell ⟨g, 1, none⟩ (Value.slice B1 n1 d1) = x10 at PY ⊢
              clear hQc Qc PX
              have PX := PY
              clear PY
              try simp only [Act.put, List.setIfInBounds_toArray, List.set_cons_zero, List.set_cons_succ]
              refine wpAnyL_pure (i := 19) (oi := { dst := some 94, op := _, type := _, pos := _, after := _, guard := _ }) (v := ?_) rfl (by kernel_rfl) (by kernel_rfl) (by kernel_rfl) (by rfl) (fun _ _ _ h => h) (Or.inl ⟨by kernel_rfl, ?_⟩) (unl_no (d := 18) (by rfl) (by kernel_rfl)) ?_
              rotate_left
              · (intro w _; go_simp; try with_reducible rfl)
              try simp only [Act.put, List.setIfInBounds_toArray, List.set_cons_zero, List.set_cons_succ]
              refine wpAnyL_pure (i := 20) (oi := { dst := some 95, op := _, type := _, pos := _, after := _, guard := _ }) (v := ?_) rfl (by kernel_rfl) (by kernel_rfl) (by kernel_rfl) (by rfl) (fun _ _ _ h => h) (Or.inl ⟨by kernel_rfl, ?_⟩) (unl_no (d := 18) (by rfl) (by kernel_rfl)) ?_
              rotate_left
              · (intro w _; go_simp; try with_reducible rfl)
              try simp only [Act.put, List.setIfInBounds_toArray, List.set_cons_zero, List.set_cons_succ]
              refine wpAnyL_ready (rs := [21]) (by kernel_rfl) (by simp) ?_
              refine (AllReadyL.cons (o := { dst := none, op := _, type := _, pos := _, after := _, guard := _ }) rfl (fun Qc hQc => ?_) AllReadyL.nil)
              have c1 : x10.cell? ⟨g, 2, none⟩ = some v2 := PX.out.kb.cell 2
              have f1 : x10.frozen? ⟨g, 2, none⟩ = false := PX.out.kb.frozen 2
              go_simp
              clear c1 f1
              have PY := hid (PX.out.field 2 (Value.slice B2 n2 d2) rfl)
              refine hQc.out _ _ (unl_no (d := 21) (by rfl) (by kernel_rfl)) ?_
              generalize x10.setCell ⟨g, 2, none⟩ (Value.slice B2 n2 d2) = x11 at PY ⊢
              clear hQc Qc PX
              have PX := PY
              clear PY
              try simp only [Act.put, List.setIfInBounds_toArray, List.set_cons_zero, List.set_cons_succ]
              refine wpAnyL_done (by kernel_rfl) ?_ _
              try simp only [Act.put, List.setIfInBounds_toArray, List.set_cons_zero, List.set_cons_succ]
              go_wp2
              try go_frame
              refine bodyPost_end (results_none rfl _ _ _) rfl ?_
              exact ⟨rfl, _, _, HFN.out PX.out, PX.out.on, PX.out.o1, fun k hk => (PX.out.o2 k hk).1⟩
          ·
            rw [if_pos (by rfl)]
            refine wp_hash_one (.tmp 89) rfl h PX.out.hh rfl ?_
            have NB14 : Hid (Blk (x0.alloc (.cells (hcs [h]).toArray 33)) x0.heap.size 33 (hcs [h]).toArray) := Blk.new x0 33 (hcs [h]).toArray
            have hb : Below x0.heap.size x0 (x0.alloc (.cells (hcs [h]).toArray 33)) := (Below.refl _ _).alloc (Nat.le_refl _) _
            have PY := hid (PX.out.below hb)
            clear hb
            have Gx12 : Hid (PuB g e P v1 v2 h (x0.alloc (.cells (hcs [h]).toArray 33))) := ⟨PY.out.kb, PY.out.box⟩
            refine hQc.out _ _ (fun _ => Gx12) ?_
            generalize x0.heap.size = g14 at NB14 ⊢
            generalize x0.alloc (.cells (hcs [h]).toArray 33) = x12 at NB14 PY Gx12 ⊢
            clear hQc Qc PX
            have PX := PY
            clear PY
            try simp only [Act.put, List.setIfInBounds_toArray, List.set_cons_zero, List.set_cons_succ]
            refine wpAnyL_ready (rs := [7]) (by kernel_rfl) (by simp) ?_
            refine (AllReadyL.cons (o := { dst := some 83, op := _, type := _, pos := _, after := _, guard := _ }) rfl (fun Qc hQc => ?_) AllReadyL.nil)
            go_simp
            have NB7 : Hid (Blk (x12.alloc (.cells #[.int .i64 (z : Int)] 3)) x12.heap.size 3 #[.int .i64 (z : Int)]) := Blk.new x12 3 #[.int .i64 (z : Int)]
            have hb : Below x12.heap.size x12 (x12.alloc (.cells #[.int .i64 (z : Int)] 3)) := (Below.refl _ _).alloc (Nat.le_refl _) _
            have PY := hid (PX.out.below hb)
            have AT14 := hid (NB14.out.below hb)
            clear NB14
            have NB14 := AT14
            clear AT14
            clear hb
            have Gx13 : Hid (PuB g e P v1 v2 h (x12.alloc (.cells #[.int .i64 (z : Int)] 3))) := ⟨PY.out.kb, PY.out.box⟩
            refine hQc.out _ _ (fun _ => Gx13) ?_
            generalize x12.heap.size = g7 at NB7 ⊢
            generalize x12.alloc (.cells #[.int .i64 (z : Int)] 3) = x13 at NB7 PY Gx13 NB14 ⊢
            clear hQc Qc PX
            have PX := PY
            clear PY
            try simp only [Act.put, List.setIfInBounds_toArray, List.set_cons_zero, List.set_cons_succ]
            refine wpAnyL_ready (rs := [8]) (by kernel_rfl) (by simp) ?_
            refine (AllReadyL.cons (o := { dst := some 84, op := _, type := _, pos := _, after := _, guard := _ }) rfl (fun Qc hQc => ?_) AllReadyL.nil)
            rw [if_pos (by rfl)]
            refine wp_app_i1 (.tmp 81) (.tmp 83) rfl n0 v1 (szs (exps S)) rfl PX.out.sz g7 (z : Int) NB7.out rfl HLS.out (Nat.le_trans PX.out.nw PX.out.on.size) ?_
            intro v1' x14 ho hg ha
            obtain ⟨B1, d1, hv1, _, _⟩ := ho.len
            generalize (szs (exps S) ++ [(z : Int)]).length = n1 at hv1
            subst hv1
            have PY := hid (PX.out.app1 ho hg ha)
            have AT14 := hid (blk_grown PX.out NB14.out hg)
            clear NB14
            have NB14 := AT14
            clear AT14
            clear ho hg ha NB7
            have Gx14 : Hid (PuB g e P v1 v2 h x14) := ⟨PY.out.kb, PY.out.box⟩
            refine hQc.out _ _ (fun _ => Gx14) ?_
            clear hQc Qc PX
            have PX := PY
            clear PY
            try simp only [Act.put, List.setIfInBounds_toArray, List.set_cons_zero, List.set_cons_succ]
            refine wpAnyL_ready (rs := [15]) (by kernel_rfl) (by simp) ?_
            refine (AllReadyL.cons (o := { dst := some 91, op := _, type := _, pos := _, after := _, guard := _ }) rfl (fun Qc hQc => ?_) AllReadyL.nil)
            rw [if_pos (by rfl)]
            refine wp_app_h1 (.tmp 88) (.tmp 90) rfl n0 v2 (hshs S) rfl PX.out.hs g14 h PX.out.hh NB14.out rfl HLH.out (Nat.le_trans PX.out.nw PX.out.on.size) ?_
            intro v2' x15 ho hg ha
            obtain ⟨B2, d2, hv2, _, _⟩ := ho.len
            generalize (hshs S ++ [h]).length = n2 at hv2
            subst hv2
            have PY := hid (PX.out.app2 ho hg ha)
            clear ho hg ha NB14
            have Gx15 : Hid (PuB g e P v1 v2 h x15) := ⟨PY.out.kb, PY.out.box⟩
            refine hQc.out _ _ (fun _ => Gx15) ?_
            clear hQc Qc PX
            have PX := PY
            clear PY
            try simp only [Act.put, List.setIfInBounds_toArray, List.set_cons_zero, List.set_cons_succ]
            refine wpAnyL_pure (i := 16) (oi := { dst := some 92, op := _, type := _, pos := _, after := _, guard := _ }) (v := ?_) rfl (by kernel_rfl) (by kernel_rfl) (by kernel_rfl) (by rfl) (fun _ _ _ h => h) (Or.inl ⟨by kernel_rfl, ?_⟩) (fun _ => Gx15) ?_
            rotate_left
            · (intro w _; go_simp; try with_reducible rfl)
            try simp only [Act.put, List.setIfInBounds_toArray, List.set_cons_zero, List.set_cons_succ]
            refine wpAnyL_pure (i := 17) (oi := { dst := some 93, op := _, type := _, pos := _, after := _, guard := _ }) (v := ?_) rfl (by kernel_rfl) (by kernel_rfl) (by kernel_rfl) (by rfl) (fun _ _ _ h => h) (Or.inl ⟨by kernel_rfl, ?_⟩) (fun _ => Gx15) ?_
            rotate_left
            · (intro w _; go_simp; try with_reducible rfl)
            try simp only [Act.put, List.setIfInBounds_toArray, List.set_cons_zero, List.set_cons_succ]
            refine wpAnyL_ready (rs := [18]) (by kernel_rfl) (by simp) ?_
            refine (AllReadyL.cons (o := { dst := none, op := _, type := _, pos := _, after := _, guard := _ }) rfl (fun Qc hQc => ?_) AllReadyL.nil)
            have c1 : x15.cell? ⟨g, 1, none⟩ = some v1 := PX.out.kb.cell 1
            have f1 : x15.frozen? ⟨g, 1, none⟩ = false := PX.out.kb.frozen 1
            go_simp
            clear c1 f1
            have PY := hid (PX.out.field 1 (Value.slice B1 n1 d1) rfl)
            refine hQc.out _ _ (unl_no (d := 18) (by rfl) (by kernel_rfl)) ?_
            generalize x15.setCell ⟨g, 1, none⟩ (Value.slice B1 n1 d1) = x16 at PY ⊢
            clear hQc Qc PX
            have PX := PY
            clear PY
            try simp only [Act.put, List.setIfInBounds_toArray, List.set_cons_zero, List.set_cons_succ]
            refine wpAnyL_pure (i := 19) (oi := { dst := some 94, op := _, type := _, pos := _, after := _, guard := _ }) (v := ?_) rfl (by kernel_rfl) (by kernel_rfl) (by kernel_rfl) (by rfl) (fun _ _ _ h => h) (Or.inl ⟨by kernel_rfl, ?_⟩) (unl_no (d := 18) (by rfl) (by kernel_rfl)) ?_
            rotate_left
            · (intro w _; go_simp; try with_reducible rfl)
            try simp only [Act.put, List.setIfInBounds_toArray, List.set_cons_zero, List.set_cons_succ]
            refine wpAnyL_pure (i := 20) (oi := { dst := some 95, op := _, type := _, pos := _, after := _, guard := _ }) (v := ?_) rfl (by kernel_rfl) (by kernel_rfl) (by kernel_rfl) (by rfl) (fun _ _ _ h => h) (Or.inl ⟨by kernel_rfl, ?_⟩) (unl_no (d := 18) (by rfl) (by kernel_rfl)) ?_
            rotate_left
            · (intro w _; go_simp; try with_reducible rfl)
            try simp only [Act.put, List.setIfInBounds_toArray, List.set_cons_zero, List.set_cons_succ]
            refine wpAnyL_ready (rs := [21]) (by kernel_rfl) (by simp) ?_
            refine (AllReadyL.cons (o := { dst := none, op := _, type := _, pos := _, after := _, guard := _ }) rfl (fun Qc hQc => ?_) AllReadyL.nil)
            have c1 : x16.cell? ⟨g, 2, none⟩ = some v2 := PX.out.kb.cell 2
            have f1 : x16.frozen? ⟨g, 2, none⟩ = false := PX.out.kb.frozen 2
            go_simp
            clear c1 f1
            have PY := hid (PX.out.field 2 (Value.slice B2 n2 d2) rfl)
            refine hQc.out _ _ (unl_no (d := 21) (by rfl) (by kernel_rfl)) ?_
            generalize x16.setCell ⟨g, 2, none⟩ (Value.slice B2 n2 d2) = x17 at PY ⊢
            clear hQc Qc PX
            have PX := PY
            clear PY
            try simp only [Act.put, List.setIfInBounds_toArray, List.set_cons_zero, List.set_cons_succ]
            refine wpAnyL_done (by kernel_rfl) ?_ _
            try simp only [Act.put, List.setIfInBounds_toArray, List.set_cons_zero, List.set_cons_succ]
            go_wp2
            try go_frame
            refine bodyPost_end (results_none rfl _ _ _) rfl ?_
            exact ⟨rfl, _, _, HFN.out PX.out, PX.out.on, PX.out.o1, fun k hk => (PX.out.o2 k hk).1⟩
        · obtain ⟨z', hz'⟩ : ∃ z', z' = 2 ^ j' := ⟨_, rfl⟩
          rw [← hz'] at hcc
          have hzz : ((z' : Int) == (z : Int)) = false := by
            simp only [beq_eq_false_iff_ne, ne_eq]
            intro hc
            refine hjk (pow2_inj ?_)
            rw [← hz', ← HZ.out]; omega
          clear hS0 hgo hj HM HS HPN HK HV1 HV2 hsz hm hz' hjk hbit
          go_wp2
          clear fg hcc hzz
          have PX := PI
          refine wp_region_L (B := fun w' => Hid (PuB g e P v1 v2 h w')) [18, 21] (by kernel_rfl) ?_
          change wpAnyL _ _ _ _ _ _ _ _ _ wr.drew
          have Gx0 : Hid (PuB g e P v1 v2 h wr.drew) := ⟨PI.out.kb, PI.out.box⟩
          have PX' : Hid (PuS n0 g e u1 u2 w P v1 v2 v1 v2 (szs (exps S)) (hshs S) h wr.drew) := PI.out.below ((Below.refl _ _).drew)
          clear PX
          have PX := PX'
          clear PX'
          generalize wr.drew = x0 at Gx0 PX ⊢
          refine wpAnyL_pure (i := 0) (oi := { dst := some 76, op := _, type := _, pos := _, after := _, guard := _ }) (v := ?_) rfl (by kernel_rfl) (by kernel_rfl) (by kernel_rfl) (by rfl) (fun _ _ _ h => h) (Or.inl ⟨by kernel_rfl, ?_⟩) (fun _ => Gx0) ?_
          rotate_left
          · (intro w _; go_simp; try with_reducible rfl)
          try simp only [Act.put, List.setIfInBounds_toArray, List.set_cons_zero, List.set_cons_succ]
          refine wpAnyL_pure (i := 1) (oi := { dst := some 77, op := _, type := _, pos := _, after := _, guard := _ }) (v := ?_) rfl (by kernel_rfl) (by kernel_rfl) (by kernel_rfl) (by rfl) (fun _ _ _ h => h) (Or.inl ⟨by kernel_rfl, ?_⟩) (fun _ => Gx0) ?_
          rotate_left
          · (intro w _; go_simp; try with_reducible rfl)
          try simp only [Act.put, List.setIfInBounds_toArray, List.set_cons_zero, List.set_cons_succ]
          refine wpAnyL_pure (i := 2) (oi := { dst := some 78, op := _, type := _, pos := _, after := _, guard := _ }) (v := ?_) rfl (by kernel_rfl) (by kernel_rfl) (by kernel_rfl) (by rfl) (fun _ _ _ h => h) (Or.inl ⟨by kernel_rfl, ?_⟩) (fun _ => Gx0) ?_
          rotate_left
          · (intro w _; go_simp; try with_reducible rfl)
          try simp only [Act.put, List.setIfInBounds_toArray, List.set_cons_zero, List.set_cons_succ]
          refine wpAnyL_pure (i := 3) (oi := { dst := some 79, op := _, type := _, pos := _, after := _, guard := _ }) (v := ?_) rfl (by kernel_rfl) (by kernel_rfl) (by kernel_rfl) (by rfl) (fun _ _ _ h => h) (Or.inl ⟨by kernel_rfl, ?_⟩) (fun _ => Gx0) ?_
          rotate_left
          · (intro w _; go_simp; try with_reducible rfl)
          try simp only [Act.put, List.setIfInBounds_toArray, List.set_cons_zero, List.set_cons_succ]
          refine wpAnyL_pure (i := 4) (oi := { dst := some 80, op := _, type := _, pos := _, after := _, guard := _ }) (v := ?_) rfl (by kernel_rfl) (by kernel_rfl) (by kernel_rfl) (by rfl) (fun _ _ _ h => h) (Or.inl ⟨by kernel_rfl, ?_⟩) (fun _ => Gx0) ?_
          rotate_left
          · (intro w _; go_simp; try with_reducible rfl)
          try simp only [Act.put, List.setIfInBounds_toArray, List.set_cons_zero, List.set_cons_succ]
          refine wpAnyL_take (i := 5) (oi := { dst := some 81, op := _, type := _, pos := _, after := _, guard := _ }) (v := ?_) [8, 15, 16, 17, 18, 19, 20, 21] rfl (by kernel_rfl) (by kernel_rfl) (by kernel_rfl) (by kernel_rfl) (fun _ _ _ h => h) (Or.inl ⟨by kernel_rfl, ?_⟩) Gx0 ?_
          rotate_left
          · (intro w hSw; have c1 : w.cell? ⟨g, 1, none⟩ = some v1 := hSw.out.kb.cell 1; go_simp; try with_reducible rfl)
          try simp only [Act.put, List.setIfInBounds_toArray, List.set_cons_zero, List.set_cons_succ]
          refine wpAnyL_pure (i := 6) (oi := { dst := some 82, op := _, type := _, pos := _, after := _, guard := _ }) (v := ?_) rfl (by kernel_rfl) (by kernel_rfl) (by kernel_rfl) (by rfl) (fun _ _ _ h => h) (Or.inl ⟨by kernel_rfl, ?_⟩) (fun _ => Gx0) ?_
          rotate_left
          · (intro w _; go_simp; try with_reducible rfl)
          try simp only [Act.put, List.setIfInBounds_toArray, List.set_cons_zero, List.set_cons_succ]
          refine wpAnyL_pure (i := 9) (oi := { dst := some 85, op := _, type := _, pos := _, after := _, guard := _ }) (v := ?_) rfl (by kernel_rfl) (by kernel_rfl) (by kernel_rfl) (by rfl) (fun _ _ _ h => h) (Or.inl ⟨by kernel_rfl, ?_⟩) (fun _ => Gx0) ?_
          rotate_left
          · (intro w _; go_simp; try with_reducible rfl)
          try simp only [Act.put, List.setIfInBounds_toArray, List.set_cons_zero, List.set_cons_succ]
          refine wpAnyL_pure (i := 10) (oi := { dst := some 86, op := _, type := _, pos := _, after := _, guard := _ }) (v := ?_) rfl (by kernel_rfl) (by kernel_rfl) (by kernel_rfl) (by rfl) (fun _ _ _ h => h) (Or.inl ⟨by kernel_rfl, ?_⟩) (fun _ => Gx0) ?_
          rotate_left
          · (intro w _; go_simp; try with_reducible rfl)
          try simp only [Act.put, List.setIfInBounds_toArray, List.set_cons_zero, List.set_cons_succ]
          refine wpAnyL_pure (i := 11) (oi := { dst := some 87, op := _, type := _, pos := _, after := _, guard := _ }) (v := ?_) rfl (by kernel_rfl) (by kernel_rfl) (by kernel_rfl) (by rfl) (fun _ _ _ h => h) (Or.inl ⟨by kernel_rfl, ?_⟩) (fun _ => Gx0) ?_
          rotate_left
          · (intro w _; go_simp; try with_reducible rfl)
          try simp only [Act.put, List.setIfInBounds_toArray, List.set_cons_zero, List.set_cons_succ]
          refine wpAnyL_take (i := 12) (oi := { dst := some 88, op := _, type := _, pos := _, after := _, guard := _ }) (v := ?_) [15, 16, 17, 18, 19, 20, 21] rfl (by kernel_rfl) (by kernel_rfl) (by kernel_rfl) (by kernel_rfl) (fun _ _ _ h => h) (Or.inl ⟨by kernel_rfl, ?_⟩) Gx0 ?_
          rotate_left
          · (intro w hSw; have c2 : w.cell? ⟨g, 2, none⟩ = some v2 := hSw.out.kb.cell 2; go_simp; try with_reducible rfl)
          try simp only [Act.put, List.setIfInBounds_toArray, List.set_cons_zero, List.set_cons_succ]
          refine wpAnyL_take (i := 13) (oi := { dst := some 89, op := _, type := _, pos := _, after := _, guard := _ }) (v := .agg (hc32 h)) [14, 15, 16, 17, 18, 19, 20, 21] rfl (by kernel_rfl) (by kernel_rfl) (by kernel_rfl) (by kernel_rfl) (fun _ _ _ h => h) (yieldsIf_load_mid (cs := u8s h) (by rfl) _ _ rfl _ _ rfl _ (fun w' hSw => blk_row hSw.out.box) Tryd.underlying33 rfl HIH.out) Gx0 ?_
          try simp only [Act.put, List.setIfInBounds_toArray, List.set_cons_zero, List.set_cons_succ]
          refine wpAnyL_ready (rs := [7, 14]) (by kernel_rfl) (by simp) ?_
          refine (AllReadyL.cons (o := { dst := some 83, op := _, type := _, pos := _, after := _, guard := _ }) rfl (fun Qc hQc => ?_) (AllReadyL.cons (o := { dst := some 90, op := _, type := _, pos := _, after := _, guard := _ }) rfl (fun Qc hQc => ?_) AllReadyL.nil))
          ·
            go_simp
            have NB7 : Hid (Blk (x0.alloc (.cells #[.int .i64 (z : Int)] 3)) x0.heap.size 3 #[.int .i64 (z : Int)]) := Blk.new x0 3 #[.int .i64 (z : Int)]
            have hb : Below x0.heap.size x0 (x0.alloc (.cells #[.int .i64 (z : Int)] 3)) := (Below.refl _ _).alloc (Nat.le_refl _) _
            have PY := hid (PX.out.below hb)
            clear hb
            have Gx1 : Hid (PuB g e P v1 v2 h (x0.alloc (.cells #[.int .i64 (z : Int)] 3))) := ⟨PY.out.kb, PY.out.box⟩
            refine hQc.out _ _ (fun _ => Gx1) ?_
            generalize x0.heap.size = g7 at NB7 ⊢
            generalize x0.alloc (.cells #[.int .i64 (z : Int)] 3) = x1 at NB7 PY Gx1 ⊢
            clear hQc Qc PX
            have PX := PY
            clear PY
            try simp only [Act.put, List.setIfInBounds_toArray, List.set_cons_zero, List.set_cons_succ]
            refine wpAnyL_ready (rs := [8, 14]) (by kernel_rfl) (by simp) ?_
            refine (AllReadyL.cons (o := { dst := some 84, op := _, type := _, pos := _, after := _, guard := _ }) rfl (fun Qc hQc => ?_) (AllReadyL.cons (o := { dst := some 90, op := _, type := _, pos := _, after := _, guard := _ }) rfl (fun Qc hQc => ?_) AllReadyL.nil))
            ·
              rw [if_pos (by rfl)]
              refine wp_app_i1 (.tmp 81) (.tmp 83) rfl n0 v1 (szs (exps S)) rfl PX.out.sz g7 (z : Int) NB7.out rfl HLS.out (Nat.le_trans PX.out.nw PX.out.on.size) ?_
              intro v1' x2 ho hg ha
              obtain ⟨B1, d1, hv1, _, _⟩ := ho.len
              generalize (szs (exps S) ++ [(z : Int)]).length = n1 at hv1
              subst hv1
              have PY := hid (PX.out.app1 ho hg ha)
              clear ho hg ha NB7
              have Gx2 : Hid (PuB g e P v1 v2 h x2) := ⟨PY.out.kb, PY.out.box⟩
              refine hQc.out _ _ (fun _ => Gx2) ?_
              clear hQc Qc PX
              have PX := PY
              clear PY
              try simp only [Act.put, List.setIfInBounds_toArray, List.set_cons_zero, List.set_cons_succ]
              refine wpAnyL_ready (rs := [14]) (by kernel_rfl) (by simp) ?_
              refine (AllReadyL.cons (o := { dst := some 90, op := _, type := _, pos := _, after := _, guard := _ }) rfl (fun Qc hQc => ?_) AllReadyL.nil)
              rw [if_pos (by rfl)]
              refine wp_hash_one (.tmp 89) rfl h PX.out.hh rfl ?_
              have NB14 : Hid (Blk (x2.alloc (.cells (hcs [h]).toArray 33)) x2.heap.size 33 (hcs [h]).toArray) := Blk.new x2 33 (hcs [h]).toArray
              have hb : Below x2.heap.size x2 (x2.alloc (.cells (hcs [h]).toArray 33)) := (Below.refl _ _).alloc (Nat.le_refl _) _
              have PY := hid (PX.out.below hb)
              clear hb
              have Gx3 : Hid (PuB g e P v1 v2 h (x2.alloc (.cells (hcs [h]).toArray 33))) := ⟨PY.out.kb, PY.out.box⟩
              refine hQc.out _ _ (fun _ => Gx3) ?_
              generalize x2.heap.size = g14 at NB14 ⊢
              generalize x2.alloc (.cells (hcs [h]).toArray 33) = x3 at NB14 PY Gx3 ⊢
              clear hQc Qc PX
              have PX := PY
              clear PY
              try simp only [Act.put, List.setIfInBounds_toArray, List.set_cons_zero, List.set_cons_succ]
              refine wpAnyL_ready (rs := [15]) (by kernel_rfl) (by simp) ?_
              refine (AllReadyL.cons (o := { dst := some 91, op := _, type := _, pos := _, after := _, guard := _ }) rfl (fun Qc hQc => ?_) AllReadyL.nil)
              rw [if_pos (by rfl)]
              refine wp_app_h1 (.tmp 88) (.tmp 90) rfl n0 v2 (hshs S) rfl PX.out.hs g14 h PX.out.hh NB14.out rfl HLH.out (Nat.le_trans PX.out.nw PX.out.on.size) ?_
              intro v2' x4 ho hg ha
              obtain ⟨B2, d2, hv2, _, _⟩ := ho.len
              generalize (hshs S ++ [h]).length = n2 at hv2
              subst hv2
              have PY := hid (PX.out.app2 ho hg ha)
              clear ho hg ha NB14
              have Gx4 : Hid (PuB g e P v1 v2 h x4) := ⟨PY.out.kb, PY.out.box⟩
              refine hQc.out _ _ (fun _ => Gx4) ?_
              clear hQc Qc PX
              have PX := PY
              clear PY
              try simp only [Act.put, List.setIfInBounds_toArray, List.set_cons_zero, List.set_cons_succ]
              refine wpAnyL_pure (i := 16) (oi := { dst := some 92, op := _, type := _, pos := _, after := _, guard := _ }) (v := ?_) rfl (by kernel_rfl) (by kernel_rfl) (by kernel_rfl) (by rfl) (fun _ _ _ h => h) (Or.inl ⟨by kernel_rfl, ?_⟩) (fun _ => Gx4) ?_
              rotate_left
              · (intro w _; go_simp; try with_reducible rfl)
              try simp only [Act.put, List.setIfInBounds_toArray, List.set_cons_zero, List.set_cons_succ]
              refine wpAnyL_pure (i := 17) (oi := { dst := some 93, op := _, type := _, pos := _, after := _, guard := _ }) (v := ?_) rfl (by kernel_rfl) (by kernel_rfl) (by kernel_rfl) (by rfl) (fun _ _ _ h => h) (Or.inl ⟨by kernel_rfl, ?_⟩) (fun _ => Gx4) ?_
              rotate_left
              · (intro w _; go_simp; try with_reducible rfl)
              try simp only [Act.put, List.setIfInBounds_toArray, List.set_cons_zero, List.set_cons_succ]
              refine wpAnyL_ready (rs := [18]) (by kernel_rfl) (by simp) ?_
              refine (AllReadyL.cons (o := { dst := none, op := _, type := _, pos := _, after := _, guard := _ }) rfl (fun Qc hQc => ?_) AllReadyL.nil)
              have c1 : x4.cell? ⟨g, 1, none⟩ = some v1 := PX.out.kb.cell 1
              have f1 : x4.frozen? ⟨g, 1, none⟩ = false := PX.out.kb.frozen 1
              go_simp
              clear c1 f1
              have PY := hid (PX.out.field 1 (Value.slice B1 n1 d1) rfl)
              refine hQc.out _ _ (unl_no (d := 18) (by rfl) (by kernel_rfl)) ?_
              generalize x4.setCell ⟨g, 1, none⟩ (Value.slice B1 n1 d1) = x5 at PY ⊢
              clear hQc Qc PX
              have PX := PY
              clear PY
              try simp only [Act.put, List.setIfInBounds_toArray, List.set_cons_zero, List.set_cons_succ]
              refine wpAnyL_pure (i := 19) (oi := { dst := some 94, op := _, type := _, pos := _, after := _, guard := _ }) (v := ?_) rfl (by kernel_rfl) (by kernel_rfl) (by kernel_rfl) (by rfl) (fun _ _ _ h => h) (Or.inl ⟨by kernel_rfl, ?_⟩) (unl_no (d := 18) (by rfl) (by kernel_rfl)) ?_
              rotate_left
              · (intro w _; go_simp; try with_reducible rfl)
              try simp only [Act.put, List.setIfInBounds_toArray, List.set_cons_zero, List.set_cons_succ]
              refine wpAnyL_pure (i := 20) (oi := { dst := some 95, op := _, type := _, pos := _, after := _, guard := _ }) (v := ?_) rfl (by kernel_rfl) (by kernel_rfl) (by kernel_rfl) (by rfl) (fun _ _ _ h => h) (Or.inl ⟨by kernel_rfl, ?_⟩) (unl_no (d := 18) (by rfl) (by kernel_rfl)) ?_
              rotate_left
              · (intro w _; go_simp; try with_reducible rfl)
              try simp only [Act.put, List.setIfInBounds_toArray, List.set_cons_zero, List.set_cons_succ]
              refine wpAnyL_ready (rs := [21]) (by kernel_rfl) (by simp) ?_
              refine (AllReadyL.cons (o := { dst := none, op := _, type := _, pos := _, after := _, guard := _ }) rfl (fun Qc hQc => ?_) AllReadyL.nil)
              have c1 : x5.cell? ⟨g, 2, none⟩ = some v2 := PX.out.kb.cell 2
              have f1 : x5.frozen? ⟨g, 2, none⟩ = false := PX.out.kb.frozen 2
              go_simp
              clear c1 f1
              have PY := hid (PX.out.field 2 (Value.slice B2 n2 d2) rfl)
              refine hQc.out _ _ (unl_no (d := 21) (by rfl) (by kernel_rfl)) ?_
              generalize x5.setCell ⟨g, 2, none⟩ (Value.slice B2 n2 d2) = x6 at PY ⊢
              clear hQc Qc PX
              have PX := PY
              clear PY
              try simp only [Act.put, List.setIfInBounds_toArray, List.set_cons_zero, List.set_cons_succ]
              refine wpAnyL_done (by kernel_rfl) ?_ _
              try simp only [Act.put, List.setIfInBounds_toArray, List.set_cons_zero, List.set_cons_succ]
              go_wp2
              try go_frame
              refine bodyPost_end (results_none rfl _ _ _) rfl ?_
              exact ⟨rfl, _, _, HFN.out PX.out, PX.out.on, PX.out.o1, fun k hk => (PX.out.o2 k hk).1⟩
            ·
              rw [if_pos (by rfl)]
              refine wp_hash_one (.tmp 89) rfl h PX.out.hh rfl ?_
              have NB14 : Hid (Blk (x1.alloc (.cells (hcs [h]).toArray 33)) x1.heap.size 33 (hcs [h]).toArray) := Blk.new x1 33 (hcs [h]).toArray
              have hb : Below x1.heap.size x1 (x1.alloc (.cells (hcs [h]).toArray 33)) := (Below.refl _ _).alloc (Nat.le_refl _) _
              have PY := hid (PX.out.below hb)
              have AT7 := hid (NB7.out.below hb)
              clear NB7
              have NB7 := AT7
              clear AT7
              clear hb
              have Gx7 : Hid (PuB g e P v1 v2 h (x1.alloc (.cells (hcs [h]).toArray 33))) := ⟨PY.out.kb, PY.out.box⟩
              refine hQc.out _ _ (fun _ => Gx7) ?_
              generalize x1.heap.size = g14 at NB14 ⊢
              generalize x1.alloc (.cells (hcs [h]).toArray 33) = x7 at NB14 PY Gx7 NB7 ⊢
              clear hQc Qc PX
              have PX := PY
              clear PY
              try simp only [Act.put, List.setIfInBounds_toArray, List.set_cons_zero, List.set_cons_succ]
              refine wpAnyL_ready (rs := [8]) (by kernel_rfl) (by simp) ?_
              refine (AllReadyL.cons (o := { dst := some 84, op := _, type := _, pos := _, after := _, guard := _ }) rfl (fun Qc hQc => ?_) AllReadyL.nil)
              rw [if_pos (by rfl)]
              refine wp_app_i1 (.tmp 81) (.tmp 83) rfl n0 v1 (szs (exps S)) rfl PX.out.sz g7 (z : Int) NB7.out rfl HLS.out (Nat.le_trans PX.out.nw PX.out.on.size) ?_
              intro v1' x8 ho hg ha
              obtain ⟨B1, d1, hv1, _, _⟩ := ho.len
              generalize (szs (exps S) ++ [(z : Int)]).length = n1 at hv1
              subst hv1
              have PY := hid (PX.out.app1 ho hg ha)
              have AT14 := hid (blk_grown PX.out NB14.out hg)
              clear NB14
              have NB14 := AT14
              clear AT14
              clear ho hg ha NB7
              have Gx8 : Hid (PuB g e P v1 v2 h x8) := ⟨PY.out.kb, PY.out.box⟩
              refine hQc.out _ _ (fun _ => Gx8) ?_
              clear hQc Qc PX
              have PX := PY
              clear PY
              try simp only [Act.put, List.setIfInBounds_toArray, List.set_cons_zero, List.set_cons_succ]
              refine wpAnyL_ready (rs := [15]) (by kernel_rfl) (by simp) ?_
              refine (AllReadyL.cons (o := { dst := some 91, op := _, type := _, pos := _, after := _, guard := _ }) rfl (fun Qc hQc => ?_) AllReadyL.nil)
              rw [if_pos (by rfl)]
              refine wp_app_h1 (.tmp 88) (.tmp 90) rfl n0 v2 (hshs S) rfl PX.out.hs g14 h PX.out.hh NB14.out rfl HLH.out (Nat.le_trans PX.out.nw PX.out.on.size) ?_
              intro v2' x9 ho hg ha
              obtain ⟨B2, d2, hv2, _, _⟩ := ho.len
              generalize (hshs S ++ [h]).length = n2 at hv2
              subst hv2
              have PY := hid (PX.out.app2 ho hg ha)
              clear ho hg ha NB14
              have Gx9 : Hid (PuB g e P v1 v2 h x9) := ⟨PY.out.kb, PY.out.box⟩
              refine hQc.out _ _ (fun _ => Gx9) ?_
              clear hQc Qc PX
              have PX := PY
              clear PY
              try simp only [Act.put, List.setIfInBounds_toArray, List.set_cons_zero, List.set_cons_succ]
              refine wpAnyL_pure (i := 16) (oi := { dst := some 92, op := _, type := _, pos := _, after := _, guard := _ }) (v := ?_) rfl (by kernel_rfl) (by kernel_rfl) (by kernel_rfl) (by rfl) (fun _ _ _ h => h) (Or.inl ⟨by kernel_rfl, ?_⟩) (fun _ => Gx9) ?_
              rotate_left
              · (intro w _; go_simp; try with_reducible rfl)
              try simp only [Act.put, List.setIfInBounds_toArray, List.set_cons_zero, List.set_cons_succ]
              refine wpAnyL_pure (i := 17) (oi := { dst := some 93, op := _, type := _, pos := _, after := _, guard := _ }) (v := ?_) rfl (by kernel_rfl) (by kernel_rfl) (by kernel_rfl) (by rfl) (fun _ _ _ h => h) (Or.inl ⟨by kernel_rfl, ?_⟩) (fun _ => Gx9) ?_
              rotate_left
              · (intro w _; go_simp; try with_reducible rfl)
              try simp only [Act.put, List.setIfInBounds_toArray, List.set_cons_zero, List.set_cons_succ]
              refine wpAnyL_ready (rs := [18]) (by kernel_rfl) (by simp) ?_
              refine (AllReadyL.cons (o := { dst := none, op := _, type := _, pos := _, after := _, guard := _ }) rfl (fun Qc hQc => ?_) AllReadyL.nil)
              have c1 : x9.cell? ⟨g, 1, none⟩ = some v1 := PX.out.kb.cell 1
              have f1 : x9.frozen? ⟨g, 1, none⟩ = false := PX.out.kb.frozen 1
              go_simp
              clear c1 f1
              have PY := hid (PX.out.field 1 (Value.slice B1 n1 d1) rfl)
              refine hQc.out _ _ (unl_no (d := 18) (by rfl) (by kernel_rfl)) ?_
              generalize x9.setCell ⟨g, 1, none⟩ (Value.slice B1 n1 d1) = x10 at PY ⊢
              clear hQc Qc PX
              have PX := PY
              clear PY
              try simp only [Act.put, List.setIfInBounds_toArray, List.set_cons_zero, List.set_cons_succ]
              refine wpAnyL_pure (i := 19) (oi := { dst := some 94, op := _, type := _, pos := _, after := _, guard := _ }) (v := ?_) rfl (by kernel_rfl) (by kernel_rfl) (by kernel_rfl) (by rfl) (fun _ _ _ h => h) (Or.inl ⟨by kernel_rfl, ?_⟩) (unl_no (d := 18) (by rfl) (by kernel_rfl)) ?_
              rotate_left
              · (intro w _; go_simp; try with_reducible rfl)
              try simp only [Act.put, List.setIfInBounds_toArray, List.set_cons_zero, List.set_cons_succ]
              refine wpAnyL_pure (i := 20) (oi := { dst := some 95, op := _, type := _, pos := _, after := _, guard := _ }) (v := ?_) rfl (by kernel_rfl) (by kernel_rfl) (by kernel_rfl) (by rfl) (fun _ _ _ h => h) (Or.inl ⟨by kernel_rfl, ?_⟩) (unl_no (d := 18) (by rfl) (by kernel_rfl)) ?_
              rotate_left
              · (intro w _; go_simp; try with_reducible rfl)
              try simp only [Act.put, List.setIfInBounds_toArray, List.set_cons_zero, List.set_cons_succ]
              refine wpAnyL_ready (rs := [21]) (by kernel_rfl) (by simp) ?_
              refine (AllReadyL.cons (o := { dst := none, op := _, type := _, pos := _, after := _, guard := _ }) rfl (fun Qc hQc => ?_) AllReadyL.nil)
              have c1 : x10.cell? ⟨g, 2, none⟩ = some v2 := PX.out.kb.cell 2
              have f1 : x10.frozen? ⟨g, 2, none⟩ = false := PX.out.kb.frozen 2
              go_simp
              clear c1 f1
              have PY := hid (PX.out.field 2 (Value.slice B2 n2 d2) rfl)
              refine hQc.out _ _ (unl_no (d := 21) (by rfl) (by kernel_rfl)) ?_
              generalize x10.setCell ⟨g, 2, none⟩ (Value.slice B2 n2 d2) = x11 at PY ⊢
              clear hQc Qc PX
              have PX := PY
              clear PY
              try simp only [Act.put, List.setIfInBounds_toArray, List.set_cons_zero, List.set_cons_succ]
              refine wpAnyL_done (by kernel_rfl) ?_ _
              try simp only [Act.put, List.setIfInBounds_toArray, List.set_cons_zero, List.set_cons_succ]
              go_wp2
              try go_frame
              refine bodyPost_end (results_none rfl _ _ _) rfl ?_
              exact ⟨rfl, _, _, HFN.out PX.out, PX.out.on, PX.out.o1, fun k hk => (PX.out.o2 k hk).1⟩
          ·
            rw [if_pos (by rfl)]
            refine wp_hash_one (.tmp 89) rfl h PX.out.hh rfl ?_
            have NB14 : Hid (Blk (x0.alloc (.cells (hcs [h]).toArray 33)) x0.heap.size 33 (hcs [h]).toArray) := Blk.new x0 33 (hcs [h]).toArray
            have hb : Below x0.heap.size x0 (x0.alloc (.cells (hcs [h]).toArray 33)) := (Below.refl _ _).alloc (Nat.le_refl _) _
            have PY := hid (PX.out.below hb)
            clear hb
            have Gx12 : Hid (PuB g e P v1 v2 h (x0.alloc (.cells (hcs [h]).toArray 33))) := ⟨PY.out.kb, PY.out.box⟩
            refine hQc.out _ _ (fun _ => Gx12) ?_
            generalize x0.heap.size = g14 at NB14 ⊢
            generalize x0.alloc (.cells (hcs [h]).toArray 33) = x12 at NB14 PY Gx12 ⊢
            clear hQc Qc PX
            have PX := PY
            clear PY
            try simp only [Act.put, List.setIfInBounds_toArray, List.set_cons_zero, List.set_cons_succ]
            refine wpAnyL_ready (rs := [7]) (by kernel_rfl) (by simp) ?_
            refine (AllReadyL.cons (o := { dst := some 83, op := _, type := _, pos := _, after := _, guard := _ }) rfl (fun Qc hQc => ?_) AllReadyL.nil)
            go_simp
            have NB7 : Hid (Blk (x12.alloc (.cells #[.int .i64 (z : Int)] 3)) x12.heap.size 3 #[.int .i64 (z : Int)]) := Blk.new x12 3 #[.int .i64 (z : Int)]
            have hb : Below x12.heap.size x12 (x12.alloc (.cells #[.int .i64 (z : Int)] 3)) := (Below.refl _ _).alloc (Nat.le_refl _) _
            have PY := hid (PX.out.below hb)
            have AT14 := hid (NB14.out.below hb)
            clear NB14
            have NB14 := AT14
            clear AT14
            clear hb
            have Gx13 : Hid (PuB g e P v1 v2 h (x12.alloc (.cells #[.int .i64 (z : Int)] 3))) := ⟨PY.out.kb, PY.out.box⟩
            refine hQc.out _ _ (fun _ => Gx13) ?_
            generalize x12.heap.size = g7 at NB7 ⊢
            generalize x12.alloc (.cells #[.int .i64 (z : Int)] 3) = x13 at NB7 PY Gx13 NB14 ⊢
            clear hQc Qc PX
            have PX := PY
            clear PY
            try simp only [Act.put, List.setIfInBounds_toArray, List.set_cons_zero, List.set_cons_succ]
            refine wpAnyL_ready (rs := [8]) (by kernel_rfl) (by simp) ?_
            refine (AllReadyL.cons (o := { dst := some 84, op := _, type := _, pos := _, after := _, guard := _ }) rfl (fun Qc hQc => ?_) AllReadyL.nil)
            rw [if_pos (by rfl)]
            refine wp_app_i1 (.tmp 81) (.tmp 83) rfl n0 v1 (szs (exps S)) rfl PX.out.sz g7 (z : Int) NB7.out rfl HLS.out (Nat.le_trans PX.out.nw PX.out.on.size) ?_
            intro v1' x14 ho hg ha
            obtain ⟨B1, d1, hv1, _, _⟩ := ho.len
            generalize (szs (exps S) ++ [(z : Int)]).length = n1 at hv1
            subst hv1
            have PY := hid (PX.out.app1 ho hg ha)
            have AT14 := hid (blk_grown PX.out NB14.out hg)
            clear NB14
            have NB14 := AT14
            clear AT14
            clear ho hg ha NB7
            have Gx14 : Hid (PuB g e P v1 v2 h x14) := ⟨PY.out.kb, PY.out.box⟩
            refine hQc.out _ _ (fun _ => Gx14) ?_
            clear hQc Qc PX
            have PX := PY
            clear PY
            try simp only [Act.put, List.setIfInBounds_toArray, List.set_cons_zero, List.set_cons_succ]
            refine wpAnyL_ready (rs := [15]) (by kernel_rfl) (by simp) ?_
            refine (AllReadyL.cons (o := { dst := some 91, op := _, type := _, pos := _, after := _, guard := _ }) rfl (fun Qc hQc => ?_) AllReadyL.nil)
            rw [if_pos (by rfl)]
            refine wp_app_h1 (.tmp 88) (.tmp 90) rfl n0 v2 (hshs S) rfl PX.out.hs g14 h PX.out.hh NB14.out rfl HLH.out (Nat.le_trans PX.out.nw PX.out.on.size) ?_
            intro v2' x15 ho hg ha
            obtain ⟨B2, d2, hv2, _, _⟩ := ho.len
            generalize (hshs S ++ [h]).length = n2 at hv2
            subst hv2
            have PY := hid (PX.out.app2 ho hg ha)
            clear ho hg ha NB14
            have Gx15 : Hid (PuB g e P v1 v2 h x15) := ⟨PY.out.kb, PY.out.box⟩
            refine hQc.out _ _ (fun _ => Gx15) ?_
            clear hQc Qc PX
            have PX := PY
            clear PY
            try simp only [Act.put, List.setIfInBounds_toArray, List.set_cons_zero, List.set_cons_succ]
            refine wpAnyL_pure (i := 16) (oi := { dst := some 92, op := _, type := _, pos := _, after := _, guard := _ }) (v := ?_) rfl (by kernel_rfl) (by kernel_rfl) (by kernel_rfl) (by rfl) (fun _ _ _ h => h) (Or.inl ⟨by kernel_rfl, ?_⟩) (fun _ => Gx15) ?_
            rotate_left
            · (intro w _; go_simp; try with_reducible rfl)
            try simp only [Act.put, List.setIfInBounds_toArray, List.set_cons_zero, List.set_cons_succ]
            refine wpAnyL_pure (i := 17) (oi := { dst := some 93, op := _, type := _, pos := _, after := _, guard := _ }) (v := ?_) rfl (by kernel_rfl) (by kernel_rfl) (by kernel_rfl) (by rfl) (fun _ _ _ h => h) (Or.inl ⟨by kernel_rfl, ?_⟩) (fun _ => Gx15) ?_
            rotate_left
            · (intro w _; go_simp; try with_reducible rfl)
            try simp only [Act.put, List.setIfInBounds_toArray, List.set_cons_zero, List.set_cons_succ]
            refine wpAnyL_ready (rs := [18]) (by kernel_rfl) (by simp) ?_
            refine (AllReadyL.cons (o := { dst := none, op := _, type := _, pos := _, after := _, guard := _ }) rfl (fun Qc hQc => ?_) AllReadyL.nil)
            have c1 : x15.cell? ⟨g, 1, none⟩ = some v1 := PX.out.kb.cell 1
            have f1 : x15.frozen? ⟨g, 1, none⟩ = false := PX.out.kb.frozen 1
            go_simp
            clear c1 f1
            have PY := hid (PX.out.field 1 (Value.slice B1 n1 d1) rfl)
            refine hQc.out _ _ (unl_no (d := 18) (by rfl) (by kernel_rfl)) ?_
            generalize x15.setCell ⟨g, 1, none⟩ (Value.slice B1 n1 d1) = x16 at PY ⊢
            clear hQc Qc PX
            have PX := PY
            clear PY
            try simp only [Act.put, List.setIfInBounds_toArray, List.set_cons_zero, List.set_cons_succ]
            refine wpAnyL_pure (i := 19) (oi := { dst := some 94, op := _, type := _, pos := _, after := _, guard := _ }) (v := ?_) rfl (by kernel_rfl) (by kernel_rfl) (by kernel_rfl) (by rfl) (fun _ _ _ h => h) (Or.inl ⟨by kernel_rfl, ?_⟩) (unl_no (d := 18) (by rfl) (by kernel_rfl)) ?_
            rotate_left
            · (intro w _; go_simp; try with_reducible rfl)
            try simp only [Act.put, List.setIfInBounds_toArray, List.set_cons_zero, List.set_cons_succ]
            refine wpAnyL_pure (i := 20) (oi := { dst := some 95, op := _, type := _, pos := _, after := _, guard := _ }) (v := ?_) rfl (by kernel_rfl) (by kernel_rfl) (by kernel_rfl) (by rfl) (fun _ _ _ h => h) (Or.inl ⟨by kernel_rfl, ?_⟩) (unl_no (d := 18) (by rfl) (by kernel_rfl)) ?_
            rotate_left
            · (intro w _; go_simp; try with_reducible rfl)
            try simp only [Act.put, List.setIfInBounds_toArray, List.set_cons_zero, List.set_cons_succ]
            refine wpAnyL_ready (rs := [21]) (by kernel_rfl) (by simp) ?_
            refine (AllReadyL.cons (o := { dst := none, op := _, type := _, pos := _, after := _, guard := _ }) rfl (fun Qc hQc => ?_) AllReadyL.nil)
            have c1 : x16.cell? ⟨g, 2, none⟩ = some v2 := PX.out.kb.cell 2
            have f1 : x16.frozen? ⟨g, 2, none⟩ = false := PX.out.kb.frozen 2
            go_simp
            clear c1 f1
            have PY := hid (PX.out.field 2 (Value.slice B2 n2 d2) rfl)
            refine hQc.out _ _ (unl_no (d := 21) (by rfl) (by kernel_rfl)) ?_
            generalize x16.setCell ⟨g, 2, none⟩ (Value.slice B2 n2 d2) = x17 at PY ⊢
            clear hQc Qc PX
            have PX := PY
            clear PY
            try simp only [Act.put, List.setIfInBounds_toArray, List.set_cons_zero, List.set_cons_succ]
            refine wpAnyL_done (by kernel_rfl) ?_ _
            try simp only [Act.put, List.setIfInBounds_toArray, List.set_cons_zero, List.set_cons_succ]
            go_wp2
            try go_frame
            refine bodyPost_end (results_none rfl _ _ _) rfl ?_
            exact ⟨rfl, _, _, HFN.out PX.out, PX.out.on, PX.out.o1, fun k hk => (PX.out.o2 k hk).1⟩
end Go.Proofs.YtoacjaecfabahaaDoor
