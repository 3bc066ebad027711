/-
  What is proved here: whether a trail shows an entry, as the document tells it, in the code's words.
-/
import Derived.Test.YtoacjaecfabahaaDoorMJD
set_option linter.unusedSimpArgs false
set_option linter.unusedVariables false
namespace Go.Proofs.YtoacjaecfabahaaDoor
open Go.ChangeShapes Go.WideShapes Go.ChangeAt Go.RowKit
set_option linter.unusedVariables false
set_option linter.unusedSimpArgs false
set_option maxRecDepth 20000

theorem built_gRng12 (b : Int) (A : Option Addr) (n c : Nat) : Tryd.prog.built 29 [(1, .int .i64 b), (2, .slice A n c)] = some (rgc 0 b (.slice A n c)) := by kernel_rfl
theorem jnH_ok {a b a' b' : Int} {L M : List (List Int)} (hL : ∀ f ∈ L, H32 f) (hM : ∀ f ∈ M, H32 f) : ∀ f ∈ jnH a b a' b' L M, H32 f := by
  unfold jnH
  split
  · have key : ∀ (f x : Nat) (E : List Nat) (K : List (List Int)), (∀ q ∈ K, H32 q) → ∀ q ∈ joinH ndF [] f x E K, H32 q := by
      intro f
      induction f with
      | zero => intro x E K h; exact h
      | succ f ih =>
        intro x E K h
        unfold joinH
        cases fstM x E with
        | none => exact h
        | some i =>
          refine ih x _ _ ?_
          intro q hq
          unfold mdL at hq
          rcases List.mem_append.1 hq with hq | hq
          · exact h q (List.mem_of_mem_take hq)
          · rcases List.mem_cons.1 hq with rfl | hq
            · exact h32_sum _
            · exact h q (List.mem_of_mem_drop hq)
    exact key _ _ _ _ (fun q hq => (List.mem_append.1 hq).elim (hL q) (hM q))
  · intro f hf; cases hf
theorem allV_h32 {r s t : R3} (hr : ∀ f ∈ r.L, H32 f) (hs : ∀ f ∈ s.L, H32 f) (ht : ∀ f ∈ t.L, H32 f) : H32 (allV r s t) := rtV_ok (jnH_ok (jnH_ok hr hs) ht)
set_option maxHeartbeats 16000000 in
theorem jrIsEntry_any {w : World} {i k : Int} {A B : Option Addr} {n c m d : Nat} {Ah Be : List (List Int)} {h root : List Int} (hA : InH w A n Ah) (hB : InH w B m Be) (hn : n < 1000000) (hm : m < 1000000) (hnc : n ≤ c) (hmd : m ≤ d) (hh : H32 h) (hr : H32 root) (hi : -9223372036854775808 ≤ i ∧ i ≤ 9223372036854775807) :
    Calls Tryd.prog 33 #[.agg (tlc A n c B m d), .int .i64 i, .int .i64 k, hV h, hV root] w fun e w' => e = .returned (.bool (ieB i (IntKind.i64.wrap (i + 1)) k Ah h Be root)) ∧ Below w.heap.size w w' := by
  obtain ⟨k1, k2, k3, b1⟩ := f3blks w (tlc A n c B m d) (hc32 h) (hc32 root) 51 33 33
  by_cases hbad : i < 0 ∨ k ≤ i ∨ 2147483647 < k
  · have hi1 : IntKind.i64.wrap (i + 1) = i + 1 ∨ IntKind.i64.wrap (i + 1) < 0 := by
      by_cases h9 : i = 9223372036854775807
      · exact .inr (by subst h9; decide)
      · exact .inl (IntWalk.i64_in _ (by omega))
    rw [ie_no hbad hi1]
    have B1 := hid b1
    clear k1 k2 k3 b1 hi1 hA hB hn hm hnc hmd hh hr hi
    by_cases h1 : i < 0
    · clear hbad
      go_enter Tryd.func33, Tryd.ntmps33
      go_wp2
      go_ret
      exact ⟨rfl, B1.out⟩
    · by_cases h2 : k ≤ i
      · clear hbad
        go_enter Tryd.func33, Tryd.ntmps33
        go_wp2
        go_ret
        exact ⟨rfl, B1.out⟩
      · have h3 : 2147483647 < k := by omega
        clear hbad
        go_enter Tryd.func33, Tryd.ntmps33
        go_wp2
        go_ret
        exact ⟨rfl, B1.out⟩
  · have h1 : ¬ i < 0 := fun h => hbad (.inl h)
    have h2 : ¬ k ≤ i := fun h => hbad (.inr (.inl h))
    have h3 : ¬ 2147483647 < k := fun h => hbad (.inr (.inr h))
    obtain ⟨i1, hi1⟩ : ∃ i1, i1 = i + 1 := ⟨_, rfl⟩
    have hw1 : IntKind.i64.wrap i1 = i1 := IntWalk.i64_in _ (by omega)
    have q1 : i + 1 = i1 := hi1.symm
    rw [q1, hw1]
    have hie := ie_all (Ah := Ah) (Be := Be) (h := h) (root := root) (show 0 ≤ i by omega) (show i < k by omega) (show k ≤ 2147483647 by omega)
    rw [q1] at hie
    rw [hie]
    have hal : H32 (allV ⟨0, i, Ah⟩ ⟨i, i1, [h]⟩ ⟨i1, k, Be⟩) := allV_h32 hA.ok (fun f hf => by rw [List.mem_singleton.1 hf]; exact hh) hB.ok
    obtain ⟨v, hv⟩ : ∃ v, v = allV ⟨0, i, Ah⟩ ⟨i, i1, [h]⟩ ⟨i1, k, Be⟩ := ⟨_, rfl⟩
    obtain ⟨bb, hbb⟩ : ∃ bb, bb = allB ⟨0, i, Ah⟩ ⟨i, i1, [h]⟩ ⟨i1, k, Be⟩ := ⟨_, rfl⟩
    have cal := fun (w' : World) (hb : Below w.heap.size w w') (g : Nat) (h1' : InH w' (some ⟨g, 0, none⟩) 1 [h]) => gAll_any (r := ⟨0, i, Ah⟩) (s := ⟨i, i1, [h]⟩) (t := ⟨i1, k, Be⟩) (hA.below hb) h1' (hB.below hb) hn (by decide) hm hnc (Nat.le_refl 1) hmd
    unfold AlA at cal
    simp only [← hv, ← hbb] at cal
    rw [← hv] at hal
    rw [← hv, ← hbb]
    have CAL := hid cal
    have K1 := hid k1; have K2 := hid k2; have K3 := hid k3; have B1 := hid b1
    have HH := hid hh
    have HIH := hid (info_hash h hh.len); have HIR := hid (info_hash root hr.len); have HIV := hid (info_hash v hal.len)
    have heq := fun w => eql_h v root hal hr w
    obtain ⟨Z, HZ, hZ0, hZs⟩ := zero_Hash
    have HZV := hid (hz_size HZ hal)
    have HZ5 := hid (show ∀ x : World, Below w.heap.size w x → Below w.heap.size w (x.alloc (.cells (hcs [h]).toArray 33)) from fun x hx => hx.alloc hx.size _)
    clear k1 k2 k3 b1 hv hbb hie cal hA hB hn hm hnc hmd hh hr hal hbad hi hi1
    go_enter Tryd.func33, Tryd.ntmps33
    go_upto_region 3 with fail
    generalize ((w.alloc (.cells (tlc A n c B m d) 51)).alloc (.cells (hc32 h) 33)).alloc (.cells (hc32 root) 33) = w0 at K1 K2 K3 B1 ⊢
    have hb5 : Below w0.heap.size w0 (w0.alloc (.cells (hcs [h]).toArray 33)) := (Below.refl _ _).alloc (Nat.le_refl _) _
    have nb : Blk (w0.alloc (.cells (hcs [h]).toArray 33)) w0.heap.size 33 (hcs [h]).toArray := Blk.new w0 33 (hcs [h]).toArray
    have hin1 : InH (w0.alloc (.cells (hcs [h]).toArray 33)) (some ⟨w0.heap.size, 0, none⟩) 1 [h] := inh_blk nb (fun f hf => by rw [List.mem_singleton.1 hf]; exact HH.out) (by simp)
    have B5 := hid (HZ5.out _ B1.out)
    have CA := hid (CAL.out _ B5.out w0.heap.size hin1)
    have a0 : w0.cell? ⟨w.heap.size, 0, none⟩ = some (.slice A n c) := K1.out.cell 0
    have a1 : (w0.alloc (.cells (hcs [h]).toArray 33)).cell? ⟨w.heap.size, 1, none⟩ = some (.slice B m d) := (K1.out.below hb5).cell 1
    have K35 := hid (K3.out.below hb5)
    clear hb5 nb hin1 CAL
    go_upto_region 4 with (first
      | (refine wpList_build rfl 29 _ rfl (built_gRng12 _ _ _ _) ?_)
      | (refine wpList_build rfl 29 _ rfl (built_gRng _ _ _ _ _) ?_)
      | (refine load_at rfl 33 (.tmp 8) rfl (w.heap.size + 1) 0 rfl (u8s h) _ (blk_row K2.out) Tryd.underlying33 rfl HIH.out (hc32 h) rfl ?_)
      | (refine wpList_hash_one rfl (.tmp 32) rfl h HH.out rfl ?_)
      | (go_at_call 36; go_loud (have hj := CA.out; refine hj.mono ?_; clear hj); rintro e w5 ⟨rfl, hb⟩; have hb' := below_setRow (hb.alloc hb.size (.cells Z 33)) hb.size (hc32 v); have B6 := hid (B5.out.trans (hb'.mono B5.out.size)); have K36 := hid (K35.out.below hb'); have KZ := hid (Blk.new w5 33 Z); have KH := hid (KZ.out.row (hc32 v)); clear hb hb')
      | (refine wpList_store_row rfl 33 (.tmp 11) (.tmp 42) rfl w5.heap.size (hc32 v) rfl rfl 33 Z KZ.out HIV.out HZV.out (u8s_all _) ?_))
    generalize (w5.alloc (.cells Z 33)).setRow w5.heap.size (hc32 v) = w6 at B6 K36 KH ⊢
    clear a0 a1 K1 K2 K3 B1 B5 K35 CA
    cases bb with
    | false =>
      go_wp2
      go_ret
      exact ⟨rfl, B6.out⟩
    | true =>
      go_wp2_with (first
        | (refine load_at rfl 33 (.tmp 11) rfl w5.heap.size 0 rfl (u8s v) _ (blk_row KH.out) Tryd.underlying33 rfl HIV.out (hc32 v) rfl ?_)
        | (refine load_at rfl 33 (.tmp 9) rfl (w.heap.size + 1 + 1) 0 rfl (u8s root) _ (blk_row K36.out) Tryd.underlying33 rfl HIR.out (hc32 root) rfl ?_))
      go_ret
      exact ⟨by rw [Bool.true_and]; rfl, B6.out⟩
end Go.Proofs.YtoacjaecfabahaaDoor
