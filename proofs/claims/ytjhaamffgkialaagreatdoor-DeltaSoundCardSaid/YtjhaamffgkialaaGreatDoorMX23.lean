/-
  What is proved here: Add: a node more, or a refusal.
-/
import Derived.Test.YtjhaamffgkialaaGreatDoorMX14
set_option linter.unusedSimpArgs false
set_option linter.unusedVariables false
namespace Go.Proofs.YtjhaamffgkialaaGreatDoor
open Go.ChangeShapes Go.WideShapes Go.ChangeAt Go.RowKit
set_option linter.unusedVariables false
set_option linter.unusedSimpArgs false
set_option maxRecDepth 20000

theorem few_ge {N : List Nd} {n : Nat} (h : Few N.length) (hn : n = N.length) : ¬ ((1048576 : Int) ≤ (n : Int)) := by
  have h' : N.length < 100000 := h
  omega
theorem few_ge2 {n : Nat} (h : Few n) : ¬ ((1048576 : Int) ≤ (n : Int)) := by
  have h' : n < 100000 := h
  omega
section
variable {w : World} {f g b : Nat} {N : List Nd} {A : Option Addr} {c : Nat} {tv : Value}
set_option maxHeartbeats 4000000 in
theorem xAdd_leaf (h : Fo w f g b N A c tv) (q : Nd) (hq : NdOk q) (hl : q.leaf = true) (hlen : Few N.length) (ht : Tab w) :
    Calls Tryz.prog 32 #[.pointer (some ⟨f, 0, none⟩), .agg (nc q).toArray] w fun e w' => e = .returned (.tuple #[.int .i64 N.length, .int .i64 0]) ∧ Grew w f g b (N ++ [ndL q.k q.v (hLf q.k q.v)]) w' := by
  have K1 : Hid (Blk (w.alloc (.cells (nc q).toArray 63)) w.heap.size 63 (nc q).toArray) := Blk.new w 63 _
  have B0 : Hid (Below w.heap.size w (w.alloc (.cells (nc q).toArray 63))) := (Below.refl _ _).alloc (Nat.le_refl _) _
  have F1 := h.below B0.out
  have NA := hid (K1.out.node hq)
  have cl := NA.out.leaf
  rw [hl] at cl
  have HKI := hid (u8s_info hq.k); have HVI := hid (u8s_info hq.v)
  have CL := hid (xleaf_at F1 q.k q.v hq.k hq.v (few_lt hlen) (ht.below B0.out))
  have cn : (w.alloc (.cells (nc q).toArray 63)).cell? ⟨f, 0, none⟩ = some (.slice A N.length c) := F1.kf.cell 0
  generalize N ++ [ndL q.k q.v (hLf q.k q.v)] = N' at CL ⊢
  obtain ⟨n, hn⟩ : ∃ n, n = N.length := ⟨_, rfl⟩
  rw [← hn] at cn CL ⊢
  have hgt := few_ge hlen hn
  clear h hq hl hlen ht F1 hn
  go_enter Tryz.func32, Tryz.ntmps32
  go_wp2_with (first
    | (refine load_at rfl 25 (.tmp 33) rfl w.heap.size 1 rfl (u8s q.k) _ NA.out.key Tryz.underlying25 rfl HKI.out (kc q.k) rfl ?_)
    | (refine load_at rfl 25 (.tmp 35) rfl w.heap.size 33 rfl (u8s q.v) _ NA.out.val Tryz.underlying25 rfl HVI.out (kc q.v) rfl ?_)
    | (go_at_call 28; refine CL.out.mono ?_; rintro e w1 hw; obtain ⟨rfl, hg⟩ := hw.to B0.out; have HG := hid hg; clear hg))
  go_ret2
  exact ⟨rfl, HG.out⟩
theorem may_parts {l a d : Int} {B : List Int} (h : mayB N l B a d = true) : ∃ n x y : Nat, l = n ∧ n < 256 ∧ frm (n : Int) B = true ∧ a = x ∧ d = y ∧ x < N.length ∧ y < N.length := by
  unfold mayB fitB at h
  simp only [Bool.and_eq_true] at h
  obtain ⟨⟨⟨h1, h2⟩, _⟩, ⟨⟨_, h3⟩, _⟩⟩ := h
  unfold chB at h1
  simp only [Bool.and_eq_true, decide_eq_true_eq] at h1
  unfold isNd at h2 h3
  rw [decide_eq_true_eq] at h2 h3
  have hf := h1.1.1
  obtain ⟨l0, l1⟩ := frm_le hf
  have hne := h1.1.2
  refine ⟨l.toNat, a.toNat, d.toNat, by omega, by omega, by rw [Int.toNat_of_nonneg l0]; exact hf, by omega, by omega, by omega, by omega⟩
set_option maxHeartbeats 4000000 in
theorem xAdd_no (h : Fo w f g b N A c tv) (q : Nd) (hq : NdOk q) (hl : q.leaf = false) (hm : mayB N q.n q.b q.l q.r = false) :
    Calls Tryz.prog 32 #[.pointer (some ⟨f, 0, none⟩), .agg (nc q).toArray] w fun e w' => e = .returned (.tuple #[.int .i64 0, .int .i64 1]) ∧ Below w.heap.size w w' := by
  have K1 : Hid (Blk (w.alloc (.cells (nc q).toArray 63)) w.heap.size 63 (nc q).toArray) := Blk.new w 63 _
  have B0 : Hid (Below w.heap.size w (w.alloc (.cells (nc q).toArray 63))) := (Below.refl _ _).alloc (Nat.le_refl _) _
  have F1 := h.below B0.out
  have na := K1.out.node hq
  have NA := hid na
  have cl := na.leaf
  rw [hl] at cl
  have c98 : (w.alloc (.cells (nc q).toArray 63)).cell? ⟨w.heap.size, 98, none⟩ = some (.int .i64 q.l) := by have := na.left; rwa [Nat.zero_add] at this
  have c99 : (w.alloc (.cells (nc q).toArray 63)).cell? ⟨w.heap.size, 99, none⟩ = some (.int .i64 q.r) := by have := na.right; rwa [Nat.zero_add] at this
  have PR : Hid ((w.alloc (.cells (nc q).toArray 63)).rangeAt w.heap.size 65 (.int .i64 q.n :: u8s q.b)) := by have := na.pre; rwa [Nat.zero_add] at this
  have HPI := hid (pcl_info q.n hq.b)
  have CM := hid (xmay_at F1 q.n q.l q.r q.b hq.b)
  rw [hm] at CM
  clear h hq hl hm F1 na K1
  generalize q.l = ql at c98 CM
  generalize q.r = qr at c99 CM
  go_enter Tryz.func32, Tryz.ntmps32
  go_wp2_with (first
    | (refine load_at (by first | rfl | simp [Region.wanted, yielded, *]) 47 (.tmp 14) rfl w.heap.size 65 rfl (.int .i64 q.n :: u8s q.b) _ PR.out Tryz.underlying47 rfl HPI.out (pc q.n q.b) rfl ?_)
    | (go_at_call 57; refine CM.out.mono ?_; rintro e w1 ⟨rfl, hb⟩; have B1 := hid (B0.out.trans (hb.mono B0.out.size)); clear hb))
  go_ret2
  exact ⟨rfl, B1.out⟩
set_option maxHeartbeats 4000000 in
theorem xAdd_yes (h : Fo w f g b N A c tv) (q : Nd) (hq : NdOk q) (hl : q.leaf = false) (hm : mayB N q.n q.b q.l q.r = true) (hlen : Few N.length) (ht : Tab w) :
    Calls Tryz.prog 32 #[.pointer (some ⟨f, 0, none⟩), .agg (nc q).toArray] w fun e w' => e = .returned (.tuple #[.int .i64 N.length, .int .i64 0]) ∧ Grew w f g b (N ++ [ndI q.n.toNat q.b q.l.toNat q.r.toNat (hIn q.n.toNat q.b (hashN N q.l) (hashN N q.r))]) w' := by
  obtain ⟨n0, x, y, e1, hn0, hfrm, e2, e3, hx, hy⟩ := may_parts hm
  clear hfrm
  have K1 : Hid (Blk (w.alloc (.cells (nc q).toArray 63)) w.heap.size 63 (nc q).toArray) := Blk.new w 63 _
  have B0 : Hid (Below w.heap.size w (w.alloc (.cells (nc q).toArray 63))) := (Below.refl _ _).alloc (Nat.le_refl _) _
  have F1 := h.below B0.out
  have na := K1.out.node hq
  have cl := na.leaf
  rw [hl] at cl
  rw [e1, e2, e3] at hm ⊢
  have big : ∀ y0 : World, Hid (Blk y0 w.heap.size 63 (nc q).toArray) → Hid (y0.cell? ⟨w.heap.size, 0, none⟩ = some (.bool false)) ∧ Hid (y0.cell? ⟨w.heap.size, 98, none⟩ = some (.int .i64 x)) ∧ Hid (y0.cell? ⟨w.heap.size, 99, none⟩ = some (.int .i64 y)) ∧ Hid (y0.rangeAt w.heap.size 65 (.int .i64 n0 :: u8s q.b)) := fun y0 hy0 => by
    have nd := hy0.out.node hq
    have c0 := nd.leaf; have c2 := nd.left; have c3 := nd.right; have c4 := nd.pre
    rw [Nat.zero_add] at c2 c3 c4
    rw [hl] at c0
    rw [e1] at c4
    rw [e2] at c2
    rw [e3] at c3
    exact ⟨c0, c2, c3, c4⟩
  have BIG := hid big
  obtain ⟨_, d98, d99, PR⟩ := big _ K1
  have c98 := d98.out; have c99 := d99.out
  have HPI := hid (pcl_info n0 hq.b)
  have CM := hid (xmay_at F1 n0 x y q.b hq.b)
  rw [hm] at CM
  have CI := hid (fun w1 (hb : Below w.heap.size w w1) => xinner_at (h.below hb) n0 q.b x y hq.b (by omega) hx hy (few_lt hlen) (ht.below hb))
  rw [Int.toNat_natCast, Int.toNat_natCast, Int.toNat_natCast]
  generalize N ++ [ndI n0 q.b x y (hIn n0 q.b (hashN N x) (hashN N y))] = N' at CI ⊢
  have CN := hid (fun w1 (hb : Below w.heap.size w w1) => (show w1.cell? ⟨f, 0, none⟩ = some (.slice A N.length c) from (h.below hb).kf.cell 0))
  obtain ⟨n, hn⟩ : ∃ n, n = N.length := ⟨_, rfl⟩
  rw [← hn] at CI CN ⊢
  have HF : Hid (Few n) := by rw [hn]; exact hid hlen
  clear h hq hl hm hlen ht F1 hn na big d98 d99 e1 e2 e3 hx hy hn0
  go_enter Tryz.func32, Tryz.ntmps32
  go_upto_region 3 with (first
    | (refine load_at (by first | rfl | simp [Region.wanted, yielded, *]) 47 (.tmp 14) rfl w.heap.size 65 rfl (.int .i64 n0 :: u8s q.b) _ PR.out Tryz.underlying47 rfl HPI.out (pc n0 q.b) rfl ?_)
    | (go_at_call 57; refine CM.out.mono ?_; rintro e w1 ⟨rfl, hb⟩; have B1 := hid (B0.out.trans (hb.mono B0.out.size)); have L1 := hid (K1.out.below hb); clear hb))
  clear c98 c99 cl PR
  obtain ⟨d0, d98, d99, PR⟩ := BIG.out w1 L1
  have c0 := d0.out; have c98 := d98.out; have c99 := d99.out
  have cn := CN.out w1 B1.out
  clear BIG d0 d98 d99 CM
  have hgt := few_ge2 HF.out
  go_wp2_with (first
    | (refine load_at rfl 47 (.tmp 39) rfl w.heap.size 65 rfl (.int .i64 n0 :: u8s q.b) _ PR.out Tryz.underlying47 rfl HPI.out (pc n0 q.b) rfl ?_)
    | (go_at_call 55; refine (CI.out _ B1.out).mono ?_; rintro e w2 hw; obtain ⟨rfl, hg⟩ := hw.to B1.out; have HG := hid hg; clear hg))
  go_ret2
  exact ⟨rfl, HG.out⟩
end
end Go.Proofs.YtjhaamffgkialaaGreatDoor
