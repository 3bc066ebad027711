/-
  What is proved here: what the document's own 'Take' takes from the front of some bytes.
-/
import Derived.Test.YtmdclicomneomaaVal
import Derived.Test.YtmdclicomneomaaTake
namespace Go.Proofs.Ytmdclicomneomaa
open Go.ChangeShapes Go.WideShapes Go.ChangeAt Go.RowKit
set_option linter.unusedVariables false

def RTakePost (A : Option Addr) (c : Nat) (b : List Int) (k most : Int) (w : World) (e : Ending) (w' : World) : Prop :=
  Below w.heap.size w w' ∧ (
    (tkR b k most = none ∧ e = .returned (.tuple #[.agg #[.int .i64 0, .int .u64 0, .slice none 0 0], .slice A b.length c, .bool false])) ∨
    ∃ X ys rest By cy Ar cr, tkR b k most = some (X, ys, rest) ∧ e = .returned (.tuple #[.agg #[.int .i64 k, .int .u64 X, .slice By ys.length cy], .slice Ar rest.length cr, .bool true]) ∧
      Rp w none By ys ∧ Rp w none Ar rest ∧ rest.length ≤ cr)

theorem results_take {P : Program} {fn : Func} {p q r : Tmp} {ty : TypeId} (h : fn.results = #[.cell p ty, .tmp q, .tmp r]) (tmps : Array Value) (w : World) (g : Nat) (t : TypeId) (cs : Array Value) (fr : Nat × Nat) (d : TypeDesc)
    (hp : tmps.getD p undef = .pointer (some ⟨g, 0, none⟩)) (hg : w.heap[g]? = some (.cells cs t fr))
    (hu : P.underlying ty = some d) (hd : (match d with | .struct _ | .array _ _ => true | _ => false) = true) (hi : (P.info? ty).map (·.size) = some cs.size) :
    (results fn tmps).run P w = .ok (.tuple #[.agg cs, tmps.getD q undef, tmps.getD r undef]) w := by
  have hp' : tmps[p]?.getD undef = .pointer (some ⟨g, 0, none⟩) := by simpa using hp
  simp [results, h, hp', asAddr, run_loadVar_row w g t ty cs fr d hg hu hd hi]

theorem Size_1 (w : World) : Calls Try.prog 22 #[.int .i64 1] w fun e w' => e = .returned (.int .i64 1) ∧ w = w' := by
  go_enter Try.func22, Try.ntmps22
  go_wp2
  go_ret
  exact ⟨rfl, rfl⟩
theorem Size_2 (w : World) : Calls Try.prog 22 #[.int .i64 2] w fun e w' => e = .returned (.int .i64 2) ∧ w = w' := by
  go_enter Try.func22, Try.ntmps22
  go_wp2
  go_ret
  exact ⟨rfl, rfl⟩
theorem Size_3 (w : World) : Calls Try.prog 22 #[.int .i64 3] w fun e w' => e = .returned (.int .i64 4) ∧ w = w' := by
  go_enter Try.func22, Try.ntmps22
  go_wp2
  go_ret
  exact ⟨rfl, rfl⟩
theorem Size_4 (w : World) : Calls Try.prog 22 #[.int .i64 4] w fun e w' => e = .returned (.int .i64 8) ∧ w = w' := by
  go_enter Try.func22, Try.ntmps22
  go_wp2
  go_ret
  exact ⟨rfl, rfl⟩
theorem Size_5 (w : World) : Calls Try.prog 22 #[.int .i64 5] w fun e w' => e = .returned (.int .i64 1) ∧ w = w' := by
  go_enter Try.func22, Try.ntmps22
  go_wp2
  go_ret
  exact ⟨rfl, rfl⟩
theorem Size_7 (w : World) : Calls Try.prog 22 #[.int .i64 7] w fun e w' => e = .returned (.int .i64 0) ∧ w = w' := by
  go_enter Try.func22, Try.ntmps22
  go_wp2
  go_ret
  exact ⟨rfl, rfl⟩
theorem Size_8 (w : World) : Calls Try.prog 22 #[.int .i64 8] w fun e w' => e = .returned (.int .i64 2) ∧ w = w' := by
  go_enter Try.func22, Try.ntmps22
  go_wp2
  go_ret
  exact ⟨rfl, rfl⟩

theorem rt_end (w : World) (z f : Array Value) (v0 v1 v2 : Value) (hz : z.size = 3) :
    Blk (((((w.alloc (.cells z 35)).alloc (.cells f 35)).setCell ⟨w.heap.size, 0, none⟩ v0).setCell ⟨w.heap.size, 1, none⟩ v1).setCell ⟨w.heap.size, 2, none⟩ v2) w.heap.size 35 (((z.setIfInBounds 0 v0).setIfInBounds 1 v1).setIfInBounds 2 v2) ∧
    Below w.heap.size w (((((w.alloc (.cells z 35)).alloc (.cells f 35)).setCell ⟨w.heap.size, 0, none⟩ v0).setCell ⟨w.heap.size, 1, none⟩ v1).setCell ⟨w.heap.size, 2, none⟩ v2) :=
  ⟨((((Blk.new w 35 z).alloc _).setd 0 _).setd 1 _).setd 2 _,
   (((((Below.refl _ _).alloc (Nat.le_refl _) _).alloc (by simp) _).setCell (p := ⟨w.heap.size, 0, none⟩) (Nat.le_refl _) _).setCell (p := ⟨w.heap.size, 1, none⟩) (Nat.le_refl _) _).setCell (p := ⟨w.heap.size, 2, none⟩) (Nat.le_refl _) _⟩
theorem Rp.cut0 {w : World} {A : Option Addr} {l : List Int} (h : Rp w none A l) {k c : Nat} (hc : l.length ≤ c) : Rp w none (if c = k then A else A.map (·.add k)) (l.drop k) := h.cut hc











set_option maxRecDepth 5000 in
set_option maxHeartbeats 2000000 in
theorem rtake_1 (A : Option Addr) (c : Nat) (b : List Int) (most : Int) (w : World) (hr : Rp w none A b) (hb : Bs b) (hc : b.length ≤ c) (hl : b.length < 1000000) :
    Calls Try.prog 18 #[.slice A b.length c, .int .i64 1, .int .u64 most] w (RTakePost A c b 1 most w) := by
  obtain ⟨n, hn⟩ : ∃ n, n = b.length := ⟨_, rfl⟩
  have HR := hid hr; have HB := hid hb; have HN := hid hn
  have e0 : (Value.slice A b.length c) = Value.slice A n c := by rw [hn]
  rw [e0]
  rw [← hn] at hc hl
  clear e0
  by_cases h : n < 1
  · have ht : tkR b 1 most = none := by show (if b.length < 1 then none else _) = _; rw [if_pos (by omega)]
    have HT := hid ht
    clear hr hb hn ht
    go_enter Try.func18, Try.ntmps18
    go_wp2_with (go_at_call 22; refine (Size_1 _).mono ?_; rintro e w2 ⟨rfl, rfl⟩)
    have B1 : Below w.heap.size w ((w.alloc (.cells #[.int .i64 0, .int .u64 0, .slice none 0 0] 35)).alloc (.cells #[.int .i64 1, .int .u64 0, .slice none 0 0] 35)) := ((Below.refl _ _).alloc (Nat.le_refl _) _).alloc (by simp) _
    refine bodyPost_ret (results_take Try.results18 _ _ w.heap.size 35 #[.int .i64 0, .int .u64 0, .slice none 0 0] (0, 0) _ rfl ((Blk.new w 35 _).alloc _) Try.underlying35 rfl (by kernel_rfl)) rfl ?_
    unfold RTakePost
    rw [← HN.out]
    exact ⟨B1, .inl ⟨HT.out, rfl⟩⟩
  · have ht : tkR b 1 most = some (val (b.take 1), [], b.drop 1) := by
      show (if b.length < 1 then none else if ((1 : Int) = 5 ∧ 1 < val (b.take 1)) ∨ ((1 : Int) = 8 ∧ (most < val (b.take 1) ∨ 4096 < val (b.take 1))) then none else some (val (b.take 1), [], b.drop 1)) = _
      rw [if_neg (by omega), if_neg (by omega)]
    have HT := hid ht
    have hlt : (b.take 1).length = 1 := by rw [List.length_take]; omega
    have hv := Value_any A c (b.take 1)
    rw [hlt] at hv
    have HV := hid (fun wx (hx : Rp wx none A (b.take 1)) => hv wx hx (hb.take 1) (by omega))
    have h1 : 1 ≤ n := by omega
    have h2 : 1 ≤ c := by omega
    have HLD : Hid ((b.drop 1).length = n - 1) := by show _ = _; rw [List.length_drop, ← hn]
    obtain ⟨V, hV⟩ : ∃ V, V = val (b.take 1) := ⟨_, rfl⟩
    rw [← hV] at HV HT
    have HCUT := hid (hr.cut0 (k := 1) (c := c) (by omega))
    clear hr hb hn ht hlt hv h hV
    go_enter Try.func18, Try.ntmps18
    go_wp2_with (first
      | (go_at_call 22; refine (Size_1 _).mono ?_; rintro e w2 ⟨rfl, rfl⟩)
      | (go_at_call 41; refine (HV.out _ ((HR.out.take 1).below (((Below.refl _ _).alloc (Nat.le_refl _) _).alloc (by simp) _))).mono ?_; rintro e w2 ⟨rfl, rfl⟩))
    go_region
    have hw := ((Blk.new w 35 #[.int .i64 1, .int .u64 V, .slice none 0 0]).alloc (.cells #[.int .i64 1, .int .u64 V, .slice none 0 0] 35)).drew
    have hbl : Below w.heap.size w ((w.alloc (.cells #[.int .i64 1, .int .u64 V, .slice none 0 0] 35)).alloc (.cells #[.int .i64 1, .int .u64 V, .slice none 0 0] 35)).drew := (((Below.refl _ _).alloc (Nat.le_refl _) _).alloc (by simp) _).drew
    have HW := hid hw; have HBL := hid hbl
    clear hw hbl
    go_wp2
    · have hck : c = 1 := by assumption
      refine bodyPost_ret (results_take Try.results18 _ _ w.heap.size 35 #[.int .i64 1, .int .u64 V, .slice none 0 0] (0, 0) _ rfl HW.out Try.underlying35 rfl (by kernel_rfl)) rfl ?_
      unfold RTakePost
      have hcut := HCUT.out
      rw [if_pos hck] at hcut
      refine ⟨HBL.out, .inr ⟨V, [], b.drop 1, none, 0, A, 0, HT.out, ?_, Rp.nil _ _ _, hcut, ?_⟩⟩
      · rw [HLD.out]; rfl
      · rw [HLD.out]; omega
    · have hck : ¬ c = 1 := by assumption
      refine bodyPost_ret (results_take Try.results18 _ _ w.heap.size 35 #[.int .i64 1, .int .u64 V, .slice none 0 0] (0, 0) _ rfl HW.out Try.underlying35 rfl (by kernel_rfl)) rfl ?_
      unfold RTakePost
      have hcut := HCUT.out
      rw [if_neg hck] at hcut
      refine ⟨HBL.out, .inr ⟨V, [], b.drop 1, none, 0, A.map (·.add 1), c - 1, HT.out, ?_, Rp.nil _ _ _, hcut, ?_⟩⟩
      · rw [HLD.out]; rfl
      · rw [HLD.out]; omega

set_option maxRecDepth 5000 in
set_option maxHeartbeats 2000000 in
theorem rtake_2 (A : Option Addr) (c : Nat) (b : List Int) (most : Int) (w : World) (hr : Rp w none A b) (hb : Bs b) (hc : b.length ≤ c) (hl : b.length < 1000000) :
    Calls Try.prog 18 #[.slice A b.length c, .int .i64 2, .int .u64 most] w (RTakePost A c b 2 most w) := by
  obtain ⟨n, hn⟩ : ∃ n, n = b.length := ⟨_, rfl⟩
  have HR := hid hr; have HB := hid hb; have HN := hid hn
  have e0 : (Value.slice A b.length c) = Value.slice A n c := by rw [hn]
  rw [e0]
  rw [← hn] at hc hl
  clear e0
  by_cases h : n < 2
  · have ht : tkR b 2 most = none := by show (if b.length < 2 then none else _) = _; rw [if_pos (by omega)]
    have HT := hid ht
    clear hr hb hn ht
    go_enter Try.func18, Try.ntmps18
    go_wp2_with (go_at_call 22; refine (Size_2 _).mono ?_; rintro e w2 ⟨rfl, rfl⟩)
    have B1 : Below w.heap.size w ((w.alloc (.cells #[.int .i64 0, .int .u64 0, .slice none 0 0] 35)).alloc (.cells #[.int .i64 2, .int .u64 0, .slice none 0 0] 35)) := ((Below.refl _ _).alloc (Nat.le_refl _) _).alloc (by simp) _
    refine bodyPost_ret (results_take Try.results18 _ _ w.heap.size 35 #[.int .i64 0, .int .u64 0, .slice none 0 0] (0, 0) _ rfl ((Blk.new w 35 _).alloc _) Try.underlying35 rfl (by kernel_rfl)) rfl ?_
    unfold RTakePost
    rw [← HN.out]
    exact ⟨B1, .inl ⟨HT.out, rfl⟩⟩
  · have ht : tkR b 2 most = some (val (b.take 2), [], b.drop 2) := by
      show (if b.length < 2 then none else if ((2 : Int) = 5 ∧ 1 < val (b.take 2)) ∨ ((2 : Int) = 8 ∧ (most < val (b.take 2) ∨ 4096 < val (b.take 2))) then none else some (val (b.take 2), [], b.drop 2)) = _
      rw [if_neg (by omega), if_neg (by omega)]
    have HT := hid ht
    have hlt : (b.take 2).length = 2 := by rw [List.length_take]; omega
    have hv := Value_any A c (b.take 2)
    rw [hlt] at hv
    have HV := hid (fun wx (hx : Rp wx none A (b.take 2)) => hv wx hx (hb.take 2) (by omega))
    have h1 : 2 ≤ n := by omega
    have h2 : 2 ≤ c := by omega
    have HLD : Hid ((b.drop 2).length = n - 2) := by show _ = _; rw [List.length_drop, ← hn]
    obtain ⟨V, hV⟩ : ∃ V, V = val (b.take 2) := ⟨_, rfl⟩
    rw [← hV] at HV HT
    have HCUT := hid (hr.cut0 (k := 2) (c := c) (by omega))
    clear hr hb hn ht hlt hv h hV
    go_enter Try.func18, Try.ntmps18
    go_wp2_with (first
      | (go_at_call 22; refine (Size_2 _).mono ?_; rintro e w2 ⟨rfl, rfl⟩)
      | (go_at_call 41; refine (HV.out _ ((HR.out.take 2).below (((Below.refl _ _).alloc (Nat.le_refl _) _).alloc (by simp) _))).mono ?_; rintro e w2 ⟨rfl, rfl⟩))
    go_region
    have hw := ((Blk.new w 35 #[.int .i64 2, .int .u64 V, .slice none 0 0]).alloc (.cells #[.int .i64 2, .int .u64 V, .slice none 0 0] 35)).drew
    have hbl : Below w.heap.size w ((w.alloc (.cells #[.int .i64 2, .int .u64 V, .slice none 0 0] 35)).alloc (.cells #[.int .i64 2, .int .u64 V, .slice none 0 0] 35)).drew := (((Below.refl _ _).alloc (Nat.le_refl _) _).alloc (by simp) _).drew
    have HW := hid hw; have HBL := hid hbl
    clear hw hbl
    go_wp2
    · have hck : c = 2 := by assumption
      refine bodyPost_ret (results_take Try.results18 _ _ w.heap.size 35 #[.int .i64 2, .int .u64 V, .slice none 0 0] (0, 0) _ rfl HW.out Try.underlying35 rfl (by kernel_rfl)) rfl ?_
      unfold RTakePost
      have hcut := HCUT.out
      rw [if_pos hck] at hcut
      refine ⟨HBL.out, .inr ⟨V, [], b.drop 2, none, 0, A, 0, HT.out, ?_, Rp.nil _ _ _, hcut, ?_⟩⟩
      · rw [HLD.out]; rfl
      · rw [HLD.out]; omega
    · have hck : ¬ c = 2 := by assumption
      refine bodyPost_ret (results_take Try.results18 _ _ w.heap.size 35 #[.int .i64 2, .int .u64 V, .slice none 0 0] (0, 0) _ rfl HW.out Try.underlying35 rfl (by kernel_rfl)) rfl ?_
      unfold RTakePost
      have hcut := HCUT.out
      rw [if_neg hck] at hcut
      refine ⟨HBL.out, .inr ⟨V, [], b.drop 2, none, 0, A.map (·.add 2), c - 2, HT.out, ?_, Rp.nil _ _ _, hcut, ?_⟩⟩
      · rw [HLD.out]; rfl
      · rw [HLD.out]; omega

set_option maxRecDepth 5000 in
set_option maxHeartbeats 2000000 in
theorem rtake_3 (A : Option Addr) (c : Nat) (b : List Int) (most : Int) (w : World) (hr : Rp w none A b) (hb : Bs b) (hc : b.length ≤ c) (hl : b.length < 1000000) :
    Calls Try.prog 18 #[.slice A b.length c, .int .i64 3, .int .u64 most] w (RTakePost A c b 3 most w) := by
  obtain ⟨n, hn⟩ : ∃ n, n = b.length := ⟨_, rfl⟩
  have HR := hid hr; have HB := hid hb; have HN := hid hn
  have e0 : (Value.slice A b.length c) = Value.slice A n c := by rw [hn]
  rw [e0]
  rw [← hn] at hc hl
  clear e0
  by_cases h : n < 4
  · have ht : tkR b 3 most = none := by show (if b.length < 4 then none else _) = _; rw [if_pos (by omega)]
    have HT := hid ht
    clear hr hb hn ht
    go_enter Try.func18, Try.ntmps18
    go_wp2_with (go_at_call 22; refine (Size_3 _).mono ?_; rintro e w2 ⟨rfl, rfl⟩)
    have B1 : Below w.heap.size w ((w.alloc (.cells #[.int .i64 0, .int .u64 0, .slice none 0 0] 35)).alloc (.cells #[.int .i64 3, .int .u64 0, .slice none 0 0] 35)) := ((Below.refl _ _).alloc (Nat.le_refl _) _).alloc (by simp) _
    refine bodyPost_ret (results_take Try.results18 _ _ w.heap.size 35 #[.int .i64 0, .int .u64 0, .slice none 0 0] (0, 0) _ rfl ((Blk.new w 35 _).alloc _) Try.underlying35 rfl (by kernel_rfl)) rfl ?_
    unfold RTakePost
    rw [← HN.out]
    exact ⟨B1, .inl ⟨HT.out, rfl⟩⟩
  · have ht : tkR b 3 most = some (val (b.take 4), [], b.drop 4) := by
      show (if b.length < 4 then none else if ((3 : Int) = 5 ∧ 1 < val (b.take 4)) ∨ ((3 : Int) = 8 ∧ (most < val (b.take 4) ∨ 4096 < val (b.take 4))) then none else some (val (b.take 4), [], b.drop 4)) = _
      rw [if_neg (by omega), if_neg (by omega)]
    have HT := hid ht
    have hlt : (b.take 4).length = 4 := by rw [List.length_take]; omega
    have hv := Value_any A c (b.take 4)
    rw [hlt] at hv
    have HV := hid (fun wx (hx : Rp wx none A (b.take 4)) => hv wx hx (hb.take 4) (by omega))
    have h1 : 4 ≤ n := by omega
    have h2 : 4 ≤ c := by omega
    have HLD : Hid ((b.drop 4).length = n - 4) := by show _ = _; rw [List.length_drop, ← hn]
    obtain ⟨V, hV⟩ : ∃ V, V = val (b.take 4) := ⟨_, rfl⟩
    rw [← hV] at HV HT
    have HCUT := hid (hr.cut0 (k := 4) (c := c) (by omega))
    clear hr hb hn ht hlt hv h hV
    go_enter Try.func18, Try.ntmps18
    go_wp2_with (first
      | (go_at_call 22; refine (Size_3 _).mono ?_; rintro e w2 ⟨rfl, rfl⟩)
      | (go_at_call 41; refine (HV.out _ ((HR.out.take 4).below (((Below.refl _ _).alloc (Nat.le_refl _) _).alloc (by simp) _))).mono ?_; rintro e w2 ⟨rfl, rfl⟩))
    go_region
    have hw := ((Blk.new w 35 #[.int .i64 3, .int .u64 V, .slice none 0 0]).alloc (.cells #[.int .i64 3, .int .u64 V, .slice none 0 0] 35)).drew
    have hbl : Below w.heap.size w ((w.alloc (.cells #[.int .i64 3, .int .u64 V, .slice none 0 0] 35)).alloc (.cells #[.int .i64 3, .int .u64 V, .slice none 0 0] 35)).drew := (((Below.refl _ _).alloc (Nat.le_refl _) _).alloc (by simp) _).drew
    have HW := hid hw; have HBL := hid hbl
    clear hw hbl
    go_wp2
    · have hck : c = 4 := by assumption
      refine bodyPost_ret (results_take Try.results18 _ _ w.heap.size 35 #[.int .i64 3, .int .u64 V, .slice none 0 0] (0, 0) _ rfl HW.out Try.underlying35 rfl (by kernel_rfl)) rfl ?_
      unfold RTakePost
      have hcut := HCUT.out
      rw [if_pos hck] at hcut
      refine ⟨HBL.out, .inr ⟨V, [], b.drop 4, none, 0, A, 0, HT.out, ?_, Rp.nil _ _ _, hcut, ?_⟩⟩
      · rw [HLD.out]; rfl
      · rw [HLD.out]; omega
    · have hck : ¬ c = 4 := by assumption
      refine bodyPost_ret (results_take Try.results18 _ _ w.heap.size 35 #[.int .i64 3, .int .u64 V, .slice none 0 0] (0, 0) _ rfl HW.out Try.underlying35 rfl (by kernel_rfl)) rfl ?_
      unfold RTakePost
      have hcut := HCUT.out
      rw [if_neg hck] at hcut
      refine ⟨HBL.out, .inr ⟨V, [], b.drop 4, none, 0, A.map (·.add 4), c - 4, HT.out, ?_, Rp.nil _ _ _, hcut, ?_⟩⟩
      · rw [HLD.out]; rfl
      · rw [HLD.out]; omega

set_option maxRecDepth 5000 in
set_option maxHeartbeats 2000000 in
theorem rtake_4 (A : Option Addr) (c : Nat) (b : List Int) (most : Int) (w : World) (hr : Rp w none A b) (hb : Bs b) (hc : b.length ≤ c) (hl : b.length < 1000000) :
    Calls Try.prog 18 #[.slice A b.length c, .int .i64 4, .int .u64 most] w (RTakePost A c b 4 most w) := by
  obtain ⟨n, hn⟩ : ∃ n, n = b.length := ⟨_, rfl⟩
  have HR := hid hr; have HB := hid hb; have HN := hid hn
  have e0 : (Value.slice A b.length c) = Value.slice A n c := by rw [hn]
  rw [e0]
  rw [← hn] at hc hl
  clear e0
  by_cases h : n < 8
  · have ht : tkR b 4 most = none := by show (if b.length < 8 then none else _) = _; rw [if_pos (by omega)]
    have HT := hid ht
    clear hr hb hn ht
    go_enter Try.func18, Try.ntmps18
    go_wp2_with (go_at_call 22; refine (Size_4 _).mono ?_; rintro e w2 ⟨rfl, rfl⟩)
    have B1 : Below w.heap.size w ((w.alloc (.cells #[.int .i64 0, .int .u64 0, .slice none 0 0] 35)).alloc (.cells #[.int .i64 4, .int .u64 0, .slice none 0 0] 35)) := ((Below.refl _ _).alloc (Nat.le_refl _) _).alloc (by simp) _
    refine bodyPost_ret (results_take Try.results18 _ _ w.heap.size 35 #[.int .i64 0, .int .u64 0, .slice none 0 0] (0, 0) _ rfl ((Blk.new w 35 _).alloc _) Try.underlying35 rfl (by kernel_rfl)) rfl ?_
    unfold RTakePost
    rw [← HN.out]
    exact ⟨B1, .inl ⟨HT.out, rfl⟩⟩
  · have ht : tkR b 4 most = some (val (b.take 8), [], b.drop 8) := by
      show (if b.length < 8 then none else if ((4 : Int) = 5 ∧ 1 < val (b.take 8)) ∨ ((4 : Int) = 8 ∧ (most < val (b.take 8) ∨ 4096 < val (b.take 8))) then none else some (val (b.take 8), [], b.drop 8)) = _
      rw [if_neg (by omega), if_neg (by omega)]
    have HT := hid ht
    have hlt : (b.take 8).length = 8 := by rw [List.length_take]; omega
    have hv := Value_any A c (b.take 8)
    rw [hlt] at hv
    have HV := hid (fun wx (hx : Rp wx none A (b.take 8)) => hv wx hx (hb.take 8) (by omega))
    have h1 : 8 ≤ n := by omega
    have h2 : 8 ≤ c := by omega
    have HLD : Hid ((b.drop 8).length = n - 8) := by show _ = _; rw [List.length_drop, ← hn]
    obtain ⟨V, hV⟩ : ∃ V, V = val (b.take 8) := ⟨_, rfl⟩
    rw [← hV] at HV HT
    have HCUT := hid (hr.cut0 (k := 8) (c := c) (by omega))
    clear hr hb hn ht hlt hv h hV
    go_enter Try.func18, Try.ntmps18
    go_wp2_with (first
      | (go_at_call 22; refine (Size_4 _).mono ?_; rintro e w2 ⟨rfl, rfl⟩)
      | (go_at_call 41; refine (HV.out _ ((HR.out.take 8).below (((Below.refl _ _).alloc (Nat.le_refl _) _).alloc (by simp) _))).mono ?_; rintro e w2 ⟨rfl, rfl⟩))
    go_region
    have hw := ((Blk.new w 35 #[.int .i64 4, .int .u64 V, .slice none 0 0]).alloc (.cells #[.int .i64 4, .int .u64 V, .slice none 0 0] 35)).drew
    have hbl : Below w.heap.size w ((w.alloc (.cells #[.int .i64 4, .int .u64 V, .slice none 0 0] 35)).alloc (.cells #[.int .i64 4, .int .u64 V, .slice none 0 0] 35)).drew := (((Below.refl _ _).alloc (Nat.le_refl _) _).alloc (by simp) _).drew
    have HW := hid hw; have HBL := hid hbl
    clear hw hbl
    go_wp2
    · have hck : c = 8 := by assumption
      refine bodyPost_ret (results_take Try.results18 _ _ w.heap.size 35 #[.int .i64 4, .int .u64 V, .slice none 0 0] (0, 0) _ rfl HW.out Try.underlying35 rfl (by kernel_rfl)) rfl ?_
      unfold RTakePost
      have hcut := HCUT.out
      rw [if_pos hck] at hcut
      refine ⟨HBL.out, .inr ⟨V, [], b.drop 8, none, 0, A, 0, HT.out, ?_, Rp.nil _ _ _, hcut, ?_⟩⟩
      · rw [HLD.out]; rfl
      · rw [HLD.out]; omega
    · have hck : ¬ c = 8 := by assumption
      refine bodyPost_ret (results_take Try.results18 _ _ w.heap.size 35 #[.int .i64 4, .int .u64 V, .slice none 0 0] (0, 0) _ rfl HW.out Try.underlying35 rfl (by kernel_rfl)) rfl ?_
      unfold RTakePost
      have hcut := HCUT.out
      rw [if_neg hck] at hcut
      refine ⟨HBL.out, .inr ⟨V, [], b.drop 8, none, 0, A.map (·.add 8), c - 8, HT.out, ?_, Rp.nil _ _ _, hcut, ?_⟩⟩
      · rw [HLD.out]; rfl
      · rw [HLD.out]; omega

set_option maxRecDepth 5000 in
set_option maxHeartbeats 2000000 in
theorem rtake_5 (A : Option Addr) (c : Nat) (b : List Int) (most : Int) (w : World) (hr : Rp w none A b) (hb : Bs b) (hc : b.length ≤ c) (hl : b.length < 1000000) :
    Calls Try.prog 18 #[.slice A b.length c, .int .i64 5, .int .u64 most] w (RTakePost A c b 5 most w) := by
  obtain ⟨n, hn⟩ : ∃ n, n = b.length := ⟨_, rfl⟩
  have HR := hid hr; have HB := hid hb; have HN := hid hn
  have e0 : (Value.slice A b.length c) = Value.slice A n c := by rw [hn]
  rw [e0]
  rw [← hn] at hc hl
  clear e0
  by_cases h : n < 1
  · have ht : tkR b 5 most = none := by show (if b.length < 1 then none else _) = _; rw [if_pos (by omega)]
    have HT := hid ht
    clear hr hb hn ht
    go_enter Try.func18, Try.ntmps18
    go_wp2_with (go_at_call 22; refine (Size_5 _).mono ?_; rintro e w2 ⟨rfl, rfl⟩)
    have B1 : Below w.heap.size w ((w.alloc (.cells #[.int .i64 0, .int .u64 0, .slice none 0 0] 35)).alloc (.cells #[.int .i64 5, .int .u64 0, .slice none 0 0] 35)) := ((Below.refl _ _).alloc (Nat.le_refl _) _).alloc (by simp) _
    refine bodyPost_ret (results_take Try.results18 _ _ w.heap.size 35 #[.int .i64 0, .int .u64 0, .slice none 0 0] (0, 0) _ rfl ((Blk.new w 35 _).alloc _) Try.underlying35 rfl (by kernel_rfl)) rfl ?_
    unfold RTakePost
    rw [← HN.out]
    exact ⟨B1, .inl ⟨HT.out, rfl⟩⟩
  · have hlt : (b.take 1).length = 1 := by rw [List.length_take]; omega
    have hv := Value_any A c (b.take 1)
    rw [hlt] at hv
    have HV := hid (fun wx (hx : Rp wx none A (b.take 1)) => hv wx hx (hb.take 1) (by omega))
    have h1 : 1 ≤ n := by omega
    have h2 : 1 ≤ c := by omega
    have HLD : Hid ((b.drop 1).length = n - 1) := by show _ = _; rw [List.length_drop, ← hn]
    have hgt : tkR b 5 most = if ((5 : Int) = 5 ∧ 1 < val (b.take 1)) ∨ ((5 : Int) = 8 ∧ (most < val (b.take 1) ∨ 4096 < val (b.take 1))) then none else some (val (b.take 1), [], b.drop 1) := by
      show (if b.length < 1 then none else _) = _
      rw [if_neg (by omega)]; rfl
    obtain ⟨V, hV⟩ : ∃ V, V = val (b.take 1) := ⟨_, rfl⟩
    rw [← hV] at HV hgt
    have HCUT := hid (hr.cut0 (k := 1) (c := c) (by omega))
    by_cases hq0 : 1 < V
    · have ht : tkR b 5 most = none := by rw [hgt, if_pos (by omega)]
      have HT := hid ht
      clear hr hb hn ht hgt hlt hv h hV
      go_enter Try.func18, Try.ntmps18
      go_wp2_with (first
        | (go_at_call 22; refine (Size_5 _).mono ?_; rintro e w2 ⟨rfl, rfl⟩)
        | (go_at_call 41; refine (HV.out _ ((HR.out.take 1).below (((Below.refl _ _).alloc (Nat.le_refl _) _).alloc (by simp) _))).mono ?_; rintro e w2 ⟨rfl, rfl⟩))
      have B1 : Below w.heap.size w ((w.alloc (.cells #[.int .i64 0, .int .u64 0, .slice none 0 0] 35)).alloc (.cells #[.int .i64 5, .int .u64 0, .slice none 0 0] 35)) := ((Below.refl _ _).alloc (Nat.le_refl _) _).alloc (by simp) _
      refine bodyPost_ret (results_take Try.results18 _ _ w.heap.size 35 #[.int .i64 0, .int .u64 0, .slice none 0 0] (0, 0) _ rfl ((Blk.new w 35 _).alloc _) Try.underlying35 rfl (by kernel_rfl)) rfl ?_
      unfold RTakePost
      rw [← HN.out]
      exact ⟨B1, .inl ⟨HT.out, rfl⟩⟩
    have ht : tkR b 5 most = some (V, [], b.drop 1) := by rw [hgt, if_neg (by omega)]
    have HT := hid ht
    have hp0 : V ≤ 1 := by omega
    clear hr hb hn ht hgt hlt hv h hV
    go_enter Try.func18, Try.ntmps18
    go_wp2_with (first
      | (go_at_call 22; refine (Size_5 _).mono ?_; rintro e w2 ⟨rfl, rfl⟩)
      | (go_at_call 41; refine (HV.out _ ((HR.out.take 1).below (((Below.refl _ _).alloc (Nat.le_refl _) _).alloc (by simp) _))).mono ?_; rintro e w2 ⟨rfl, rfl⟩))
    go_region
    have hw := ((Blk.new w 35 #[.int .i64 5, .int .u64 V, .slice none 0 0]).alloc (.cells #[.int .i64 5, .int .u64 V, .slice none 0 0] 35)).drew
    have hbl : Below w.heap.size w ((w.alloc (.cells #[.int .i64 5, .int .u64 V, .slice none 0 0] 35)).alloc (.cells #[.int .i64 5, .int .u64 V, .slice none 0 0] 35)).drew := (((Below.refl _ _).alloc (Nat.le_refl _) _).alloc (by simp) _).drew
    have HW := hid hw; have HBL := hid hbl
    clear hw hbl
    go_wp2
    · have hck : c = 1 := by assumption
      refine bodyPost_ret (results_take Try.results18 _ _ w.heap.size 35 #[.int .i64 5, .int .u64 V, .slice none 0 0] (0, 0) _ rfl HW.out Try.underlying35 rfl (by kernel_rfl)) rfl ?_
      unfold RTakePost
      have hcut := HCUT.out
      rw [if_pos hck] at hcut
      refine ⟨HBL.out, .inr ⟨V, [], b.drop 1, none, 0, A, 0, HT.out, ?_, Rp.nil _ _ _, hcut, ?_⟩⟩
      · rw [HLD.out]; rfl
      · rw [HLD.out]; omega
    · have hck : ¬ c = 1 := by assumption
      refine bodyPost_ret (results_take Try.results18 _ _ w.heap.size 35 #[.int .i64 5, .int .u64 V, .slice none 0 0] (0, 0) _ rfl HW.out Try.underlying35 rfl (by kernel_rfl)) rfl ?_
      unfold RTakePost
      have hcut := HCUT.out
      rw [if_neg hck] at hcut
      refine ⟨HBL.out, .inr ⟨V, [], b.drop 1, none, 0, A.map (·.add 1), c - 1, HT.out, ?_, Rp.nil _ _ _, hcut, ?_⟩⟩
      · rw [HLD.out]; rfl
      · rw [HLD.out]; omega

set_option maxRecDepth 5000 in
set_option maxHeartbeats 2000000 in
theorem rtake_8 (A : Option Addr) (c : Nat) (b : List Int) (most : Int) (w : World) (hr : Rp w none A b) (hb : Bs b) (hc : b.length ≤ c) (hl : b.length < 1000000) :
    Calls Try.prog 18 #[.slice A b.length c, .int .i64 8, .int .u64 most] w (RTakePost A c b 8 most w) := by
  obtain ⟨n, hn⟩ : ∃ n, n = b.length := ⟨_, rfl⟩
  have HR := hid hr; have HB := hid hb; have HN := hid hn
  have e0 : (Value.slice A b.length c) = Value.slice A n c := by rw [hn]
  rw [e0]
  rw [← hn] at hc hl
  clear e0
  by_cases h : n < 2
  · have ht : tkR b 8 most = none := by show (if b.length < 2 then none else _) = _; rw [if_pos (by omega)]
    have HT := hid ht
    clear hr hb hn ht
    go_enter Try.func18, Try.ntmps18
    go_wp2_with (go_at_call 22; refine (Size_8 _).mono ?_; rintro e w2 ⟨rfl, rfl⟩)
    have B1 : Below w.heap.size w ((w.alloc (.cells #[.int .i64 0, .int .u64 0, .slice none 0 0] 35)).alloc (.cells #[.int .i64 8, .int .u64 0, .slice none 0 0] 35)) := ((Below.refl _ _).alloc (Nat.le_refl _) _).alloc (by simp) _
    refine bodyPost_ret (results_take Try.results18 _ _ w.heap.size 35 #[.int .i64 0, .int .u64 0, .slice none 0 0] (0, 0) _ rfl ((Blk.new w 35 _).alloc _) Try.underlying35 rfl (by kernel_rfl)) rfl ?_
    unfold RTakePost
    rw [← HN.out]
    exact ⟨B1, .inl ⟨HT.out, rfl⟩⟩
  · have hlt : (b.take 2).length = 2 := by rw [List.length_take]; omega
    have hv := Value_any A c (b.take 2)
    rw [hlt] at hv
    have HV := hid (fun wx (hx : Rp wx none A (b.take 2)) => hv wx hx (hb.take 2) (by omega))
    have h1 : 2 ≤ n := by omega
    have h2 : 2 ≤ c := by omega
    have HLD : Hid ((b.drop 2).length = n - 2) := by show _ = _; rw [List.length_drop, ← hn]
    have hgt : tkR b 8 most = if ((8 : Int) = 5 ∧ 1 < val (b.take 2)) ∨ ((8 : Int) = 8 ∧ (most < val (b.take 2) ∨ 4096 < val (b.take 2))) then none else some (val (b.take 2), [], b.drop 2) := by
      show (if b.length < 2 then none else _) = _
      rw [if_neg (by omega)]; rfl
    obtain ⟨V, hV⟩ : ∃ V, V = val (b.take 2) := ⟨_, rfl⟩
    rw [← hV] at HV hgt
    have HCUT := hid (hr.cut0 (k := 2) (c := c) (by omega))
    by_cases hq0 : most < V
    · have ht : tkR b 8 most = none := by rw [hgt, if_pos (by omega)]
      have HT := hid ht
      clear hr hb hn ht hgt hlt hv h hV
      go_enter Try.func18, Try.ntmps18
      go_wp2_with (first
        | (go_at_call 22; refine (Size_8 _).mono ?_; rintro e w2 ⟨rfl, rfl⟩)
        | (go_at_call 41; refine (HV.out _ ((HR.out.take 2).below (((Below.refl _ _).alloc (Nat.le_refl _) _).alloc (by simp) _))).mono ?_; rintro e w2 ⟨rfl, rfl⟩))
      have B1 : Below w.heap.size w ((w.alloc (.cells #[.int .i64 0, .int .u64 0, .slice none 0 0] 35)).alloc (.cells #[.int .i64 8, .int .u64 0, .slice none 0 0] 35)) := ((Below.refl _ _).alloc (Nat.le_refl _) _).alloc (by simp) _
      refine bodyPost_ret (results_take Try.results18 _ _ w.heap.size 35 #[.int .i64 0, .int .u64 0, .slice none 0 0] (0, 0) _ rfl ((Blk.new w 35 _).alloc _) Try.underlying35 rfl (by kernel_rfl)) rfl ?_
      unfold RTakePost
      rw [← HN.out]
      exact ⟨B1, .inl ⟨HT.out, rfl⟩⟩
    by_cases hq1 : 4096 < V
    · have ht : tkR b 8 most = none := by rw [hgt, if_pos (by omega)]
      have HT := hid ht
      clear hr hb hn ht hgt hlt hv h hV
      go_enter Try.func18, Try.ntmps18
      go_wp2_with (first
        | (go_at_call 22; refine (Size_8 _).mono ?_; rintro e w2 ⟨rfl, rfl⟩)
        | (go_at_call 41; refine (HV.out _ ((HR.out.take 2).below (((Below.refl _ _).alloc (Nat.le_refl _) _).alloc (by simp) _))).mono ?_; rintro e w2 ⟨rfl, rfl⟩))
      have B1 : Below w.heap.size w ((w.alloc (.cells #[.int .i64 0, .int .u64 0, .slice none 0 0] 35)).alloc (.cells #[.int .i64 8, .int .u64 0, .slice none 0 0] 35)) := ((Below.refl _ _).alloc (Nat.le_refl _) _).alloc (by simp) _
      refine bodyPost_ret (results_take Try.results18 _ _ w.heap.size 35 #[.int .i64 0, .int .u64 0, .slice none 0 0] (0, 0) _ rfl ((Blk.new w 35 _).alloc _) Try.underlying35 rfl (by kernel_rfl)) rfl ?_
      unfold RTakePost
      rw [← HN.out]
      exact ⟨B1, .inl ⟨HT.out, rfl⟩⟩
    have ht : tkR b 8 most = some (V, [], b.drop 2) := by rw [hgt, if_neg (by omega)]
    have HT := hid ht
    have hp0 : V ≤ most := by omega
    have hp1 : V ≤ 4096 := by omega
    clear hr hb hn ht hgt hlt hv h hV
    go_enter Try.func18, Try.ntmps18
    go_wp2_with (first
      | (go_at_call 22; refine (Size_8 _).mono ?_; rintro e w2 ⟨rfl, rfl⟩)
      | (go_at_call 41; refine (HV.out _ ((HR.out.take 2).below (((Below.refl _ _).alloc (Nat.le_refl _) _).alloc (by simp) _))).mono ?_; rintro e w2 ⟨rfl, rfl⟩))
    go_region
    have hw := ((Blk.new w 35 #[.int .i64 8, .int .u64 V, .slice none 0 0]).alloc (.cells #[.int .i64 8, .int .u64 V, .slice none 0 0] 35)).drew
    have hbl : Below w.heap.size w ((w.alloc (.cells #[.int .i64 8, .int .u64 V, .slice none 0 0] 35)).alloc (.cells #[.int .i64 8, .int .u64 V, .slice none 0 0] 35)).drew := (((Below.refl _ _).alloc (Nat.le_refl _) _).alloc (by simp) _).drew
    have HW := hid hw; have HBL := hid hbl
    clear hw hbl
    go_wp2
    · have hck : c = 2 := by assumption
      refine bodyPost_ret (results_take Try.results18 _ _ w.heap.size 35 #[.int .i64 8, .int .u64 V, .slice none 0 0] (0, 0) _ rfl HW.out Try.underlying35 rfl (by kernel_rfl)) rfl ?_
      unfold RTakePost
      have hcut := HCUT.out
      rw [if_pos hck] at hcut
      refine ⟨HBL.out, .inr ⟨V, [], b.drop 2, none, 0, A, 0, HT.out, ?_, Rp.nil _ _ _, hcut, ?_⟩⟩
      · rw [HLD.out]; rfl
      · rw [HLD.out]; omega
    · have hck : ¬ c = 2 := by assumption
      refine bodyPost_ret (results_take Try.results18 _ _ w.heap.size 35 #[.int .i64 8, .int .u64 V, .slice none 0 0] (0, 0) _ rfl HW.out Try.underlying35 rfl (by kernel_rfl)) rfl ?_
      unfold RTakePost
      have hcut := HCUT.out
      rw [if_neg hck] at hcut
      refine ⟨HBL.out, .inr ⟨V, [], b.drop 2, none, 0, A.map (·.add 2), c - 2, HT.out, ?_, Rp.nil _ _ _, hcut, ?_⟩⟩
      · rw [HLD.out]; rfl
      · rw [HLD.out]; omega

set_option maxRecDepth 5000 in
set_option maxHeartbeats 2000000 in
theorem rtake_6 (A : Option Addr) (c : Nat) (b : List Int) (m : Nat) (w : World) (hr : Rp w none A b) (hc : b.length ≤ c) (hl : b.length < 1000000) (hm : m ≤ 4611686018427387904) :
    Calls Try.prog 18 #[.slice A b.length c, .int .i64 6, .int .u64 m] w (RTakePost A c b 6 m w) := by
  obtain ⟨n, hn⟩ : ∃ n, n = b.length := ⟨_, rfl⟩
  have HR := hid hr; have HN := hid hn
  have e0 : (Value.slice A b.length c) = Value.slice A n c := by rw [hn]
  rw [e0]
  rw [← hn] at hc hl
  clear e0
  have ht0 : tkR b 6 m = if (b.length : Int) < (m : Int) then none else some (0, b.take (m : Int).toNat, b.drop (m : Int).toNat) := rfl
  rw [← hn, Int.toNat_natCast] at ht0
  by_cases h : n < m
  · have ht : tkR b 6 m = none := by rw [ht0, if_pos (by omega)]
    have HT := hid ht
    clear hr hn ht ht0 hm
    go_enter Try.func18, Try.ntmps18
    go_wp2
    have B1 : Below w.heap.size w ((w.alloc (.cells #[.int .i64 0, .int .u64 0, .slice none 0 0] 35)).alloc (.cells #[.int .i64 6, .int .u64 0, .slice none 0 0] 35)) := ((Below.refl _ _).alloc (Nat.le_refl _) _).alloc (by simp) _
    refine bodyPost_ret (results_take Try.results18 _ _ w.heap.size 35 #[.int .i64 0, .int .u64 0, .slice none 0 0] (0, 0) _ rfl ((Blk.new w 35 _).alloc _) Try.underlying35 rfl (by kernel_rfl)) rfl ?_
    unfold RTakePost
    rw [← HN.out]
    exact ⟨B1, .inl ⟨HT.out, rfl⟩⟩
  · have ht : tkR b 6 m = some (0, b.take m, b.drop m) := by rw [ht0, if_neg (by omega)]
    have HT := hid ht
    have h1 : m ≤ n := by omega
    have h2 : m ≤ c := by omega
    have HLT : Hid ((b.take m).length = m) := by show _ = _; rw [List.length_take]; omega
    have HLD : Hid ((b.drop m).length = n - m) := by show _ = _; rw [List.length_drop, ← hn]
    have HCUT := hid (hr.cut0 (k := m) (c := c) (by omega))
    clear hr hn ht ht0 hm h
    go_enter Try.func18, Try.ntmps18
    go_wp2
    go_region
    have hw := ((Blk.new w 35 #[.int .i64 6, .int .u64 0, .slice A m c]).alloc (.cells #[.int .i64 6, .int .u64 0, .slice A m c] 35)).drew
    have hbl : Below w.heap.size w ((w.alloc (.cells #[.int .i64 6, .int .u64 0, .slice A m c] 35)).alloc (.cells #[.int .i64 6, .int .u64 0, .slice A m c] 35)).drew := (((Below.refl _ _).alloc (Nat.le_refl _) _).alloc (by simp) _).drew
    have HW := hid hw; have HBL := hid hbl
    clear hw hbl
    go_wp2
    · have hck : c = m := by assumption
      obtain rfl : m = c := hck.symm
      refine bodyPost_ret (results_take Try.results18 _ _ w.heap.size 35 #[.int .i64 6, .int .u64 0, .slice A m m] (0, 0) _ rfl HW.out Try.underlying35 rfl (by kernel_rfl)) rfl ?_
      unfold RTakePost
      have hcut := HCUT.out
      rw [if_pos rfl] at hcut
      refine ⟨HBL.out, .inr ⟨0, b.take m, b.drop m, A, m, A, 0, HT.out, ?_, HR.out.take m, hcut, ?_⟩⟩
      · rw [HLD.out, HLT.out]; rfl
      · rw [HLD.out]; omega
    · have hck : ¬ c = m := by assumption
      refine bodyPost_ret (results_take Try.results18 _ _ w.heap.size 35 #[.int .i64 6, .int .u64 0, .slice A m c] (0, 0) _ rfl HW.out Try.underlying35 rfl (by kernel_rfl)) rfl ?_
      unfold RTakePost
      have hcut := HCUT.out
      rw [if_neg hck] at hcut
      refine ⟨HBL.out, .inr ⟨0, b.take m, b.drop m, A, c, A.map (·.add m), c - m, HT.out, ?_, HR.out.take m, hcut, ?_⟩⟩
      · rw [HLD.out, HLT.out]; rfl
      · rw [HLD.out]; omega
theorem add2_fun : (fun x : Addr => x.add 2) = fun x : Addr => (⟨x.block, x.off + 2, none⟩ : Addr) := funext fun x => Addr.add_succ' x 1

set_option maxRecDepth 5000 in
set_option maxHeartbeats 2000000 in
theorem rtake_7 (A : Option Addr) (c : Nat) (b : List Int) (most : Int) (w : World) (hr : Rp w none A b) (hb : Bs b) (hc : b.length ≤ c) (hl : b.length < 1000000) :
    Calls Try.prog 18 #[.slice A b.length c, .int .i64 7, .int .u64 most] w (RTakePost A c b 7 most w) := by
  obtain ⟨n, hn⟩ : ∃ n, n = b.length := ⟨_, rfl⟩
  have HR := hid hr; have HB := hid hb; have HN := hid hn
  have e0 : (Value.slice A b.length c) = Value.slice A n c := by rw [hn]
  rw [e0]
  rw [← hn] at hc hl
  clear e0
  by_cases h : n < 2
  · have ht : tkR b 7 most = none := by show (if b.length < 2 then none else _) = _; rw [if_pos (by omega)]
    have HT := hid ht
    clear hr hb hn ht
    go_enter Try.func18, Try.ntmps18
    go_wp2_with (go_at_call 22; refine (Size_7 _).mono ?_; rintro e w2 ⟨rfl, rfl⟩)
    have B1 : Below w.heap.size w ((w.alloc (.cells #[.int .i64 0, .int .u64 0, .slice none 0 0] 35)).alloc (.cells #[.int .i64 7, .int .u64 0, .slice none 0 0] 35)) := ((Below.refl _ _).alloc (Nat.le_refl _) _).alloc (by simp) _
    refine bodyPost_ret (results_take Try.results18 _ _ w.heap.size 35 #[.int .i64 0, .int .u64 0, .slice none 0 0] (0, 0) _ rfl ((Blk.new w 35 _).alloc _) Try.underlying35 rfl (by kernel_rfl)) rfl ?_
    unfold RTakePost
    rw [← HN.out]
    exact ⟨B1, .inl ⟨HT.out, rfl⟩⟩
  · have hlt : (b.take 2).length = 2 := by rw [List.length_take]; omega
    have hv := Value_any A c (b.take 2)
    rw [hlt] at hv
    have HV := hid (fun wx (hx : Rp wx none A (b.take 2)) => hv wx hx (hb.take 2) (by omega))
    have hvb := val_take_bound b 2 hb
    have h1 : 2 ≤ n := by omega
    have h2 : 2 ≤ c := by omega
    have hgt : tkR b 7 most = if most < val (b.take 2) ∨ 8192 < val (b.take 2) ∨ (n : Int) - 2 < val (b.take 2) then none else some (0, (b.drop 2).take (val (b.take 2)).toNat, (b.drop 2).drop (val (b.take 2)).toNat) := by
      show (if b.length < 2 then none else if ((7 : Int) = 5 ∧ 1 < val (b.take 2)) ∨ ((7 : Int) = 8 ∧ (most < val (b.take 2) ∨ 4096 < val (b.take 2))) then none else if most < val (b.take 2) ∨ 8192 < val (b.take 2) ∨ (b.length : Int) - 2 < val (b.take 2) then none else some (0, (b.drop 2).take (val (b.take 2)).toNat, (b.drop 2).drop (val (b.take 2)).toNat)) = _
      rw [if_neg (by omega), if_neg (by omega), ← hn]
    obtain ⟨v, hV⟩ : ∃ v : Nat, val (b.take 2) = v := ⟨(val (b.take 2)).toNat, by omega⟩
    rw [hV] at HV hgt hvb
    rw [Int.toNat_natCast, List.drop_drop] at hgt
    have hv0 : v < 65536 := by have := hvb.2; omega
    clear hvb hlt hv hV
    have hn2 : (n : Int) - 2 = ((n - 2 : Nat) : Int) := by omega
    by_cases hq0 : most < (v : Int)
    · have ht : tkR b 7 most = none := by rw [hgt, if_pos (by omega)]
      have HT := hid ht
      clear hr hb hn ht hgt h
      go_enter Try.func18, Try.ntmps18
      go_wp2_with (first
        | (go_at_call 22; refine (Size_7 _).mono ?_; rintro e w2 ⟨rfl, rfl⟩)
        | (go_at_call 41; refine (HV.out _ ((HR.out.take 2).below (((Below.refl _ _).alloc (Nat.le_refl _) _).alloc (by simp) _))).mono ?_; rintro e w2 ⟨rfl, rfl⟩))
      have B1 : Below w.heap.size w ((w.alloc (.cells #[.int .i64 0, .int .u64 0, .slice none 0 0] 35)).alloc (.cells #[.int .i64 7, .int .u64 0, .slice none 0 0] 35)) := ((Below.refl _ _).alloc (Nat.le_refl _) _).alloc (by simp) _
      refine bodyPost_ret (results_take Try.results18 _ _ w.heap.size 35 #[.int .i64 0, .int .u64 0, .slice none 0 0] (0, 0) _ rfl ((Blk.new w 35 _).alloc _) Try.underlying35 rfl (by kernel_rfl)) rfl ?_
      unfold RTakePost
      rw [← HN.out]
      exact ⟨B1, .inl ⟨HT.out, rfl⟩⟩
    by_cases hq1 : 8192 < v
    · have ht : tkR b 7 most = none := by rw [hgt, if_pos (by omega)]
      have HT := hid ht
      clear hr hb hn ht hgt h
      go_enter Try.func18, Try.ntmps18
      go_wp2_with (first
        | (go_at_call 22; refine (Size_7 _).mono ?_; rintro e w2 ⟨rfl, rfl⟩)
        | (go_at_call 41; refine (HV.out _ ((HR.out.take 2).below (((Below.refl _ _).alloc (Nat.le_refl _) _).alloc (by simp) _))).mono ?_; rintro e w2 ⟨rfl, rfl⟩))
      have B1 : Below w.heap.size w ((w.alloc (.cells #[.int .i64 0, .int .u64 0, .slice none 0 0] 35)).alloc (.cells #[.int .i64 7, .int .u64 0, .slice none 0 0] 35)) := ((Below.refl _ _).alloc (Nat.le_refl _) _).alloc (by simp) _
      refine bodyPost_ret (results_take Try.results18 _ _ w.heap.size 35 #[.int .i64 0, .int .u64 0, .slice none 0 0] (0, 0) _ rfl ((Blk.new w 35 _).alloc _) Try.underlying35 rfl (by kernel_rfl)) rfl ?_
      unfold RTakePost
      rw [← HN.out]
      exact ⟨B1, .inl ⟨HT.out, rfl⟩⟩
    by_cases hq2 : n - 2 < v
    · have ht : tkR b 7 most = none := by rw [hgt, if_pos (by omega)]
      have HT := hid ht
      clear hr hb hn ht hgt h
      go_enter Try.func18, Try.ntmps18
      go_wp2_with (first
        | (go_at_call 22; refine (Size_7 _).mono ?_; rintro e w2 ⟨rfl, rfl⟩)
        | (go_at_call 41; refine (HV.out _ ((HR.out.take 2).below (((Below.refl _ _).alloc (Nat.le_refl _) _).alloc (by simp) _))).mono ?_; rintro e w2 ⟨rfl, rfl⟩))
      have B1 : Below w.heap.size w ((w.alloc (.cells #[.int .i64 0, .int .u64 0, .slice none 0 0] 35)).alloc (.cells #[.int .i64 7, .int .u64 0, .slice none 0 0] 35)) := ((Below.refl _ _).alloc (Nat.le_refl _) _).alloc (by simp) _
      refine bodyPost_ret (results_take Try.results18 _ _ w.heap.size 35 #[.int .i64 0, .int .u64 0, .slice none 0 0] (0, 0) _ rfl ((Blk.new w 35 _).alloc _) Try.underlying35 rfl (by kernel_rfl)) rfl ?_
      unfold RTakePost
      rw [← HN.out]
      exact ⟨B1, .inl ⟨HT.out, rfl⟩⟩
    have ht : tkR b 7 most = some (0, (b.drop 2).take v, b.drop (2 + v)) := by rw [hgt, if_neg (by omega)]
    have HT := hid ht
    have hp0 : (v : Int) ≤ most := by omega
    have hp1 : v ≤ 8192 := by omega
    have hp2 : v ≤ n - 2 := by omega
    have hp3 : 2 + v ≤ n := by omega
    have hp4 : 2 + v ≤ c := by omega
    have HY : Hid (((b.drop 2).take v).length = v) := by show _ = _; rw [List.length_take, List.length_drop, ← hn]; omega
    have HLD : Hid ((b.drop (2 + v)).length = n - (2 + v)) := by show _ = _; rw [List.length_drop, ← hn]
    have HC2 := hid ((hr.cut0 (k := 2) (c := c) (by omega)).take v)
    have HC3 := hid (hr.cut0 (k := 2 + v) (c := c) (by omega))
    clear hr hb hn ht hgt h hq0 hq1 hq2
    by_cases hcc : c = 2
    · obtain rfl : n = 2 := by omega
      obtain rfl : v = 0 := by omega
      subst hcc
      go_enter Try.func18, Try.ntmps18
      go_wp2_with (first
        | (go_at_call 22; refine (Size_7 _).mono ?_; rintro e w2 ⟨rfl, rfl⟩)
        | (go_at_call 41; refine (HV.out _ ((HR.out.take 2).below (((Below.refl _ _).alloc (Nat.le_refl _) _).alloc (by simp) _))).mono ?_; rintro e w2 ⟨rfl, rfl⟩))
      go_region
      have hw := ((Blk.new w 35 #[.int .i64 7, .int .u64 0, .slice A 0 0]).alloc (.cells #[.int .i64 7, .int .u64 0, .slice A 0 0] 35)).drew
      have hbl : Below w.heap.size w ((w.alloc (.cells #[.int .i64 7, .int .u64 0, .slice A 0 0] 35)).alloc (.cells #[.int .i64 7, .int .u64 0, .slice A 0 0] 35)).drew := (((Below.refl _ _).alloc (Nat.le_refl _) _).alloc (by simp) _).drew
      have HW := hid hw; have HBL := hid hbl
      clear hw hbl
      go_wp2
      refine bodyPost_ret (results_take Try.results18 _ _ w.heap.size 35 #[.int .i64 7, .int .u64 0, .slice A 0 0] (0, 0) _ rfl HW.out Try.underlying35 rfl (by kernel_rfl)) rfl ?_
      unfold RTakePost
      have hc2 := HC2.out
      have hc3 := HC3.out
      simp only [if_true] at hc2 hc3
      refine ⟨HBL.out, .inr ⟨0, (b.drop 2).take 0, b.drop (2 + 0), A, 0, A, 0, HT.out, ?_, hc2, hc3, ?_⟩⟩
      · rw [HLD.out, HY.out]; rfl
      · rw [HLD.out]; omega
    · by_cases hcd : c = 2 + v
      · subst hcd
        go_enter Try.func18, Try.ntmps18
        go_wp2_with (first
          | (go_at_call 22; refine (Size_7 _).mono ?_; rintro e w2 ⟨rfl, rfl⟩)
          | (go_at_call 41; refine (HV.out _ ((HR.out.take 2).below (((Below.refl _ _).alloc (Nat.le_refl _) _).alloc (by simp) _))).mono ?_; rintro e w2 ⟨rfl, rfl⟩))
        go_region
        have hw := ((Blk.new w 35 #[.int .i64 7, .int .u64 0, .slice (A.map fun x : Addr => (⟨x.block, x.off + 2, none⟩ : Addr)) v v]).alloc (.cells #[.int .i64 7, .int .u64 0, .slice (A.map fun x : Addr => (⟨x.block, x.off + 2, none⟩ : Addr)) v v] 35)).drew
        have hbl : Below w.heap.size w ((w.alloc (.cells #[.int .i64 7, .int .u64 0, .slice (A.map fun x : Addr => (⟨x.block, x.off + 2, none⟩ : Addr)) v v] 35)).alloc (.cells #[.int .i64 7, .int .u64 0, .slice (A.map fun x : Addr => (⟨x.block, x.off + 2, none⟩ : Addr)) v v] 35)).drew := (((Below.refl _ _).alloc (Nat.le_refl _) _).alloc (by simp) _).drew
        have HW := hid hw; have HBL := hid hbl
        clear hw hbl
        go_wp2
        refine bodyPost_ret (results_take Try.results18 _ _ w.heap.size 35 #[.int .i64 7, .int .u64 0, .slice (A.map fun x : Addr => (⟨x.block, x.off + 2, none⟩ : Addr)) v v] (0, 0) _ rfl HW.out Try.underlying35 rfl (by kernel_rfl)) rfl ?_
        unfold RTakePost
        have hc2 := HC2.out
        have hc3 := HC3.out
        rw [if_neg hcc, add2_fun] at hc2
        simp only [if_true] at hc3
        refine ⟨HBL.out, .inr ⟨0, (b.drop 2).take v, b.drop (2 + v), (A.map fun x : Addr => (⟨x.block, x.off + 2, none⟩ : Addr)), v, A, (2 + v - (2 + v)), HT.out, ?_, hc2, hc3, ?_⟩⟩
        · rw [HLD.out, HY.out]; rfl
        · rw [HLD.out]; omega
      · go_enter Try.func18, Try.ntmps18
        go_wp2_with (first
          | (go_at_call 22; refine (Size_7 _).mono ?_; rintro e w2 ⟨rfl, rfl⟩)
          | (go_at_call 41; refine (HV.out _ ((HR.out.take 2).below (((Below.refl _ _).alloc (Nat.le_refl _) _).alloc (by simp) _))).mono ?_; rintro e w2 ⟨rfl, rfl⟩))
        go_region
        have hw := ((Blk.new w 35 #[.int .i64 7, .int .u64 0, .slice (A.map fun x : Addr => (⟨x.block, x.off + 2, none⟩ : Addr)) v (c - 2)]).alloc (.cells #[.int .i64 7, .int .u64 0, .slice (A.map fun x : Addr => (⟨x.block, x.off + 2, none⟩ : Addr)) v (c - 2)] 35)).drew
        have hbl : Below w.heap.size w ((w.alloc (.cells #[.int .i64 7, .int .u64 0, .slice (A.map fun x : Addr => (⟨x.block, x.off + 2, none⟩ : Addr)) v (c - 2)] 35)).alloc (.cells #[.int .i64 7, .int .u64 0, .slice (A.map fun x : Addr => (⟨x.block, x.off + 2, none⟩ : Addr)) v (c - 2)] 35)).drew := (((Below.refl _ _).alloc (Nat.le_refl _) _).alloc (by simp) _).drew
        have HW := hid hw; have HBL := hid hbl
        clear hw hbl
        go_wp2
        refine bodyPost_ret (results_take Try.results18 _ _ w.heap.size 35 #[.int .i64 7, .int .u64 0, .slice (A.map fun x : Addr => (⟨x.block, x.off + 2, none⟩ : Addr)) v (c - 2)] (0, 0) _ rfl HW.out Try.underlying35 rfl (by kernel_rfl)) rfl ?_
        unfold RTakePost
        have hc2 := HC2.out
        have hc3 := HC3.out
        rw [if_neg hcc, add2_fun] at hc2
        rw [if_neg hcd] at hc3
        refine ⟨HBL.out, .inr ⟨0, (b.drop 2).take v, b.drop (2 + v), (A.map fun x : Addr => (⟨x.block, x.off + 2, none⟩ : Addr)), (c - 2), (A.map (·.add (2 + v))), (c - (2 + v)), HT.out, ?_, hc2, hc3, ?_⟩⟩
        · rw [HLD.out, HY.out]; rfl
        · rw [HLD.out]; omega
end Go.Proofs.Ytmdclicomneomaa
