/-
  What is proved here: writes that are kept whole are there, in order; those of which nothing is kept are as if they had not been.
-/
import Derived.Test.YthdnpakppjipfaaDvZ
import Derived.Test.YthdnpakppjipfaaDvFuse
import Derived.Test.YthdnpakppjipfaaDSame
import Derived.Deep.DeepCutAuto
import Derived.Deep.RegionLaw
namespace Go.Proofs.Ythdnpakppjipfaa
open Go.ChangeShapes Go.WideShapes Go.ChangeAt Go.RowKit
set_option linter.unusedVariables false
set_option linter.unusedSimpArgs false
set_option maxRecDepth 20000

def i64s (l : List Int) : List Value := l.map (Value.int .i64)
abbrev z12 : List (List Int) := List.replicate 12 zpg
structure WhI (n0 b1 b2 ba : Nat) (xs : List Int) (v : Int) (k : Nat) (A : Option Addr) (c : Nat) (w w' : World) : Prop where
  d : D2 n0 w' b1 z12 (qs xs v k) b2 z12 (qs xs v k)
  a : Blk w' ba 53 (u8s (lst (qs xs v k))).toArray
  r : w'.ownsRow n0 3 1 (.slice A k c) k (i64s (List.replicate k 128))
  bl : Below n0 w w'
theorem new_two (w : World) : Calls Try.prog 10 #[.int .i64 12] w fun e w' => ∃ b, e = .returned (.tuple #[.pointer (some ⟨b, 0, none⟩), .int .i64 0]) ∧ DAt w' (fun k => w.heap.size ≤ k ∧ k < w'.heap.size) b z12 [] (-1) false ∧ Below w.heap.size w w' :=
  (dNew_ok 12 w (by decide)).mono fun e w' ⟨he, h1, h2, h3⟩ => ⟨_, he, h1.mono (fun k hk => ⟨hk.1, by rw [h3]; exact hk.2⟩), h2⟩
theorem set_cell_t {w : World} {a : Addr} {u : Value} {k : Nat} (h : k ≠ a.block) : (w.setCell a u).heap[k]? = w.heap[k]? := Below.heap_setCell w a u k h
theorem own_ne_t {w : World} {base e size n g : Nat} {t : TypeId} {v : Value} {xs : List Value} {cs : Array Value} (h : w.ownsRow base e size v n xs) (hb : Blk w g t cs) (hne : t ≠ e) : v.ownBlock ≠ some g := fun h1 => by
  rcases h.2 with ⟨rfl, _⟩ | ⟨k, cap, cur, rfl, _, hh, _⟩
  · cases h1
  · injection h1 with h1
    have e' : k = g := h1
    subst e'
    exact hb.ne (show Blk w k e cur from hh) hne rfl
theorem ip_of_own {w : World} {base k c : Nat} {A : Option Addr} {l : List Int} (h : w.ownsRow base 3 1 (.slice A k c) k (i64s l)) : Ip w A l := fun hx => by
  have hl := h.1
  unfold i64s at hl
  rw [List.length_map, Nat.mul_one] at hl
  rcases h.2 with ⟨_, h0⟩ | ⟨g, cap, cur, hv, _, hh, hnc, _, hcs, htk⟩
  · omega
  · injection hv with hA
    refine ⟨_, hA, fun j hj => ?_⟩
    have e : cur[j]? = (i64s l)[j]? := by rw [← htk, List.getElem?_take, if_pos (by omega), Array.getElem?_toList]
    rw [Addr.add_lit, Nat.zero_add, (show Blk w g 3 cur from hh).cell, e]
    unfold i64s
    rw [List.getElem?_map, List.getElem?_eq_getElem hj]; rfl
theorem int_of_own {w : World} {base k c : Nat} {A : Option Addr} {l : List Value} (h : w.ownsRow base 3 1 (.slice A k c) k l) : ∀ a, A = some a → ∃ cs, Blk w a.block 3 cs := fun a ha => by
  rcases h.2 with ⟨h1, _⟩ | ⟨g, cap, cur, hv, _, hh, _⟩
  · injection h1 with h1; rw [h1] at ha; cases ha
  · injection hv with hA
    rw [hA] at ha
    injection ha with ha
    subst ha
    exact ⟨cur, hh⟩
theorem keep_rep {n j : Nat} (h : j < n) : keep (List.replicate n 128) j = 128 := by unfold keep; rw [List.getElem?_replicate, if_pos h]; rfl
theorem keep_nil (j : Nat) : keep [] j = 0 := rfl
theorem D2.qok {n0 : Nat} {w : World} {b1 b2 : Nat} {L1 L2 : List (List Int)} {Q1 Q2 : List Wr} (h : D2 n0 w b1 L1 Q1 b2 L2 Q2) : PgOk L1 ∧ QOk L1.length Q1 := by
  obtain ⟨R1, R2, h1, _⟩ := h
  exact ⟨h1.ok.1, h1.ok.2.1⟩
theorem cell_bel {w w' : World} {p : Addr} {v : Value} (hb : Below w.heap.size w w') (h : w.cell? p = some v) : w'.cell? p = some v := (hb.cell (block_lt_of_cell h)).trans h
theorem one_int (u : World) : ∀ j x, [Value.int .i64 128][j]? = some x → (u.alloc (.cells #[.int .i64 128] 3)).cell? ((⟨u.heap.size, 0, none⟩ : Addr).add j) = some x := by
  intro j x h
  match j, h with
  | 0, h => rw [Addr.add_lit, (Blk.new u 3 #[.int .i64 128]).cell]; exact h
  | j + 1, h => simp at h
theorem info_int1 : (Try.prog.info? 3).map (fun i => (i.zero, i.size, i.bytes)) = some (some (.int .i64 0), 1, 8) := by kernel_rfl
set_option maxHeartbeats 8000000 in
theorem dwhole_60 (A : Option Addr) (n c : Nat) (xs : List Int) (v : Int) (w : World) (hin : InB w A n c xs) (hv : 0 ≤ v ∧ v ≤ 255) (hn : n ≤ 60) : Calls Try.prog 6 #[.slice A n c, .int .u8 v] w fun e w' => e = .returned (.bool true) ∧ Below w.heap.size w w' := by
  obtain ⟨hlen, _, hbs, hrp⟩ := hin
  obtain ⟨zb, HZB, hmk⟩ := make_128
  obtain ⟨n0, hn0⟩ : ∃ n0, n0 = w.heap.size := ⟨_, rfl⟩
  rw [← hn0]
  have HN0 := hid hn0
  have HL := hid hlen; have HB := hid hbs; have HR := hid hrp; have HN := hid hn
  have hn2 : (n : Int) ≤ 60 := by omega
  have tok1 : True := trivial
  clear hlen hbs hrp hn0 hn
  go_enter Try.func6, Try.ntmps6
  go_wp2_with (first
    | (go_at_call 8; refine (dawake_any _).mono ?_; rintro e w1 ⟨rfl, hb⟩; have B1 := hid (hb.mono (Nat.le_of_eq HN0.out)); have S1 : Hid (n0 ≤ w1.heap.size) := Nat.le_trans (Nat.le_of_eq HN0.out) hb.size; clear hb)
    | (go_at_call 10; have _t := tok1; refine (new_two _).mono ?_; rintro e w2 ⟨b1, rfl, hd, hb⟩; have D1 := hid hd; have B2 := hid (B1.out.trans (hb.mono S1.out)); have S2 : Hid (n0 ≤ w2.heap.size) := Nat.le_trans S1.out hb.size; clear tok1 hb hd)
    | (go_at_call 10; refine (new_two _).mono ?_; rintro e w3 ⟨b2, rfl, hd, hb⟩; have D3 : Hid (D2 n0 w3 b1 z12 [] b2 z12 []) := D2.new D1.out (fun k hk => ⟨Nat.le_trans S1.out hk.1, hk.2⟩) hd (fun k hk => hk) hb S2.out; have B3 := hid (B2.out.trans (hb.mono S2.out)); have S3 : Hid (n0 ≤ w3.heap.size) := Nat.le_trans S2.out hb.size; clear hb hd))
  have I0 : Hid (WhI n0 b1 b2 w3.heap.size xs v 0 none 0 w (w3.alloc (.cells #[.int .u8 0, .int .u8 0, .int .u8 0, .int .u8 0, .int .u8 0, .int .u8 0, .int .u8 0, .int .u8 0, .int .u8 0, .int .u8 0, .int .u8 0, .int .u8 0] 53))) :=
    ⟨D3.out.below ((Below.refl _ _).alloc (Nat.le_refl _) _), Blk.new w3 53 _, ⟨rfl, .inl ⟨rfl, rfl⟩⟩, B3.out.alloc S3.out _⟩
  generalize w3.alloc (.cells #[.int .u8 0, .int .u8 0, .int .u8 0, .int .u8 0, .int .u8 0, .int .u8 0, .int .u8 0, .int .u8 0, .int .u8 0, .int .u8 0, .int .u8 0, .int .u8 0] 53) = w4 at I0 ⊢
  obtain ⟨ba, hba⟩ : ∃ ba, ba = w3.heap.size := ⟨_, rfl⟩
  rw [← hba] at I0 ⊢
  have LB : Hid (n0 ≤ ba) := by show _ ≤ _; rw [hba]; exact S3.out
  clear hba D1 D3 B1 B2 B3 S1 S2 S3
  go_loopw [10, 11] (fun wh i wr => ∃ (k : Nat) (A : Option Addr) (c : Nat), k ≤ n ∧ i = .int .i64 k ∧ wh = .slice A k c ∧ Hid (WhI n0 b1 b2 ba xs v k A c w wr)) (fun _ i _ => n - (intOf i).toNat)
  case atStart => exact ⟨0, none, 0, Nat.zero_le _, rfl, rfl, I0.out⟩
  case round =>
    obtain ⟨k, A1, c1, hk, rfl, rfl, HI⟩ := hrel
    clear I0
    by_cases hlt : k < n
    · obtain ⟨ad, rfl, hcell⟩ := (HR.out.belowN (by have := HI.out.bl; rwa [HN0.out] at this)).get (by rw [HL.out]; omega)
      have hck := hcell k (by rw [HL.out]; exact hlt)
      have hbk := HB.out.at k
      obtain ⟨x, hx⟩ : ∃ x, x = xs[k]?.getD 0 := ⟨_, rfl⟩
      rw [← hx] at hck hbk
      obtain ⟨a, ha⟩ : ∃ a : Nat, a = (x % 12).toNat := ⟨_, rfl⟩
      have hxa : x % 12 = (a : Int) := by omega
      have hxt : Int.tmod x 12 = (a : Int) := by rw [Int.tmod_eq_emod_of_nonneg hbk.1]; exact hxa
      have ha12 : (a : Int) < 12 := by omega
      have ha0 : 0 ≤ (a : Int) := by omega
      obtain ⟨u, hu⟩ : ∃ u, u = (v + (k : Nat)) % 256 := ⟨_, rfl⟩
      have hk60 : (k : Int) < 60 := by have := HN.out; omega
      have HQ : Hid (qs xs v (k + 1) = qs xs v k ++ [(a, pgv u)]) := by show _ = _; rw [ha, hx, hu]; rfl
      have hwk : IntKind.u8.wrap (k : Int) = (k : Int) := by simp [IntKind.wrap, IntKind.bits, IntKind.signed]; omega
      have hwu : IntKind.u8.wrap (v + (k : Int)) = u := by simp [IntKind.wrap, IntKind.bits, IntKind.signed]; omega
      obtain ⟨x0, x1⟩ := hbk
      have hk2 : (k : Int) < n := by omega
      have hz127 : zb[127]? = some (.int .u8 0) := by rw [HZB.out, List.getElem?_toArray]; exact zpg_at 127 (by omega)
      clear hcell hx ha hu hlt
      go_upto_region 12 with (fail)
      have hbl := HI.out.bl
      have S4 : Hid (n0 ≤ wr.heap.size) := Nat.le_trans (Nat.le_of_eq HN0.out) hbl.size
      have B5 : Below wr.heap.size wr (wr.alloc (.cells zb 5)) := (Below.refl _ _).alloc (Nat.le_refl _) _
      have KG := hid (Blk.new wr 5 zb)
      have HD := hid (HI.out.d.below B5)
      have HA : Hid (Blk (wr.alloc (.cells zb 5)) ba 53 (u8s (lst (qs xs v k))).toArray) := HI.out.a.alloc _
      have HW : Hid ((wr.alloc (.cells zb 5)).ownsRow n0 3 1 (.slice A1 k c1) k (i64s (List.replicate k 128))) := HI.out.r.alloc _
      have BL : Hid (Below n0 w (wr.alloc (.cells zb 5))) := hbl.alloc S4.out _
      have c127 : (wr.alloc (.cells zb 5)).cell? ⟨wr.heap.size, 127, none⟩ = some (.int .u8 0) := by rw [KG.out.cell]; exact hz127
      have f127 := KG.out.frozen 127
      generalize wr.alloc (.cells zb 5) = w5 at KG HD HA HW BL c127 f127 ⊢
      obtain ⟨gb, hgb⟩ : ∃ gb, gb = wr.heap.size := ⟨_, rfl⟩
      rw [← hgb] at KG c127 f127 S4 ⊢
      have HZ := hid hz127
      clear hbl B5 hz127 HI hgb
      go_upto_region 13 with (fail)
      have KG6 : Hid (Blk (w5.setCell ⟨gb, 127, none⟩ (.int .u8 u)) gb 5 (u8s (pgv u)).toArray) := by
        have := KG.out.setd 127 (.int .u8 u)
        rw [HZB.out] at this
        have e : (u8s zpg).toArray.setIfInBounds 127 (.int .u8 u) = (u8s (pgv u)).toArray := by unfold pgv u8s; simp [List.map_set]
        rwa [e] at this
      have HD6 : Hid (D2 n0 (w5.setCell ⟨gb, 127, none⟩ (.int .u8 u)) b1 z12 (qs xs v k) b2 z12 (qs xs v k)) := HD.out.typed (by simp [World.setCell]) (fun j t cs hj ht => set_cell_t (fun e => ht (by
        have e : j = gb := e
        subst e
        obtain ⟨rfl, _⟩ := hj.inj KG.out
        decide)))
      have HA6 : Hid (Blk (w5.setCell ⟨gb, 127, none⟩ (.int .u8 u)) ba 53 (u8s (lst (qs xs v k))).toArray) := HA.out.far (HA.out.ne KG.out (by decide)) _
      have HW6 : Hid ((w5.setCell ⟨gb, 127, none⟩ (.int .u8 u)).ownsRow n0 3 1 (.slice A1 k c1) k (i64s (List.replicate k 128))) := own_same HW.out (fun j _ hj => set_cell_t (fun e => own_ne_t HW.out KG.out (by decide) (by rw [hj]; congr 1)))
      have BL6 : Hid (Below n0 w (w5.setCell ⟨gb, 127, none⟩ (.int .u8 u))) := BL.out.setCell S4.out _
      have LL : Hid ((lst (qs xs v k)).length = 12) := lst_len _
      have c6 : (w5.setCell ⟨gb, 127, none⟩ (.int .u8 u)).cell? ⟨gb, 127, none⟩ = some (.int .u8 u) := by rw [KG6.out.cell, List.getElem?_toArray, u8s_get _ _ (by rw [pgv_len]; omega)]; rfl
      have a6 : (w5.setCell ⟨gb, 127, none⟩ (.int .u8 u)).cell? ⟨ba, a, none⟩ = some (.int .u8 ((lst (qs xs v k))[a]?.getD 0)) := by rw [HA6.out.cell, List.getElem?_toArray, u8s_get _ _ (by rw [LL.out]; omega)]
      have fa6 := HA6.out.frozen a
      generalize w5.setCell ⟨gb, 127, none⟩ (.int .u8 u) = w6 at KG6 HD6 HA6 HW6 BL6 c6 a6 fa6 ⊢
      clear KG HD HA HW BL c127 f127
      go_upto_region 14 with (fail)
      have KG7 : Hid (Blk (w6.setCell ⟨ba, a, none⟩ (.int .u8 u)) gb 5 (u8s (pgv u)).toArray) := KG6.out.far (KG6.out.ne HA6.out (by decide)) _
      have HD7 : Hid (D2 n0 (w6.setCell ⟨ba, a, none⟩ (.int .u8 u)) b1 z12 (qs xs v k) b2 z12 (qs xs v k)) := HD6.out.typed (by simp [World.setCell]) (fun j t cs hj ht => set_cell_t (fun e => ht (by
        have e : j = ba := e
        subst e
        obtain ⟨rfl, _⟩ := hj.inj HA6.out
        decide)))
      have HA7 : Hid (Blk (w6.setCell ⟨ba, a, none⟩ (.int .u8 u)) ba 53 (u8s (lst (qs xs v (k + 1)))).toArray) := by
        have := HA6.out.setd a (.int .u8 u)
        have e : (u8s (lst (qs xs v k))).toArray.setIfInBounds a (.int .u8 u) = (u8s (lst (qs xs v (k + 1)))).toArray := by
          rw [HQ.out, lst_snoc, show last (pgv u) = u from rfl]; unfold u8s; simp [List.map_set]
        rwa [e] at this
      have HW7 : Hid ((w6.setCell ⟨ba, a, none⟩ (.int .u8 u)).ownsRow n0 3 1 (.slice A1 k c1) k (i64s (List.replicate k 128))) := own_same HW6.out (fun j _ hj => set_cell_t (fun e => own_ne_t HW6.out HA6.out (by decide) (by rw [hj]; congr 1)))
      have LBA : Hid (n0 ≤ ba) := LB.out
      have BL7 : Hid (Below n0 w (w6.setCell ⟨ba, a, none⟩ (.int .u8 u))) := BL6.out.setCell LBA.out _
      generalize w6.setCell ⟨ba, a, none⟩ (.int .u8 u) = w7 at KG7 HD7 HA7 HW7 BL7 ⊢
      clear KG6 HD6 HA6 HW6 BL6 c6 a6 fa6
      obtain ⟨i0, hi, hz0, hz1, hz2⟩ := info_parts info_int1
      have HK : Hid (k < 60) := by show _ < _; omega
      have S7 : Hid (n0 ≤ w7.heap.size) := Nat.le_trans (Nat.le_of_eq HN0.out) BL7.out.size
      go_upto_region 15 with (at_builtin; refine wpList_append_own _ rfl (.tmp 59) (.tmp 60) 35 rfl n0 3 i0 (.int .i64 0) 1 8 Try.underlying35 hi hz0 hz1 hz2 rfl (by decide) (.slice A1 k c1) k (i64s (List.replicate k 128)) rfl (HW7.out.alloc _) ⟨w7.heap.size, 0, none⟩ 1 1 [.int .i64 128] rfl rfl (one_int _) (fun u hu => by rw [List.mem_singleton.1 hu]; rfl) (by have := HK.out; unfold maxLen; omega) (by have := HK.out; omega) (Nat.le_trans S7.out (by simp)) ?_; intro v9 w9 ow9 gr9 _; obtain ⟨A9, c9, rfl⟩ := slice_of ow9; have OW9 := hid ow9; have GR9 := hid gr9; clear ow9 gr9)
      have B8 : Below w7.heap.size w7 (w7.alloc (.cells #[.int .i64 128] 3)) := (Below.refl _ _).alloc (Nat.le_refl _) _
      have OWA : Hid ((w7.alloc (.cells #[.int .i64 128] 3)).ownsRow n0 3 1 (.slice A1 k c1) k (i64s (List.replicate k 128))) := HW7.out.alloc _
      have SZ9 : Hid (w7.heap.size ≤ w9.heap.size) := Nat.le_trans B8.size GR9.out.size
      have SM : Hid (∀ j t cs, Blk w7 j t cs → t ≠ 3 → w9.heap[j]? = w7.heap[j]?) := fun j t cs hj ht =>
        (GR9.out.block j (Nat.lt_of_lt_of_le hj.lt B8.size) (fun e => own_ne_t OWA.out (hj.same (B8.block j hj.lt)) ht e.symm)).trans (B8.block j hj.lt)
      have KG9 : Hid (Blk w9 gb 5 (u8s (pgv u)).toArray) := KG7.out.same (SM.out _ _ _ KG7.out (by decide))
      have HD9 : Hid (D2 n0 w9 b1 z12 (qs xs v k) b2 z12 (qs xs v k)) := HD7.out.typed SZ9.out (fun j t cs hj ht => SM.out j t cs hj (fun e => ht (by rw [e]; decide)))
      have HA9 : Hid (Blk w9 ba 53 (u8s (lst (qs xs v (k + 1)))).toArray) := HA7.out.same (SM.out _ _ _ HA7.out (by decide))
      have HW9 : Hid (w9.ownsRow n0 3 1 (.slice A9 (k + 1) c9) (k + 1) (i64s (List.replicate (k + 1) 128))) := by
        have e : i64s (List.replicate (k + 1) 128) = i64s (List.replicate k 128) ++ [.int .i64 128] := by unfold i64s; rw [List.replicate_succ', List.map_append]; rfl
        show World.ownsRow _ _ _ _ _ _ _
        rw [e]; exact OW9.out
      have BL9 : Hid (Below n0 w w9) := (BL7.out.alloc S7.out _).grown GR9.out (Nat.le_trans S7.out (by simp)) (fun b hb => (OWA.out.lt b hb).1)
      have S9 : Hid (n0 ≤ w9.heap.size) := Nat.le_trans S7.out SZ9.out
      have HQL : Hid ((qs xs v k).length < 1000000) := by show _ < _; rw [qs_len]; have := HK.out; omega
      have HA12 : Hid (a < 12) := by show _ < _; omega
      have tok2 : True := trivial
      clear KG7 HD7 HA7 HW7 BL7 OW9 GR9 B8 OWA SZ9 SM S7 hi hz0 hz1 hz2
      go_wp2_with (first
        | (go_at_call 22; have _t := tok2; refine (HD9.out.write S9.out a HA12.out gb 128 (pgv u) (pgv_len u) KG9.out HQL.out).mono ?_; rintro e w10 ⟨rfl, hd, hk, hb⟩; have HD10 := hid hd.swap; have KT10 := hid hk; have BL10 := hid (BL9.out.trans hb); have KG10 := hid (hk.blk KG9.out (by decide)); have S10 : Hid (n0 ≤ w10.heap.size) := Nat.le_trans S9.out hk.sz; clear hd hk hb tok2)
        | (go_at_call 22; refine (HD10.out.write S10.out a HA12.out gb 128 (pgv u) (pgv_len u) KG10.out HQL.out).mono ?_; rintro e w11 ⟨rfl, hd, hk, hb⟩; have HD11 := hid hd.swap; have KT11 := hid (KT10.out.trans hk); have BL11 := hid (BL10.out.trans hb); clear hd hk hb))
      go_roundw
      case rel =>
        refine ⟨k + 1, A9, c9, by omega, by go_num, rfl, ?_, KT11.out.blk HA9.out (by decide), KT11.out.own HW9.out (by decide), BL11.out⟩
        have := HD11.out
        rwa [← HQ.out] at this
      case measure => simp [intOf]; omega
    · obtain rfl : k = n := by omega
      have HI' := HI
      have HAX := hid HI.out.a; have HWX := hid HI.out.r; have BLX := hid HI.out.bl; have HDX := hid HI.out.d
      have S4 : Hid (n0 ≤ wr.heap.size) := Nat.le_trans (Nat.le_of_eq HN0.out) BLX.out.size
      have QOK := hid HDX.out.qok
      have HQL : Hid ((qs xs v k).length < 1000000) := by show _ < _; rw [qs_len]; have := HN.out; omega
      have CX1 : Hid (Calls Try.prog 20 #[.pointer (some ⟨b1, 0, none⟩), .slice A1 k c1] wr fun e w' => e = .returned (.tuple #[]) ∧ D2 n0 w' b1 (pg z12 (qs xs v k)) [] b2 z12 (qs xs v k) ∧ Kt wr w' ∧ Below n0 wr w') := by
        have := HDX.out.restart S4.out A1 c1 (List.replicate k 128) (ip_of_own HWX.out) (int_of_own HWX.out) (by rw [List.length_replicate]; have := HN.out; omega) HQL.out
        rw [List.length_replicate] at this
        rwa [mixs_whole QOK.out.1 QOK.out.2 _ (Nat.le_refl _) (fun j hj => keep_rep (by rwa [qs_len] at hj)), List.take_length] at this
      have hlen12 : Hid (∀ Q, (pg z12 Q).length = 12) := fun Q => by rw [pg_length]; rfl
      have tok2 : True := trivial
      clear HI HI' HWX HDX hn2
      go_wp2_with (first
        | (go_at_call 20; have _t := tok2; refine CX1.out.mono ?_; rintro e w10 ⟨rfl, hd, hk, hb⟩; have HD10 := hid hd.swap; have HA10 := hid (hk.blk HAX.out (by decide)); have BL10 := hid (BLX.out.trans hb); have S10 : Hid (n0 ≤ w10.heap.size) := Nat.le_trans S4.out hk.sz; clear hd hk hb tok2)
        | (go_at_call 20; refine (HD10.out.restart S10.out none 0 [] (Ip.nil _ _) (fun a ha => by cases ha) (by decide) HQL.out).mono ?_; rintro e w11 ⟨rfl, hd, hk, hb⟩; rw [mixs_none QOK.out.2 keep_nil] at hd; have HD11 := hid hd.swap; have HA11 := hid (hk.blk HA10.out (by decide)); have BL11 := hid (BL10.out.trans hb); have S11 : Hid (n0 ≤ w11.heap.size) := Nat.le_trans S10.out hk.sz; clear hd hk hb))
      obtain ⟨P, hP⟩ : ∃ P, P = pg z12 (qs xs v k) := ⟨_, rfl⟩
      have HPE := hid hP
      have HPL : Hid (P.length = 12) := by show _ = _; rw [hP]; exact hlen12.out _
      have HPO : Hid (PgOk P) := by show PgOk _; rw [hP]; exact pg_ok _ _ QOK.out.1 QOK.out.2
      rw [← hP] at HD11
      clear hP
      go_loopw [14] (fun i wr => ∃ j : Nat, j ≤ 12 ∧ i = .int .i64 j ∧ Hid (D2 n0 wr b1 P [] b2 z12 []) ∧ Hid (Blk wr ba 53 (u8s (lst (qs xs v k))).toArray) ∧ Hid (Below n0 w wr)) (fun i _ => 12 - (intOf i).toNat)
      case atStart => exact ⟨0, Nat.zero_le _, rfl, HD11.out, HA11.out, BL11.out⟩
      case round =>
        obtain ⟨j, hj, rfl, HD, HA, BL⟩ := hrel
        clear HD11 HA11 BL11 HD10 HA10 BL10 HAX BLX
        by_cases hj12 : j < 12
        · have hj2 : (j : Int) < 12 := by omega
          have CR1 : Hid (∀ w', Below wr.heap.size wr w' → Calls Try.prog 18 #[.pointer (some ⟨b1, 0, none⟩), .int .i64 j] w' (ReadAns w' (P[j]?.getD []))) := fun w' hb => (HD.out.below hb).read j (by rw [HPL.out]; exact hj12)
          have CR2 : Hid (∀ w', Below wr.heap.size wr w' → Calls Try.prog 18 #[.pointer (some ⟨b2, 0, none⟩), .int .i64 j] w' (ReadAns w' zpg)) := fun w' hb => by
            have := (HD.out.below hb).swap.read j (by simpa using hj12)
            have e : (pg z12 [])[j]?.getD [] = zpg := by show z12[j]?.getD [] = zpg; rw [List.getElem?_replicate, if_pos hj12]; rfl
            rwa [e] at this
          obtain ⟨X, hX⟩ : ∃ X, X = P[j]?.getD [] := ⟨_, rfl⟩
          have HXL : Hid (X.length = 128) := by show _ = _; rw [hX]; exact HPO.out.at (by rw [HPL.out]; exact hj12)
          obtain ⟨y, hy⟩ : ∃ y, y = (lst (qs xs v k))[j]?.getD 0 := ⟨_, rfl⟩
          have HXY : Hid (X[127]?.getD 0 = y) := by
            show last X = y
            rw [hX, hy, HPE.out]; exact last_at _ _ hj12
          have ca : wr.cell? ⟨ba, j, none⟩ = some (.int .u8 y) := by rw [HA.out.cell, List.getElem?_toArray, u8s_get _ _ (by rw [lst_len]; exact hj12), hy]
          have CA := hid ca
          rw [← hX] at CR1
          have SY : Hid (n0 ≤ wr.heap.size) := Nat.le_trans (Nat.le_of_eq HN0.out) BL.out.size
          have tok3 : True := trivial
          clear hX hy ca hj12
          go_upto_region 24 with (first
            | (go_at_call 18; have _t := tok3; refine (CR1.out _ (Below.refl _ _)).mono ?_; rintro e wz ⟨AX, cX, rfl, hf, hb⟩; have FX := hid hf; have BZ := hid hb; clear tok3 hf hb)
            | (go_at_call 18; refine (CR2.out _ BZ.out).mono ?_; rintro e wq ⟨AY, cY, rfl, hf, hb⟩; have FY := hid hf; have FXQ := hid (FX.out.below hb); have BQ := hid (BZ.out.trans (hb.mono BZ.out.size)); clear hf hb))
          obtain ⟨gx, CX, rfl, _, hgx, hcx⟩ := FXQ.out (by rw [HXL.out]; decide)
          have FX127 : Hid (wq.cell? ⟨gx, 127, none⟩ = some (.int .u8 y)) := by
            show _ = _
            rw [hgx.cell, hcx 127 (by rw [HXL.out]; decide), HXY.out]
          have RY : Hid (Rp wq none AY zpg) := FY.out.rp (fun g _ _ ⟨a, e, _⟩ => by cases e)
          have CAQ : Hid (wq.cell? ⟨ba, j, none⟩ = some (.int .u8 y)) := (BQ.out.cell (block_lt_of_cell CA.out)).trans CA.out
          clear hgx hcx FX FXQ FY
          refine wp_region_held (S := fun w' => Hid (Below wq.heap.size wq w')) (by kernel_rfl) ?_
          change wpAnyH _ _ _ _ _ _ _ _ wq.drew
          have Gx0 : Hid (Below wq.heap.size wq wq.drew) := (Below.refl _ _).drew
          generalize wq.drew = x0 at Gx0  ⊢
          refine wpAnyH_take (i := 0) (oi := { dst := some 95, op := _, type := _, pos := _, after := _, guard := _ }) (v := ?_) rfl (by kernel_rfl) (by kernel_rfl) (by kernel_rfl) (fun _ _ _ h => h) (Or.inl ⟨by kernel_rfl, ?_⟩) Gx0 ?_
          rotate_left
          · (intro w hSw; go_simp; try with_reducible rfl)
          try simp only [Act.put, List.setIfInBounds_toArray, List.set_cons_zero, List.set_cons_succ]
          refine wpAnyH_take (i := 1) (oi := { dst := some 96, op := _, type := _, pos := _, after := _, guard := _ }) (v := ?_) rfl (by kernel_rfl) (by kernel_rfl) (by kernel_rfl) (fun _ _ _ h => h) (Or.inl ⟨by kernel_rfl, ?_⟩) Gx0 ?_
          rotate_left
          · (intro w hSw; go_simp; try with_reducible rfl)
          try simp only [Act.put, List.setIfInBounds_toArray, List.set_cons_zero, List.set_cons_succ]
          refine wpAnyH_take (i := 2) (oi := { dst := some 97, op := _, type := _, pos := _, after := _, guard := _ }) (v := ?_) rfl (by kernel_rfl) (by kernel_rfl) (by kernel_rfl) (fun _ _ _ h => h) (Or.inl ⟨by kernel_rfl, ?_⟩) Gx0 ?_
          rotate_left
          · (intro w hSw; go_simp; try with_reducible rfl)
          try simp only [Act.put, List.setIfInBounds_toArray, List.set_cons_zero, List.set_cons_succ]
          refine wpAnyH_take (i := 3) (oi := { dst := some 98, op := _, type := _, pos := _, after := _, guard := _ }) (v := ?_) rfl (by kernel_rfl) (by kernel_rfl) (by kernel_rfl) (fun _ _ _ h => h) (Or.inl ⟨by kernel_rfl, ?_⟩) Gx0 ?_
          rotate_left
          · (intro w hSw; go_simp; try with_reducible rfl)
          try simp only [Act.put, List.setIfInBounds_toArray, List.set_cons_zero, List.set_cons_succ]
          refine wpAnyH_take (i := 4) (oi := { dst := some 99, op := _, type := _, pos := _, after := _, guard := _ }) (v := ?_) rfl (by kernel_rfl) (by kernel_rfl) (by kernel_rfl) (fun _ _ _ h => h) (Or.inl ⟨by kernel_rfl, ?_⟩) Gx0 ?_
          rotate_left
          · (intro w hSw; go_simp; try with_reducible rfl)
          try simp only [Act.put, List.setIfInBounds_toArray, List.set_cons_zero, List.set_cons_succ]
          refine wpAnyH_take (i := 5) (oi := { dst := some 100, op := _, type := _, pos := _, after := _, guard := _ }) (v := ?_) rfl (by kernel_rfl) (by kernel_rfl) (by kernel_rfl) (fun _ _ _ h => h) (Or.inl ⟨by kernel_rfl, ?_⟩) Gx0 ?_
          rotate_left
          · (intro w hSw; go_simp; try with_reducible rfl)
          try simp only [Act.put, List.setIfInBounds_toArray, List.set_cons_zero, List.set_cons_succ]
          refine wpAnyH_take (i := 6) (oi := { dst := some 101, op := _, type := _, pos := _, after := _, guard := _ }) (v := ?_) rfl (by kernel_rfl) (by kernel_rfl) (by kernel_rfl) (fun _ _ _ h => h) (Or.inl ⟨by kernel_rfl, ?_⟩) Gx0 ?_
          rotate_left
          · (intro w hSw; have hc := cell_bel hSw.out FX127.out; go_simp; try with_reducible rfl)
          try simp only [Act.put, List.setIfInBounds_toArray, List.set_cons_zero, List.set_cons_succ]
          refine wpAnyH_take (i := 7) (oi := { dst := some 102, op := _, type := _, pos := _, after := _, guard := _ }) (v := ?_) rfl (by kernel_rfl) (by kernel_rfl) (by kernel_rfl) (fun _ _ _ h => h) (Or.inl ⟨by kernel_rfl, ?_⟩) Gx0 ?_
          rotate_left
          · (intro w hSw; go_simp; try with_reducible rfl)
          try simp only [Act.put, List.setIfInBounds_toArray, List.set_cons_zero, List.set_cons_succ]
          refine wpAnyH_take (i := 8) (oi := { dst := some 103, op := _, type := _, pos := _, after := _, guard := _ }) (v := ?_) rfl (by kernel_rfl) (by kernel_rfl) (by kernel_rfl) (fun _ _ _ h => h) (Or.inl ⟨by kernel_rfl, ?_⟩) Gx0 ?_
          rotate_left
          · (intro w hSw; go_simp; try with_reducible rfl)
          try simp only [Act.put, List.setIfInBounds_toArray, List.set_cons_zero, List.set_cons_succ]
          refine wpAnyH_take (i := 9) (oi := { dst := some 104, op := _, type := _, pos := _, after := _, guard := _ }) (v := ?_) rfl (by kernel_rfl) (by kernel_rfl) (by kernel_rfl) (fun _ _ _ h => h) (Or.inl ⟨by kernel_rfl, ?_⟩) Gx0 ?_
          rotate_left
          · (intro w hSw; have hc := cell_bel hSw.out CAQ.out; go_simp; try with_reducible rfl)
          try simp only [Act.put, List.setIfInBounds_toArray, List.set_cons_zero, List.set_cons_succ]
          refine wpAnyH_take (i := 10) (oi := { dst := some 105, op := _, type := _, pos := _, after := _, guard := _ }) (v := ?_) rfl (by kernel_rfl) (by kernel_rfl) (by kernel_rfl) (fun _ _ _ h => h) (Or.inl ⟨by kernel_rfl, ?_⟩) Gx0 ?_
          rotate_left
          · (intro w hSw; go_simp; try with_reducible rfl)
          try simp only [Act.put, List.setIfInBounds_toArray, List.set_cons_zero, List.set_cons_succ]
          refine wpAnyH_take (i := 11) (oi := { dst := some 106, op := _, type := _, pos := _, after := _, guard := _ }) (v := ?_) rfl (by kernel_rfl) (by kernel_rfl) (by kernel_rfl) (fun _ _ _ h => h) (Or.inl ⟨by kernel_rfl, ?_⟩) Gx0 ?_
          rotate_left
          · (intro w hSw; go_simp; try with_reducible rfl)
          try simp only [Act.put, List.setIfInBounds_toArray, List.set_cons_zero, List.set_cons_succ]
          refine wpAnyH_take (i := 12) (oi := { dst := some 107, op := _, type := _, pos := _, after := _, guard := _ }) (v := ?_) rfl (by kernel_rfl) (by kernel_rfl) (by kernel_rfl) (fun _ _ _ h => h) (Or.inl ⟨by kernel_rfl, ?_⟩) Gx0 ?_
          rotate_left
          · (intro w hSw; go_simp; try with_reducible rfl)
          try simp only [Act.put, List.setIfInBounds_toArray, List.set_cons_zero, List.set_cons_succ]
          refine wpAnyH_take (i := 13) (oi := { dst := some 108, op := _, type := _, pos := _, after := _, guard := _ }) (v := ?_) rfl (by kernel_rfl) (by kernel_rfl) (by kernel_rfl) (fun _ _ _ h => h) (Or.inl ⟨by kernel_rfl, ?_⟩) Gx0 ?_
          rotate_left
          · (intro w hSw; go_simp; try with_reducible rfl)
          try simp only [Act.put, List.setIfInBounds_toArray, List.set_cons_zero, List.set_cons_succ]
          refine wpAnyH_ready (rs := [14]) (by kernel_rfl) (by simp) ?_
          refine (AllReadyH.cons (o := { dst := some 109, op := _, type := _, pos := _, after := _, guard := _ }) rfl (fun Qc hQc => ?_) AllReadyH.nil)
          go_simp
          have Gx1 : Hid (Below wq.heap.size wq (x0.alloc (.cells zb 5))) := Gx0.out.alloc Gx0.out.size _
          have RZ : Hid (Rp (x0.alloc (.cells zb 5)) none (some ⟨x0.heap.size, 0, none⟩) zpg) := by show Rp _ _ _ _; rw [HZB.out]; exact zb_rp x0
          refine hQc.out _ _ Gx1 (fun hHeld => ?_)
          clear hQc Qc hHeld Gx0
          generalize x0.heap.size = gz at RZ ⊢
          generalize x0.alloc (.cells zb 5) = x1 at Gx1 RZ ⊢
          try simp only [Act.put, List.setIfInBounds_toArray, List.set_cons_zero, List.set_cons_succ]
          refine wpAnyH_ready (rs := [15]) (by kernel_rfl) (by simp) ?_
          refine (AllReadyH.cons (o := { dst := some 110, op := _, type := _, pos := _, after := _, guard := _ }) rfl (fun Qc hQc => ?_) AllReadyH.nil)
          go_simp
          go_at_call 15
          refine (Same_any AY (some ⟨gz, 0, none⟩) cY 128 zpg zpg _ (RY.out.belowN Gx1.out) RZ.out (by decide) (by decide)).mono ?_
          rintro e x2 ⟨rfl, hb⟩
          have Gx2 := hid (Gx1.out.trans (hb.mono Gx1.out.size))
          clear hb
          rw [show decide (zpg = zpg) = true from decide_eq_true rfl]
          go_wp2_with fail
          refine hQc.out _ _ Gx2 (fun hHeld => ?_)
          clear hQc Qc hHeld Gx1
          try simp only [Act.put, List.setIfInBounds_toArray, List.set_cons_zero, List.set_cons_succ]
          refine wpAnyH_take (i := 16) (oi := { dst := some 111, op := _, type := _, pos := _, after := _, guard := _ }) (v := ?_) rfl (by kernel_rfl) (by kernel_rfl) (by kernel_rfl) (fun _ _ _ h => h) (Or.inl ⟨by kernel_rfl, ?_⟩) Gx2 ?_
          rotate_left
          · (intro w hSw; go_simp; try with_reducible rfl)
          try simp only [Act.put, List.setIfInBounds_toArray, List.set_cons_zero, List.set_cons_succ]
          refine wpAnyH_take (i := 17) (oi := { dst := some 112, op := _, type := _, pos := _, after := _, guard := _ }) (v := ?_) rfl (by kernel_rfl) (by kernel_rfl) (by kernel_rfl) (fun _ _ _ h => h) (Or.inl ⟨by kernel_rfl, ?_⟩) Gx2 ?_
          rotate_left
          · (intro w hSw; go_simp; try with_reducible rfl)
          try simp only [Act.put, List.setIfInBounds_toArray, List.set_cons_zero, List.set_cons_succ]
          refine wpAnyH_done (by kernel_rfl) ?_ _
          try simp only [Act.put, List.setIfInBounds_toArray, List.set_cons_zero, List.set_cons_succ]
          go_wp2
          go_roundw
          case rel => exact ⟨j + 1, by omega, by go_num, HD.out.below (BQ.out.trans (Gx2.out.mono BQ.out.size)), HA.out.same ((BQ.out.trans (Gx2.out.mono BQ.out.size)).block _ HA.out.lt), BL.out.trans ((BQ.out.trans (Gx2.out.mono BQ.out.size)).mono SY.out)⟩
          case measure => simp [intOf]; omega
        · go_wp2
          go_ret
          exact ⟨rfl, BL.out⟩
theorem dwhole_walk (A : Option Addr) (n c : Nat) (xs : List Int) (v : Int) (w : World) (hin : InB w A n c xs) (hnc : n ≤ c) (hv : 0 ≤ v ∧ v ≤ 255) : Calls Try.prog 6 #[.slice A n c, .int .u8 v] w fun e w' => e = .returned (.bool true) ∧ Below w.heap.size w w' := by
  by_cases hn : n ≤ 60
  · exact dwhole_60 A n c xs v w hin hv hn
  · have hn2 : 60 < (n : Int) := by omega
    have tok1 : True := trivial
    clear hin hnc hv hn
    go_enter Try.func6, Try.ntmps6
    go_wp2_with (first
      | (go_at_call 8; have _t := tok1; refine (dawake_any _).mono ?_; rintro e w1 ⟨rfl, hb⟩; have B1 := hid hb; clear hb tok1)
      | (go_at_call 8; refine (dawake_any _).mono ?_; rintro e w2 ⟨rfl, hb⟩; have B2 := hid (B1.out.trans (hb.mono B1.out.size)); clear hb))
    go_ret
    exact ⟨rfl, B2.out⟩
end Go.Proofs.Ythdnpakppjipfaa
