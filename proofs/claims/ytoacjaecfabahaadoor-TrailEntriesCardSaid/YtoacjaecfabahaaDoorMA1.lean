/-
  What this file is for: the hash of the document as a function on words of 32 bits, and how the words' operations read in a walk. Nothing of the program is walked here.
-/
import Derived.WalkKit
import Derived.Test.YtoacjaecfabahaaDoorRows
import Derived.ProofKit
import Derived.OpenShut
import Derived.BigQuiet
import Derived.Deep.QuietTactic
import Derived.IntWalk
import Derived.WalkSpells
import Derived.Laws.CopyOwn
import Derived.Laws.AppendOwnNone
import Derived.StillTailTactics
import Derived.RegionTactic
import Derived.LoopTactic
import Derived.Outline
import Derived.Lib.SlBytesConst
import Derived.Lib.SmallJoins
set_option linter.unusedSimpArgs false
set_option linter.unusedVariables false
namespace Go.Proofs.YtoacjaecfabahaaDoor
open Go.RowKit
set_option linter.unusedVariables false

abbrev W32 := BitVec 32
/-- a word as the number that a walk shows -/
def u (x : W32) : Int := (x.toNat : Int)
theorem u_lo (x : W32) : 0 ≤ u x := by unfold u; omega
theorem u_hi (x : W32) : u x < 4294967296 := by unfold u; have := x.isLt; omega
theorem u_inj {x y : W32} (h : u x = u y) : x = y := by unfold u at h; exact BitVec.eq_of_toNat_eq (by omega)
def wd (n : Int) : W32 := BitVec.ofNat 32 n.toNat
theorem u_wd (n : Int) (h0 : 0 ≤ n) (h1 : n < 4294967296) : u (wd n) = n := by
  unfold u wd
  rw [BitVec.toNat_ofNat, Nat.mod_eq_of_lt (by omega)]; omega
theorem ofInt_u (x : W32) : BitVec.ofInt 32 (u x) = x := by
  unfold u; simp
theorem wrap_nat (x : W32) : IntKind.u32.wrap (x.toNat : Int) = u x := by
  unfold u
  have := x.isLt
  simp [IntKind.wrap, IntKind.bits, IntKind.signed]; omega
theorem u_xor (x y : W32) : bits .xor .u32 (u x) (u y) = u (x ^^^ y) := by
  show IntKind.u32.wrap ((BitVec.ofInt 32 (u x) ^^^ BitVec.ofInt 32 (u y)).toNat : Int) = _
  rw [ofInt_u, ofInt_u, wrap_nat]
theorem u_and (x y : W32) : bits .and .u32 (u x) (u y) = u (x &&& y) := by
  show IntKind.u32.wrap ((BitVec.ofInt 32 (u x) &&& BitVec.ofInt 32 (u y)).toNat : Int) = _
  rw [ofInt_u, ofInt_u, wrap_nat]
theorem u_or (x y : W32) : bits .or .u32 (u x) (u y) = u (x ||| y) := by
  show IntKind.u32.wrap ((BitVec.ofInt 32 (u x) ||| BitVec.ofInt 32 (u y)).toNat : Int) = _
  rw [ofInt_u, ofInt_u, wrap_nat]
theorem u_add (x y : W32) : IntKind.u32.wrap (u x + u y) = u (x + y) := by
  unfold u
  have := x.isLt; have := y.isLt
  rw [BitVec.toNat_add]
  simp [IntKind.wrap, IntKind.bits, IntKind.signed]
theorem u_not (x : W32) : IntKind.u32.wrap (4294967295 - u x) = u (~~~x) := by
  unfold u
  have := x.isLt
  rw [BitVec.toNat_not]
  simp [IntKind.wrap, IntKind.bits, IntKind.signed]; omega
theorem u_not' (x : W32) : bits .xor .u32 (if IntKind.u32.signed = true then -1 else IntKind.u32.max) (u x) = u (~~~x) := by
  show IntKind.u32.wrap ((BitVec.ofInt 32 (4294967295) ^^^ BitVec.ofInt 32 (u x)).toNat : Int) = _
  rw [ofInt_u, wrap_nat]
  have e : (BitVec.ofInt 32 4294967295) = BitVec.allOnes 32 := by decide +kernel
  rw [e, BitVec.allOnes_xor]
theorem u_shr (x : W32) (n : Nat) : u x / 2 ^ n = u (x >>> n) := by
  unfold u
  rw [BitVec.toNat_ushiftRight, Nat.shiftRight_eq_div_pow]
  simp
theorem u_shl (x : W32) (n : Nat) : IntKind.u32.wrap (u x * 2 ^ n) = u (x <<< n) := by
  unfold u
  rw [BitVec.toNat_shiftLeft, Nat.shiftLeft_eq]
  simp [IntKind.wrap, IntKind.bits, IntKind.signed]

theorem u_shl' (x : W32) (n : Nat) : u x * 2 ^ n % 4294967296 = u (x <<< n) := by
  unfold u
  rw [BitVec.toNat_shiftLeft, Nat.shiftLeft_eq]
  simp
theorem u_add' (x y : W32) : (u x + u y) % 4294967296 = u (x + y) := by
  unfold u
  rw [BitVec.toNat_add]
  simp
theorem u_add4 (a b c d : W32) : (u a + u b + u c + u d) % 4294967296 = u (a + b + c + d) := by
  unfold u
  simp only [BitVec.toNat_add]
  omega
theorem u_add5 (a b c d e : W32) : (u a + u b + u c + u d + u e) % 4294967296 = u (a + b + c + d + e) := by
  unfold u
  simp only [BitVec.toNat_add]
  omega
theorem u_add3 (a b c : W32) : (u a + u b + u c) % 4294967296 = u (a + b + c) := by
  unfold u
  simp only [BitVec.toNat_add]
  omega
def rr (x : W32) (n : Nat) : W32 := x.rotateRight n
theorem rr_or (x : W32) (n : Nat) (h : n < 32) : x >>> n ||| x <<< (32 - n) = rr x n := by
  unfold rr
  rw [BitVec.rotateRight_def, Nat.mod_eq_of_lt h]
theorem or_comm32 (x y : W32) : x ||| y = y ||| x := BitVec.or_comm x y

def lo0 (x : W32) : W32 := rr x 7 ^^^ rr x 18 ^^^ x >>> 3
def lo1 (x : W32) : W32 := rr x 17 ^^^ rr x 19 ^^^ x >>> 10
def up0 (x : W32) : W32 := rr x 2 ^^^ rr x 13 ^^^ rr x 22
def up1 (x : W32) : W32 := rr x 6 ^^^ rr x 11 ^^^ rr x 25
def ch (t u v : W32) : W32 := t &&& u ^^^ ~~~t &&& v
def mj (p q r : W32) : W32 := p &&& q ^^^ p &&& r ^^^ q &&& r
theorem ch_or (t u v : W32) : t &&& u ||| ~~~t &&& v = ch t u v := by
  unfold ch
  apply BitVec.eq_of_getLsbD_eq
  intro i hi
  simp only [BitVec.getLsbD_or, BitVec.getLsbD_and, BitVec.getLsbD_xor, BitVec.getLsbD_not]
  cases t.getLsbD i <;> cases u.getLsbD i <;> cases v.getLsbD i <;> simp [hi]
theorem mj_or (p q r : W32) : p &&& q ||| p &&& r ||| q &&& r = mj p q r := by
  unfold mj
  apply BitVec.eq_of_getLsbD_eq
  intro i hi
  simp only [BitVec.getLsbD_or, BitVec.getLsbD_and, BitVec.getLsbD_xor]
  cases p.getLsbD i <;> cases q.getLsbD i <;> cases r.getLsbD i <;> rfl

/-- the words of a block, so far -/
def ext : Nat → List W32 → List W32
  | 0, l => l
  | n + 1, l => let m := ext n l; m ++ [m[n]?.getD 0 + lo0 (m[n + 1]?.getD 0) + m[n + 9]?.getD 0 + lo1 (m[n + 14]?.getD 0)]
theorem ext_length (n : Nat) (l : List W32) : (ext n l).length = l.length + n := by
  induction n with
  | zero => rfl
  | succ n ih => show (ext n l ++ [_]).length = _; rw [List.length_append, ih]; simp; omega
theorem ext_old (n : Nat) (l : List W32) (i : Nat) (h : i < l.length + n) : (ext (n + 1) l)[i]? = (ext n l)[i]? := by
  show (ext n l ++ [_])[i]? = _
  rw [List.getElem?_append_left (by rw [ext_length]; exact h)]
theorem ext_le (n m : Nat) (l : List W32) (i : Nat) (h : i < l.length + n) (hm : n ≤ m) : (ext m l)[i]? = (ext n l)[i]? := by
  induction m with
  | zero => obtain rfl : n = 0 := by omega
            rfl
  | succ m ih =>
    by_cases e : n = m + 1
    · rw [e]
    · rw [ext_old m l i (by omega), ih (by omega)]
theorem ext_new (n : Nat) (l : List W32) : (ext (n + 1) l)[l.length + n]? = some ((ext n l)[n]?.getD 0 + lo0 ((ext n l)[n + 1]?.getD 0) + (ext n l)[n + 9]?.getD 0 + lo1 ((ext n l)[n + 14]?.getD 0)) := by
  show (ext n l ++ [_])[l.length + n]? = _
  rw [List.getElem?_append_right (by rw [ext_length]; omega), ext_length, Nat.sub_self]; rfl

theorem ext_at (k : Nat) (l : List W32) (h : 16 ≤ k) (hl : l.length = 16) : (ext (k - 16 + 1) l)[k]? = some ((ext (k - 16) l)[k - 16]?.getD 0 + lo0 ((ext (k - 16) l)[k - 15]?.getD 0) + (ext (k - 16) l)[k - 7]?.getD 0 + lo1 ((ext (k - 16) l)[k - 2]?.getD 0)) := by
  have hn := ext_new (k - 16) l
  rw [hl, show 16 + (k - 16) = k by omega] at hn
  rw [hn, show k - 16 + 1 = k - 15 by omega, show k - 16 + 9 = k - 7 by omega, show k - 16 + 14 = k - 2 by omega]
structure St where
  a : W32
  b : W32
  c : W32
  d : W32
  e : W32
  f : W32
  g : W32
  h : W32
def St.round (s : St) (k w : W32) : St :=
  let x := s.h + up1 s.e + ch s.e s.f s.g + k + w
  let y := up0 s.a + mj s.a s.b s.c
  ⟨x + y, s.a, s.b, s.c, s.d + x, s.e, s.f, s.g⟩
def St.add (s t : St) : St := ⟨s.a + t.a, s.b + t.b, s.c + t.c, s.d + t.d, s.e + t.e, s.f + t.f, s.g + t.g, s.h + t.h⟩
def St.rounds (s : St) (K W : List W32) : Nat → St
  | 0 => s
  | n + 1 => (s.rounds K W n).round (K[n]?.getD 0) (W[n]?.getD 0)

def K64 : List W32 := [0x428a2f98#32, 0x71374491#32, 0xb5c0fbcf#32, 0xe9b5dba5#32, 0x3956c25b#32, 0x59f111f1#32, 0x923f82a4#32, 0xab1c5ed5#32,
  0xd807aa98#32, 0x12835b01#32, 0x243185be#32, 0x550c7dc3#32, 0x72be5d74#32, 0x80deb1fe#32, 0x9bdc06a7#32, 0xc19bf174#32,
  0xe49b69c1#32, 0xefbe4786#32, 0x0fc19dc6#32, 0x240ca1cc#32, 0x2de92c6f#32, 0x4a7484aa#32, 0x5cb0a9dc#32, 0x76f988da#32,
  0x983e5152#32, 0xa831c66d#32, 0xb00327c8#32, 0xbf597fc7#32, 0xc6e00bf3#32, 0xd5a79147#32, 0x06ca6351#32, 0x14292967#32,
  0x27b70a85#32, 0x2e1b2138#32, 0x4d2c6dfc#32, 0x53380d13#32, 0x650a7354#32, 0x766a0abb#32, 0x81c2c92e#32, 0x92722c85#32,
  0xa2bfe8a1#32, 0xa81a664b#32, 0xc24b8b70#32, 0xc76c51a3#32, 0xd192e819#32, 0xd6990624#32, 0xf40e3585#32, 0x106aa070#32,
  0x19a4c116#32, 0x1e376c08#32, 0x2748774c#32, 0x34b0bcb5#32, 0x391c0cb3#32, 0x4ed8aa4a#32, 0x5b9cca4f#32, 0x682e6ff3#32,
  0x748f82ee#32, 0x78a5636f#32, 0x84c87814#32, 0x8cc70208#32, 0x90befffa#32, 0xa4506ceb#32, 0xbef9a3f7#32, 0xc67178f2#32]
def St0 : St := ⟨0x6a09e667#32, 0xbb67ae85#32, 0x3c6ef372#32, 0xa54ff53a#32, 0x510e527f#32, 0x9b05688c#32, 0x1f83d9ab#32, 0x5be0cd19#32⟩
/-- the word of four bytes -/
def be4 (a b c d : Int) : Int := a * 16777216 + b * 65536 + c * 256 + d
/-- the sixteen words of 64 bytes -/
def blockWords (l : List Int) : List W32 := (List.range 16).map fun i => wd (be4 (l[4 * i]?.getD 0) (l[4 * i + 1]?.getD 0) (l[4 * i + 2]?.getD 0) (l[4 * i + 3]?.getD 0))
/-- the state behind a block -/
def mixS (s : St) (l : List Int) : St := s.add (s.rounds K64 (ext 48 (blockWords l)) 64)
/-- the state behind n blocks -/
def mixN (s : St) (l : List Int) : Nat → St
  | 0 => s
  | n + 1 => mixS (mixN s l n) ((l.drop (64 * n)).take 64)
/-- what a message is followed by: a byte 128, noughts, its number of bits -/
def padded (l : List Int) : List Int := l ++ 128 :: (List.replicate ((119 - l.length % 64) % 64) 0 ++ (List.range 8).map fun i => (8 * (l.length : Int)) / 256 ^ (7 - i) % 256)
def St.list (s : St) : List W32 := [s.a, s.b, s.c, s.d, s.e, s.f, s.g, s.h]
/-- the hash: its bytes -/
def sum (l : List Int) : List Int :=
  let s := (mixN St0 (padded l) ((padded l).length / 64)).list
  (List.range 32).map fun i => u (s[i / 4]?.getD 0) / 256 ^ (3 - i % 4) % 256
theorem or_nat32 (x y : Nat) (hx : x < 4294967296) (hy : y < 4294967296) : bits .or .u32 (x : Int) (y : Int) = ((x ||| y : Nat) : Int) := by
  have e1 : (x : Int) = u (wd x) := (u_wd x (by omega) (by omega)).symm
  have e2 : (y : Int) = u (wd y) := (u_wd y (by omega) (by omega)).symm
  rw [e1, e2, u_or]
  unfold u wd
  rw [BitVec.toNat_or, BitVec.toNat_ofNat, BitVec.toNat_ofNat, Int.toNat_natCast, Int.toNat_natCast, Nat.mod_eq_of_lt hx, Nat.mod_eq_of_lt hy]
theorem or_sum (a b i : Nat) (h : b < 2 ^ i) : a * 2 ^ i ||| b = a * 2 ^ i + b := by
  rw [Nat.mul_comm, Nat.two_pow_add_eq_or_of_lt h]
theorem or4 (a b c d : Int) (ha : 0 ≤ a ∧ a < 256) (hb : 0 ≤ b ∧ b < 256) (hc : 0 ≤ c ∧ c < 256) (hd : 0 ≤ d ∧ d < 256) :
    bits .or .u32 (bits .or .u32 (bits .or .u32 (a * 16777216) (b * 65536)) (c * 256)) d = u (wd (be4 a b c d)) := by
  obtain ⟨a, rfl⟩ := Int.eq_ofNat_of_zero_le ha.1
  obtain ⟨b, rfl⟩ := Int.eq_ofNat_of_zero_le hb.1
  obtain ⟨c, rfl⟩ := Int.eq_ofNat_of_zero_le hc.1
  obtain ⟨d, rfl⟩ := Int.eq_ofNat_of_zero_le hd.1
  have a1 : a < 256 := by omega
  have b1 : b < 256 := by omega
  have c1 : c < 256 := by omega
  have d1 : d < 256 := by omega
  rw [show ((a : Int) * 16777216) = ((a * 2 ^ 24 : Nat) : Int) by omega, show ((b : Int) * 65536) = ((b * 65536 : Nat) : Int) by omega, show ((c : Int) * 256) = ((c * 256 : Nat) : Int) by omega]
  rw [or_nat32 _ _ (by omega) (by omega), or_sum a (b * 65536) 24 (by omega), show a * 2 ^ 24 + b * 65536 = (a * 256 + b) * 2 ^ 16 by omega]
  rw [or_nat32 _ _ (by omega) (by omega), or_sum (a * 256 + b) (c * 256) 16 (by omega), show (a * 256 + b) * 2 ^ 16 + c * 256 = ((a * 256 + b) * 256 + c) * 2 ^ 8 by omega]
  rw [or_nat32 _ _ (by omega) (by omega), or_sum _ d 8 (by omega), u_wd _ (by unfold be4; omega) (by unfold be4; omega)]
  unfold be4
  omega
theorem sum_abc : (sum [97, 98, 99]).take 4 = [186, 120, 22, 191] := by decide +kernel
end Go.Proofs.YtoacjaecfabahaaDoor
/-
  What is proved here: what the code's own turning and shifting of a word answers.
-/
namespace Go.Proofs.YtoacjaecfabahaaDoor
open Go.ChangeShapes Go.WideShapes Go.ChangeAt Go.RowKit
set_option linter.unusedVariables false

theorem hid {p : Prop} (h : p) : Hid p := h

theorem rot_count : ∀ n : Fin 32, 1 ≤ n.val → bits .and .u64 (IntKind.u64.wrap (-(n.val : Int))) 31 = 32 - (n.val : Int) := by decide +kernel

set_option maxHeartbeats 400000 in
theorem rotl_any (x : W32) (n : Nat) (h1 : 1 ≤ n) (h2 : n < 32) (w : World) :
    Calls Tryd.prog 82 #[.int .u32 (u x), .int .i64 (-(n : Int))] w fun e w' => e = .returned (.int .u32 (u (rr x n))) ∧ w = w' := by
  have hc := rot_count ⟨n, h2⟩ h1
  simp only at hc
  have l := u_lo x
  have g := u_hi x
  go_enter Tryd.func82, Tryd.ntmps82
  go_wp2
  go_ret
  refine ⟨?_, rfl⟩
  rw [← rr_or x n h2, or_comm32, ← u_or, ← u_shl', ← u_shr]
  have e : 32 - (32 - n) = n := by omega
  simp only [e]
  rfl

set_option maxHeartbeats 400000 in
theorem turned_any (x : W32) (n : Nat) (h1 : 1 ≤ n) (h2 : n < 32) (w : World) :
    Calls Tryd.prog 80 #[.int .u32 (u x), .int .i64 n] w fun e w' => e = .returned (.int .u32 (u (rr x n))) ∧ w = w' := by
  go_enter Tryd.func80, Tryd.ntmps80
  go_wp2_with (go_at_call 82; refine (rotl_any x n h1 h2 _).mono ?_; rintro e w1 ⟨rfl, rfl⟩)
  go_ret
  exact ⟨rfl, rfl⟩

set_option maxHeartbeats 400000 in
theorem tLow_any (x : W32) (w : World) : Calls Tryd.prog 71 #[.int .u32 (u x)] w fun e w' => e = .returned (.int .u32 (u (up1 x))) ∧ w = w' := by
  have l := u_lo x
  have g := u_hi x
  have tok1 : True := trivial
  have tok2 : True := trivial
  go_enter Tryd.func71, Tryd.ntmps71
  go_wp2_with (first
    | (go_at_call 80; have _t := tok1; refine (turned_any x 6 (by decide) (by decide) _).mono ?_; rintro e w1 ⟨rfl, rfl⟩; clear tok1)
    | (go_at_call 80; have _t := tok2; refine (turned_any x 11 (by decide) (by decide) _).mono ?_; rintro e w1 ⟨rfl, rfl⟩; clear tok2)
    | (go_at_call 80; refine (turned_any x 25 (by decide) (by decide) _).mono ?_; rintro e w1 ⟨rfl, rfl⟩))
  go_ret
  exact ⟨by rw [u_xor, u_xor]; rfl, rfl⟩

set_option maxHeartbeats 400000 in
theorem tHigh_any (x : W32) (w : World) : Calls Tryd.prog 72 #[.int .u32 (u x)] w fun e w' => e = .returned (.int .u32 (u (up0 x))) ∧ w = w' := by
  have l := u_lo x
  have g := u_hi x
  have tok1 : True := trivial
  have tok2 : True := trivial
  go_enter Tryd.func72, Tryd.ntmps72
  go_wp2_with (first
    | (go_at_call 80; have _t := tok1; refine (turned_any x 2 (by decide) (by decide) _).mono ?_; rintro e w1 ⟨rfl, rfl⟩; clear tok1)
    | (go_at_call 80; have _t := tok2; refine (turned_any x 13 (by decide) (by decide) _).mono ?_; rintro e w1 ⟨rfl, rfl⟩; clear tok2)
    | (go_at_call 80; refine (turned_any x 22 (by decide) (by decide) _).mono ?_; rintro e w1 ⟨rfl, rfl⟩))
  go_ret
  exact ⟨by rw [u_xor, u_xor]; rfl, rfl⟩

set_option maxHeartbeats 400000 in
theorem sLow_any (x : W32) (w : World) : Calls Tryd.prog 78 #[.int .u32 (u x)] w fun e w' => e = .returned (.int .u32 (u (lo0 x))) ∧ w = w' := by
  have l := u_lo x
  have g := u_hi x
  have tok1 : True := trivial
  go_enter Tryd.func78, Tryd.ntmps78
  go_wp2_with (first
    | (go_at_call 80; have _t := tok1; refine (turned_any x 7 (by decide) (by decide) _).mono ?_; rintro e w1 ⟨rfl, rfl⟩; clear tok1)
    | (go_at_call 80; refine (turned_any x 18 (by decide) (by decide) _).mono ?_; rintro e w1 ⟨rfl, rfl⟩))
  go_ret
  exact ⟨by rw [u_xor, show (8 : Int) = 2 ^ 3 from rfl, u_shr, u_xor]; rfl, rfl⟩

set_option maxHeartbeats 400000 in
theorem sHigh_any (x : W32) (w : World) : Calls Tryd.prog 79 #[.int .u32 (u x)] w fun e w' => e = .returned (.int .u32 (u (lo1 x))) ∧ w = w' := by
  have l := u_lo x
  have g := u_hi x
  have tok1 : True := trivial
  go_enter Tryd.func79, Tryd.ntmps79
  go_wp2_with (first
    | (go_at_call 80; have _t := tok1; refine (turned_any x 17 (by decide) (by decide) _).mono ?_; rintro e w1 ⟨rfl, rfl⟩; clear tok1)
    | (go_at_call 80; refine (turned_any x 19 (by decide) (by decide) _).mono ?_; rintro e w1 ⟨rfl, rfl⟩))
  go_ret
  exact ⟨by rw [u_xor, show (1024 : Int) = 2 ^ 10 from rfl, u_shr, u_xor]; rfl, rfl⟩

set_option maxHeartbeats 400000 in
theorem rturned_any (x : W32) (n : Nat) (h1 : 1 ≤ n) (h2 : n < 32) (w : World) : Calls Tryd.prog 77 #[.int .u32 (u x), .int .u32 n] w fun e w' => e = .returned (.int .u32 (u (rr x n))) ∧ w = w' := by
  have l := u_lo x
  have g := u_hi x
  go_enter Tryd.func77, Tryd.ntmps77
  go_wp2
  go_ret
  refine ⟨?_, rfl⟩
  rw [← rr_or x n h2, ← u_or, ← u_shl', ← u_shr]
  rfl
end Go.Proofs.YtoacjaecfabahaaDoor
/-
  What this file is for: words for blocks of memory that are known whole, for bytes that are read, for rows of words, with the plain lemmas on them. Nothing of the program is walked here.
-/
namespace Go.Proofs.YtoacjaecfabahaaDoor
open Go.ChangeShapes Go.WideShapes Go.ChangeAt Go.RowKit
set_option linter.unusedVariables false

/-- A block that is known whole. -/
def Blk (w : World) (g : Nat) (t : TypeId) (cs : Array Value) : Prop := w.heap[g]? = some (.cells cs t (0, 0))

section
variable {w w' : World} {g : Nat} {t : TypeId} {cs : Array Value}
theorem Blk.lt (h : Blk w g t cs) : g < w.heap.size := by
  rcases Nat.lt_or_ge g w.heap.size with h1 | h1
  · exact h1
  · unfold Blk at h; rw [Array.getElem?_eq_none h1] at h; cases h
theorem Blk.cell (h : Blk w g t cs) (i : Nat) : w.cell? ⟨g, i, none⟩ = cs[i]? := cell_of_row w g i cs t (0, 0) h
theorem Blk.frozen (h : Blk w g t cs) (i : Nat) : w.frozen? ⟨g, i, none⟩ = false := by
  unfold Blk at h
  simp [World.frozen?, h]
theorem Blk.new (w : World) (t : TypeId) (cs : Array Value) : Blk (w.alloc (.cells cs t)) w.heap.size t cs := heap_alloc_new w _
theorem Blk.drew (h : Blk w g t cs) : Blk w.drew g t cs := h
theorem Blk.alloc (h : Blk w g t cs) (o : Obj) : Blk (w.alloc o) g t cs := (Below.heap_alloc w o g h.lt).trans h
theorem Blk.setd (h : Blk w g t cs) (i : Nat) (u : Value) : Blk (w.setCell ⟨g, i, none⟩ u) g t (cs.setIfInBounds i u) := by
  unfold Blk at h ⊢
  simp [World.setCell, Array.getElem?_modify, h]
theorem Blk.far (h : Blk w g t cs) {p : Addr} (hp : g ≠ p.block) (u : Value) : Blk (w.setCell p u) g t cs := (Below.heap_setCell w p u g hp).trans h
theorem Blk.same (h : Blk w g t cs) (hk : w'.heap[g]? = w.heap[g]?) : Blk w' g t cs := hk.trans h
theorem Blk.inj (h : Blk w g t cs) {t' : TypeId} {cs' : Array Value} (h' : Blk w g t' cs') : t = t' ∧ cs = cs' := by
  unfold Blk at h h'
  rw [h] at h'
  injection h' with h'
  injection h' with h1 h2
  exact ⟨h2, h1⟩
theorem Blk.ne {g' : Nat} {t' : TypeId} {cs' : Array Value} (h : Blk w g t cs) (h' : Blk w g' t' cs') (hne : t ≠ t') : g ≠ g' := by
  rintro rfl
  exact hne (h.inj h').1
end

theorem add_block (a : Addr) (n : Nat) : (a.add n).block = a.block := by unfold Addr.add; split <;> rfl

/-- Only block g, and what is new, has turned. -/
structure Only (g : Nat) (w w' : World) : Prop where
  os : w'.os = w.os
  tape : w'.tape = w.tape
  output : w'.output = w.output
  size : w.heap.size ≤ w'.heap.size
  block : ∀ k, k < w.heap.size → k ≠ g → w'.heap[k]? = w.heap[k]?
theorem Only.refl (g : Nat) (w : World) : Only g w w := ⟨rfl, rfl, rfl, Nat.le_refl _, fun _ _ _ => rfl⟩
theorem Only.trans {g : Nat} {a b c : World} (h : Only g a b) (k : Only g b c) : Only g a c :=
  ⟨k.os.trans h.os, k.tape.trans h.tape, k.output.trans h.output, Nat.le_trans h.size k.size, fun i hi hne => (k.block i (Nat.lt_of_lt_of_le hi h.size) hne).trans (h.block i hi hne)⟩
theorem Only.drew {g : Nat} {a w : World} (h : Only g a w) : Only g a w.drew := ⟨h.os, h.tape, h.output, h.size, h.block⟩
theorem Only.alloc {g : Nat} {a w : World} (h : Only g a w) (o : Obj) : Only g a (w.alloc o) :=
  ⟨h.os, h.tape, h.output, Nat.le_trans h.size (by simp), fun i hi hne => (Below.heap_alloc w o i (Nat.lt_of_lt_of_le hi h.size)).trans (h.block i hi hne)⟩
theorem Only.setCell {g : Nat} {a w : World} (h : Only g a w) {p : Addr} (hp : p.block = g ∨ a.heap.size ≤ p.block) (u : Value) : Only g a (w.setCell p u) :=
  ⟨h.os, h.tape, h.output, by simpa [World.setCell] using h.size, fun i hi hne => (Below.heap_setCell w p u i (by
    rintro rfl
    rcases hp with hp | hp
    · exact hne hp
    · omega)).trans (h.block i hi hne)⟩
theorem Only.below {g B : Nat} {w w' : World} (h : Only g w w') (hB : B ≤ w.heap.size) (hg : B ≤ g) : Below B w w' :=
  ⟨h.os, h.tape, h.output, h.size, fun k hk => h.block k (by omega) (by omega)⟩
theorem Only.of_below {B g : Nat} {w w' : World} (h : Below B w w') (hB : w.heap.size ≤ B) : Only g w w' :=
  ⟨h.os, h.tape, h.output, h.size, fun k hk _ => h.block k (by omega)⟩

/-- the block of a pointer -/
def Of (p : Option Addr) (k : Nat) : Prop := ∃ a, p = some a ∧ k = a.block

/-- Only the blocks in S, and what is new, have turned. -/
structure OnlyS (S : Nat → Prop) (w w' : World) : Prop where
  os : w'.os = w.os
  tape : w'.tape = w.tape
  output : w'.output = w.output
  size : w.heap.size ≤ w'.heap.size
  block : ∀ k, k < w.heap.size → ¬ S k → w'.heap[k]? = w.heap[k]?
section
variable {S S' : Nat → Prop} {a b c w w' : World}
theorem OnlyS.refl (S : Nat → Prop) (w : World) : OnlyS S w w := ⟨rfl, rfl, rfl, Nat.le_refl _, fun _ _ _ => rfl⟩
theorem OnlyS.trans (h : OnlyS S a b) (k : OnlyS S b c) : OnlyS S a c :=
  ⟨k.os.trans h.os, k.tape.trans h.tape, k.output.trans h.output, Nat.le_trans h.size k.size, fun i hi hne => (k.block i (Nat.lt_of_lt_of_le hi h.size) hne).trans (h.block i hi hne)⟩
theorem OnlyS.drew (h : OnlyS S a w) : OnlyS S a w.drew := ⟨h.os, h.tape, h.output, h.size, h.block⟩
theorem OnlyS.alloc (h : OnlyS S a w) (o : Obj) : OnlyS S a (w.alloc o) :=
  ⟨h.os, h.tape, h.output, Nat.le_trans h.size (by simp), fun i hi hne => (Below.heap_alloc w o i (Nat.lt_of_lt_of_le hi h.size)).trans (h.block i hi hne)⟩
theorem OnlyS.setCell (h : OnlyS S a w) {p : Addr} (hp : S p.block ∨ a.heap.size ≤ p.block) (u : Value) : OnlyS S a (w.setCell p u) :=
  ⟨h.os, h.tape, h.output, by simpa [World.setCell] using h.size, fun i hi hne => (Below.heap_setCell w p u i (by
    rintro rfl
    rcases hp with hp | hp
    · exact hne hp
    · omega)).trans (h.block i hi hne)⟩
theorem OnlyS.mono (h : OnlyS S w w') (hS : ∀ k, k < w.heap.size → S k → S' k) : OnlyS S' w w' := ⟨h.os, h.tape, h.output, h.size, fun k hk hn => h.block k hk (fun hs => hn (hS k hk hs))⟩
theorem OnlyS.below {B : Nat} (h : OnlyS S w w') (hB : B ≤ w.heap.size) (hS : ∀ k, S k → B ≤ k) : Below B w w' :=
  ⟨h.os, h.tape, h.output, h.size, fun k hk => h.block k (by omega) (fun hs => by have := hS k hs; omega)⟩
theorem OnlyS.of_below {B : Nat} (h : Below B w w') (hB : w.heap.size ≤ B) : OnlyS S w w' := ⟨h.os, h.tape, h.output, h.size, fun k hk _ => h.block k (by omega)⟩
end

/-- the slice at A holds the bytes xs, and doesn't lie in the block of p -/
def Rp (w : World) (p : Option Addr) (A : Option Addr) (xs : List Int) : Prop :=
  0 < xs.length → ∃ ad, A = some ad ∧ ¬ Of p ad.block ∧ ∀ j, j < xs.length → w.cell? (ad.add j) = some (.int .u8 (xs[j]?.getD 0))
theorem Rp.keep {w w' : World} {p : Option Addr} {A : Option Addr} {xs : List Int} (h : Rp w p A xs) (hk : OnlyS (Of p) w w') : Rp w' p A xs := fun hx => by
  obtain ⟨ad, rfl, hne, hc⟩ := h hx
  have hlt := block_lt_of_cell (hc 0 hx)
  rw [add_block] at hlt
  exact ⟨ad, rfl, hne, fun j hj => (World.cell?_of_block (w := w) (hk.block _ (by rw [add_block]; exact hlt) (by rw [add_block]; exact hne))).trans (hc j hj)⟩
theorem Rp.nil (w : World) (p A : Option Addr) : Rp w p A [] := fun h => by simp at h

def Bs (l : List Int) : Prop := ∀ v ∈ l, 0 ≤ v ∧ v < 256
theorem Bs.drop {l : List Int} (h : Bs l) (n : Nat) : Bs (l.drop n) := fun v hv => h v (List.mem_of_mem_drop hv)
theorem Bs.take {l : List Int} (h : Bs l) (n : Nat) : Bs (l.take n) := fun v hv => h v (List.mem_of_mem_take hv)
theorem Bs.at {l : List Int} (h : Bs l) (i : Nat) : 0 ≤ l[i]?.getD 0 ∧ l[i]?.getD 0 < 256 := by
  rcases Nat.lt_or_ge i l.length with hi | hi
  · simp only [List.getElem?_eq_getElem hi, Option.getD_some]; exact h _ (List.getElem_mem hi)
  · simp [List.getElem?_eq_none hi]

theorem Rp.same {w w' : World} {p A : Option Addr} {xs : List Int} (h : Rp w p A xs) (hk : ∀ k, k < w.heap.size → ¬ Of p k → w'.heap[k]? = w.heap[k]?) : Rp w' p A xs := fun hx => by
  obtain ⟨ad, rfl, hne, hc⟩ := h hx
  have hlt := block_lt_of_cell (hc 0 hx)
  rw [add_block] at hlt
  exact ⟨ad, rfl, hne, fun j hj => (World.cell?_of_block (w := w) (hk _ (by rw [add_block]; exact hlt) (by rw [add_block]; exact hne))).trans (hc j hj)⟩
theorem add_add (a : Addr) (i j : Nat) : (a.add i).add j = a.add (i + j) := by
  unfold Addr.add
  by_cases hi : i = 0 <;> by_cases hj : j = 0 <;> simp [hi, hj, Nat.add_assoc]
/-- so many bytes taken off the front -/
theorem Rp.cut {w : World} {p A : Option Addr} {l : List Int} (h : Rp w p A l) {k c : Nat} (hc : l.length ≤ c) : Rp w p (if c = k then A else A.map (·.add k)) (l.drop k) := fun hx => by
  rw [List.length_drop] at hx
  obtain ⟨ad, rfl, hne, hcell⟩ := h (by omega)
  rw [if_neg (by omega)]
  refine ⟨ad.add k, rfl, by rw [add_block]; exact hne, fun j hj => ?_⟩
  rw [List.length_drop] at hj
  rw [add_add, List.getElem?_drop]
  exact hcell (k + j) (by omega)
theorem info_u8 : (Tryd.prog.info? 5).map (fun i => (i.zero, i.size, i.bytes)) = some (some (.int .u8 0), 1, 1) := by kernel_rfl

theorem make_bytes (n : Nat) (hn : n < 1000000000000) (u : World) : (Instr.makeSlice 89 (.int .i64 (n : Int)) (.int .i64 (n : Int))).run Tryd.prog u =
      .ok (.slice (some ⟨u.heap.size, 0, none⟩) n n) (u.alloc (.cells (List.replicate n (Value.int .u8 0)).toArray 5)) := by
  obtain ⟨i0, hi, hz0, hz1, hz2⟩ := info_parts info_u8
  have h := run_make (P := Tryd.prog) u 89 5 i0 (.int .u8 0) Tryd.underlying89 hi hz0 .i64 .i64 (n : Int) (n : Int) (by omega) (Int.le_refl _) (by rw [hz2]; omega) (by omega)
  have e : ((n : Int)).toNat = n := by omega
  rw [e] at h
  have e2 : madeCells (Value.int .u8 0).cells (n * i0.size) = (List.replicate n (Value.int .u8 0)).toArray := by
    rw [hz1, Nat.mul_one]
    unfold madeCells
    refine Array.ext (by simp) (fun j h1 h2 => ?_)
    simp [Value.cells, Nat.mod_one]
  rw [e2] at h
  exact h

theorem get_splice (L : List Value) (off : Nat) (cs : List Value) (h : off + cs.length ≤ L.length) (i : Nat) :
    (splice L off cs)[i]? = if i < off then L[i]? else if i < off + cs.length then cs[i - off]? else L[i]? := by
  unfold splice
  by_cases h1 : i < off
  · rw [if_pos h1, List.getElem?_append_left (by simp; omega), List.getElem?_take, if_pos h1]
  · rw [if_neg h1, List.getElem?_append_right (by simp; omega)]
    have e : (L.take off).length = off := by simp; omega
    rw [e]
    by_cases h2 : i < off + cs.length
    · rw [if_pos h2, List.getElem?_append_left (by omega)]
    · rw [if_neg h2, List.getElem?_append_right (by omega), List.getElem?_drop]
      have : off + cs.length + (i - off - cs.length) = i := by omega
      rw [this]

/-- the cells of bytes -/
def u8s (xs : List Int) : List Value := xs.map (Value.int .u8)
theorem u8s_length (xs : List Int) : (u8s xs).length = xs.length := by simp [u8s]
theorem u8s_get (xs : List Int) (i : Nat) (h : i < xs.length) : (u8s xs)[i]? = some (.int .u8 (xs[i]?.getD 0)) := by simp [u8s, h]
theorem u8s_one (xs : List Int) : ∀ v ∈ u8s xs, v.oneCell' = true := by
  intro v hv
  simp only [u8s, List.mem_map] at hv
  obtain ⟨x, _, rfl⟩ := hv
  rfl

/-- the slice at A' holds xs in memory that is new since w -/
def Fresh (w w' : World) (A : Option Addr) (xs : List Int) : Prop :=
  0 < xs.length → ∃ g cur, A = some ⟨g, 0, none⟩ ∧ w.heap.size ≤ g ∧ Blk w' g 5 cur ∧ ∀ j, j < xs.length → cur[j]? = some (.int .u8 (xs[j]?.getD 0))

theorem Fresh.rp {w w' : World} {A p : Option Addr} {xs : List Int} (h : Fresh w w' A xs) (hp : ∀ g, w.heap.size ≤ g → g < w'.heap.size → ¬ Of p g) : Rp w' p A xs := fun hx => by
  obtain ⟨g, cur, rfl, hg, hb, hc⟩ := h hx
  refine ⟨_, rfl, hp g hg hb.lt, fun j hj => ?_⟩
  have e : (⟨g, 0, none⟩ : Addr).add j = ⟨g, j, none⟩ := by unfold Addr.add; split <;> simp_all
  rw [e, hb.cell, hc j hj]
theorem Fresh.more {w0 w w' : World} {A : Option Addr} {xs : List Int} (h : Fresh w w' A xs) (hs : w0.heap.size ≤ w.heap.size) : Fresh w0 w' A xs := fun hx => by
  obtain ⟨g, cur, e, hg, hb, hc⟩ := h hx
  exact ⟨g, cur, e, by omega, hb, hc⟩
theorem Fresh.keep {w w' w2 : World} {A : Option Addr} {xs : List Int} {S : Nat → Prop} (h : Fresh w w' A xs) (ho : OnlyS S w' w2) (hS : ∀ k, w.heap.size ≤ k → k < w'.heap.size → ¬ S k) : Fresh w w2 A xs := fun hx => by
  obtain ⟨g, cur, e, hg, hb, hc⟩ := h hx
  exact ⟨g, cur, e, hg, hb.same (ho.block g hb.lt (hS g hg hb.lt)), hc⟩
theorem Fresh.nil (w w' : World) (A : Option Addr) : Fresh w w' A [] := fun h => by simp at h
theorem Rp.any {w : World} {p A : Option Addr} {xs : List Int} (h : Rp w p A xs) : Rp w none A xs := fun hx => by
  obtain ⟨ad, e, hne, hc⟩ := h hx
  exact ⟨ad, e, (fun ⟨a, e, _⟩ => by cases e), hc⟩
theorem Rp.take {w : World} {p A : Option Addr} {xs : List Int} (h : Rp w p A xs) (k : Nat) : Rp w p A (xs.take k) := fun hx => by
  rw [List.length_take] at hx
  obtain ⟨ad, e, hne, hc⟩ := h (by omega)
  refine ⟨ad, e, hne, fun j hj => ?_⟩
  rw [List.length_take] at hj
  rw [List.getElem?_take, if_pos (by omega)]
  exact hc j (by omega)

theorem fresh_of_own {w w1 : World} {base n : Nat} {v : Value} {xs : List Int} (h : w1.ownsRow base 5 1 v n (u8s xs)) (hb : w.heap.size ≤ base) :
    ∃ A' c', v = .slice A' n c' ∧ xs.length = n ∧ n ≤ c' ∧ Fresh w w1 A' xs := by
  have hl := h.1
  rw [u8s_length, Nat.mul_one] at hl
  rcases h.2 with ⟨hv, h0⟩ | ⟨g, cap, cur, hv, hg, hh, hnc, hcm, hcs, htk⟩
  · exact ⟨none, 0, by rw [hv, h0], hl, by omega, fun hx => by omega⟩
  · refine ⟨some ⟨g, 0, none⟩, cap, hv, hl, hnc, fun _ => ⟨g, cur, rfl, by omega, hh, fun j hj => ?_⟩⟩
    have e : cur[j]? = (cur.toList.take (n * 1))[j]? := by rw [List.getElem?_take, if_pos (by omega), Array.getElem?_toList]
    rw [e, htk, u8s_get _ _ hj]
theorem Fresh.below {w0 w w' : World} {A : Option Addr} {xs : List Int} (h : Fresh w0 w A xs) (hb : Below w.heap.size w w') : Fresh w0 w' A xs := fun hx => by
  obtain ⟨g, cur, e, hg, hbk, hc⟩ := h hx
  exact ⟨g, cur, e, hg, hbk.same (hb.block g hbk.lt), hc⟩
/-- a row of bytes, whatever they are -/
def AllU8 (cur : Array Value) (n : Nat) : Prop := ∀ j, j < n → ∃ x : Int, cur[j]? = some (.int .u8 x)
theorem AllU8.set_ {cur : Array Value} {n : Nat} (h : AllU8 cur n) (i : Nat) (x : Int) : AllU8 (cur.setIfInBounds i (.int .u8 x)) n := fun j hj => by
  obtain ⟨y, hy⟩ := h j hj
  by_cases hij : i = j
  · subst hij
    have hlt : i < cur.size := by
      rcases Nat.lt_or_ge i cur.size with h1 | h1
      · exact h1
      · rw [Array.getElem?_eq_none h1] at hy; cases hy
    exact ⟨x, by rw [Array.getElem?_setIfInBounds, if_pos rfl, if_pos hlt]⟩
  · exact ⟨y, by rw [Array.getElem?_setIfInBounds, if_neg hij]; exact hy⟩
theorem Blk.rp {w : World} {g : Nat} {xs : List Int} (h : Blk w g 5 (u8s xs).toArray) : Rp w none (some ⟨g, 0, none⟩) xs := fun _ =>
  ⟨_, rfl, (fun ⟨a, e, _⟩ => by cases e), fun j hj => by rw [Addr.add_lit, Nat.zero_add, h.cell, List.getElem?_toArray, u8s_get _ _ hj]⟩

theorem Rp.get {w : World} {p A : Option Addr} {xs : List Int} (h : Rp w p A xs) (hx : 0 < xs.length) : ∃ ad, A = some ad ∧ ∀ j, j < xs.length → w.cell? (ad.add j) = some (.int .u8 (xs[j]?.getD 0)) := by
  obtain ⟨ad, e, _, hc⟩ := h hx
  exact ⟨ad, e, hc⟩
theorem Rp.belowN {w w' : World} {A : Option Addr} {xs : List Int} (h : Rp w none A xs) (hb : Below w.heap.size w w') : Rp w' none A xs := h.same fun k hk _ => hb.block k hk

theorem setRow_only (w : World) (g : Nat) (cs : Array Value) : Only g w (w.setRow g cs) := ⟨rfl, rfl, rfl, by simp, fun k hk hne => setRow_other w g k cs hne⟩
theorem below_setRow {B : Nat} {a w : World} (h : Below B a w) {g : Nat} (hg : B ≤ g) (cs : Array Value) : Below B a (w.setRow g cs) :=
  ⟨h.os, h.tape, h.output, by simpa using h.size, fun k hk => (setRow_other w g k cs (by omega)).trans (h.block k hk)⟩
theorem Blk.row {w : World} {g : Nat} {t : TypeId} {cs : Array Value} (h : Blk w g t cs) (cs' : Array Value) : Blk (w.setRow g cs') g t cs' := setRow_heap w g cs cs' t (0, 0) h
theorem Blk.rowFar {w : World} {g k : Nat} {t : TypeId} {cs : Array Value} (h : Blk w k t cs) (hk : k ≠ g) (cs' : Array Value) : Blk (w.setRow g cs') k t cs := (setRow_other w g k cs' hk).trans h
/-! Rows of words. -/
def w32s (l : List W32) : Array Value := (l.map fun x => Value.int .u32 (u x)).toArray
theorem w32s_size (l : List W32) : (w32s l).size = l.length := by simp [w32s]
theorem w32s_get (l : List W32) (i : Nat) (h : i < l.length) : (w32s l)[i]? = some (.int .u32 (u (l[i]?.getD 0))) := by
  simp [w32s, h]
theorem w32s_set (l : List W32) (i : Nat) (x : W32) : (w32s l).setIfInBounds i (.int .u32 (u x)) = w32s (l.set i x) := by
  simp [w32s, List.map_set]
theorem w32s_one (l : List W32) : (w32s l).all (·.oneCell') = true := by
  simp [w32s, Value.oneCell']
end Go.Proofs.YtoacjaecfabahaaDoor
/-
  What is proved here: what the code makes of the words of a block.
-/
namespace Go.Proofs.YtoacjaecfabahaaDoor
open Go.ChangeShapes Go.WideShapes Go.ChangeAt Go.RowKit
set_option linter.unusedVariables false

theorem info_A64 : (Tryd.prog.info? 107).map (·.size) = some 64 := by kernel_rfl
theorem zero_A64 : ∃ Z : Array Value, Hid (Z = w32s (List.replicate 64 0#32)) ∧ (¬ Z = #[]) ∧ ∀ w : World, Sem.run Tryd.prog (zeroValue 107) w = Result.ok (.agg Z) w := by
  refine ⟨(List.replicate 64 (.int .u32 0)).toArray, ?_, ?_, fun w => by kernel_rfl⟩
  · show _ = _
    unfold w32s
    rw [List.map_replicate]; rfl
  · intro h
    have := congrArg Array.size h
    simp at this

theorem add_step (a : Addr) (k n : Nat) (h : 0 < n) : (⟨(a.add k).block, (a.add k).off + n, none⟩ : Addr) = a.add (k + n) := by
  rw [← add_add]
  generalize a.add k = b
  unfold Addr.add
  rw [if_neg (by omega)]
theorem bw_get (bs : List Int) (i : Nat) (h : i < 16) : (blockWords bs)[i]? = some (wd (be4 (bs[4 * i]?.getD 0) (bs[4 * i + 1]?.getD 0) (bs[4 * i + 2]?.getD 0) (bs[4 * i + 3]?.getD 0))) := by
  simp [blockWords, h]

set_option maxRecDepth 5000 in
set_option maxHeartbeats 1000000 in
theorem spread_any (A : Option Addr) (c : Nat) (bs : List Int) (w : World) (hr : Rp w none A bs) (hb : Bs bs) (hl : bs.length = 64) (hc : 64 ≤ c) :
    Calls Tryd.prog 70 #[.slice A 64 c] w fun e w' => e = .returned (.agg (w32s (ext 48 (blockWords bs)))) ∧ Below w.heap.size w w' := by
  obtain ⟨ad, rfl, hcell⟩ := hr.get (by omega)
  obtain ⟨Z, HZ, hZ0, hZs⟩ := zero_A64
  have HC := hid hcell; have HB := hid hb; have HL := hid hl
  clear hr hb hl hcell
  go_enter Tryd.func70, Tryd.ntmps70
  go_wp2
  have hB0 : Below w.heap.size w ((w.alloc (.cells Z 107)).alloc (.cells Z 107)) := ((Below.refl _ _).alloc (Nat.le_refl _) _).alloc (by simp) _
  have hK1 : Blk ((w.alloc (.cells Z 107)).alloc (.cells Z 107)) w.heap.size 107 Z := (Blk.new w 107 Z).alloc _
  have hK2 : Blk ((w.alloc (.cells Z 107)).alloc (.cells Z 107)) (w.heap.size + 1) 107 Z := by
    have := Blk.new (w.alloc (.cells Z 107)) 107 Z
    rwa [show (w.alloc (.cells Z 107)).heap.size = w.heap.size + 1 by simp] at this
  have B0 := hid hB0; have K1 := hid hK1; have K2 := hid hK2
  clear hB0 hK1 hK2
  go_loopw [7] (fun i wr => ∃ (k : Nat) (l : List W32), k ≤ 16 ∧ i = .int .i64 k ∧ l.length = 64 ∧ (∀ j, j < k → l[j]? = (blockWords bs)[j]?) ∧ Blk wr (w.heap.size + 1) 107 (w32s l) ∧ Blk wr w.heap.size 107 Z ∧ Below w.heap.size w wr) (fun i _ => 16 - (intOf i).toNat)
  case atStart => exact ⟨0, List.replicate 64 0#32, by omega, rfl, by simp, fun j hj => by omega, by rw [← HZ.out]; exact K2.out, K1.out, B0.out⟩
  case round =>
    obtain ⟨k, l, hk, rfl, hll, hlj, hb1, hb2, hbel⟩ := hrel
    have HLL := hid hll; have HLJ := hid hlj; have HB1 := hid hb1; have HB2 := hid hb2; have HBL := hid hbel
    clear hll hlj hb1 hb2 hbel
    by_cases hlt : k < 16
    · have hcell : ∀ j, j < 64 → wr.cell? (ad.add j) = some (.int .u8 (bs[j]?.getD 0)) := by
        intro j hj
        have h := HC.out j (by have := HL.out; omega)
        exact (World.cell?_of_block (w := w) (HBL.out.block _ (block_lt_of_cell h))).trans h
      have c0 := hcell (4 * k) (by omega)
      have c1 := hcell (4 * k + 1) (by omega)
      have c2 := hcell (4 * k + 2) (by omega)
      have c3 := hcell (4 * k + 3) (by omega)
      have ck : wr.cell? ⟨w.heap.size + 1, k, none⟩ = some (.int .u32 (u (l[k]?.getD 0))) := by rw [HB1.out.cell]; exact w32s_get l k (by have := HLL.out; omega)
      have fk : wr.frozen? ⟨w.heap.size + 1, k, none⟩ = false := HB1.out.frozen k
      have y0 := HB.out.at (4 * k)
      have y1 := HB.out.at (4 * k + 1)
      have y2 := HB.out.at (4 * k + 2)
      have y3 := HB.out.at (4 * k + 3)
      rw [← add_step ad (4 * k) 1 (by decide)] at c1
      rw [← add_step ad (4 * k) 2 (by decide)] at c2
      rw [← add_step ad (4 * k) 3 (by decide)] at c3
      obtain ⟨v0, e0⟩ : ∃ v, v = bs[4 * k]?.getD 0 := ⟨_, rfl⟩
      obtain ⟨v1, e1⟩ : ∃ v, v = bs[4 * k + 1]?.getD 0 := ⟨_, rfl⟩
      obtain ⟨v2, e2⟩ : ∃ v, v = bs[4 * k + 2]?.getD 0 := ⟨_, rfl⟩
      obtain ⟨v3, e3⟩ : ∃ v, v = bs[4 * k + 3]?.getD 0 := ⟨_, rfl⟩
      rw [← e0] at c0 y0
      rw [← e1] at c1 y1
      rw [← e2] at c2 y2
      rw [← e3] at c3 y3
      have E0 := hid e0; have E1 := hid e1; have E2 := hid e2; have E3 := hid e3
      clear hcell e0 e1 e2 e3
      go_wp2
      go_region
      rw [or4 v0 v1 v2 v3 y0 y1 y2 y3]
      go_wp2
      go_roundw
      case rel =>
        have hll := HLL.out
        have g1 := (HB1.out.setd k (.int .u32 (u (wd (be4 v0 v1 v2 v3))))).drew
        have g2 := (HB2.out.far (p := ⟨w.heap.size + 1, k, none⟩) (by simp) (.int .u32 (u (wd (be4 v0 v1 v2 v3))))).drew
        rw [w32s_set] at g1
        refine ⟨k + 1, l.set k (wd (be4 v0 v1 v2 v3)), by omega, by go_num, by simp [hll], fun j hj => ?_, g1, g2, (HBL.out.setCell (by simp) _).drew⟩
        by_cases hjk : j = k
        · subst hjk
          rw [List.getElem?_set_self (by omega), bw_get bs j hlt, E0.out, E1.out, E2.out, E3.out]
        · rw [List.getElem?_set_ne (by omega)]
          exact HLJ.out j (by omega)
      case measure => simp [intOf]; omega
    · have hk16 : 16 ≤ k := by omega
      go_wp2
      obtain ⟨wo, rfl⟩ : ∃ wo : World, wo = wr := ⟨_, rfl⟩
      have HLJ0 : Hid (∀ j, j < 16 → l[j]? = (ext 0 (blockWords bs))[j]?) := fun j hj => HLJ.out j (by omega)
      go_loopw [6] (fun i wr => ∃ (k : Nat) (l : List W32), 16 ≤ k ∧ k ≤ 64 ∧ i = .int .i64 k ∧ l.length = 64 ∧ (∀ j, j < k → l[j]? = (ext (k - 16) (blockWords bs))[j]?) ∧ Blk wr (w.heap.size + 1) 107 (w32s l) ∧ Blk wr w.heap.size 107 Z ∧ Below w.heap.size w wr) (fun i _ => 64 - (intOf i).toNat)
      case atStart => exact ⟨16, l, by omega, by omega, rfl, HLL.out, HLJ0.out, HB1.out, HB2.out, HBL.out⟩
      case round =>
        clear HLL HLJ HLJ0 HB1 HB2 HBL
        obtain ⟨k, l, hk1, hk2, rfl, hll, hlj, hb1, hb2, hbel⟩ := hrel
        have HLL := hid hll; have HLJ := hid hlj; have HB1 := hid hb1; have HB2 := hid hb2; have HBL := hid hbel
        clear hll hlj hb1 hb2 hbel
        by_cases hlt : k < 64
        · have hget : ∀ j, j < 64 → wr.cell? ⟨w.heap.size + 1, j, none⟩ = some (.int .u32 (u (l[j]?.getD 0))) := fun j hj => by
            rw [HB1.out.cell]; exact w32s_get l j (by have := HLL.out; omega)
          have ck := hget k hlt
          have c0 := hget (k - 16) (by omega)
          have c1 := hget (k - 15) (by omega)
          have c2 := hget (k - 7) (by omega)
          have c3 := hget (k - 2) (by omega)
          have fk : wr.frozen? ⟨w.heap.size + 1, k, none⟩ = false := HB1.out.frozen k
          obtain ⟨x0, e0⟩ : ∃ v, v = l[k - 16]?.getD 0 := ⟨_, rfl⟩
          obtain ⟨x1, e1⟩ : ∃ v, v = l[k - 15]?.getD 0 := ⟨_, rfl⟩
          obtain ⟨x2, e2⟩ : ∃ v, v = l[k - 7]?.getD 0 := ⟨_, rfl⟩
          obtain ⟨x3, e3⟩ : ∃ v, v = l[k - 2]?.getD 0 := ⟨_, rfl⟩
          obtain ⟨xk, ek⟩ : ∃ v, v = l[k]?.getD 0 := ⟨_, rfl⟩
          rw [← e0] at c0
          rw [← e1] at c1
          rw [← e2] at c2
          rw [← e3] at c3
          rw [← ek] at ck
          have E0 := hid e0; have E1 := hid e1; have E2 := hid e2; have E3 := hid e3
          clear hget e0 e1 e2 e3 ek
          go_wp2
          have q16a : (16 : Int) ≤ (k : Int) := by omega
          have q16d : (k : Int) - 16 < 64 := by omega
          have q16b : IntKind.i64.wrap ((k : Int) - 16) = (k : Int) - 16 := IntWalk.i64_in _ (by omega)
          have q16c : ((k : Int) - 16).toNat = k - 16 := by omega
          have q15a : (15 : Int) ≤ (k : Int) := by omega
          have q15d : (k : Int) - 15 < 64 := by omega
          have q15b : IntKind.i64.wrap ((k : Int) - 15) = (k : Int) - 15 := IntWalk.i64_in _ (by omega)
          have q15c : ((k : Int) - 15).toNat = k - 15 := by omega
          have q7a : (7 : Int) ≤ (k : Int) := by omega
          have q7d : (k : Int) - 7 < 64 := by omega
          have q7b : IntKind.i64.wrap ((k : Int) - 7) = (k : Int) - 7 := IntWalk.i64_in _ (by omega)
          have q7c : ((k : Int) - 7).toNat = k - 7 := by omega
          have q2a : (2 : Int) ≤ (k : Int) := by omega
          have q2d : (k : Int) - 2 < 64 := by omega
          have q2b : IntKind.i64.wrap ((k : Int) - 2) = (k : Int) - 2 := IntWalk.i64_in _ (by omega)
          have q2c : ((k : Int) - 2).toNat = k - 2 := by omega
          refine wp_region_still_tail 23 (by kernel_rfl) (by kernel_rfl) ?_
          simp only [List.take_succ_cons, List.take_zero, List.drop_succ_cons, List.drop_zero]
          repeat (first
            | still_step
            | (refine wpStill_step (fun K hK => ?_)
               go_simp
               with_reducible refine ⟨_, (sLow_any _ _).mono fun e w'' ⟨he, hw⟩ => ⟨he, hw.symm⟩, hK _ ?_⟩
               clear hK K)
            | (refine wpStill_step (fun K hK => ?_)
               go_simp
               with_reducible refine ⟨_, (sHigh_any _ _).mono fun e w'' ⟨he, hw⟩ => ⟨he, hw.symm⟩, hK _ ?_⟩
               clear hK K))
          clear q16a q16b q16c q16d q15a q15b q15c q15d q7a q7b q7c q7d q2a q2b q2c q2d
          refine wpStill_nil ?_
          change wpList _ _ _ _ _ wr.drew
          go_wp2
          rw [u_add4]
          go_roundw
          case rel =>
            have hll := HLL.out
            have g1 := (HB1.out.setd k (.int .u32 (u (x0 + lo0 x1 + x2 + lo1 x3)))).drew
            have g2 := (HB2.out.far (p := ⟨w.heap.size + 1, k, none⟩) (by simp) (.int .u32 (u (x0 + lo0 x1 + x2 + lo1 x3)))).drew
            rw [w32s_set] at g1
            have hbw : (blockWords bs).length = 16 := by simp [blockWords]
            refine ⟨k + 1, l.set k (x0 + lo0 x1 + x2 + lo1 x3), by omega, by omega, by go_num, by simp [hll], fun j hj => ?_, g1, g2, (HBL.out.setCell (by simp) _).drew⟩
            have e16 : k + 1 - 16 = (k - 16) + 1 := by omega
            rw [e16]
            by_cases hjk : j = k
            · subst hjk
              rw [List.getElem?_set_self (by omega)]
              rw [ext_at j _ (by omega) hbw, E0.out, E1.out, E2.out, E3.out, HLJ.out _ (by omega), HLJ.out _ (by omega), HLJ.out _ (by omega), HLJ.out _ (by omega)]
            · rw [List.getElem?_set_ne (by omega), ext_old _ _ _ (by rw [hbw]; omega)]
              exact HLJ.out j (by omega)
          case measure => simp [intOf]; omega
        · have hk64 : 64 ≤ k := by omega
          have hi64 : Hid ((Tryd.prog.info? 107).map (·.size) = some (w32s l).size) := by
            show _ = _
            rw [w32s_size, HLL.out]; exact info_A64
          have hz64 : Hid (Z.size = (w32s l).size) := by
            show _ = _
            rw [HZ.out, w32s_size, w32s_size, HLL.out]; simp
          go_wp2_with (first
            | (refine wpList_load_row rfl 107 (.tmp 3) rfl (w.heap.size + 1) rfl 107 (w32s l) (0, 0) _ HB1.out Tryd.underlying107 rfl hi64.out ?_)
            | (refine wpList_store_row rfl 107 (.tmp 2) (.tmp 69) rfl w.heap.size (w32s l) rfl rfl 107 Z HB2.out hi64.out hz64.out (w32s_one l) ?_))
          have hfin : l = ext 48 (blockWords bs) := by
            have hll := HLL.out
            have hbw : (blockWords bs).length = 16 := by simp [blockWords]
            apply List.ext_getElem?
            intro j
            rcases Nat.lt_or_ge j 64 with h | h
            · have := HLJ.out j (by omega)
              rw [show k - 16 = 48 by omega] at this
              exact this
            · rw [List.getElem?_eq_none (by omega), List.getElem?_eq_none (by rw [ext_length, hbw]; omega)]
          refine bodyPost_ret (results_cell_row Tryd.results70 _ _ w.heap.size 107 (w32s l) (0, 0) _ rfl (HB2.out.row _) Tryd.underlying107 rfl hi64.out) rfl ?_
          rw [hfin]
          exact ⟨rfl, below_setRow HBL.out (Nat.le_refl _) _⟩
end Go.Proofs.YtoacjaecfabahaaDoor
/-
  What this file is for: a state of eight words as a value, and the program's table of constants.
-/
namespace Go.Proofs.YtoacjaecfabahaaDoor
open Go.ChangeShapes Go.WideShapes Go.ChangeAt Go.RowKit
set_option linter.unusedVariables false

/-- a state as a value -/
def stV (s : St) : Value := .agg #[.int .u32 (u s.a), .int .u32 (u s.b), .int .u32 (u s.c), .int .u32 (u s.d), .int .u32 (u s.e), .int .u32 (u s.f), .int .u32 (u s.g), .int .u32 (u s.h)]
/-- the table of the program holds the constants -/
def Tab (w : World) : Prop := ∀ j, j < 64 → w.cell? ⟨0, j, none⟩ = some (.int .u32 (u (K64[j]?.getD 0)))
theorem Tab.below {w w' : World} (h : Tab w) (hb : Below w.heap.size w w') : Tab w' := fun j hj =>
  (World.cell?_of_block (w := w) (hb.block 0 (block_lt_of_cell (h j hj)))).trans (h j hj)
theorem Blk.drewN {w : World} {g : Nat} {t : TypeId} {cs : Array Value} (h : Blk w g t cs) (n : Nat) : Blk (w.drewN n) g t cs := h
theorem below_drewN {B : Nat} {a w : World} (h : Below B a w) (n : Nat) : Below B a (w.drewN n) := ⟨h.os, h.tape, h.output, h.size, h.block⟩

theorem all8 (a b c d e f g h : Int) : (#[Value.int .u32 a, .int .u32 b, .int .u32 c, .int .u32 d, .int .u32 e, .int .u32 f, .int .u32 g, .int .u32 h] : Array Value).all (·.oneCell') = true := by simp [Value.oneCell']
end Go.Proofs.YtoacjaecfabahaaDoor
/-
  What is proved here: what the code makes of a state and a block.
-/
namespace Go.Proofs.YtoacjaecfabahaaDoor
open Go.ChangeShapes Go.WideShapes Go.ChangeAt Go.RowKit
set_option linter.unusedVariables false

attribute [local go_sem] u_xor u_and u_or u_add u_not'
/-- what the loop of 'mix' keeps -/
def MixW (w wr : World) (g5 : Nat) (s1 s2 W : Array Value) : Prop :=
  Blk wr w.heap.size 95 s1 ∧ Blk wr (w.heap.size + 1) 95 s2 ∧ Blk wr g5 107 W ∧ Below w.heap.size w wr
theorem MixW.drewN {w wr : World} {g5 : Nat} {s1 s2 W : Array Value} (h : MixW w wr g5 s1 s2 W) (n : Nat) : MixW w (wr.drewN n) g5 s1 s2 W := ⟨h.1, h.2.1, h.2.2.1, below_drewN h.2.2.2 n⟩

set_option maxRecDepth 5000 in
set_option maxHeartbeats 6000000 in
theorem mix_any (s : St) (A : Option Addr) (c : Nat) (bs : List Int) (w : World) (hr : Rp w none A bs) (hb : Bs bs) (hl : bs.length = 64) (hc : 64 ≤ c) (ht : Tab w) :
    Calls Tryd.prog 60 #[stV s, .slice A 64 c] w fun e w' => e = .returned (stV (mixS s bs)) ∧ Below w.heap.size w w' := by
  obtain ⟨a, b, c_, d, e_, f, g, h⟩ := s
  obtain ⟨Z, HZ, hZ0, hZs⟩ := zero_A64
  have HSP := hid (fun (w1 : World) (hbl : Below w.heap.size w w1) => spread_any A c bs w1 (hr.belowN hbl) hb hl hc)
  have HT := hid ht
  obtain ⟨W, hW⟩ : ∃ W, W = ext 48 (blockWords bs) := ⟨_, rfl⟩
  have HWL : Hid (W.length = 64) := by show _ = _; rw [hW, ext_length]; simp [blockWords]
  obtain ⟨s0, hs0⟩ : ∃ s0 : St, s0 = ⟨a, b, c_, d, e_, f, g, h⟩ := ⟨_, rfl⟩
  obtain ⟨M, hM⟩ : ∃ M, M = mixS s0 bs := ⟨_, rfl⟩
  have HM : Hid (M = s0.add (s0.rounds K64 W 64)) := by show _ = _; rw [hM, hW]; rfl
  have HS0 := hid hs0
  rw [← hs0, ← hM]
  have e0 : stV s0 = .agg #[.int .u32 (u a), .int .u32 (u b), .int .u32 (u c_), .int .u32 (u d), .int .u32 (u e_), .int .u32 (u f), .int .u32 (u g), .int .u32 (u h)] := by rw [hs0]; rfl
  rw [e0]
  rw [← hW] at HSP
  have HI64 : Hid ((Tryd.prog.info? 107).map (·.size) = some (w32s W).size) := by show _ = _; rw [w32s_size, HWL.out]; exact info_A64
  have HZ64 : Hid (Z.size = (w32s W).size) := by show _ = _; rw [HZ.out, w32s_size, w32s_size, HWL.out]; simp
  clear hr hb hl ht hW hM hs0 e0
  go_enter Tryd.func60, Tryd.ntmps60
  go_wp2_with (first
    | (go_at_call 70; refine (HSP.out _ (((Below.refl _ _).alloc (Nat.le_refl _) _).alloc (by simp) _)).mono ?_; rintro e w1 ⟨rfl, hb1⟩; have HB1 := hid hb1; clear hb1)
    | (refine wpList_store_row rfl 107 (.tmp 5) (.tmp 18) rfl w1.heap.size (w32s W) rfl rfl 107 Z (Blk.new w1 107 Z) HI64.out HZ64.out (w32s_one W) ?_))
  have hk1 : Blk ((w.alloc (.cells #[.int .u32 (u a), .int .u32 (u b), .int .u32 (u c_), .int .u32 (u d), .int .u32 (u e_), .int .u32 (u f), .int .u32 (u g), .int .u32 (u h)] 95)).alloc (.cells #[.int .u32 0, .int .u32 0, .int .u32 0, .int .u32 0, .int .u32 0, .int .u32 0, .int .u32 0, .int .u32 0] 95)) w.heap.size 95 #[.int .u32 (u a), .int .u32 (u b), .int .u32 (u c_), .int .u32 (u d), .int .u32 (u e_), .int .u32 (u f), .int .u32 (u g), .int .u32 (u h)] := (Blk.new w 95 _).alloc _
  have hk2 : Blk ((w.alloc (.cells #[.int .u32 (u a), .int .u32 (u b), .int .u32 (u c_), .int .u32 (u d), .int .u32 (u e_), .int .u32 (u f), .int .u32 (u g), .int .u32 (u h)] 95)).alloc (.cells #[.int .u32 0, .int .u32 0, .int .u32 0, .int .u32 0, .int .u32 0, .int .u32 0, .int .u32 0, .int .u32 0] 95)) (w.heap.size + 1) 95 #[.int .u32 0, .int .u32 0, .int .u32 0, .int .u32 0, .int .u32 0, .int .u32 0, .int .u32 0, .int .u32 0] := by
    have := Blk.new (w.alloc (.cells #[.int .u32 (u a), .int .u32 (u b), .int .u32 (u c_), .int .u32 (u d), .int .u32 (u e_), .int .u32 (u f), .int .u32 (u g), .int .u32 (u h)] 95)) 95 #[.int .u32 0, .int .u32 0, .int .u32 0, .int .u32 0, .int .u32 0, .int .u32 0, .int .u32 0, .int .u32 0]
    rwa [show (w.alloc (.cells #[.int .u32 (u a), .int .u32 (u b), .int .u32 (u c_), .int .u32 (u d), .int .u32 (u e_), .int .u32 (u f), .int .u32 (u g), .int .u32 (u h)] 95)).heap.size = w.heap.size + 1 by simp] at this
  have hk0 : Below w.heap.size w ((w.alloc (.cells #[.int .u32 (u a), .int .u32 (u b), .int .u32 (u c_), .int .u32 (u d), .int .u32 (u e_), .int .u32 (u f), .int .u32 (u g), .int .u32 (u h)] 95)).alloc (.cells #[.int .u32 0, .int .u32 0, .int .u32 0, .int .u32 0, .int .u32 0, .int .u32 0, .int .u32 0, .int .u32 0] 95)) := ((Below.refl _ _).alloc (Nat.le_refl _) _).alloc (by simp) _
  have hb1 := HB1.out
  have l1 := hk1.lt
  have l2 := hk2.lt
  have hle : w.heap.size + 1 < w1.heap.size := Nat.lt_of_lt_of_le l2 hb1.size
  have k1 : Blk ((w1.alloc (.cells Z 107)).setRow w1.heap.size (w32s W)) w.heap.size 95 _ := ((hk1.same (hb1.block _ l1)).alloc (.cells Z 107)).rowFar (by omega) _
  have k2 : Blk ((w1.alloc (.cells Z 107)).setRow w1.heap.size (w32s W)) (w.heap.size + 1) 95 _ := ((hk2.same (hb1.block _ l2)).alloc (.cells Z 107)).rowFar (by omega) _
  have k3 : Blk ((w1.alloc (.cells Z 107)).setRow w1.heap.size (w32s W)) w1.heap.size 107 (w32s W) := (Blk.new w1 107 Z).row _
  have k0 : Below w.heap.size w ((w1.alloc (.cells Z 107)).setRow w1.heap.size (w32s W)) := below_setRow ((hk0.trans (hb1.mono hk0.size)).alloc (by omega) _) (by omega) _
  have K1 := hid k1; have K2 := hid k2; have K3 := hid k3; have K0 := hid k0
  clear hk1 hk2 hk0 hb1 l1 l2 k1 k2 k3 k0 HB1
  go_frame
  generalize (w1.alloc (.cells Z 107)).setRow w1.heap.size (w32s W) = w2 at K1 K2 K3 K0 ⊢
  obtain ⟨g5, hg5⟩ : ∃ g5, g5 = w1.heap.size := ⟨_, rfl⟩
  rw [← hg5] at K3 hle ⊢
  clear hg5
  have c0 : w2.cell? ⟨w.heap.size, 0, none⟩ = some (.int .u32 (u a)) := K1.out.cell 0
  have c1 : w2.cell? ⟨w.heap.size, 1, none⟩ = some (.int .u32 (u b)) := K1.out.cell 1
  have c2 : w2.cell? ⟨w.heap.size, 2, none⟩ = some (.int .u32 (u c_)) := K1.out.cell 2
  have c3 : w2.cell? ⟨w.heap.size, 3, none⟩ = some (.int .u32 (u d)) := K1.out.cell 3
  have c4 : w2.cell? ⟨w.heap.size, 4, none⟩ = some (.int .u32 (u e_)) := K1.out.cell 4
  have c5 : w2.cell? ⟨w.heap.size, 5, none⟩ = some (.int .u32 (u f)) := K1.out.cell 5
  have c6 : w2.cell? ⟨w.heap.size, 6, none⟩ = some (.int .u32 (u g)) := K1.out.cell 6
  have c7 : w2.cell? ⟨w.heap.size, 7, none⟩ = some (.int .u32 (u h)) := K1.out.cell 7
  go_region
  go_wp2
  go_region
  go_wp2
  clear c0 c1 c2 c3 c4 c5 c6 c7
  go_loopw [6, 7, 8, 9, 10, 11, 12, 13, 35] (fun v6 v7 v8 v9 v10 v11 v12 v13 i wr => ∃ (k : Nat) (S : St), k ≤ 64 ∧ i = .int .i64 k ∧ Hid (S = s0.rounds K64 W k) ∧ v6 = .int .u32 (u S.a) ∧ v7 = .int .u32 (u S.b) ∧ v8 = .int .u32 (u S.c) ∧ v9 = .int .u32 (u S.d) ∧ v10 = .int .u32 (u S.e) ∧ v11 = .int .u32 (u S.f) ∧ v12 = .int .u32 (u S.g) ∧ v13 = .int .u32 (u S.h) ∧ MixW w wr g5 #[.int .u32 (u a), .int .u32 (u b), .int .u32 (u c_), .int .u32 (u d), .int .u32 (u e_), .int .u32 (u f), .int .u32 (u g), .int .u32 (u h)] #[.int .u32 0, .int .u32 0, .int .u32 0, .int .u32 0, .int .u32 0, .int .u32 0, .int .u32 0, .int .u32 0] (w32s W)) (fun _ _ _ _ _ _ _ _ i _ => 64 - (intOf i).toNat)
  case atStart => exact ⟨0, s0, by omega, rfl, rfl, by rw [HS0.out], by rw [HS0.out], by rw [HS0.out], by rw [HS0.out], by rw [HS0.out], by rw [HS0.out], by rw [HS0.out], by rw [HS0.out], K1.out, K2.out, K3.out, below_drewN K0.out 2⟩
  case round =>
    obtain ⟨k, S, hk, rfl, HS, rfl, rfl, rfl, rfl, rfl, rfl, rfl, rfl, hw⟩ := hrel
    have HW := hid hw
    clear hw K0 K1 K2 K3
    obtain ⟨p, q, r, s, t, x, y, z⟩ := S
    simp only
    by_cases hlt : k < 64
    · have hkx : True := trivial
      as_aux_lemma =>
        have hT := (HT.out.below HW.out.2.2.2) k hlt
        have hW := w32s_get W k (by have := HWL.out; omega)
        rw [← HW.out.2.2.1.cell] at hW
        obtain ⟨kk, ek⟩ : ∃ v, v = K64[k]?.getD 0 := ⟨_, rfl⟩
        obtain ⟨ww, ew⟩ : ∃ v, v = W[k]?.getD 0 := ⟨_, rfl⟩
        rw [← ek] at hT
        rw [← ew] at hW
        have EK := hid ek; have EW := hid ew
        clear ek ew
        go_wp2
        refine wp_region_still_lit (by kernel_rfl) (by kernel_rfl) ?_
        repeat still_step
        refine wpStill_step (fun K hK => ?_)
        go_simp
        refine ⟨_, (tLow_any _ _).mono fun e w'' ⟨he, hw⟩ => ⟨he, hw.symm⟩, hK _ ?_⟩
        clear hK K
        repeat still_step
        refine wpStill_nil ?_
        go_wp2_with (go_at_call 72; refine (tHigh_any _ _).mono ?_; rintro e w'' ⟨rfl, rfl⟩)
        go_roundw
        case rel =>
          refine ⟨k + 1, (⟨p, q, r, s, t, x, y, z⟩ : St).round kk ww, by omega, by go_num, ?_, rfl, rfl, rfl, rfl, rfl, rfl, rfl, rfl, HW.out.drewN 1⟩
          show _ = (s0.rounds K64 W k).round (K64[k]?.getD 0) (W[k]?.getD 0)
          rw [← HS.out, ← EK.out, ← EW.out]
        case measure => simp [intOf]; omega
    · have hkx : True := trivial
      have hk64 : 64 ≤ k := by omega
      have c0 : wr.cell? ⟨w.heap.size, 0, none⟩ = some (.int .u32 (u a)) := HW.out.1.cell 0
      have c1 : wr.cell? ⟨w.heap.size, 1, none⟩ = some (.int .u32 (u b)) := HW.out.1.cell 1
      have c2 : wr.cell? ⟨w.heap.size, 2, none⟩ = some (.int .u32 (u c_)) := HW.out.1.cell 2
      have c3 : wr.cell? ⟨w.heap.size, 3, none⟩ = some (.int .u32 (u d)) := HW.out.1.cell 3
      have c4 : wr.cell? ⟨w.heap.size, 4, none⟩ = some (.int .u32 (u e_)) := HW.out.1.cell 4
      have c5 : wr.cell? ⟨w.heap.size, 5, none⟩ = some (.int .u32 (u f)) := HW.out.1.cell 5
      have c6 : wr.cell? ⟨w.heap.size, 6, none⟩ = some (.int .u32 (u g)) := HW.out.1.cell 6
      have c7 : wr.cell? ⟨w.heap.size, 7, none⟩ = some (.int .u32 (u h)) := HW.out.1.cell 7
      have hi8 : Hid ((Tryd.prog.info? 95).map (·.size) = some 8) := by show _ = _; kernel_rfl
      go_wp2_with (refine wpList_store_row rfl 95 (.tmp 4) (.tmp 118) rfl (w.heap.size + 1) _ rfl rfl 95 _ HW.out.2.1 hi8.out rfl (all8 _ _ _ _ _ _ _ _) ?_)
      go_frame
      have hfin : stV M = .agg #[.int .u32 (u (a + p)), .int .u32 (u (b + q)), .int .u32 (u (c_ + r)), .int .u32 (u (d + s)), .int .u32 (u (e_ + t)), .int .u32 (u (f + x)), .int .u32 (u (g + y)), .int .u32 (u (h + z))] := by
        have hs := HS.out
        rw [show k = 64 by omega] at hs
        rw [HM.out, ← hs, HS0.out]
        rfl
      rw [hfin]
      refine bodyPost_ret (results_cell_row Tryd.results60 _ _ (w.heap.size + 1) 95 #[.int .u32 (u (a + p)), .int .u32 (u (b + q)), .int .u32 (u (c_ + r)), .int .u32 (u (d + s)), .int .u32 (u (e_ + t)), .int .u32 (u (f + x)), .int .u32 (u (g + y)), .int .u32 (u (h + z))] (0, 0) _ rfl (HW.out.2.1.row _) Tryd.underlying95 rfl hi8.out) rfl ?_
      exact ⟨rfl, below_setRow HW.out.2.2.2 (by omega) _⟩
end Go.Proofs.YtoacjaecfabahaaDoor
/-
  What is proved here: the bytes that the code makes of a state.
-/
namespace Go.Proofs.YtoacjaecfabahaaDoor
open Go.ChangeShapes Go.WideShapes Go.ChangeAt Go.RowKit
set_option linter.unusedVariables false

/-- the bytes of a hash as a value -/
def hashV (l : List Int) : Value := .agg (u8s l).toArray
/-- the bytes of a state -/
def joinS (s : St) : List Int := (List.range 32).map fun i => u (s.list[i / 4]?.getD 0) / 256 ^ (3 - i % 4) % 256

set_option maxRecDepth 100000 in
theorem zero_Hash : ∃ Z : Array Value, Hid (Z = (u8s (List.replicate 32 0)).toArray) ∧ (¬ Z = #[]) ∧ ∀ w : World, Sem.run Tryd.prog (zeroValue 33) w = Result.ok (.agg Z) w := by
  refine ⟨(List.replicate 32 (.int .u8 0)).toArray, ?_, ?_, fun w => by kernel_rfl⟩
  · show _ = _
    unfold u8s
    rw [List.map_replicate]
  · intro h
    have := congrArg Array.size h
    simp at this

theorem u8s_set (l : List Int) (i : Nat) (x : Int) : (u8s l).toArray.setIfInBounds i (.int .u8 x) = (u8s (l.set i x)).toArray := by
  simp [u8s, List.map_set]
theorem u8s_at (l : List Int) (i : Nat) (h : i < l.length) : (u8s l).toArray[i]? = some (.int .u8 (l[i]?.getD 0)) := by
  rw [List.getElem?_toArray, u8s_get l i h]
theorem join_get (s : St) (i : Nat) (h : i < 32) : (joinS s)[i]? = some (u (s.list[i / 4]?.getD 0) / 256 ^ (3 - i % 4) % 256) := by
  simp [joinS, h]

set_option maxRecDepth 100000 in
theorem idx8 (s : St) (k : Nat) (hk : k < 8) (w' : World) : (Instr.index 95 (.agg #[.int .u32 (u s.a), .int .u32 (u s.b), .int .u32 (u s.c), .int .u32 (u s.d), .int .u32 (u s.e), .int .u32 (u s.f), .int .u32 (u s.g), .int .u32 (u s.h)]) (.int .i64 (k : Int))).run Tryd.prog w' = .ok (.int .u32 (u (s.list[k]?.getD 0))) w' := by
  match k, hk with
  | 0, _ => exact (by kernel_rfl : (Instr.index 95 (.agg #[.int .u32 (u s.a), .int .u32 (u s.b), .int .u32 (u s.c), .int .u32 (u s.d), .int .u32 (u s.e), .int .u32 (u s.f), .int .u32 (u s.g), .int .u32 (u s.h)]) (.int .i64 0)).run Tryd.prog w' = .ok (.int .u32 (u s.a)) w')
  | 1, _ => exact (by kernel_rfl : (Instr.index 95 (.agg #[.int .u32 (u s.a), .int .u32 (u s.b), .int .u32 (u s.c), .int .u32 (u s.d), .int .u32 (u s.e), .int .u32 (u s.f), .int .u32 (u s.g), .int .u32 (u s.h)]) (.int .i64 1)).run Tryd.prog w' = .ok (.int .u32 (u s.b)) w')
  | 2, _ => exact (by kernel_rfl : (Instr.index 95 (.agg #[.int .u32 (u s.a), .int .u32 (u s.b), .int .u32 (u s.c), .int .u32 (u s.d), .int .u32 (u s.e), .int .u32 (u s.f), .int .u32 (u s.g), .int .u32 (u s.h)]) (.int .i64 2)).run Tryd.prog w' = .ok (.int .u32 (u s.c)) w')
  | 3, _ => exact (by kernel_rfl : (Instr.index 95 (.agg #[.int .u32 (u s.a), .int .u32 (u s.b), .int .u32 (u s.c), .int .u32 (u s.d), .int .u32 (u s.e), .int .u32 (u s.f), .int .u32 (u s.g), .int .u32 (u s.h)]) (.int .i64 3)).run Tryd.prog w' = .ok (.int .u32 (u s.d)) w')
  | 4, _ => exact (by kernel_rfl : (Instr.index 95 (.agg #[.int .u32 (u s.a), .int .u32 (u s.b), .int .u32 (u s.c), .int .u32 (u s.d), .int .u32 (u s.e), .int .u32 (u s.f), .int .u32 (u s.g), .int .u32 (u s.h)]) (.int .i64 4)).run Tryd.prog w' = .ok (.int .u32 (u s.e)) w')
  | 5, _ => exact (by kernel_rfl : (Instr.index 95 (.agg #[.int .u32 (u s.a), .int .u32 (u s.b), .int .u32 (u s.c), .int .u32 (u s.d), .int .u32 (u s.e), .int .u32 (u s.f), .int .u32 (u s.g), .int .u32 (u s.h)]) (.int .i64 5)).run Tryd.prog w' = .ok (.int .u32 (u s.f)) w')
  | 6, _ => exact (by kernel_rfl : (Instr.index 95 (.agg #[.int .u32 (u s.a), .int .u32 (u s.b), .int .u32 (u s.c), .int .u32 (u s.d), .int .u32 (u s.e), .int .u32 (u s.f), .int .u32 (u s.g), .int .u32 (u s.h)]) (.int .i64 6)).run Tryd.prog w' = .ok (.int .u32 (u s.g)) w')
  | 7, _ => exact (by kernel_rfl : (Instr.index 95 (.agg #[.int .u32 (u s.a), .int .u32 (u s.b), .int .u32 (u s.c), .int .u32 (u s.d), .int .u32 (u s.e), .int .u32 (u s.f), .int .u32 (u s.g), .int .u32 (u s.h)]) (.int .i64 7)).run Tryd.prog w' = .ok (.int .u32 (u s.h)) w')

set_option maxRecDepth 100000 in
set_option maxHeartbeats 1000000 in
theorem joined_any (s : St) (w : World) :
    Calls Tryd.prog 62 #[stV s] w fun e w' => e = .returned (hashV (joinS s)) ∧ Below w.heap.size w w' := by
  obtain ⟨Z, HZ, hZ0, hZs⟩ := zero_Hash
  have e0 : stV s = .agg #[.int .u32 (u s.a), .int .u32 (u s.b), .int .u32 (u s.c), .int .u32 (u s.d), .int .u32 (u s.e), .int .u32 (u s.f), .int .u32 (u s.g), .int .u32 (u s.h)] := rfl
  rw [e0]
  obtain ⟨R, hR⟩ : ∃ R, R = hashV (joinS s) := ⟨_, rfl⟩
  rw [← hR]
  have HR := hid hR
  clear hR e0
  go_enter Tryd.func62, Tryd.ntmps62
  go_wp2
  have hB0 : Below w.heap.size w (((w.alloc (.cells #[.int .u32 (u s.a), .int .u32 (u s.b), .int .u32 (u s.c), .int .u32 (u s.d), .int .u32 (u s.e), .int .u32 (u s.f), .int .u32 (u s.g), .int .u32 (u s.h)] 95)).alloc (.cells Z 33)).alloc (.cells Z 33)) := (((Below.refl _ _).alloc (Nat.le_refl _) _).alloc (by simp) _).alloc (by simp; omega) _
  have hK1 : Blk (((w.alloc (.cells #[.int .u32 (u s.a), .int .u32 (u s.b), .int .u32 (u s.c), .int .u32 (u s.d), .int .u32 (u s.e), .int .u32 (u s.f), .int .u32 (u s.g), .int .u32 (u s.h)] 95)).alloc (.cells Z 33)).alloc (.cells Z 33)) (w.heap.size + 1) 33 Z := by
    have := (Blk.new (w.alloc (.cells #[.int .u32 (u s.a), .int .u32 (u s.b), .int .u32 (u s.c), .int .u32 (u s.d), .int .u32 (u s.e), .int .u32 (u s.f), .int .u32 (u s.g), .int .u32 (u s.h)] 95)) 33 Z).alloc (.cells Z 33)
    rwa [show (w.alloc (.cells #[.int .u32 (u s.a), .int .u32 (u s.b), .int .u32 (u s.c), .int .u32 (u s.d), .int .u32 (u s.e), .int .u32 (u s.f), .int .u32 (u s.g), .int .u32 (u s.h)] 95)).heap.size = w.heap.size + 1 by simp] at this
  have hK2 : Blk (((w.alloc (.cells #[.int .u32 (u s.a), .int .u32 (u s.b), .int .u32 (u s.c), .int .u32 (u s.d), .int .u32 (u s.e), .int .u32 (u s.f), .int .u32 (u s.g), .int .u32 (u s.h)] 95)).alloc (.cells Z 33)).alloc (.cells Z 33)) (w.heap.size + 1 + 1) 33 Z := by
    have := Blk.new ((w.alloc (.cells #[.int .u32 (u s.a), .int .u32 (u s.b), .int .u32 (u s.c), .int .u32 (u s.d), .int .u32 (u s.e), .int .u32 (u s.f), .int .u32 (u s.g), .int .u32 (u s.h)] 95)).alloc (.cells Z 33)) 33 Z
    rwa [show ((w.alloc (.cells #[.int .u32 (u s.a), .int .u32 (u s.b), .int .u32 (u s.c), .int .u32 (u s.d), .int .u32 (u s.e), .int .u32 (u s.f), .int .u32 (u s.g), .int .u32 (u s.h)] 95)).alloc (.cells Z 33)).heap.size = w.heap.size + 1 + 1 by simp] at this
  have B0 := hid hB0; have K1 := hid hK1; have K2 := hid hK2
  clear hB0 hK1 hK2
  go_loopw [7] (fun i wr => ∃ (k : Nat) (l : List Int), k ≤ 8 ∧ i = .int .i64 k ∧ l.length = 32 ∧ (∀ j, j < 4 * k → l[j]? = (joinS s)[j]?) ∧ Blk wr (w.heap.size + 1 + 1) 33 (u8s l).toArray ∧ Blk wr (w.heap.size + 1) 33 Z ∧ Below w.heap.size w wr) (fun i _ => 8 - (intOf i).toNat)
  case atStart => exact ⟨0, List.replicate 32 0, by omega, rfl, by simp, fun j hj => by omega, by rw [← HZ.out]; exact K2.out, K1.out, B0.out⟩
  case round =>
    obtain ⟨k, l, hk, rfl, hll, hlj, hb1, hb2, hbel⟩ := hrel
    have HLL := hid hll; have HLJ := hid hlj; have HB1 := hid hb1; have HB2 := hid hb2; have HBL := hid hbel
    clear hll hlj hb1 hb2 hbel
    by_cases hlt : k < 8
    · obtain ⟨x, hx⟩ : ∃ x, x = s.list[k]?.getD 0 := ⟨_, rfl⟩
      have hidx : ∀ w' : World, (Instr.index 95 (.agg #[.int .u32 (u s.a), .int .u32 (u s.b), .int .u32 (u s.c), .int .u32 (u s.d), .int .u32 (u s.e), .int .u32 (u s.f), .int .u32 (u s.g), .int .u32 (u s.h)]) (.int .i64 (k : Int))).run Tryd.prog w' = .ok (.int .u32 (u x)) w' := by
        intro w'
        rw [hx]
        exact idx8 s k hlt w'
      have HX := hid hx
      have hget : ∀ j, j < 32 → wr.cell? ⟨w.heap.size + 1 + 1, j, none⟩ = some (.int .u8 (l[j]?.getD 0)) := fun j hj => by
        rw [HB1.out.cell]; exact u8s_at l j (by have := HLL.out; omega)
      have c0 := hget (4 * k) (by omega)
      have c1 := hget (4 * k + 1) (by omega)
      have c2 := hget (4 * k + 2) (by omega)
      have c3 := hget (4 * k + 3) (by omega)
      have f0 : wr.frozen? ⟨w.heap.size + 1 + 1, 4 * k, none⟩ = false := HB1.out.frozen _
      have f1 : wr.frozen? ⟨w.heap.size + 1 + 1, 4 * k + 1, none⟩ = false := HB1.out.frozen _
      have f2 : wr.frozen? ⟨w.heap.size + 1 + 1, 4 * k + 2, none⟩ = false := HB1.out.frozen _
      have f3 : wr.frozen? ⟨w.heap.size + 1 + 1, 4 * k + 3, none⟩ = false := HB1.out.frozen _
      have xl := u_lo x
      have xh := u_hi x
      clear hget hx xl xh
      go_wp2
      go_roundw
      case rel =>
        have hll := HLL.out
        have g1 := (((HB1.out.setd (4 * k) (.int .u8 (u x / 16777216 % 256))).setd (4 * k + 1) (.int .u8 (u x / 65536 % 256))).setd (4 * k + 2) (.int .u8 (u x / 256 % 256))).setd (4 * k + 3) (.int .u8 (u x % 256))
        rw [u8s_set, u8s_set, u8s_set, u8s_set] at g1
        have g2 := (((HB2.out.far (p := ⟨w.heap.size + 1 + 1, 4 * k, none⟩) (by simp) (.int .u8 (u x / 16777216 % 256))).far (p := ⟨w.heap.size + 1 + 1, 4 * k + 1, none⟩) (by simp) (.int .u8 (u x / 65536 % 256))).far (p := ⟨w.heap.size + 1 + 1, 4 * k + 2, none⟩) (by simp) (.int .u8 (u x / 256 % 256))).far (p := ⟨w.heap.size + 1 + 1, 4 * k + 3, none⟩) (by simp) (.int .u8 (u x % 256))
        refine ⟨k + 1, (((l.set (4 * k) (u x / 16777216 % 256)).set (4 * k + 1) (u x / 65536 % 256)).set (4 * k + 2) (u x / 256 % 256)).set (4 * k + 3) (u x % 256), by omega, by go_num, by simp [hll], fun j hj => ?_, g1, g2, (((HBL.out.setCell (by simp; omega) _).setCell (by simp; omega) _).setCell (by simp; omega) _).setCell (by simp; omega) _⟩
        by_cases h3 : j = 4 * k + 3
        · subst h3
          rw [List.getElem?_set_self (by simp [hll]; omega), join_get s _ (by omega), show (4 * k + 3) / 4 = k by omega, show 3 - (4 * k + 3) % 4 = 0 by omega, ← HX.out]
          simp
        rw [List.getElem?_set_ne (by omega)]
        by_cases h2 : j = 4 * k + 2
        · subst h2
          rw [List.getElem?_set_self (by simp [hll]; omega), join_get s _ (by omega), show (4 * k + 2) / 4 = k by omega, show 3 - (4 * k + 2) % 4 = 1 by omega, ← HX.out]
          rfl
        rw [List.getElem?_set_ne (by omega)]
        by_cases h1 : j = 4 * k + 1
        · subst h1
          rw [List.getElem?_set_self (by simp [hll]; omega), join_get s _ (by omega), show (4 * k + 1) / 4 = k by omega, show 3 - (4 * k + 1) % 4 = 2 by omega, ← HX.out]
          rfl
        rw [List.getElem?_set_ne (by omega)]
        by_cases h0 : j = 4 * k
        · subst h0
          rw [List.getElem?_set_self (by simp [hll]; omega), join_get s _ (by omega), show (4 * k) / 4 = k by omega, show 3 - (4 * k) % 4 = 3 by omega, ← HX.out]
          rfl
        rw [List.getElem?_set_ne (by omega)]
        exact HLJ.out j (by omega)
      case measure => simp [intOf]; omega
    · have hk8 : 8 ≤ k := by omega
      have hi32 : Hid ((Tryd.prog.info? 33).map (·.size) = some (u8s l).toArray.size) := by
        show _ = _
        rw [List.size_toArray, u8s_length, HLL.out]; kernel_rfl
      have hz32 : Hid (Z.size = (u8s l).toArray.size) := by
        show _ = _
        rw [HZ.out, List.size_toArray, List.size_toArray, u8s_length, u8s_length, HLL.out]; simp
      have ho32 : Hid ((u8s l).toArray.all (·.oneCell') = true) := by
        show _ = _
        rw [Array.all_eq_true_iff_forall_mem]
        intro v hv
        exact u8s_one l v (by simpa using hv)
      go_wp2_with (first
        | (refine wpList_load_row rfl 33 (.tmp 3) rfl (w.heap.size + 1 + 1) rfl 33 (u8s l).toArray (0, 0) _ HB1.out Tryd.underlying33 rfl hi32.out ?_)
        | (refine wpList_store_row rfl 33 (.tmp 2) (.tmp 38) rfl (w.heap.size + 1) (u8s l).toArray rfl rfl 33 Z HB2.out hi32.out hz32.out ho32.out ?_))
      have hfin : l = joinS s := by
        have hll := HLL.out
        apply List.ext_getElem?
        intro j
        rcases Nat.lt_or_ge j 32 with h | h
        · exact HLJ.out j (by omega)
        · rw [List.getElem?_eq_none (by omega), List.getElem?_eq_none (by simp [joinS]; omega)]
      refine bodyPost_ret (results_cell_row Tryd.results62 _ _ (w.heap.size + 1) 33 (u8s l).toArray (0, 0) _ rfl (HB2.out.row _) Tryd.underlying33 rfl hi32.out) rfl ?_
      rw [HR.out, ← hfin]
      exact ⟨rfl, below_setRow HBL.out (by omega) _⟩
end Go.Proofs.YtoacjaecfabahaaDoor
/-
  What is proved here: the last block, or two, of a message.
-/
namespace Go.Proofs.YtoacjaecfabahaaDoor
open Go.ChangeShapes Go.WideShapes Go.ChangeAt Go.RowKit
set_option linter.unusedVariables false

/-- the last blocks' bytes: the rest, a byte 128, noughts, and the last k bytes of the eight of M, up to size -/
def endAt (rest : List Int) (M : Int) (size k j : Nat) : Int :=
  if j < rest.length then rest[j]?.getD 0 else if j = rest.length then 128 else if size - k ≤ j ∧ j < size then M / 256 ^ (size - 1 - j) % 256 else 0
theorem zero_A128 : ∃ Z : Array Value, Hid (Z = (u8s (List.replicate 128 0)).toArray) ∧ (¬ Z = #[]) ∧ ∀ w : World, Sem.run Tryd.prog (zeroValue 97) w = Result.ok (.agg Z) w := by
  refine ⟨(List.replicate 128 (.int .u8 0)).toArray, ?_, ?_, fun w => by kernel_rfl⟩
  · show _ = _
    unfold u8s
    rw [List.map_replicate]
  · intro h
    have := congrArg Array.size h
    simp at this
theorem splice_zero (rest : List Int) (h : rest.length ≤ 128) : splice (u8s (List.replicate 128 0)) 0 (u8s rest) = u8s (rest ++ List.replicate (128 - rest.length) 0) := by
  apply List.ext_getElem?
  intro i
  rw [get_splice _ _ _ (by rw [u8s_length, u8s_length, List.length_replicate]; omega), if_neg (by omega), u8s_length, Nat.zero_add, Nat.sub_zero]
  by_cases h1 : i < rest.length
  · rw [if_pos h1, u8s_get _ _ h1, u8s_get _ _ (by simp; omega), List.getElem?_append_left h1]
  · rw [if_neg h1]
    by_cases h2 : i < 128
    · rw [u8s_get _ _ (by simpa using h2), u8s_get _ _ (by simp; omega), List.getElem?_append_right (by omega), List.getElem?_replicate, List.getElem?_replicate, if_pos h2, if_pos (by omega)]
    · rw [List.getElem?_eq_none (by simp [u8s]; omega), List.getElem?_eq_none (by simp [u8s]; omega)]
theorem results_cell_slot {P : Program} {fn : Func} {p q : Tmp} {ty : TypeId} (h : fn.results = #[.cell p ty, .tmp q]) (tmps : Array Value) (w : World) (g : Nat) (t : TypeId) (cs : Array Value) (fr : Nat × Nat) (d : TypeDesc)
    (hp : tmps.getD p undef = .pointer (some ⟨g, 0, none⟩)) (hg : w.heap[g]? = some (.cells cs t fr))
    (hu : P.underlying ty = some d) (hd : (match d with | .struct _ | .array _ _ => true | _ => false) = true) (hi : (P.info? ty).map (·.size) = some cs.size) :
    (results fn tmps).run P w = .ok (.tuple #[.agg cs, tmps.getD q undef]) w := by
  have hp' : tmps[p]?.getD undef = .pointer (some ⟨g, 0, none⟩) := by simpa using hp
  simp [results, h, hp', asAddr, run_loadVar_row w g t ty cs fr d hg hu hd hi]
theorem end_start (rest : List Int) (M : Int) (size r j : Nat) (hr : r = rest.length) (hl : r < 64) (hj : j < 128) : ((rest ++ List.replicate (128 - rest.length) 0).set r 128)[j]? = some (endAt rest M size 0 j) := by
  unfold endAt
  by_cases h1 : j < rest.length
  · rw [List.getElem?_set_ne (by omega), List.getElem?_append_left h1, if_pos h1, List.getElem?_eq_getElem h1]; rfl
  · rw [if_neg h1]
    by_cases h2 : j = rest.length
    · subst h2; subst hr
      rw [List.getElem?_set_self (by simp; omega), if_pos rfl]
    · rw [if_neg h2, if_neg (by omega), List.getElem?_set_ne (by omega), List.getElem?_append_right (by omega), List.getElem?_replicate, if_pos (by omega)]
theorem end_step (rest : List Int) (M : Int) (size k j : Nat) (l : List Int) (hl : l.length = 128) (hs : size = 64 ∨ size = 128) (hr : rest.length + 8 < size) (hk : k < 8) (hj : j < 128) (h : ∀ j, j < 128 → l[j]? = some (endAt rest M size k j)) :
    (l.set (size - 1 - k) (M / 256 ^ k % 256))[j]? = some (endAt rest M size (k + 1) j) := by
  by_cases h1 : j = size - 1 - k
  · subst h1
    rw [List.getElem?_set_self (by omega)]
    unfold endAt
    rw [if_neg (by omega), if_neg (by omega), if_pos (by omega), show size - 1 - (size - 1 - k) = k by omega]
  · rw [List.getElem?_set_ne (by omega), h j hj]
    unfold endAt
    by_cases h2 : j < rest.length
    · rw [if_pos h2, if_pos h2]
    · rw [if_neg h2, if_neg h2]
      by_cases h3 : j = rest.length
      · rw [if_pos h3, if_pos h3]
      · rw [if_neg h3, if_neg h3]
        by_cases h4 : size - k ≤ j ∧ j < size
        · rw [if_pos h4, if_pos (by omega)]
        · rw [if_neg h4, if_neg (by omega)]
theorem u8s_all (l : List Int) : (u8s l).toArray.all (·.oneCell') = true := by
  rw [Array.all_eq_true_iff_forall_mem]
  intro v hv
  exact u8s_one l v (by simpa using hv)

set_option maxRecDepth 5000 in
set_option maxHeartbeats 2000000 in
theorem ending_64 (A : Option Addr) (c N : Nat) (rest : List Int) (w : World) (hr : Rp w none A rest) (hl : rest.length < 64) (hN : N < 1000000000000) (hs : rest.length + 9 ≤ 64) :
    Calls Tryd.prog 61 #[.slice A rest.length c, .int .i64 N] w fun e w' => ∃ l : List Int, e = .returned (.tuple #[.agg (u8s l).toArray, .int .i64 64]) ∧ l.length = 128 ∧ (∀ j, j < 128 → l[j]? = some (endAt rest (8 * (N : Int)) 64 8 j)) ∧ Below w.heap.size w w' := by
  obtain ⟨Z, HZ, hZ0, hZs⟩ := zero_A128
  have hB0 : Below w.heap.size w ((w.alloc (.cells Z 97)).alloc (.cells Z 97)) := ((Below.refl _ _).alloc (Nat.le_refl _) _).alloc (by simp) _
  have hK1 : Blk ((w.alloc (.cells Z 97)).alloc (.cells Z 97)) w.heap.size 97 Z := (Blk.new w 97 Z).alloc _
  have hK2 : Blk ((w.alloc (.cells Z 97)).alloc (.cells Z 97)) (w.heap.size + 1) 97 Z := by
    have := Blk.new (w.alloc (.cells Z 97)) 97 Z
    rwa [show (w.alloc (.cells Z 97)).heap.size = w.heap.size + 1 by simp] at this
  have hP : 0 < (u8s rest).length → some (⟨w.heap.size + 1, 0, none⟩ : Addr) = some ⟨w.heap.size + 1, 0, none⟩ ∧ ∃ ad, A = some ad ∧ ∀ j v, (u8s rest)[j]? = some v → ((w.alloc (.cells Z 97)).alloc (.cells Z 97)).cell? (ad.add j) = some v := by
    intro hpos
    rw [u8s_length] at hpos
    obtain ⟨ad, rfl, hc⟩ := (hr.belowN hB0).get hpos
    refine ⟨rfl, ad, rfl, fun j v hv => ?_⟩
    have hj : j < rest.length := by
      rcases Nat.lt_or_ge j rest.length with h | h
      · exact h
      · rw [List.getElem?_eq_none (by rw [u8s_length]; exact h)] at hv; cases hv
    rw [hc j hj, ← hv, u8s_get _ _ hj]
  have hfit : 0 + (u8s rest).length ≤ (u8s (List.replicate 128 0)).length := by rw [u8s_length, u8s_length, List.length_replicate]; omega
  have hspl := splice_zero rest (by omega)
  obtain ⟨r, hrr⟩ : ∃ r, r = rest.length := ⟨_, rfl⟩
  have hcn : (u8s rest).length = Nat.min r 128 := by rw [u8s_length, ← hrr]; show r = min r 128; omega
  rw [← hrr] at hl hs ⊢
  have HRR := hid hrr
  have HK1 := hid hK1
  have HK2 : Hid (Blk ((w.alloc (.cells Z 97)).alloc (.cells Z 97)) (w.heap.size + 1) 97 (u8s (List.replicate 128 0)).toArray) := by rw [← HZ.out]; exact hK2
  have HP := hid hP; have HFIT := hid hfit; have HCN := hid hcn; have HSPL := hid hspl; have B0 := hid hB0
  have HSU : Hid ((Tryd.prog.info? 5).map (·.size) = some 1) := by show _ = _; kernel_rfl
  have BR : Hid (Below (w.heap.size + 1) ((w.alloc (.cells Z 97)).alloc (.cells Z 97)) ((w.alloc (.cells Z 97)).alloc (.cells Z 97))) := Below.refl _ _
  have HF4 : Hid (∀ w4 : World, Hid (w4.heap[w.heap.size + 1]? = some (.cells (splice (u8s (List.replicate 128 0)) 0 (u8s rest)).toArray 97 (0, 0))) → Blk w4 (w.heap.size + 1) 97 (u8s (rest ++ List.replicate (128 - rest.length) 0)).toArray) := fun w4 hg => by
    have h := hg.out
    rw [hspl] at h
    exact h
  have HC4 : Hid (∀ w4 : World, Blk w4 (w.heap.size + 1) 97 (u8s (rest ++ List.replicate (128 - rest.length) 0)).toArray → w4.cell? ⟨w.heap.size + 1, r, none⟩ = some (.int .u8 0)) := fun w4 hg => by
    rw [hg.cell, u8s_at _ _ (by simp; omega), List.getElem?_append_right (by omega), List.getElem?_replicate, if_pos (by omega)]; rfl
  clear hr hrr hB0 hK1 hK2 hP hfit hcn hspl
  have hd0 : decide ((64 : Int) < (r : Int) + 1 + 8) = false := by simp; omega
  go_enter Tryd.func61, Tryd.ntmps61
  go_wp2_with ((with_reducible refine wpList_copy_splice (d := .tmp 10) (s := .tmp 11) (dT := 89) (sT := 89) (elem := 5) (dp := some (⟨w.heap.size + 1, 0, none⟩ : Addr)) (sp := A) (dLen := 128) (dCap := 128) (sLen := r) (sCap := c) (g := w.heap.size + 1) (off := 0) (cur := u8s (List.replicate 128 0)) (t := 97) (cs := u8s rest) (B := w.heap.size + 1) (w0 := (w.alloc (.cells Z 97)).alloc (.cells Z 97)) ?_ ?_ ?_ ?_ ?_ ?_ ?_ ?_ ?_ ?_ ?_ ?_ ?_ ?_); rfl; rfl; exact Tryd.underlying89; exact HSU.out; go_simp; go_simp; exact HK2.out; exact HCN.out; exact HP.out; exact HFIT.out; exact u8s_one _; exact BR.out; exact Nat.le_refl _; intro w4 hg4 hb4; have HB4 := hid hb4; have hk4 : Blk w4 (w.heap.size + 1) 97 (u8s (rest ++ List.replicate (128 - rest.length) 0)).toArray := HF4.out w4 hg4; have HK4 := hid hk4; have c4 : w4.cell? ⟨w.heap.size + 1, r, none⟩ = some (.int .u8 0) := HC4.out w4 hk4; have f4 : w4.frozen? ⟨w.heap.size + 1, r, none⟩ = false := hk4.frozen r; clear hb4 hg4 hk4)
  have hx := (HK4.out).setd r (.int .u8 128)
  rw [u8s_set] at hx
  have hk1 : Blk (w4.setCell ⟨w.heap.size + 1, r, none⟩ (.int .u8 128)) w.heap.size 97 Z := (HK1.out.same (HB4.out.block _ (by omega))).far (by simp) _
  have hbx : Below w.heap.size w (w4.setCell ⟨w.heap.size + 1, r, none⟩ (.int .u8 128)) := (B0.out.trans (HB4.out.mono (Nat.le_succ _))).setCell (by simp) _
  have HX := hid hx; have HK1' := hid hk1; have HBX := hid hbx
  clear hx hk1 hbx c4 f4
  generalize w4.setCell ⟨w.heap.size + 1, r, none⟩ (.int .u8 128) = w5 at HX HK1' HBX ⊢
  go_loopw [24] (fun i wr => ∃ (k : Nat) (l : List Int), k ≤ 8 ∧ i = .int .i64 k ∧ l.length = 128 ∧ (∀ j, j < 128 → l[j]? = some (endAt rest (8 * (N : Int)) 64 k j)) ∧ Blk wr (w.heap.size + 1) 97 (u8s l).toArray ∧ Blk wr w.heap.size 97 Z ∧ Below w.heap.size w wr) (fun i _ => 8 - (intOf i).toNat)
  case atStart => exact ⟨0, (rest ++ List.replicate (128 - rest.length) 0).set r 128, by omega, rfl, by have := HRR.out; simp; omega, fun j hj => end_start rest _ 64 r j HRR.out hl hj, HX.out, HK1'.out, HBX.out⟩
  case round =>
    obtain ⟨k, l, hk, rfl, hll, hlj, hb1, hb2, hbel⟩ := hrel
    have HLL := hid hll; have HLJ := hid hlj; have HB1 := hid hb1; have HB2 := hid hb2; have HBL := hid hbel
    clear hll hlj hb1 hb2 hbel HX HK1' HBX
    by_cases hlt : k < 8
    · have ck : wr.cell? ⟨w.heap.size + 1, 63 - k, none⟩ = some (.int .u8 (l[63 - k]?.getD 0)) := by
        rw [HB1.out.cell]; exact u8s_at l _ (by have := HLL.out; omega)
      have fk : wr.frozen? ⟨w.heap.size + 1, 63 - k, none⟩ = false := HB1.out.frozen _
      go_wp2
      go_roundw
      case rel =>
        have e2 : (2 : Int) ^ (8 * k) = 256 ^ k := by rw [Int.pow_mul]; rfl
        rw [e2]
        have g1 := HB1.out.setd (63 - k) (.int .u8 (8 * (N : Int) / 256 ^ k % 256))
        rw [u8s_set] at g1
        exact ⟨k + 1, l.set (63 - k) (8 * (N : Int) / 256 ^ k % 256), by omega, by go_num, by simp [HLL.out], fun j hj => end_step rest _ 64 k j l HLL.out (by decide) (by have := HRR.out; omega) hlt hj HLJ.out, g1, HB2.out.far (by simp) _, HBL.out.setCell (by simp) _⟩
      case measure => simp [intOf]; omega
    · have hk8 : 8 ≤ k := by omega
      have hi : Hid ((Tryd.prog.info? 97).map (·.size) = some (u8s l).toArray.size) := by
        show _ = _
        rw [List.size_toArray, u8s_length, HLL.out]; kernel_rfl
      have hz : Hid (Z.size = (u8s l).toArray.size) := by
        show _ = _
        rw [HZ.out, List.size_toArray, List.size_toArray, u8s_length, u8s_length, HLL.out]; simp
      go_wp2_with (first
        | (refine wpList_load_row rfl 97 (.tmp 6) rfl (w.heap.size + 1) rfl 97 (u8s l).toArray (0, 0) _ HB1.out Tryd.underlying97 rfl hi.out ?_)
        | (refine wpList_store_row rfl 97 (.tmp 4) (.tmp 38) rfl w.heap.size (u8s l).toArray rfl rfl 97 Z HB2.out hi.out hz.out (u8s_all l) ?_))
      refine bodyPost_ret (results_cell_slot Tryd.results61 _ _ w.heap.size 97 (u8s l).toArray (0, 0) _ rfl (HB2.out.row _) Tryd.underlying97 rfl hi.out) rfl ?_
      obtain rfl : k = 8 := by omega
      exact ⟨l, rfl, HLL.out, HLJ.out, below_setRow HBL.out (Nat.le_refl _) _⟩

set_option maxRecDepth 5000 in
set_option maxHeartbeats 2000000 in
theorem ending_128 (A : Option Addr) (c N : Nat) (rest : List Int) (w : World) (hr : Rp w none A rest) (hl : rest.length < 64) (hN : N < 1000000000000) (hs : 64 < rest.length + 9) :
    Calls Tryd.prog 61 #[.slice A rest.length c, .int .i64 N] w fun e w' => ∃ l : List Int, e = .returned (.tuple #[.agg (u8s l).toArray, .int .i64 128]) ∧ l.length = 128 ∧ (∀ j, j < 128 → l[j]? = some (endAt rest (8 * (N : Int)) 128 8 j)) ∧ Below w.heap.size w w' := by
  obtain ⟨Z, HZ, hZ0, hZs⟩ := zero_A128
  have hB0 : Below w.heap.size w ((w.alloc (.cells Z 97)).alloc (.cells Z 97)) := ((Below.refl _ _).alloc (Nat.le_refl _) _).alloc (by simp) _
  have hK1 : Blk ((w.alloc (.cells Z 97)).alloc (.cells Z 97)) w.heap.size 97 Z := (Blk.new w 97 Z).alloc _
  have hK2 : Blk ((w.alloc (.cells Z 97)).alloc (.cells Z 97)) (w.heap.size + 1) 97 Z := by
    have := Blk.new (w.alloc (.cells Z 97)) 97 Z
    rwa [show (w.alloc (.cells Z 97)).heap.size = w.heap.size + 1 by simp] at this
  have hP : 0 < (u8s rest).length → some (⟨w.heap.size + 1, 0, none⟩ : Addr) = some ⟨w.heap.size + 1, 0, none⟩ ∧ ∃ ad, A = some ad ∧ ∀ j v, (u8s rest)[j]? = some v → ((w.alloc (.cells Z 97)).alloc (.cells Z 97)).cell? (ad.add j) = some v := by
    intro hpos
    rw [u8s_length] at hpos
    obtain ⟨ad, rfl, hc⟩ := (hr.belowN hB0).get hpos
    refine ⟨rfl, ad, rfl, fun j v hv => ?_⟩
    have hj : j < rest.length := by
      rcases Nat.lt_or_ge j rest.length with h | h
      · exact h
      · rw [List.getElem?_eq_none (by rw [u8s_length]; exact h)] at hv; cases hv
    rw [hc j hj, ← hv, u8s_get _ _ hj]
  have hfit : 0 + (u8s rest).length ≤ (u8s (List.replicate 128 0)).length := by rw [u8s_length, u8s_length, List.length_replicate]; omega
  have hspl := splice_zero rest (by omega)
  obtain ⟨r, hrr⟩ : ∃ r, r = rest.length := ⟨_, rfl⟩
  have hcn : (u8s rest).length = Nat.min r 128 := by rw [u8s_length, ← hrr]; show r = min r 128; omega
  rw [← hrr] at hl hs ⊢
  have HRR := hid hrr
  have HK1 := hid hK1
  have HK2 : Hid (Blk ((w.alloc (.cells Z 97)).alloc (.cells Z 97)) (w.heap.size + 1) 97 (u8s (List.replicate 128 0)).toArray) := by rw [← HZ.out]; exact hK2
  have HP := hid hP; have HFIT := hid hfit; have HCN := hid hcn; have HSPL := hid hspl; have B0 := hid hB0
  have HSU : Hid ((Tryd.prog.info? 5).map (·.size) = some 1) := by show _ = _; kernel_rfl
  have BR : Hid (Below (w.heap.size + 1) ((w.alloc (.cells Z 97)).alloc (.cells Z 97)) ((w.alloc (.cells Z 97)).alloc (.cells Z 97))) := Below.refl _ _
  have HF4 : Hid (∀ w4 : World, Hid (w4.heap[w.heap.size + 1]? = some (.cells (splice (u8s (List.replicate 128 0)) 0 (u8s rest)).toArray 97 (0, 0))) → Blk w4 (w.heap.size + 1) 97 (u8s (rest ++ List.replicate (128 - rest.length) 0)).toArray) := fun w4 hg => by
    have h := hg.out
    rw [hspl] at h
    exact h
  have HC4 : Hid (∀ w4 : World, Blk w4 (w.heap.size + 1) 97 (u8s (rest ++ List.replicate (128 - rest.length) 0)).toArray → w4.cell? ⟨w.heap.size + 1, r, none⟩ = some (.int .u8 0)) := fun w4 hg => by
    rw [hg.cell, u8s_at _ _ (by simp; omega), List.getElem?_append_right (by omega), List.getElem?_replicate, if_pos (by omega)]; rfl
  clear hr hrr hB0 hK1 hK2 hP hfit hcn hspl
  go_enter Tryd.func61, Tryd.ntmps61
  go_wp2_with ((with_reducible refine wpList_copy_splice (d := .tmp 10) (s := .tmp 11) (dT := 89) (sT := 89) (elem := 5) (dp := some (⟨w.heap.size + 1, 0, none⟩ : Addr)) (sp := A) (dLen := 128) (dCap := 128) (sLen := r) (sCap := c) (g := w.heap.size + 1) (off := 0) (cur := u8s (List.replicate 128 0)) (t := 97) (cs := u8s rest) (B := w.heap.size + 1) (w0 := (w.alloc (.cells Z 97)).alloc (.cells Z 97)) ?_ ?_ ?_ ?_ ?_ ?_ ?_ ?_ ?_ ?_ ?_ ?_ ?_ ?_); rfl; rfl; exact Tryd.underlying89; exact HSU.out; go_simp; go_simp; exact HK2.out; exact HCN.out; exact HP.out; exact HFIT.out; exact u8s_one _; exact BR.out; exact Nat.le_refl _; intro w4 hg4 hb4; have HB4 := hid hb4; have hk4 : Blk w4 (w.heap.size + 1) 97 (u8s (rest ++ List.replicate (128 - rest.length) 0)).toArray := HF4.out w4 hg4; have HK4 := hid hk4; have c4 : w4.cell? ⟨w.heap.size + 1, r, none⟩ = some (.int .u8 0) := HC4.out w4 hk4; have f4 : w4.frozen? ⟨w.heap.size + 1, r, none⟩ = false := hk4.frozen r; clear hb4 hg4 hk4)
  have hx := (HK4.out).setd r (.int .u8 128)
  rw [u8s_set] at hx
  have hk1 : Blk (w4.setCell ⟨w.heap.size + 1, r, none⟩ (.int .u8 128)) w.heap.size 97 Z := (HK1.out.same (HB4.out.block _ (by omega))).far (by simp) _
  have hbx : Below w.heap.size w (w4.setCell ⟨w.heap.size + 1, r, none⟩ (.int .u8 128)) := (B0.out.trans (HB4.out.mono (Nat.le_succ _))).setCell (by simp) _
  have HX := hid hx; have HK1' := hid hk1; have HBX := hid hbx
  clear hx hk1 hbx c4 f4
  generalize w4.setCell ⟨w.heap.size + 1, r, none⟩ (.int .u8 128) = w5 at HX HK1' HBX ⊢
  go_loopw [24] (fun i wr => ∃ (k : Nat) (l : List Int), k ≤ 8 ∧ i = .int .i64 k ∧ l.length = 128 ∧ (∀ j, j < 128 → l[j]? = some (endAt rest (8 * (N : Int)) 128 k j)) ∧ Blk wr (w.heap.size + 1) 97 (u8s l).toArray ∧ Blk wr w.heap.size 97 Z ∧ Below w.heap.size w wr) (fun i _ => 8 - (intOf i).toNat)
  case atStart => exact ⟨0, (rest ++ List.replicate (128 - rest.length) 0).set r 128, by omega, rfl, by have := HRR.out; simp; omega, fun j hj => end_start rest _ 128 r j HRR.out hl hj, HX.out, HK1'.out, HBX.out⟩
  case round =>
    obtain ⟨k, l, hk, rfl, hll, hlj, hb1, hb2, hbel⟩ := hrel
    have HLL := hid hll; have HLJ := hid hlj; have HB1 := hid hb1; have HB2 := hid hb2; have HBL := hid hbel
    clear hll hlj hb1 hb2 hbel HX HK1' HBX
    by_cases hlt : k < 8
    · have ck : wr.cell? ⟨w.heap.size + 1, 127 - k, none⟩ = some (.int .u8 (l[127 - k]?.getD 0)) := by
        rw [HB1.out.cell]; exact u8s_at l _ (by have := HLL.out; omega)
      have fk : wr.frozen? ⟨w.heap.size + 1, 127 - k, none⟩ = false := HB1.out.frozen _
      go_wp2
      go_roundw
      case rel =>
        have e2 : (2 : Int) ^ (8 * k) = 256 ^ k := by rw [Int.pow_mul]; rfl
        rw [e2]
        have g1 := HB1.out.setd (127 - k) (.int .u8 (8 * (N : Int) / 256 ^ k % 256))
        rw [u8s_set] at g1
        exact ⟨k + 1, l.set (127 - k) (8 * (N : Int) / 256 ^ k % 256), by omega, by go_num, by simp [HLL.out], fun j hj => end_step rest _ 128 k j l HLL.out (by decide) (by have := HRR.out; omega) hlt hj HLJ.out, g1, HB2.out.far (by simp) _, HBL.out.setCell (by simp) _⟩
      case measure => simp [intOf]; omega
    · have hk8 : 8 ≤ k := by omega
      have hi : Hid ((Tryd.prog.info? 97).map (·.size) = some (u8s l).toArray.size) := by
        show _ = _
        rw [List.size_toArray, u8s_length, HLL.out]; kernel_rfl
      have hz : Hid (Z.size = (u8s l).toArray.size) := by
        show _ = _
        rw [HZ.out, List.size_toArray, List.size_toArray, u8s_length, u8s_length, HLL.out]; simp
      go_wp2_with (first
        | (refine wpList_load_row rfl 97 (.tmp 6) rfl (w.heap.size + 1) rfl 97 (u8s l).toArray (0, 0) _ HB1.out Tryd.underlying97 rfl hi.out ?_)
        | (refine wpList_store_row rfl 97 (.tmp 4) (.tmp 38) rfl w.heap.size (u8s l).toArray rfl rfl 97 Z HB2.out hi.out hz.out (u8s_all l) ?_))
      refine bodyPost_ret (results_cell_slot Tryd.results61 _ _ w.heap.size 97 (u8s l).toArray (0, 0) _ rfl (HB2.out.row _) Tryd.underlying97 rfl hi.out) rfl ?_
      obtain rfl : k = 8 := by omega
      exact ⟨l, rfl, HLL.out, HLJ.out, below_setRow HBL.out (Nat.le_refl _) _⟩

end Go.Proofs.YtoacjaecfabahaaDoor
/-
  What is proved here: the padded message, byte by byte, and that the last blocks are its end. Lists and numbers alone.
-/
namespace Go.Proofs.YtoacjaecfabahaaDoor
open Go.RowKit
set_option linter.unusedVariables false

def padLen (n : Nat) : Nat := n + 9 + (119 - n % 64) % 64
theorem padded_length (b : List Int) : (padded b).length = padLen b.length := by
  unfold padded padLen
  simp
  omega
theorem padLen_lo (n : Nat) (h : n % 64 + 9 ≤ 64) : padLen n = 64 * (n / 64) + 64 := by unfold padLen; omega
theorem padLen_hi (n : Nat) (h : 64 < n % 64 + 9) : padLen n = 64 * (n / 64) + 128 := by unfold padLen; omega
theorem pad_get (b : List Int) (j : Nat) (hj : j < padLen b.length) : (padded b)[j]? = some (if j < b.length then b[j]?.getD 0 else if j = b.length then 128 else if padLen b.length - 8 ≤ j then 8 * (b.length : Int) / 256 ^ (padLen b.length - 1 - j) % 256 else 0) := by
  unfold padded
  by_cases h1 : j < b.length
  · rw [if_pos h1, List.getElem?_append_left h1, List.getElem?_eq_getElem h1]; rfl
  · rw [if_neg h1, List.getElem?_append_right (by omega)]
    by_cases h2 : j = b.length
    · rw [if_pos h2, show j - b.length = 0 by omega]; rfl
    · rw [if_neg h2]
      obtain ⟨t, ht⟩ : ∃ t, j - b.length = t + 1 := ⟨j - b.length - 1, by omega⟩
      rw [ht, List.getElem?_cons_succ]
      unfold padLen at hj ⊢
      by_cases h3 : b.length + 9 + (119 - b.length % 64) % 64 - 8 ≤ j
      · rw [if_pos h3, List.getElem?_append_right (by simp; omega), List.length_replicate, List.getElem?_map, List.getElem?_range (by omega)]
        show some (8 * (b.length : Int) / 256 ^ (7 - (t - (119 - b.length % 64) % 64)) % 256) = _
        rw [show 7 - (t - (119 - b.length % 64) % 64) = b.length + 9 + (119 - b.length % 64) % 64 - 1 - j by omega]
      · rw [if_neg h3, List.getElem?_append_left (by simp; omega), List.getElem?_replicate, if_pos (by omega)]
/-- the last blocks' bytes are the end of the padded message -/
theorem pad_end (b : List Int) (size j : Nat) (hs : padLen b.length = 64 * (b.length / 64) + size) (h8 : 8 ≤ size) (hj : j < size) :
    (padded b)[64 * (b.length / 64) + j]? = some (endAt (b.drop (64 * (b.length / 64))) (8 * (b.length : Int)) size 8 j) := by
  rw [pad_get b _ (by omega)]
  unfold endAt
  have hr : (b.drop (64 * (b.length / 64))).length = b.length - 64 * (b.length / 64) := List.length_drop ..
  rw [hr, hs]
  obtain ⟨q, hq⟩ : ∃ q, q = 64 * (b.length / 64) := ⟨_, rfl⟩
  have hle : q ≤ b.length := by omega
  rw [← hq]
  by_cases h1 : q + j < b.length
  · have e1 : j < b.length - q := by omega
    rw [if_pos h1, if_pos e1, List.getElem?_drop]
  · have e1 : ¬ j < b.length - q := by omega
    rw [if_neg h1, if_neg e1]
    by_cases h2 : q + j = b.length
    · have e2 : j = b.length - q := by omega
      rw [if_pos h2, if_pos e2]
    · have e2 : ¬ j = b.length - q := by omega
      rw [if_neg h2, if_neg e2]
      by_cases h3 : q + size - 8 ≤ q + j
      · have e3 : size - 8 ≤ j ∧ j < size := by omega
        rw [if_pos h3, if_pos e3, show q + size - 1 - (q + j) = size - 1 - j by omega]
      · have e3 : ¬ (size - 8 ≤ j ∧ j < size) := by omega
        rw [if_neg h3, if_neg e3]
theorem blk_whole (b : List Int) (t : Nat) (ht : 64 * t + 64 ≤ b.length) : ((padded b).drop (64 * t)).take 64 = (b.drop (64 * t)).take 64 := by
  unfold padded
  rw [List.drop_append_of_le_length (by omega), List.take_append_of_le_length (by rw [List.length_drop]; omega)]
theorem mixN_pad (s : St) (b : List Int) (m : Nat) (hm : 64 * m ≤ b.length) : mixN s (padded b) m = mixN s b m := by
  induction m with
  | zero => rfl
  | succ m ih =>
    show mixS (mixN s (padded b) m) _ = mixS (mixN s b m) _
    rw [ih (by omega), blk_whole b m (by omega)]
theorem blk_end (b l : List Int) (size t : Nat) (hs : padLen b.length = 64 * (b.length / 64) + size) (h8 : 8 ≤ size) (hsz : size ≤ 128) (ht : 64 * t + 64 ≤ size) (hl : l.length = 128)
    (h : ∀ j, j < 128 → l[j]? = some (endAt (b.drop (64 * (b.length / 64))) (8 * (b.length : Int)) size 8 j)) :
    ((padded b).drop (64 * (b.length / 64 + t))).take 64 = (l.drop (64 * t)).take 64 := by
  apply List.ext_getElem?
  intro i
  rw [List.getElem?_take, List.getElem?_take]
  split
  · rw [List.getElem?_drop, List.getElem?_drop, show 64 * (b.length / 64 + t) + i = 64 * (b.length / 64) + (64 * t + i) by omega, pad_end b size _ hs h8 (by omega), h _ (by omega)]
  · rfl
theorem endAt_b (rest : List Int) (M : Int) (size k j : Nat) (hb : Bs rest) : 0 ≤ endAt rest M size k j ∧ endAt rest M size k j < 256 := by
  unfold endAt
  split
  · exact hb.at j
  · split
    · omega
    · split
      · omega
      · omega
theorem end_bs (rest l : List Int) (M : Int) (size : Nat) (hb : Bs rest) (hl : l.length = 128) (h : ∀ j, j < 128 → l[j]? = some (endAt rest M size 8 j)) : Bs l := by
  intro v hv
  obtain ⟨i, hi⟩ := List.mem_iff_getElem?.1 hv
  have hlt : i < l.length := by
    rcases Nat.lt_or_ge i l.length with h1 | h1
    · exact h1
    · rw [List.getElem?_eq_none h1] at hi; cases hi
  rw [h i (by omega)] at hi
  injection hi with hi
  rw [← hi]
  exact endAt_b _ _ _ _ _ hb
theorem sum_eq (b : List Int) (size : Nat) (hs : padLen b.length = 64 * (b.length / 64) + size) (h64 : size % 64 = 0) : sum b = joinS (mixN St0 (padded b) (b.length / 64 + size / 64)) := by
  unfold sum joinS
  rw [padded_length, hs, show (64 * (b.length / 64) + size) / 64 = b.length / 64 + size / 64 by omega]
theorem padded_bs (b : List Int) (hb : Bs b) : Bs (padded b) := by
  intro v hv
  unfold padded at hv
  simp only [List.mem_append, List.mem_cons, List.mem_replicate, List.mem_map] at hv
  rcases hv with h | h | ⟨_, h⟩ | ⟨i, _, h⟩
  · exact hb v h
  · omega
  · omega
  · omega
end Go.Proofs.YtoacjaecfabahaaDoor
/-
  What is proved here: the code's hash of all bytes is the document's.
-/
namespace Go.Proofs.YtoacjaecfabahaaDoor
open Go.ChangeShapes Go.WideShapes Go.ChangeAt Go.RowKit
set_option linter.unusedVariables false

def stC (s : St) : Array Value := #[.int .u32 (u s.a), .int .u32 (u s.b), .int .u32 (u s.c), .int .u32 (u s.d), .int .u32 (u s.e), .int .u32 (u s.f), .int .u32 (u s.g), .int .u32 (u s.h)]
theorem mix_agg (s : St) (A : Option Addr) (c : Nat) (bs : List Int) (w : World) (hr : Rp w none A bs) (hb : Bs bs) (hl : bs.length = 64) (hc : 64 ≤ c) (ht : Tab w) :
    Calls Tryd.prog 60 #[.agg #[.int .u32 (u s.a), .int .u32 (u s.b), .int .u32 (u s.c), .int .u32 (u s.d), .int .u32 (u s.e), .int .u32 (u s.f), .int .u32 (u s.g), .int .u32 (u s.h)], .slice A 64 c] w fun e w' => e = .returned (.agg (stC (mixS s bs))) ∧ Below w.heap.size w w' := mix_any s A c bs w hr hb hl hc ht
theorem joined_agg (s : St) (w : World) :
    Calls Tryd.prog 62 #[.agg #[.int .u32 (u s.a), .int .u32 (u s.b), .int .u32 (u s.c), .int .u32 (u s.d), .int .u32 (u s.e), .int .u32 (u s.f), .int .u32 (u s.g), .int .u32 (u s.h)]] w fun e w' => e = .returned (.agg (u8s (joinS s)).toArray) ∧ Below w.heap.size w w' := joined_any s w
theorem stC_all (s : St) : (stC s).all (·.oneCell') = true := all8 _ _ _ _ _ _ _ _
theorem blk_rpAt {w : World} {g : Nat} {t : TypeId} {l : List Int} (h : Blk w g t (u8s l).toArray) (a k : Nat) : Rp w none (some ⟨g, a, none⟩) ((l.drop a).take k) := fun _ =>
  ⟨_, rfl, (fun ⟨a, e, _⟩ => by cases e), fun j hj => by
    rw [List.length_take, List.length_drop] at hj
    rw [Addr.add_lit, h.cell, u8s_at _ _ (by omega), List.getElem?_take, if_pos (by omega), List.getElem?_drop]⟩
theorem add64_fun : (fun x : Addr => (⟨x.block, x.off + 64, none⟩ : Addr)) = (fun x => x.add 64) := by
  funext x
  unfold Addr.add
  rw [if_neg (by decide)]
def lenOf : Value → Nat
  | .slice _ n _ => n
  | _ => 0
theorem stC_size (s : St) : (stC s).size = 8 := rfl

set_option maxRecDepth 5000 in
set_option maxHeartbeats 600000 in
theorem sum_64 (A : Option Addr) (c : Nat) (b : List Int) (w : World) (hr : Rp w none A b) (hb : Bs b) (hl : b.length < 1000000000000) (hc : b.length ≤ c) (ht : Tab w) (hs : b.length % 64 + 9 ≤ 64) :
    Calls Tryd.prog 42 #[.slice A b.length c] w fun e w' => e = .returned (hashV (sum b)) ∧ Below w.heap.size w w' := by
  obtain ⟨Z, HZ, hZ0, hZs⟩ := zero_Hash
  obtain ⟨Z2, HZ2, hZ20, hZ2s⟩ := zero_A128
  have hps := padLen_lo b.length hs
  obtain ⟨R, hR⟩ : ∃ R, R = sum b := ⟨_, rfl⟩
  have HRE : Hid (R = joinS (mixN St0 (padded b) (b.length / 64 + 64 / 64))) := by show _ = _; rw [hR]; exact sum_eq b 64 hps (by decide)
  rw [← hR]
  obtain ⟨n, hn⟩ : ∃ n, n = b.length := ⟨_, rfl⟩
  rw [← hn] at hl hc hs hps ⊢
  have HN := hid hn; have HR := hid hr; have HB := hid hb; have HT := hid ht; have HPS := hid hps
  have HI8 : Hid ((Tryd.prog.info? 95).map (·.size) = some 8) := by show _ = _; kernel_rfl
  clear hr hb ht hn hR hps
  go_enter Tryd.func42, Tryd.ntmps42
  go_wp2
  have hst : stC St0 = #[.int .u32 1779033703, .int .u32 3144134277, .int .u32 1013904242, .int .u32 2773480762, .int .u32 1359893119, .int .u32 2600822924, .int .u32 528734635, .int .u32 1541459225] := by kernel_rfl
  have hK1 : Blk ((w.alloc (.cells Z 33)).alloc (.cells #[.int .u32 1779033703, .int .u32 3144134277, .int .u32 1013904242, .int .u32 2773480762, .int .u32 1359893119, .int .u32 2600822924, .int .u32 528734635, .int .u32 1541459225] 95)) w.heap.size 33 Z := (Blk.new w 33 Z).alloc _
  have hK2 : Blk ((w.alloc (.cells Z 33)).alloc (.cells #[.int .u32 1779033703, .int .u32 3144134277, .int .u32 1013904242, .int .u32 2773480762, .int .u32 1359893119, .int .u32 2600822924, .int .u32 528734635, .int .u32 1541459225] 95)) (w.heap.size + 1) 95 (stC St0) := by
    have := Blk.new (w.alloc (.cells Z 33)) 95 #[.int .u32 1779033703, .int .u32 3144134277, .int .u32 1013904242, .int .u32 2773480762, .int .u32 1359893119, .int .u32 2600822924, .int .u32 528734635, .int .u32 1541459225]
    rw [show (w.alloc (.cells Z 33)).heap.size = w.heap.size + 1 by simp, ← hst] at this
    rwa [hst] at this ⊢
  have hB0 : Below w.heap.size w ((w.alloc (.cells Z 33)).alloc (.cells #[.int .u32 1779033703, .int .u32 3144134277, .int .u32 1013904242, .int .u32 2773480762, .int .u32 1359893119, .int .u32 2600822924, .int .u32 528734635, .int .u32 1541459225] 95)) := ((Below.refl _ _).alloc (Nat.le_refl _) _).alloc (by simp) _
  have K1 := hid hK1; have K2 := hid hK2; have B0 := hid hB0
  clear hK1 hK2 hB0 hst
  generalize (w.alloc (.cells Z 33)).alloc (.cells #[.int .u32 1779033703, .int .u32 3144134277, .int .u32 1013904242, .int .u32 2773480762, .int .u32 1359893119, .int .u32 2600822924, .int .u32 528734635, .int .u32 1541459225] 95) = w0 at K1 K2 B0 ⊢
  go_loopw [4] (fun v wr => ∃ (m q : Nat) (Ar : Option Addr) (cr : Nat), v = .slice Ar q cr ∧ q ≤ cr ∧ Hid (q = n - 64 * m) ∧ Hid (64 * m ≤ n) ∧ Hid (Rp w none Ar (b.drop (64 * m))) ∧ Hid (Blk wr (w.heap.size + 1) 95 (stC (mixN St0 b m))) ∧ Hid (Blk wr w.heap.size 33 Z) ∧ Hid (Below w.heap.size w wr)) (fun v _ => lenOf v)
  case atStart => exact ⟨0, n, A, c, rfl, hc, rfl, Nat.zero_le _, HR.out, K2.out, K1.out, B0.out⟩
  case round =>
    obtain ⟨m, q, Ar, cr, rfl, hqc, HQ, HM, HRP, HBK, HBZ, HBL⟩ := hrel
    clear K1 K2 B0
    obtain ⟨S, hS⟩ : ∃ S, S = mixN St0 b m := ⟨_, rfl⟩
    rw [← hS] at HBK
    have HS := hid hS
    clear hS
    have c0 : wr.cell? ⟨w.heap.size + 1, 0, none⟩ = some (.int .u32 (u S.a)) := HBK.out.cell 0
    have c1 : wr.cell? ⟨w.heap.size + 1, 1, none⟩ = some (.int .u32 (u S.b)) := HBK.out.cell 1
    have c2 : wr.cell? ⟨w.heap.size + 1, 2, none⟩ = some (.int .u32 (u S.c)) := HBK.out.cell 2
    have c3 : wr.cell? ⟨w.heap.size + 1, 3, none⟩ = some (.int .u32 (u S.d)) := HBK.out.cell 3
    have c4 : wr.cell? ⟨w.heap.size + 1, 4, none⟩ = some (.int .u32 (u S.e)) := HBK.out.cell 4
    have c5 : wr.cell? ⟨w.heap.size + 1, 5, none⟩ = some (.int .u32 (u S.f)) := HBK.out.cell 5
    have c6 : wr.cell? ⟨w.heap.size + 1, 6, none⟩ = some (.int .u32 (u S.g)) := HBK.out.cell 6
    have c7 : wr.cell? ⟨w.heap.size + 1, 7, none⟩ = some (.int .u32 (u S.h)) := HBK.out.cell 7
    by_cases h64 : 64 ≤ q
    · have hcr : 64 ≤ cr := by omega
      have hcri : (64 : Int) ≤ (cr : Int) := by omega
      have HBLK : Hid (((b.drop (64 * m)).take 64).length = 64) := by
        have h1 := HQ.out; have h2 := HN.out
        show _ = _
        rw [List.length_take, List.length_drop]; omega
      have HMX := hid (fun (w1 : World) (hb : Below w.heap.size w w1) => mix_agg S Ar cr ((b.drop (64 * m)).take 64) w1 ((HRP.out.belowN hb).take 64) ((HB.out.drop _).take _) HBLK.out hcr (HT.out.below hb))
      obtain ⟨M, hM⟩ : ∃ M, M = mixS S ((b.drop (64 * m)).take 64) := ⟨_, rfl⟩
      rw [← hM] at HMX
      have HMM := hid hM
      clear hM
      go_wp2
      refine wp_region_still_tail 3 (by kernel_rfl) (by kernel_rfl) ?_
      simp only [List.take_succ_cons, List.take_zero, List.drop_succ_cons, List.drop_zero]
      repeat still_step
      refine wpStill_nil ?_
      change wpList _ _ _ _ _ wr.drew
      go_wp2_with fail
      refine (HMX.out _ (below_drewN HBL.out 1)).mono ?_
      rintro e w1 ⟨rfl, hb1⟩
      have hb1' : Below wr.heap.size wr w1 := (below_drewN (Below.refl _ wr) 1).trans hb1
      have HB1 := hid hb1'
      have hk1 : Blk w1 (w.heap.size + 1) 95 (stC S) := HBK.out.same (hb1'.block _ HBK.out.lt)
      have HK1 := hid hk1
      clear hb1 hb1' hk1
      trace "X"
      go_wp2_with (refine wpList_store_row rfl 95 (.tmp 3) (.tmp 16) rfl (w.heap.size + 1) (stC M) rfl rfl 95 (stC S) HK1.out HI8.out rfl (stC_all _) ?_)
      refine ⟨⟨m + 1, q - 64, (if cr = 64 then Ar else Option.map (fun x => { block := x.block, off := x.off + 64 }) Ar), cr - 64, rfl, by omega, ?_, ?_, ?_, ?_, ?_, ?_⟩, by simp [lenOf]; omega⟩
      · show _ = _
        have := HQ.out
        omega
      · show _ ≤ _
        have := HQ.out
        have := HM.out
        omega
      · show Rp _ _ _ _
        rw [add64_fun, show 64 * (m + 1) = 64 * m + 64 by omega, ← List.drop_drop]
        exact HRP.out.cut (by have := HQ.out; have := HN.out; rw [List.length_drop]; omega)
      · show Blk _ _ _ (stC (mixS (mixN St0 b m) ((b.drop (64 * m)).take 64)))
        rw [← HS.out, ← HMM.out]
        exact HK1.out.row _
      · exact ((HBZ.out.same (HB1.out.block _ HBZ.out.lt)).rowFar (by omega) _)
      · exact below_setRow (HBL.out.trans (HB1.out.mono HBL.out.size)) (by omega) _
    · clear c0 c1 c2 c3 c4 c5 c6 c7
      have hm : m = n / 64 := by have := HQ.out; have := HM.out; omega
      have hdl : (b.drop (64 * m)).length = q := by have := HQ.out; have := HN.out; rw [List.length_drop]; omega
      have hq64 : q = n % 64 := by have := HQ.out; have := HM.out; omega
      have hen := fun (w1 : World) (hb : Below w.heap.size w w1) => ending_64 Ar cr n (b.drop (64 * m)) w1 (HRP.out.belowN hb) (by omega) hl (by omega)
      rw [hdl] at hen
      have HEN := hid hen
      have HMX0 : Hid (S = mixN St0 (padded b) (n / 64)) := by
        have := HN.out
        have h2 := HM.out
        show _ = _
        rw [HS.out, ← hm]
        exact (mixN_pad St0 b m (by omega)).symm
      have HMN := hid hm
      clear hm hdl hq64 hen
      go_wp2_with fail
      refine (HEN.out _ HBL.out).mono ?_
      rintro e w1 ⟨l, rfl, hll, hlj, hb1⟩
      have hlb : Bs l := end_bs _ l _ 64 (HB.out.drop _) hll hlj
      have HBK1 := hid (HBK.out.same (hb1.block _ HBK.out.lt))
      have HBZ1 := hid (HBZ.out.same (hb1.block _ HBZ.out.lt))
      have HBL1 := hid (HBL.out.trans (hb1.mono HBL.out.size))
      have hlt1 : w.heap.size + 1 < w1.heap.size := HBK1.out.lt
      have HLL := hid hll; have HLJ := hid hlj; have HLB := hid hlb
      have HI128 : Hid ((Tryd.prog.info? 97).map (·.size) = some (u8s l).toArray.size) := by
        show _ = _
        rw [List.size_toArray, u8s_length, hll]; kernel_rfl
      have HZ128 : Hid (Z2.size = (u8s l).toArray.size) := by
        show _ = _
        rw [HZ2.out, List.size_toArray, List.size_toArray, u8s_length, u8s_length, hll]; simp
      clear hll hlj hlb hb1
      go_wp2_with (refine wpList_store_row rfl 97 (.tmp 5) (.tmp 24) rfl w1.heap.size (u8s l).toArray rfl rfl 97 Z2 (Blk.new w1 97 Z2) HI128.out HZ128.out (u8s_all l) ?_)
      try go_frame
      go_wp2
      have HK5 : Hid (Blk ((w1.alloc (.cells Z2 97)).setRow w1.heap.size (u8s l).toArray) w1.heap.size 97 (u8s l).toArray) := (Blk.new w1 97 Z2).row _
      have HBK2 : Hid (Blk ((w1.alloc (.cells Z2 97)).setRow w1.heap.size (u8s l).toArray) (w.heap.size + 1) 95 (stC S)) := (HBK1.out.alloc _).rowFar (by omega) _
      have HBZ2 : Hid (Blk ((w1.alloc (.cells Z2 97)).setRow w1.heap.size (u8s l).toArray) w.heap.size 33 Z) := (HBZ1.out.alloc _).rowFar (by omega) _
      have HBL2 : Hid (Below w.heap.size w ((w1.alloc (.cells Z2 97)).setRow w1.heap.size (u8s l).toArray)) := below_setRow (HBL1.out.alloc (by omega) _) (by omega) _
      generalize (w1.alloc (.cells Z2 97)).setRow w1.heap.size (u8s l).toArray = w2 at HK5 HBK2 HBZ2 HBL2 ⊢
      obtain ⟨g5, hg5⟩ : ∃ g5, g5 = w1.heap.size := ⟨_, rfl⟩
      rw [← hg5] at HK5 hlt1 ⊢
      clear hg5 HBK1 HBZ1 HBL1 HBK HBZ HBL
      go_loopw [7] (fun v wr => ∃ (t a : Nat), v = .int .i64 a ∧ a ≤ 64 ∧ Hid (a = 64 * t) ∧ Hid (Blk wr (w.heap.size + 1) 95 (stC (mixN St0 (padded b) (n / 64 + t)))) ∧ Hid (Blk wr g5 97 (u8s l).toArray) ∧ Hid (Blk wr w.heap.size 33 Z) ∧ Hid (Below w.heap.size w wr)) (fun v _ => 64 - (intOf v).toNat)
      case atStart => exact ⟨0, 0, rfl, by omega, rfl, by (show Blk _ _ _ (stC (mixN St0 (padded b) (n / 64))); rw [← HMX0.out]; exact HBK2.out), HK5.out, HBZ2.out, HBL2.out⟩
      case round =>
        obtain ⟨t, a, rfl, ha, HA, HBK, HK, HBZ, HBL⟩ := hrel
        clear HK5 HBK2 HBZ2 HBL2
        obtain ⟨T, hT⟩ : ∃ T, T = mixN St0 (padded b) (n / 64 + t) := ⟨_, rfl⟩
        rw [← hT] at HBK
        have HTT := hid hT
        clear hT
        have c0 : wr.cell? ⟨w.heap.size + 1, 0, none⟩ = some (.int .u32 (u T.a)) := HBK.out.cell 0
        have c1 : wr.cell? ⟨w.heap.size + 1, 1, none⟩ = some (.int .u32 (u T.b)) := HBK.out.cell 1
        have c2 : wr.cell? ⟨w.heap.size + 1, 2, none⟩ = some (.int .u32 (u T.c)) := HBK.out.cell 2
        have c3 : wr.cell? ⟨w.heap.size + 1, 3, none⟩ = some (.int .u32 (u T.d)) := HBK.out.cell 3
        have c4 : wr.cell? ⟨w.heap.size + 1, 4, none⟩ = some (.int .u32 (u T.e)) := HBK.out.cell 4
        have c5 : wr.cell? ⟨w.heap.size + 1, 5, none⟩ = some (.int .u32 (u T.f)) := HBK.out.cell 5
        have c6 : wr.cell? ⟨w.heap.size + 1, 6, none⟩ = some (.int .u32 (u T.g)) := HBK.out.cell 6
        have c7 : wr.cell? ⟨w.heap.size + 1, 7, none⟩ = some (.int .u32 (u T.h)) := HBK.out.cell 7
        by_cases hlt : a < 64
        · have ha64 : a + 64 ≤ 64 := by have := HA.out; omega
          have i1 : (0 : Int) ≤ (a : Int) := by omega
          have i2 : (a : Int) + 64 ≤ 128 := by omega
          have i3 : IntKind.i64.wrap ((a : Int) + 64) = (a : Int) + 64 := IntWalk.i64_in _ (by omega)
          have i4 : ((a : Int) + 64).toNat = a + 64 := by omega
          have i5 : (a : Int) ≤ (a : Int) + 64 := by omega
          have i6 : (0 : Int) ≤ (a : Int) + 64 := by omega
          go_wp2
          refine wp_region_still_tail 5 (by kernel_rfl) (by kernel_rfl) ?_
          simp only [List.take_succ_cons, List.take_zero, List.drop_succ_cons, List.drop_zero]
          repeat still_step
          clear i1 i2 i3 i4 i5 i6
          refine wpStill_nil ?_
          change wpList _ _ _ _ _ wr.drew
          have hmx := mix_agg T (some ⟨g5, a, none⟩) (128 - a) ((l.drop a).take 64) wr.drew (blk_rpAt HK.out a 64) ((HLB.out.drop _).take _) (by have := HLL.out; rw [List.length_take, List.length_drop]; omega) (by omega) (HT.out.below (below_drewN HBL.out 1))
          obtain ⟨M, hM⟩ : ∃ M, M = mixS T ((l.drop a).take 64) := ⟨_, rfl⟩
          rw [← hM] at hmx
          have HMM : Hid (M = mixN St0 (padded b) (n / 64 + (t + 1))) := by
            show _ = mixS (mixN St0 (padded b) (n / 64 + t)) (((padded b).drop (64 * (n / 64 + t))).take 64)
            have h1 := HN.out
            have h2 := HA.out
            have h3 := HLJ.out
            have h4 := HPS.out
            rw [HMN.out] at h3
            rw [hM, HTT.out, h2]
            subst h1
            rw [blk_end b l 64 t h4 (by omega) (by omega) (by omega) HLL.out h3]
          have HMX := hid hmx
          clear hmx hM
          go_wp2_with fail
          refine HMX.out.mono ?_
          rintro e w3 ⟨rfl, hb3⟩
          have hb3' : Below wr.heap.size wr w3 := (below_drewN (Below.refl _ wr) 1).trans hb3
          have HB3 := hid hb3'
          have hk3 : Blk w3 (w.heap.size + 1) 95 (stC T) := HBK.out.same (hb3'.block _ HBK.out.lt)
          have HK3 := hid hk3
          clear hb3 hb3' hk3
          go_wp2_with (refine wpList_store_row rfl 95 (.tmp 3) (.tmp 36) rfl (w.heap.size + 1) (stC M) rfl rfl 95 (stC T) HK3.out HI8.out rfl (stC_all _) ?_)
          refine ⟨⟨t + 1, a + 64, by go_num, by omega, ?_, ?_, ?_, ?_, ?_⟩, by simp [intOf]; omega⟩
          · show _ = _
            have := HA.out
            omega
          · show Blk _ _ _ _
            rw [← HMM.out]
            exact HK3.out.row _
          · exact (HK.out.same (HB3.out.block _ HK.out.lt)).rowFar (by omega) _
          · exact (HBZ.out.same (HB3.out.block _ HBZ.out.lt)).rowFar (by omega) _
          · exact below_setRow (HBL.out.trans (HB3.out.mono HBL.out.size)) (by omega) _
        · have ht : T = mixN St0 (padded b) (b.length / 64 + 64 / 64) := by
            have h1 := HN.out
            have h2 := HA.out
            rw [HTT.out, h1, show t = 64 / 64 by omega]
          have HRT : Hid (R = joinS T) := by show _ = _; rw [HRE.out, ht]
          have HI32 : Hid ((Tryd.prog.info? 33).map (·.size) = some (u8s (joinS T)).toArray.size) := by
            show _ = _
            rw [List.size_toArray, u8s_length, show (joinS T).length = 32 by simp [joinS]]; kernel_rfl
          have HZ32 : Hid (Z.size = (u8s (joinS T)).toArray.size) := by
            show _ = _
            rw [HZ.out, List.size_toArray, List.size_toArray, u8s_length, u8s_length, show (joinS T).length = 32 by simp [joinS]]; simp
          clear ht
          go_wp2_with fail
          refine (joined_agg T wr).mono ?_
          rintro e w3 ⟨rfl, hb3⟩
          have HB3 := hid hb3
          have HBZ3 := hid (HBZ.out.same (hb3.block _ HBZ.out.lt))
          clear hb3
          go_wp2_with (refine wpList_store_row rfl 33 (.tmp 2) (.tmp 38) rfl w.heap.size (u8s (joinS T)).toArray rfl rfl 33 Z HBZ3.out HI32.out HZ32.out (u8s_all _) ?_)
          try go_frame
          refine bodyPost_ret (results_cell_row Tryd.results42 _ _ w.heap.size 33 (u8s (joinS T)).toArray (0, 0) _ rfl (HBZ3.out.row _) Tryd.underlying33 rfl HI32.out) rfl ?_
          rw [HRT.out]
          exact ⟨rfl, below_setRow (HBL.out.trans (HB3.out.mono HBL.out.size)) (Nat.le_refl _) _⟩

set_option maxRecDepth 5000 in
set_option maxHeartbeats 600000 in
theorem sum_128 (A : Option Addr) (c : Nat) (b : List Int) (w : World) (hr : Rp w none A b) (hb : Bs b) (hl : b.length < 1000000000000) (hc : b.length ≤ c) (ht : Tab w) (hs : 64 < b.length % 64 + 9) :
    Calls Tryd.prog 42 #[.slice A b.length c] w fun e w' => e = .returned (hashV (sum b)) ∧ Below w.heap.size w w' := by
  obtain ⟨Z, HZ, hZ0, hZs⟩ := zero_Hash
  obtain ⟨Z2, HZ2, hZ20, hZ2s⟩ := zero_A128
  have hps := padLen_hi b.length hs
  obtain ⟨R, hR⟩ : ∃ R, R = sum b := ⟨_, rfl⟩
  have HRE : Hid (R = joinS (mixN St0 (padded b) (b.length / 64 + 128 / 64))) := by show _ = _; rw [hR]; exact sum_eq b 128 hps (by decide)
  rw [← hR]
  obtain ⟨n, hn⟩ : ∃ n, n = b.length := ⟨_, rfl⟩
  rw [← hn] at hl hc hs hps ⊢
  have HN := hid hn; have HR := hid hr; have HB := hid hb; have HT := hid ht; have HPS := hid hps
  have HI8 : Hid ((Tryd.prog.info? 95).map (·.size) = some 8) := by show _ = _; kernel_rfl
  clear hr hb ht hn hR hps
  go_enter Tryd.func42, Tryd.ntmps42
  go_wp2
  have hst : stC St0 = #[.int .u32 1779033703, .int .u32 3144134277, .int .u32 1013904242, .int .u32 2773480762, .int .u32 1359893119, .int .u32 2600822924, .int .u32 528734635, .int .u32 1541459225] := by kernel_rfl
  have hK1 : Blk ((w.alloc (.cells Z 33)).alloc (.cells #[.int .u32 1779033703, .int .u32 3144134277, .int .u32 1013904242, .int .u32 2773480762, .int .u32 1359893119, .int .u32 2600822924, .int .u32 528734635, .int .u32 1541459225] 95)) w.heap.size 33 Z := (Blk.new w 33 Z).alloc _
  have hK2 : Blk ((w.alloc (.cells Z 33)).alloc (.cells #[.int .u32 1779033703, .int .u32 3144134277, .int .u32 1013904242, .int .u32 2773480762, .int .u32 1359893119, .int .u32 2600822924, .int .u32 528734635, .int .u32 1541459225] 95)) (w.heap.size + 1) 95 (stC St0) := by
    have := Blk.new (w.alloc (.cells Z 33)) 95 #[.int .u32 1779033703, .int .u32 3144134277, .int .u32 1013904242, .int .u32 2773480762, .int .u32 1359893119, .int .u32 2600822924, .int .u32 528734635, .int .u32 1541459225]
    rw [show (w.alloc (.cells Z 33)).heap.size = w.heap.size + 1 by simp, ← hst] at this
    rwa [hst] at this ⊢
  have hB0 : Below w.heap.size w ((w.alloc (.cells Z 33)).alloc (.cells #[.int .u32 1779033703, .int .u32 3144134277, .int .u32 1013904242, .int .u32 2773480762, .int .u32 1359893119, .int .u32 2600822924, .int .u32 528734635, .int .u32 1541459225] 95)) := ((Below.refl _ _).alloc (Nat.le_refl _) _).alloc (by simp) _
  have K1 := hid hK1; have K2 := hid hK2; have B0 := hid hB0
  clear hK1 hK2 hB0 hst
  generalize (w.alloc (.cells Z 33)).alloc (.cells #[.int .u32 1779033703, .int .u32 3144134277, .int .u32 1013904242, .int .u32 2773480762, .int .u32 1359893119, .int .u32 2600822924, .int .u32 528734635, .int .u32 1541459225] 95) = w0 at K1 K2 B0 ⊢
  go_loopw [4] (fun v wr => ∃ (m q : Nat) (Ar : Option Addr) (cr : Nat), v = .slice Ar q cr ∧ q ≤ cr ∧ Hid (q = n - 64 * m) ∧ Hid (64 * m ≤ n) ∧ Hid (Rp w none Ar (b.drop (64 * m))) ∧ Hid (Blk wr (w.heap.size + 1) 95 (stC (mixN St0 b m))) ∧ Hid (Blk wr w.heap.size 33 Z) ∧ Hid (Below w.heap.size w wr)) (fun v _ => lenOf v)
  case atStart => exact ⟨0, n, A, c, rfl, hc, rfl, Nat.zero_le _, HR.out, K2.out, K1.out, B0.out⟩
  case round =>
    obtain ⟨m, q, Ar, cr, rfl, hqc, HQ, HM, HRP, HBK, HBZ, HBL⟩ := hrel
    clear K1 K2 B0
    obtain ⟨S, hS⟩ : ∃ S, S = mixN St0 b m := ⟨_, rfl⟩
    rw [← hS] at HBK
    have HS := hid hS
    clear hS
    have c0 : wr.cell? ⟨w.heap.size + 1, 0, none⟩ = some (.int .u32 (u S.a)) := HBK.out.cell 0
    have c1 : wr.cell? ⟨w.heap.size + 1, 1, none⟩ = some (.int .u32 (u S.b)) := HBK.out.cell 1
    have c2 : wr.cell? ⟨w.heap.size + 1, 2, none⟩ = some (.int .u32 (u S.c)) := HBK.out.cell 2
    have c3 : wr.cell? ⟨w.heap.size + 1, 3, none⟩ = some (.int .u32 (u S.d)) := HBK.out.cell 3
    have c4 : wr.cell? ⟨w.heap.size + 1, 4, none⟩ = some (.int .u32 (u S.e)) := HBK.out.cell 4
    have c5 : wr.cell? ⟨w.heap.size + 1, 5, none⟩ = some (.int .u32 (u S.f)) := HBK.out.cell 5
    have c6 : wr.cell? ⟨w.heap.size + 1, 6, none⟩ = some (.int .u32 (u S.g)) := HBK.out.cell 6
    have c7 : wr.cell? ⟨w.heap.size + 1, 7, none⟩ = some (.int .u32 (u S.h)) := HBK.out.cell 7
    by_cases h64 : 64 ≤ q
    · have hcr : 64 ≤ cr := by omega
      have hcri : (64 : Int) ≤ (cr : Int) := by omega
      have HBLK : Hid (((b.drop (64 * m)).take 64).length = 64) := by
        have h1 := HQ.out; have h2 := HN.out
        show _ = _
        rw [List.length_take, List.length_drop]; omega
      have HMX := hid (fun (w1 : World) (hb : Below w.heap.size w w1) => mix_agg S Ar cr ((b.drop (64 * m)).take 64) w1 ((HRP.out.belowN hb).take 64) ((HB.out.drop _).take _) HBLK.out hcr (HT.out.below hb))
      obtain ⟨M, hM⟩ : ∃ M, M = mixS S ((b.drop (64 * m)).take 64) := ⟨_, rfl⟩
      rw [← hM] at HMX
      have HMM := hid hM
      clear hM
      go_wp2
      refine wp_region_still_tail 3 (by kernel_rfl) (by kernel_rfl) ?_
      simp only [List.take_succ_cons, List.take_zero, List.drop_succ_cons, List.drop_zero]
      repeat still_step
      refine wpStill_nil ?_
      change wpList _ _ _ _ _ wr.drew
      go_wp2_with fail
      refine (HMX.out _ (below_drewN HBL.out 1)).mono ?_
      rintro e w1 ⟨rfl, hb1⟩
      have hb1' : Below wr.heap.size wr w1 := (below_drewN (Below.refl _ wr) 1).trans hb1
      have HB1 := hid hb1'
      have hk1 : Blk w1 (w.heap.size + 1) 95 (stC S) := HBK.out.same (hb1'.block _ HBK.out.lt)
      have HK1 := hid hk1
      clear hb1 hb1' hk1
      trace "X"
      go_wp2_with (refine wpList_store_row rfl 95 (.tmp 3) (.tmp 16) rfl (w.heap.size + 1) (stC M) rfl rfl 95 (stC S) HK1.out HI8.out rfl (stC_all _) ?_)
      refine ⟨⟨m + 1, q - 64, (if cr = 64 then Ar else Option.map (fun x => { block := x.block, off := x.off + 64 }) Ar), cr - 64, rfl, by omega, ?_, ?_, ?_, ?_, ?_, ?_⟩, by simp [lenOf]; omega⟩
      · show _ = _
        have := HQ.out
        omega
      · show _ ≤ _
        have := HQ.out
        have := HM.out
        omega
      · show Rp _ _ _ _
        rw [add64_fun, show 64 * (m + 1) = 64 * m + 64 by omega, ← List.drop_drop]
        exact HRP.out.cut (by have := HQ.out; have := HN.out; rw [List.length_drop]; omega)
      · show Blk _ _ _ (stC (mixS (mixN St0 b m) ((b.drop (64 * m)).take 64)))
        rw [← HS.out, ← HMM.out]
        exact HK1.out.row _
      · exact ((HBZ.out.same (HB1.out.block _ HBZ.out.lt)).rowFar (by omega) _)
      · exact below_setRow (HBL.out.trans (HB1.out.mono HBL.out.size)) (by omega) _
    · clear c0 c1 c2 c3 c4 c5 c6 c7
      have hm : m = n / 64 := by have := HQ.out; have := HM.out; omega
      have hdl : (b.drop (64 * m)).length = q := by have := HQ.out; have := HN.out; rw [List.length_drop]; omega
      have hq64 : q = n % 64 := by have := HQ.out; have := HM.out; omega
      have hen := fun (w1 : World) (hb : Below w.heap.size w w1) => ending_128 Ar cr n (b.drop (64 * m)) w1 (HRP.out.belowN hb) (by omega) hl (by omega)
      rw [hdl] at hen
      have HEN := hid hen
      have HMX0 : Hid (S = mixN St0 (padded b) (n / 64)) := by
        have := HN.out
        have h2 := HM.out
        show _ = _
        rw [HS.out, ← hm]
        exact (mixN_pad St0 b m (by omega)).symm
      have HMN := hid hm
      clear hm hdl hq64 hen
      go_wp2_with fail
      refine (HEN.out _ HBL.out).mono ?_
      rintro e w1 ⟨l, rfl, hll, hlj, hb1⟩
      have hlb : Bs l := end_bs _ l _ 128 (HB.out.drop _) hll hlj
      have HBK1 := hid (HBK.out.same (hb1.block _ HBK.out.lt))
      have HBZ1 := hid (HBZ.out.same (hb1.block _ HBZ.out.lt))
      have HBL1 := hid (HBL.out.trans (hb1.mono HBL.out.size))
      have hlt1 : w.heap.size + 1 < w1.heap.size := HBK1.out.lt
      have HLL := hid hll; have HLJ := hid hlj; have HLB := hid hlb
      have HI128 : Hid ((Tryd.prog.info? 97).map (·.size) = some (u8s l).toArray.size) := by
        show _ = _
        rw [List.size_toArray, u8s_length, hll]; kernel_rfl
      have HZ128 : Hid (Z2.size = (u8s l).toArray.size) := by
        show _ = _
        rw [HZ2.out, List.size_toArray, List.size_toArray, u8s_length, u8s_length, hll]; simp
      clear hll hlj hlb hb1
      go_wp2_with (refine wpList_store_row rfl 97 (.tmp 5) (.tmp 24) rfl w1.heap.size (u8s l).toArray rfl rfl 97 Z2 (Blk.new w1 97 Z2) HI128.out HZ128.out (u8s_all l) ?_)
      try go_frame
      go_wp2
      have HK5 : Hid (Blk ((w1.alloc (.cells Z2 97)).setRow w1.heap.size (u8s l).toArray) w1.heap.size 97 (u8s l).toArray) := (Blk.new w1 97 Z2).row _
      have HBK2 : Hid (Blk ((w1.alloc (.cells Z2 97)).setRow w1.heap.size (u8s l).toArray) (w.heap.size + 1) 95 (stC S)) := (HBK1.out.alloc _).rowFar (by omega) _
      have HBZ2 : Hid (Blk ((w1.alloc (.cells Z2 97)).setRow w1.heap.size (u8s l).toArray) w.heap.size 33 Z) := (HBZ1.out.alloc _).rowFar (by omega) _
      have HBL2 : Hid (Below w.heap.size w ((w1.alloc (.cells Z2 97)).setRow w1.heap.size (u8s l).toArray)) := below_setRow (HBL1.out.alloc (by omega) _) (by omega) _
      generalize (w1.alloc (.cells Z2 97)).setRow w1.heap.size (u8s l).toArray = w2 at HK5 HBK2 HBZ2 HBL2 ⊢
      obtain ⟨g5, hg5⟩ : ∃ g5, g5 = w1.heap.size := ⟨_, rfl⟩
      rw [← hg5] at HK5 hlt1 ⊢
      clear hg5 HBK1 HBZ1 HBL1 HBK HBZ HBL
      go_loopw [7] (fun v wr => ∃ (t a : Nat), v = .int .i64 a ∧ a ≤ 128 ∧ Hid (a = 64 * t) ∧ Hid (Blk wr (w.heap.size + 1) 95 (stC (mixN St0 (padded b) (n / 64 + t)))) ∧ Hid (Blk wr g5 97 (u8s l).toArray) ∧ Hid (Blk wr w.heap.size 33 Z) ∧ Hid (Below w.heap.size w wr)) (fun v _ => 128 - (intOf v).toNat)
      case atStart => exact ⟨0, 0, rfl, by omega, rfl, by (show Blk _ _ _ (stC (mixN St0 (padded b) (n / 64))); rw [← HMX0.out]; exact HBK2.out), HK5.out, HBZ2.out, HBL2.out⟩
      case round =>
        obtain ⟨t, a, rfl, ha, HA, HBK, HK, HBZ, HBL⟩ := hrel
        clear HK5 HBK2 HBZ2 HBL2
        obtain ⟨T, hT⟩ : ∃ T, T = mixN St0 (padded b) (n / 64 + t) := ⟨_, rfl⟩
        rw [← hT] at HBK
        have HTT := hid hT
        clear hT
        have c0 : wr.cell? ⟨w.heap.size + 1, 0, none⟩ = some (.int .u32 (u T.a)) := HBK.out.cell 0
        have c1 : wr.cell? ⟨w.heap.size + 1, 1, none⟩ = some (.int .u32 (u T.b)) := HBK.out.cell 1
        have c2 : wr.cell? ⟨w.heap.size + 1, 2, none⟩ = some (.int .u32 (u T.c)) := HBK.out.cell 2
        have c3 : wr.cell? ⟨w.heap.size + 1, 3, none⟩ = some (.int .u32 (u T.d)) := HBK.out.cell 3
        have c4 : wr.cell? ⟨w.heap.size + 1, 4, none⟩ = some (.int .u32 (u T.e)) := HBK.out.cell 4
        have c5 : wr.cell? ⟨w.heap.size + 1, 5, none⟩ = some (.int .u32 (u T.f)) := HBK.out.cell 5
        have c6 : wr.cell? ⟨w.heap.size + 1, 6, none⟩ = some (.int .u32 (u T.g)) := HBK.out.cell 6
        have c7 : wr.cell? ⟨w.heap.size + 1, 7, none⟩ = some (.int .u32 (u T.h)) := HBK.out.cell 7
        by_cases hlt : a < 128
        · have ha64 : a + 64 ≤ 128 := by have := HA.out; omega
          have i1 : (0 : Int) ≤ (a : Int) := by omega
          have i2 : (a : Int) + 64 ≤ 128 := by omega
          have i3 : IntKind.i64.wrap ((a : Int) + 64) = (a : Int) + 64 := IntWalk.i64_in _ (by omega)
          have i4 : ((a : Int) + 64).toNat = a + 64 := by omega
          have i5 : (a : Int) ≤ (a : Int) + 64 := by omega
          have i6 : (0 : Int) ≤ (a : Int) + 64 := by omega
          go_wp2
          refine wp_region_still_tail 5 (by kernel_rfl) (by kernel_rfl) ?_
          simp only [List.take_succ_cons, List.take_zero, List.drop_succ_cons, List.drop_zero]
          repeat still_step
          clear i1 i2 i3 i4 i5 i6
          refine wpStill_nil ?_
          change wpList _ _ _ _ _ wr.drew
          have hmx := mix_agg T (some ⟨g5, a, none⟩) (128 - a) ((l.drop a).take 64) wr.drew (blk_rpAt HK.out a 64) ((HLB.out.drop _).take _) (by have := HLL.out; rw [List.length_take, List.length_drop]; omega) (by omega) (HT.out.below (below_drewN HBL.out 1))
          obtain ⟨M, hM⟩ : ∃ M, M = mixS T ((l.drop a).take 64) := ⟨_, rfl⟩
          rw [← hM] at hmx
          have HMM : Hid (M = mixN St0 (padded b) (n / 64 + (t + 1))) := by
            show _ = mixS (mixN St0 (padded b) (n / 64 + t)) (((padded b).drop (64 * (n / 64 + t))).take 64)
            have h1 := HN.out
            have h2 := HA.out
            have h3 := HLJ.out
            have h4 := HPS.out
            rw [HMN.out] at h3
            rw [hM, HTT.out, h2]
            subst h1
            rw [blk_end b l 128 t h4 (by omega) (by omega) (by omega) HLL.out h3]
          have HMX := hid hmx
          clear hmx hM
          go_wp2_with fail
          refine HMX.out.mono ?_
          rintro e w3 ⟨rfl, hb3⟩
          have hb3' : Below wr.heap.size wr w3 := (below_drewN (Below.refl _ wr) 1).trans hb3
          have HB3 := hid hb3'
          have hk3 : Blk w3 (w.heap.size + 1) 95 (stC T) := HBK.out.same (hb3'.block _ HBK.out.lt)
          have HK3 := hid hk3
          clear hb3 hb3' hk3
          go_wp2_with (refine wpList_store_row rfl 95 (.tmp 3) (.tmp 36) rfl (w.heap.size + 1) (stC M) rfl rfl 95 (stC T) HK3.out HI8.out rfl (stC_all _) ?_)
          refine ⟨⟨t + 1, a + 64, by go_num, by omega, ?_, ?_, ?_, ?_, ?_⟩, by simp [intOf]; omega⟩
          · show _ = _
            have := HA.out
            omega
          · show Blk _ _ _ _
            rw [← HMM.out]
            exact HK3.out.row _
          · exact (HK.out.same (HB3.out.block _ HK.out.lt)).rowFar (by omega) _
          · exact (HBZ.out.same (HB3.out.block _ HBZ.out.lt)).rowFar (by omega) _
          · exact below_setRow (HBL.out.trans (HB3.out.mono HBL.out.size)) (by omega) _
        · have ht : T = mixN St0 (padded b) (b.length / 64 + 128 / 64) := by
            have h1 := HN.out
            have h2 := HA.out
            rw [HTT.out, h1, show t = 128 / 64 by omega]
          have HRT : Hid (R = joinS T) := by show _ = _; rw [HRE.out, ht]
          have HI32 : Hid ((Tryd.prog.info? 33).map (·.size) = some (u8s (joinS T)).toArray.size) := by
            show _ = _
            rw [List.size_toArray, u8s_length, show (joinS T).length = 32 by simp [joinS]]; kernel_rfl
          have HZ32 : Hid (Z.size = (u8s (joinS T)).toArray.size) := by
            show _ = _
            rw [HZ.out, List.size_toArray, List.size_toArray, u8s_length, u8s_length, show (joinS T).length = 32 by simp [joinS]]; simp
          clear ht
          go_wp2_with fail
          refine (joined_agg T wr).mono ?_
          rintro e w3 ⟨rfl, hb3⟩
          have HB3 := hid hb3
          have HBZ3 := hid (HBZ.out.same (hb3.block _ HBZ.out.lt))
          clear hb3
          go_wp2_with (refine wpList_store_row rfl 33 (.tmp 2) (.tmp 38) rfl w.heap.size (u8s (joinS T)).toArray rfl rfl 33 Z HBZ3.out HI32.out HZ32.out (u8s_all _) ?_)
          try go_frame
          refine bodyPost_ret (results_cell_row Tryd.results42 _ _ w.heap.size 33 (u8s (joinS T)).toArray (0, 0) _ rfl (HBZ3.out.row _) Tryd.underlying33 rfl HI32.out) rfl ?_
          rw [HRT.out]
          exact ⟨rfl, below_setRow (HBL.out.trans (HB3.out.mono HBL.out.size)) (Nat.le_refl _) _⟩

theorem Sum_any (A : Option Addr) (c : Nat) (b : List Int) (w : World) (hr : Rp w none A b) (hb : Bs b) (hl : b.length < 1000000000000) (hc : b.length ≤ c) (ht : Tab w) :
    Calls Tryd.prog 42 #[.slice A b.length c] w fun e w' => e = .returned (hashV (sum b)) ∧ Below w.heap.size w w' := by
  by_cases hs : b.length % 64 + 9 ≤ 64
  · exact sum_64 A c b w hr hb hl hc ht hs
  · exact sum_128 A c b w hr hb hl hc ht (by omega)
end Go.Proofs.YtoacjaecfabahaaDoor
/-
  What is proved here: the fixed fact that each statement on hashes asks first, and which lists of parts are few.
-/
namespace Go.Proofs.YtoacjaecfabahaaDoor
open Go.ChangeShapes Go.WideShapes Go.ChangeAt Go.RowKit
set_option linter.unusedVariables false

theorem sum_length (b : List Int) : (sum b).length = 32 := by unfold sum; simp
theorem info_hash (b : List Int) (h : b.length = 32) : (Tryd.prog.info? 33).map (·.size) = some (u8s b).toArray.size := by
  rw [List.size_toArray, u8s_length, h]; kernel_rfl
theorem abc_at (i : Nat) (v : Int) (h : [186, 120, 22, 191][i]? = some v) : (sum [97, 98, 99])[i]? = some v := by
  rw [← sum_abc, List.getElem?_take] at h
  split at h
  · exact h
  · cases h

end Go.Proofs.YtoacjaecfabahaaDoor
