/-
  What this file is for: the hash of the document as a function on words of 32 bits, and how the words' operations read in a walk. Nothing of the program is walked here.
-/
import Derived.WalkKit
namespace Go.Proofs.Yteiflhgmgdibgaa
open Go.RowKit
set_option linter.unusedVariables false

abbrev W32 := BitVec 32
/-- a word as the number that a walk shows -/
def u (x : W32) : Int := (x.toNat : Int)
theorem u_lo (x : W32) : 0 ≤ u x := by unfold u; omega
theorem u_hi (x : W32) : u x < 4294967296 := by unfold u; have := x.isLt; omega
theorem u_inj {x y : W32} (h : u x = u y) : x = y := by unfold u at h; exact BitVec.eq_of_toNat_eq (by omega)
def wd (n : Int) : W32 := BitVec.ofNat 32 n.toNat
theorem u_wd (n : Int) (h0 : 0 ≤ n) (h1 : n < 4294967296) : u (wd n) = n := by
  unfold u wd
  rw [BitVec.toNat_ofNat, Nat.mod_eq_of_lt (by omega)]; omega
theorem ofInt_u (x : W32) : BitVec.ofInt 32 (u x) = x := by
  unfold u; simp
theorem wrap_nat (x : W32) : IntKind.u32.wrap (x.toNat : Int) = u x := by
  unfold u
  have := x.isLt
  simp [IntKind.wrap, IntKind.bits, IntKind.signed]; omega
theorem u_xor (x y : W32) : bits .xor .u32 (u x) (u y) = u (x ^^^ y) := by
  show IntKind.u32.wrap ((BitVec.ofInt 32 (u x) ^^^ BitVec.ofInt 32 (u y)).toNat : Int) = _
  rw [ofInt_u, ofInt_u, wrap_nat]
theorem u_and (x y : W32) : bits .and .u32 (u x) (u y) = u (x &&& y) := by
  show IntKind.u32.wrap ((BitVec.ofInt 32 (u x) &&& BitVec.ofInt 32 (u y)).toNat : Int) = _
  rw [ofInt_u, ofInt_u, wrap_nat]
theorem u_or (x y : W32) : bits .or .u32 (u x) (u y) = u (x ||| y) := by
  show IntKind.u32.wrap ((BitVec.ofInt 32 (u x) ||| BitVec.ofInt 32 (u y)).toNat : Int) = _
  rw [ofInt_u, ofInt_u, wrap_nat]
theorem u_add (x y : W32) : IntKind.u32.wrap (u x + u y) = u (x + y) := by
  unfold u
  have := x.isLt; have := y.isLt
  rw [BitVec.toNat_add]
  simp [IntKind.wrap, IntKind.bits, IntKind.signed]
theorem u_not (x : W32) : IntKind.u32.wrap (4294967295 - u x) = u (~~~x) := by
  unfold u
  have := x.isLt
  rw [BitVec.toNat_not]
  simp [IntKind.wrap, IntKind.bits, IntKind.signed]; omega
theorem u_not' (x : W32) : bits .xor .u32 (if IntKind.u32.signed = true then -1 else IntKind.u32.max) (u x) = u (~~~x) := by
  show IntKind.u32.wrap ((BitVec.ofInt 32 (4294967295) ^^^ BitVec.ofInt 32 (u x)).toNat : Int) = _
  rw [ofInt_u, wrap_nat]
  have e : (BitVec.ofInt 32 4294967295) = BitVec.allOnes 32 := by decide +kernel
  rw [e, BitVec.allOnes_xor]
theorem u_shr (x : W32) (n : Nat) : u x / 2 ^ n = u (x >>> n) := by
  unfold u
  rw [BitVec.toNat_ushiftRight, Nat.shiftRight_eq_div_pow]
  simp
theorem u_shl (x : W32) (n : Nat) : IntKind.u32.wrap (u x * 2 ^ n) = u (x <<< n) := by
  unfold u
  rw [BitVec.toNat_shiftLeft, Nat.shiftLeft_eq]
  simp [IntKind.wrap, IntKind.bits, IntKind.signed]

theorem u_shl' (x : W32) (n : Nat) : u x * 2 ^ n % 4294967296 = u (x <<< n) := by
  unfold u
  rw [BitVec.toNat_shiftLeft, Nat.shiftLeft_eq]
  simp
theorem u_add' (x y : W32) : (u x + u y) % 4294967296 = u (x + y) := by
  unfold u
  rw [BitVec.toNat_add]
  simp
theorem u_add4 (a b c d : W32) : (u a + u b + u c + u d) % 4294967296 = u (a + b + c + d) := by
  unfold u
  simp only [BitVec.toNat_add]
  omega
theorem u_add5 (a b c d e : W32) : (u a + u b + u c + u d + u e) % 4294967296 = u (a + b + c + d + e) := by
  unfold u
  simp only [BitVec.toNat_add]
  omega
theorem u_add3 (a b c : W32) : (u a + u b + u c) % 4294967296 = u (a + b + c) := by
  unfold u
  simp only [BitVec.toNat_add]
  omega
def rr (x : W32) (n : Nat) : W32 := x.rotateRight n
theorem rr_or (x : W32) (n : Nat) (h : n < 32) : x >>> n ||| x <<< (32 - n) = rr x n := by
  unfold rr
  rw [BitVec.rotateRight_def, Nat.mod_eq_of_lt h]
theorem or_comm32 (x y : W32) : x ||| y = y ||| x := BitVec.or_comm x y

def lo0 (x : W32) : W32 := rr x 7 ^^^ rr x 18 ^^^ x >>> 3
def lo1 (x : W32) : W32 := rr x 17 ^^^ rr x 19 ^^^ x >>> 10
def up0 (x : W32) : W32 := rr x 2 ^^^ rr x 13 ^^^ rr x 22
def up1 (x : W32) : W32 := rr x 6 ^^^ rr x 11 ^^^ rr x 25
def ch (t u v : W32) : W32 := t &&& u ^^^ ~~~t &&& v
def mj (p q r : W32) : W32 := p &&& q ^^^ p &&& r ^^^ q &&& r
theorem ch_or (t u v : W32) : t &&& u ||| ~~~t &&& v = ch t u v := by
  unfold ch
  apply BitVec.eq_of_getLsbD_eq
  intro i hi
  simp only [BitVec.getLsbD_or, BitVec.getLsbD_and, BitVec.getLsbD_xor, BitVec.getLsbD_not]
  cases t.getLsbD i <;> cases u.getLsbD i <;> cases v.getLsbD i <;> simp [hi]
theorem mj_or (p q r : W32) : p &&& q ||| p &&& r ||| q &&& r = mj p q r := by
  unfold mj
  apply BitVec.eq_of_getLsbD_eq
  intro i hi
  simp only [BitVec.getLsbD_or, BitVec.getLsbD_and, BitVec.getLsbD_xor]
  cases p.getLsbD i <;> cases q.getLsbD i <;> cases r.getLsbD i <;> rfl

/-- the words of a block, so far -/
def ext : Nat → List W32 → List W32
  | 0, l => l
  | n + 1, l => let m := ext n l; m ++ [m[n]?.getD 0 + lo0 (m[n + 1]?.getD 0) + m[n + 9]?.getD 0 + lo1 (m[n + 14]?.getD 0)]
theorem ext_length (n : Nat) (l : List W32) : (ext n l).length = l.length + n := by
  induction n with
  | zero => rfl
  | succ n ih => show (ext n l ++ [_]).length = _; rw [List.length_append, ih]; simp; omega
theorem ext_old (n : Nat) (l : List W32) (i : Nat) (h : i < l.length + n) : (ext (n + 1) l)[i]? = (ext n l)[i]? := by
  show (ext n l ++ [_])[i]? = _
  rw [List.getElem?_append_left (by rw [ext_length]; exact h)]
theorem ext_le (n m : Nat) (l : List W32) (i : Nat) (h : i < l.length + n) (hm : n ≤ m) : (ext m l)[i]? = (ext n l)[i]? := by
  induction m with
  | zero => obtain rfl : n = 0 := by omega
            rfl
  | succ m ih =>
    by_cases e : n = m + 1
    · rw [e]
    · rw [ext_old m l i (by omega), ih (by omega)]
theorem ext_new (n : Nat) (l : List W32) : (ext (n + 1) l)[l.length + n]? = some ((ext n l)[n]?.getD 0 + lo0 ((ext n l)[n + 1]?.getD 0) + (ext n l)[n + 9]?.getD 0 + lo1 ((ext n l)[n + 14]?.getD 0)) := by
  show (ext n l ++ [_])[l.length + n]? = _
  rw [List.getElem?_append_right (by rw [ext_length]; omega), ext_length, Nat.sub_self]; rfl

theorem ext_at (k : Nat) (l : List W32) (h : 16 ≤ k) (hl : l.length = 16) : (ext (k - 16 + 1) l)[k]? = some ((ext (k - 16) l)[k - 16]?.getD 0 + lo0 ((ext (k - 16) l)[k - 15]?.getD 0) + (ext (k - 16) l)[k - 7]?.getD 0 + lo1 ((ext (k - 16) l)[k - 2]?.getD 0)) := by
  have hn := ext_new (k - 16) l
  rw [hl, show 16 + (k - 16) = k by omega] at hn
  rw [hn, show k - 16 + 1 = k - 15 by omega, show k - 16 + 9 = k - 7 by omega, show k - 16 + 14 = k - 2 by omega]
structure St where
  a : W32
  b : W32
  c : W32
  d : W32
  e : W32
  f : W32
  g : W32
  h : W32
def St.round (s : St) (k w : W32) : St :=
  let x := s.h + up1 s.e + ch s.e s.f s.g + k + w
  let y := up0 s.a + mj s.a s.b s.c
  ⟨x + y, s.a, s.b, s.c, s.d + x, s.e, s.f, s.g⟩
def St.add (s t : St) : St := ⟨s.a + t.a, s.b + t.b, s.c + t.c, s.d + t.d, s.e + t.e, s.f + t.f, s.g + t.g, s.h + t.h⟩
def St.rounds (s : St) (K W : List W32) : Nat → St
  | 0 => s
  | n + 1 => (s.rounds K W n).round (K[n]?.getD 0) (W[n]?.getD 0)

def K64 : List W32 := [0x428a2f98#32, 0x71374491#32, 0xb5c0fbcf#32, 0xe9b5dba5#32, 0x3956c25b#32, 0x59f111f1#32, 0x923f82a4#32, 0xab1c5ed5#32,
  0xd807aa98#32, 0x12835b01#32, 0x243185be#32, 0x550c7dc3#32, 0x72be5d74#32, 0x80deb1fe#32, 0x9bdc06a7#32, 0xc19bf174#32,
  0xe49b69c1#32, 0xefbe4786#32, 0x0fc19dc6#32, 0x240ca1cc#32, 0x2de92c6f#32, 0x4a7484aa#32, 0x5cb0a9dc#32, 0x76f988da#32,
  0x983e5152#32, 0xa831c66d#32, 0xb00327c8#32, 0xbf597fc7#32, 0xc6e00bf3#32, 0xd5a79147#32, 0x06ca6351#32, 0x14292967#32,
  0x27b70a85#32, 0x2e1b2138#32, 0x4d2c6dfc#32, 0x53380d13#32, 0x650a7354#32, 0x766a0abb#32, 0x81c2c92e#32, 0x92722c85#32,
  0xa2bfe8a1#32, 0xa81a664b#32, 0xc24b8b70#32, 0xc76c51a3#32, 0xd192e819#32, 0xd6990624#32, 0xf40e3585#32, 0x106aa070#32,
  0x19a4c116#32, 0x1e376c08#32, 0x2748774c#32, 0x34b0bcb5#32, 0x391c0cb3#32, 0x4ed8aa4a#32, 0x5b9cca4f#32, 0x682e6ff3#32,
  0x748f82ee#32, 0x78a5636f#32, 0x84c87814#32, 0x8cc70208#32, 0x90befffa#32, 0xa4506ceb#32, 0xbef9a3f7#32, 0xc67178f2#32]
def St0 : St := ⟨0x6a09e667#32, 0xbb67ae85#32, 0x3c6ef372#32, 0xa54ff53a#32, 0x510e527f#32, 0x9b05688c#32, 0x1f83d9ab#32, 0x5be0cd19#32⟩
/-- the word of four bytes -/
def be4 (a b c d : Int) : Int := a * 16777216 + b * 65536 + c * 256 + d
/-- the sixteen words of 64 bytes -/
def blockWords (l : List Int) : List W32 := (List.range 16).map fun i => wd (be4 (l[4 * i]?.getD 0) (l[4 * i + 1]?.getD 0) (l[4 * i + 2]?.getD 0) (l[4 * i + 3]?.getD 0))
/-- the state behind a block -/
def mixS (s : St) (l : List Int) : St := s.add (s.rounds K64 (ext 48 (blockWords l)) 64)
/-- the state behind n blocks -/
def mixN (s : St) (l : List Int) : Nat → St
  | 0 => s
  | n + 1 => mixS (mixN s l n) ((l.drop (64 * n)).take 64)
/-- what a message is followed by: a byte 128, noughts, its number of bits -/
def padded (l : List Int) : List Int := l ++ 128 :: (List.replicate ((119 - l.length % 64) % 64) 0 ++ (List.range 8).map fun i => (8 * (l.length : Int)) / 256 ^ (7 - i) % 256)
def St.list (s : St) : List W32 := [s.a, s.b, s.c, s.d, s.e, s.f, s.g, s.h]
/-- the hash: its bytes -/
def sum (l : List Int) : List Int :=
  let s := (mixN St0 (padded l) ((padded l).length / 64)).list
  (List.range 32).map fun i => u (s[i / 4]?.getD 0) / 256 ^ (3 - i % 4) % 256
theorem or_nat32 (x y : Nat) (hx : x < 4294967296) (hy : y < 4294967296) : bits .or .u32 (x : Int) (y : Int) = ((x ||| y : Nat) : Int) := by
  have e1 : (x : Int) = u (wd x) := (u_wd x (by omega) (by omega)).symm
  have e2 : (y : Int) = u (wd y) := (u_wd y (by omega) (by omega)).symm
  rw [e1, e2, u_or]
  unfold u wd
  rw [BitVec.toNat_or, BitVec.toNat_ofNat, BitVec.toNat_ofNat, Int.toNat_natCast, Int.toNat_natCast, Nat.mod_eq_of_lt hx, Nat.mod_eq_of_lt hy]
theorem or_sum (a b i : Nat) (h : b < 2 ^ i) : a * 2 ^ i ||| b = a * 2 ^ i + b := by
  rw [Nat.mul_comm, Nat.two_pow_add_eq_or_of_lt h]
theorem or4 (a b c d : Int) (ha : 0 ≤ a ∧ a < 256) (hb : 0 ≤ b ∧ b < 256) (hc : 0 ≤ c ∧ c < 256) (hd : 0 ≤ d ∧ d < 256) :
    bits .or .u32 (bits .or .u32 (bits .or .u32 (a * 16777216) (b * 65536)) (c * 256)) d = u (wd (be4 a b c d)) := by
  obtain ⟨a, rfl⟩ := Int.eq_ofNat_of_zero_le ha.1
  obtain ⟨b, rfl⟩ := Int.eq_ofNat_of_zero_le hb.1
  obtain ⟨c, rfl⟩ := Int.eq_ofNat_of_zero_le hc.1
  obtain ⟨d, rfl⟩ := Int.eq_ofNat_of_zero_le hd.1
  have a1 : a < 256 := by omega
  have b1 : b < 256 := by omega
  have c1 : c < 256 := by omega
  have d1 : d < 256 := by omega
  rw [show ((a : Int) * 16777216) = ((a * 2 ^ 24 : Nat) : Int) by omega, show ((b : Int) * 65536) = ((b * 65536 : Nat) : Int) by omega, show ((c : Int) * 256) = ((c * 256 : Nat) : Int) by omega]
  rw [or_nat32 _ _ (by omega) (by omega), or_sum a (b * 65536) 24 (by omega), show a * 2 ^ 24 + b * 65536 = (a * 256 + b) * 2 ^ 16 by omega]
  rw [or_nat32 _ _ (by omega) (by omega), or_sum (a * 256 + b) (c * 256) 16 (by omega), show (a * 256 + b) * 2 ^ 16 + c * 256 = ((a * 256 + b) * 256 + c) * 2 ^ 8 by omega]
  rw [or_nat32 _ _ (by omega) (by omega), or_sum _ d 8 (by omega), u_wd _ (by unfold be4; omega) (by unfold be4; omega)]
  unfold be4
  omega
theorem sum_abc : (sum [97, 98, 99]).take 4 = [186, 120, 22, 191] := by decide +kernel
end Go.Proofs.Yteiflhgmgdibgaa
