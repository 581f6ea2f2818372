/-
  SHA-256 as plain functions on numbers.
  Conditions: none.
-/
import Derived.Test.YtfjkinmmidmjaaaDoorShW
namespace Go.Proofs.YtfjkinmmidmjaaaDoor

def bs1256 (e : Nat) : Nat := rl32 e 26 ^^^ rl32 e 21 ^^^ rl32 e 7
def bs0256 (a : Nat) : Nat := rl32 a 30 ^^^ rl32 a 19 ^^^ rl32 a 10
def ss0256 (x : Nat) : Nat := rl32 x 25 ^^^ rl32 x 14 ^^^ x / 8
def ss1256 (x : Nat) : Nat := rl32 x 15 ^^^ rl32 x 13 ^^^ x / 1024
def ch256 (e f g : Nat) : Nat := (e &&& f) ^^^ ((4294967295 ^^^ e) &&& g)
def mj256 (a b c : Nat) : Nat := (a &&& b) ^^^ (a &&& c) ^^^ (b &&& c)
/-- One round. -/
def rnd256 (v : W8) (w : Nat) : W8 :=
  let t := (v.h + bs1256 v.e + ch256 v.e v.f v.g + w) % 4294967296
  ⟨(t + (bs0256 v.a + mj256 v.a v.b v.c)) % 4294967296, v.a, v.b, v.c, (v.d + t) % 4294967296, v.e, v.f, v.g⟩
theorem rnd256_lt {v : W8} (w : Nat) (h : v.lt 4294967296) : (rnd256 v w).lt 4294967296 :=
  ⟨Nat.mod_lt _ (by decide), h.1, h.2.1, h.2.2.1, Nat.mod_lt _ (by decide), h.2.2.2.2.1, h.2.2.2.2.2.1, h.2.2.2.2.2.2.1⟩
/-- The next word of the schedule. -/
def nx256 (l : List Nat) : Nat := (l.getD (l.length - 16) 0 + l.getD (l.length - 7) 0 + ss0256 (l.getD (l.length - 15) 0) + ss1256 (l.getD (l.length - 2) 0)) % 4294967296
def sc256 : Nat → List Nat → List Nat
  | 0, l => l
  | n + 1, l => sc256 n (l ++ [nx256 l])
/-- All rounds. -/
def rds256 : List Nat → List Nat → W8 → W8
  | w :: ws, k :: ks, v => rds256 ws ks (rnd256 v ((w + k) % 4294967296))
  | _, _, v => v
def ad256 (x y : W8) : W8 := ⟨(x.a + y.a) % 4294967296, (x.b + y.b) % 4294967296, (x.c + y.c) % 4294967296, (x.d + y.d) % 4294967296, (x.e + y.e) % 4294967296, (x.f + y.f) % 4294967296, (x.g + y.g) % 4294967296, (x.h + y.h) % 4294967296⟩
theorem ad256_lt (x y : W8) : (ad256 x y).lt 4294967296 := by
  refine ⟨?_, ?_, ?_, ?_, ?_, ?_, ?_, ?_⟩ <;> exact Nat.mod_lt _ (by decide)
/-- The words of a block. -/
def wds256 : List UInt8 → List Nat
  | a :: b :: c :: d :: r => (((a.toNat * 256 + b.toNat) * 256 + c.toNat) * 256 + d.toNat) :: wds256 r
  | _ => []
def kk256 : List Nat := (cube.map (· / 4294967296)).take 64
def st256 : W8 := ⟨square.getD 0 0 / 4294967296, square.getD 1 0 / 4294967296, square.getD 2 0 / 4294967296, square.getD 3 0 / 4294967296, square.getD 4 0 / 4294967296, square.getD 5 0 / 4294967296, square.getD 6 0 / 4294967296, square.getD 7 0 / 4294967296⟩
/-- A block is mixed in. -/
def mix256 (h : W8) (b : List UInt8) : W8 := ad256 h (rds256 (sc256 (64 - 16) (wds256 b)) kk256 h)
/-- The bytes are taken in one by one. -/
def eat256 : W8 → List UInt8 → List UInt8 → W8 × List UInt8
  | h, buf, [] => (h, buf)
  | h, buf, x :: r => if buf.length + 1 = 64 then eat256 (mix256 h (buf ++ [x])) [] r else eat256 h (buf ++ [x]) r
theorem eat256_app : ∀ (p q : List UInt8) (h : W8) (buf : List UInt8), eat256 h buf (p ++ q) = eat256 (eat256 h buf p).1 (eat256 h buf p).2 q
  | [], q, h, buf => rfl
  | x :: r, q, h, buf => by
    simp only [List.cons_append, eat256]
    split
    · exact eat256_app r q _ _
    · exact eat256_app r q _ _
theorem eat256_blk : ∀ (p : List UInt8) (h : W8) (buf : List UInt8), p ≠ [] → buf.length + p.length = 64 → eat256 h buf p = (mix256 h (buf ++ p), [])
  | [], _, _, h0, _ => absurd rfl h0
  | [x], h, buf, _, hl => by
    simp only [eat256]
    rw [if_pos (by simpa using hl)]
  | x :: y :: r, h, buf, _, hl => by
    simp only [List.length_cons] at hl
    rw [eat256, if_neg (by omega), eat256_blk (y :: r) h (buf ++ [x]) (by simp) (by simp only [List.length_append, List.length_cons, List.length_nil]; omega)]
    simp
/-- Whole blocks, one after another. -/
def blk256 : Nat → W8 → List UInt8 → W8
  | 0, h, _ => h
  | n + 1, h, p => blk256 n (mix256 h (p.take 64)) (p.drop 64)
theorem eat256_blks : ∀ (n : Nat) (h : W8) (p : List UInt8), p.length = 64 * n → eat256 h [] p = (blk256 n h p, [])
  | 0, h, p, hl => by
    have : p = [] := List.eq_nil_of_length_eq_zero (by omega)
    subst this
    rfl
  | n + 1, h, p, hl => by
    have e : p = p.take 64 ++ p.drop 64 := (List.take_append_drop _ _).symm
    have h1 : (p.take 64).length = 64 := by rw [List.length_take]; omega
    conv => lhs; rw [e]
    rw [eat256_app, eat256_blk (p.take 64) h [] (fun e => by rw [e] at h1; simp at h1) (by simpa using h1)]
    rw [List.nil_append]
    exact eat256_blks n _ _ (by rw [List.length_drop]; omega)
/-- What stands behind n bytes. -/
def pad256 (n : Nat) : List UInt8 := [128] ++ List.replicate ((64 - 8 + 64 - (n + 1) % 64) % 64) 0 ++ (List.range 8).map fun i => UInt8.ofNat (n * 8 / 2 ^ (8 * (8 - 1 - i)) % 256)
/-- The digest's bytes. -/
def dig256 (v : W8) : List UInt8 := (List.range (8 * 4)).map fun i => UInt8.ofNat (v.l.getD (i / 4) 0 / 2 ^ (32 - 8 - i % 4 * 8) % 256)
/-- SHA-256. -/
def sum256 (b : List UInt8) : List UInt8 := dig256 (eat256 st256 [] (b ++ pad256 b.length)).1
end Go.Proofs.YtfjkinmmidmjaaaDoor
