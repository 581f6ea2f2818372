/-
  SHA-512 as plain functions on numbers.
  Conditions: none.
-/
import Derived.Test.YtfjkinmmidmjaaaDoorShW
namespace Go.Proofs.YtfjkinmmidmjaaaDoor

def bs1512 (e : Nat) : Nat := rl64 e 50 ^^^ rl64 e 46 ^^^ rl64 e 23
def bs0512 (a : Nat) : Nat := rl64 a 36 ^^^ rl64 a 30 ^^^ rl64 a 25
def ss0512 (x : Nat) : Nat := rl64 x 63 ^^^ rl64 x 56 ^^^ x / 128
def ss1512 (x : Nat) : Nat := rl64 x 45 ^^^ rl64 x 3 ^^^ x / 64
def ch512 (e f g : Nat) : Nat := (e &&& f) ^^^ ((18446744073709551615 ^^^ e) &&& g)
def mj512 (a b c : Nat) : Nat := (a &&& b) ^^^ (a &&& c) ^^^ (b &&& c)
/-- One round. -/
def rnd512 (v : W8) (w : Nat) : W8 :=
  let t := (v.h + bs1512 v.e + ch512 v.e v.f v.g + w) % 18446744073709551616
  ⟨(t + (bs0512 v.a + mj512 v.a v.b v.c)) % 18446744073709551616, v.a, v.b, v.c, (v.d + t) % 18446744073709551616, v.e, v.f, v.g⟩
theorem rnd512_lt {v : W8} (w : Nat) (h : v.lt 18446744073709551616) : (rnd512 v w).lt 18446744073709551616 :=
  ⟨Nat.mod_lt _ (by decide), h.1, h.2.1, h.2.2.1, Nat.mod_lt _ (by decide), h.2.2.2.2.1, h.2.2.2.2.2.1, h.2.2.2.2.2.2.1⟩
/-- The next word of the schedule. -/
def nx512 (l : List Nat) : Nat := (l.getD (l.length - 16) 0 + l.getD (l.length - 7) 0 + ss0512 (l.getD (l.length - 15) 0) + ss1512 (l.getD (l.length - 2) 0)) % 18446744073709551616
def sc512 : Nat → List Nat → List Nat
  | 0, l => l
  | n + 1, l => sc512 n (l ++ [nx512 l])
/-- All rounds. -/
def rds512 : List Nat → List Nat → W8 → W8
  | w :: ws, k :: ks, v => rds512 ws ks (rnd512 v ((w + k) % 18446744073709551616))
  | _, _, v => v
def ad512 (x y : W8) : W8 := ⟨(x.a + y.a) % 18446744073709551616, (x.b + y.b) % 18446744073709551616, (x.c + y.c) % 18446744073709551616, (x.d + y.d) % 18446744073709551616, (x.e + y.e) % 18446744073709551616, (x.f + y.f) % 18446744073709551616, (x.g + y.g) % 18446744073709551616, (x.h + y.h) % 18446744073709551616⟩
theorem ad512_lt (x y : W8) : (ad512 x y).lt 18446744073709551616 := by
  refine ⟨?_, ?_, ?_, ?_, ?_, ?_, ?_, ?_⟩ <;> exact Nat.mod_lt _ (by decide)
/-- The words of a block. -/
def wds512 : List UInt8 → List Nat
  | a :: b :: c :: d :: e :: f :: g :: h :: r => (((((((a.toNat * 256 + b.toNat) * 256 + c.toNat) * 256 + d.toNat) * 256 + e.toNat) * 256 + f.toNat) * 256 + g.toNat) * 256 + h.toNat) :: wds512 r
  | _ => []
def kk512 : List Nat := cube
def st512 : W8 := ⟨square.getD 0 0, square.getD 1 0, square.getD 2 0, square.getD 3 0, square.getD 4 0, square.getD 5 0, square.getD 6 0, square.getD 7 0⟩
/-- A block is mixed in. -/
def mix512 (h : W8) (b : List UInt8) : W8 := ad512 h (rds512 (sc512 (80 - 16) (wds512 b)) kk512 h)
/-- The bytes are taken in one by one. -/
def eat512 : W8 → List UInt8 → List UInt8 → W8 × List UInt8
  | h, buf, [] => (h, buf)
  | h, buf, x :: r => if buf.length + 1 = 128 then eat512 (mix512 h (buf ++ [x])) [] r else eat512 h (buf ++ [x]) r
theorem eat512_app : ∀ (p q : List UInt8) (h : W8) (buf : List UInt8), eat512 h buf (p ++ q) = eat512 (eat512 h buf p).1 (eat512 h buf p).2 q
  | [], q, h, buf => rfl
  | x :: r, q, h, buf => by
    simp only [List.cons_append, eat512]
    split
    · exact eat512_app r q _ _
    · exact eat512_app r q _ _
theorem eat512_blk : ∀ (p : List UInt8) (h : W8) (buf : List UInt8), p ≠ [] → buf.length + p.length = 128 → eat512 h buf p = (mix512 h (buf ++ p), [])
  | [], _, _, h0, _ => absurd rfl h0
  | [x], h, buf, _, hl => by
    simp only [eat512]
    rw [if_pos (by simpa using hl)]
  | x :: y :: r, h, buf, _, hl => by
    simp only [List.length_cons] at hl
    rw [eat512, if_neg (by omega), eat512_blk (y :: r) h (buf ++ [x]) (by simp) (by simp only [List.length_append, List.length_cons, List.length_nil]; omega)]
    simp
/-- Whole blocks, one after another. -/
def blk512 : Nat → W8 → List UInt8 → W8
  | 0, h, _ => h
  | n + 1, h, p => blk512 n (mix512 h (p.take 128)) (p.drop 128)
theorem eat512_blks : ∀ (n : Nat) (h : W8) (p : List UInt8), p.length = 128 * n → eat512 h [] p = (blk512 n h p, [])
  | 0, h, p, hl => by
    have : p = [] := List.eq_nil_of_length_eq_zero (by omega)
    subst this
    rfl
  | n + 1, h, p, hl => by
    have e : p = p.take 128 ++ p.drop 128 := (List.take_append_drop _ _).symm
    have h1 : (p.take 128).length = 128 := by rw [List.length_take]; omega
    conv => lhs; rw [e]
    rw [eat512_app, eat512_blk (p.take 128) h [] (fun e => by rw [e] at h1; simp at h1) (by simpa using h1)]
    rw [List.nil_append]
    exact eat512_blks n _ _ (by rw [List.length_drop]; omega)
/-- What stands behind n bytes. -/
def pad512 (n : Nat) : List UInt8 := [128] ++ List.replicate ((128 - 16 + 128 - (n + 1) % 128) % 128) 0 ++ (List.range 16).map fun i => UInt8.ofNat (n * 8 / 2 ^ (8 * (16 - 1 - i)) % 256)
/-- The digest's bytes. -/
def dig512 (v : W8) : List UInt8 := (List.range (8 * 8)).map fun i => UInt8.ofNat (v.l.getD (i / 8) 0 / 2 ^ (64 - 8 - i % 8 * 8) % 256)
/-- SHA-512. -/
def sum512 (b : List UInt8) : List UInt8 := dig512 (eat512 st512 [] (b ++ pad512 b.length)).1
end Go.Proofs.YtfjkinmmidmjaaaDoor
