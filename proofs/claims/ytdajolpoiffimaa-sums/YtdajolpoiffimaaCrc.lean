/-
  The check of a text, as plain mathematics: bit by bit, as the document's answer reckons it, and byte by byte.
-/
namespace Go.Proofs.Ytdajolpoiffimaa.Crc

def poly : Nat := 3988292384
/-- One bit of a byte b, the k-th. -/
def bitStep (b k c : Nat) : Nat := if (c ^^^ (b / 2 ^ k)) % 2 = 1 then (c / 2) ^^^ poly else c / 2
/-- The first j bits of a byte. -/
def bitsK (b c : Nat) : Nat → Nat
  | 0 => c
  | j + 1 => bitStep b j (bitsK b c j)
/-- A whole byte. -/
def byteStep (c b : Nat) : Nat := bitsK b c 8
/-- The number behind the first bytes of a text. -/
def crc (l : List UInt8) : Nat := l.foldl (fun c b => byteStep c b.toNat) 4294967295
theorem xor_lt {a b : Nat} (ha : a < 4294967296) (hb : b < 4294967296) : a ^^^ b < 4294967296 := Nat.xor_lt_two_pow (n := 32) ha hb
theorem bitStep_lt {b k c : Nat} (h : c < 4294967296) : bitStep b k c < 4294967296 := by
  unfold bitStep; split
  · exact xor_lt (by omega) (by decide)
  · omega
theorem bitsK_lt {b c : Nat} (h : c < 4294967296) (j : Nat) : bitsK b c j < 4294967296 := by
  induction j with
  | zero => exact h
  | succ j ih => exact bitStep_lt ih
theorem crc_lt (l : List UInt8) : crc l < 4294967296 := by
  have all : ∀ (l : List UInt8) (c : Nat), c < 4294967296 → l.foldl (fun c b => byteStep c b.toNat) c < 4294967296 := by
    intro l
    induction l with
    | nil => intro c h; exact h
    | cons a r ih => intro c h; exact ih _ (bitsK_lt h 8)
  exact all l _ (by decide)
theorem crc_snoc (l : List UInt8) (b : UInt8) : crc (l ++ [b]) = byteStep (crc l) b.toNat := by simp [crc, List.foldl_append]
/-- The same, the byte put in first: a step that looks at the lowest bit alone. -/
def plainStep (c : Nat) : Nat := if c % 2 = 1 then (c / 2) ^^^ poly else c / 2
def plainK (c : Nat) : Nat → Nat
  | 0 => c
  | j + 1 => plainStep (plainK c j)
theorem xor_half (a b : Nat) : (a ^^^ b) / 2 = a / 2 ^^^ b / 2 := by
  have := Nat.shiftRight_xor_distrib (a := a) (b := b) (i := 1)
  simpa [Nat.shiftRight_eq_div_pow] using this
theorem plain_bits (b c j : Nat) : plainK (c ^^^ b) j = bitsK b c j ^^^ (b / 2 ^ j) := by
  induction j with
  | zero => simp [plainK, bitsK]
  | succ j ih =>
    have hd : b / 2 ^ (j + 1) = b / 2 ^ j / 2 := by rw [Nat.pow_succ, Nat.div_div_eq_div_mul]
    rw [plainK, bitsK, ih, plainStep, bitStep, hd, xor_half]
    split
    · rw [Nat.xor_assoc, Nat.xor_assoc, Nat.xor_comm (b / 2 ^ j / 2)]
    · rfl
/-- A byte put in first, and eight plain steps. -/
theorem byte_plain {c b : Nat} (hb : b < 256) : byteStep c b = plainK (c ^^^ b) 8 := by
  have h : b / 2 ^ 8 = 0 := Nat.div_eq_of_lt hb
  rw [plain_bits, h, Nat.xor_zero]; rfl
/-- All bits turned round. -/
theorem flip {c : Nat} (h : c < 4294967296) : c ^^^ 4294967295 = 4294967295 - c := by
  have e : (4294967295 : Nat) = 2 ^ 32 - 1 := by decide
  apply Nat.eq_of_testBit_eq
  intro i
  rw [Nat.testBit_xor, e, Nat.testBit_two_pow_sub_one]
  have := Nat.testBit_two_pow_sub_succ (n := 32) (x := c) h i
  have e2 : 2 ^ 32 - (c + 1) = 2 ^ 32 - 1 - c := by omega
  rw [e2] at this
  rw [this]
  by_cases hi : i < 32
  · simp [hi]
  · have h2 : 2 ^ 32 ≤ 2 ^ i := Nat.pow_le_pow_right (by decide) (by omega)
    have hc : c.testBit i = false := Nat.testBit_lt_two_pow (by omega)
    simp [hi, hc]
/-- The check of a text. -/
def sumR (s : ByteArray) : Int := 4294967295 - (crc s.data.toList : Int)
theorem take_snoc (s : ByteArray) (k : Nat) (h : k < s.size) : s.data.toList.take (k + 1) = s.data.toList.take k ++ [s[k]] := by
  rw [List.take_succ_eq_append_getElem (by simpa using h)]; rfl
theorem crc_step (s : ByteArray) (k : Nat) (h : k < s.size) : crc (s.data.toList.take (k + 1)) = byteStep (crc (s.data.toList.take k)) s[k].toNat := by rw [take_snoc s k h, crc_snoc]
theorem crc_whole (s : ByteArray) : crc (s.data.toList.take s.size) = crc s.data.toList := by rw [List.take_of_length_le (by simp)]
end Go.Proofs.Ytdajolpoiffimaa.Crc
