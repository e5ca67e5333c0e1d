/-
  Quoted bytes: plain lemmas.
-/
import Derived.Lib.UnsafeStr
namespace Go.Proofs.YtmnaaohhageihaaDoor

/-- A digit of a byte's number: of less than 16. -/
def hexD (n : Nat) : Nat := if n < 10 then 48 + n else 87 + n
/-- A byte, as it stands between two quotes. -/
def quoteC (c : UInt8) : List UInt8 :=
  if c.toNat = 34 ∨ c.toNat = 92 then [92, c] else if 32 ≤ c.toNat ∧ c.toNat ≤ 126 then [c] else [92, 120, UInt8.ofNat (hexD (c.toNat / 16)), UInt8.ofNat (hexD (c.toNat % 16))]
def quoteI (l : List UInt8) : List UInt8 := l.flatMap quoteC
def quoteL (l : List UInt8) : List UInt8 := 34 :: (quoteI l ++ [34])
theorem quoteI_snoc (l : List UInt8) (c : UInt8) : quoteI (l ++ [c]) = quoteI l ++ quoteC c := by simp [quoteI]
theorem quoteC_len (c : UInt8) : (quoteC c).length ≤ 4 := by unfold quoteC; split; simp; split <;> simp
theorem quoteI_len : ∀ l : List UInt8, (quoteI l).length ≤ 4 * l.length
  | [] => by simp [quoteI]
  | c :: r => by
    have h1 := quoteC_len c
    have h2 := quoteI_len r
    have h3 : quoteI (c :: r) = quoteC c ++ quoteI r := by simp [quoteI]
    rw [h3, List.length_append, List.length_cons]; omega
theorem hexD_lt {n : Nat} (h : n < 16) : hexD n < 256 := by unfold hexD; split <;> omega
theorem byte_toNat {n : Nat} (h : n < 256) : (UInt8.ofNat n).toNat = n := by simp; omega
end Go.Proofs.YtmnaaohhageihaaDoor
