/-
  What the row's list gives: 'Glob'.
-/
import Derived.Test.YtdcempejdggkpaaGreatDoorRows
import Derived.Test.YtdcempejdggkpaaGreatDoorB16
import Derived.Stop.LaidErr
import Derived.MakeChecks
import Derived.Lib.LaidTab
namespace Go.Proofs.YtdcempejdggkpaaGreatDoor
open Go.RowKit Go.ChangeShapes
def laidL : List (String × DataW Unit) := [("math/bits.deBruijn32tab", Rows.laid_math_bits_deBruijn32tab), ("math/bits.deBruijn64tab", Rows.laid_math_bits_deBruijn64tab), ("internal/strconv.uint64pow10", Rows.laid_internal_strconv_uint64pow10), ("strconv.ErrRange", Rows.laid_strconv_ErrRange), ("strconv.ErrSyntax", Rows.laid_strconv_ErrSyntax)]
theorem star (s : String) (h : s = "errors.errorString") : "*" ++ s = "*errors.errorString" := by subst h; decide
theorem rowErr (u : TypeId) (h : Tryz.prog.typeName? 3 u = some "*errors.errorString") : u = 113 :=
  typeName_ptr_named (nm := "errors.errorString") (by rw [star _ rfl]; kernel_rfl) (by kernel_rfl) (by decide) u (by rw [star _ rfl]; exact h)
theorem gBits : Tryz.prog.globalNamed "math/bits.deBruijn64tab" = some 5 := by kernel_rfl
theorem glob_of_laid {W : World} (h : laidMetH Tryz.prog laidL W) : Glob W := by
  rw [MakeChecks.laidMetH_plain _ _ _ (by kernel_rfl)] at h
  obtain ⟨a1, s1, hr, _⟩ := laid_sentinel (P := Tryz.prog) (n := "strconv.ErrRange") (h.tail.tail.tail) gRng (by kernel_rfl) Tryz.underlying81 rowErr Tryz.underlying113 Tryz.underlying115 rfl rfl Tryz.underlying9 (by kernel_rfl) (by kernel_rfl)
  obtain ⟨a2, s2, hs, _⟩ := laid_sentinel (P := Tryz.prog) (n := "strconv.ErrSyntax") (h.tail.tail.tail.tail) gSyn (by kernel_rfl) Tryz.underlying81 rowErr Tryz.underlying113 Tryz.underlying115 rfl rfl Tryz.underlying9 (by kernel_rfl) (by kernel_rfl)
  refine ⟨⟨_, _, hs⟩, ⟨_, _, hr⟩, ?_, ?_⟩
  · exact Lib.tabIs_of_head (n := 20) (t := 117) (e := 99) gTab (by kernel_rfl) Tryz.underlying117 Tryz.underlying99 (by kernel_rfl) (by kernel_rfl) h.tail.tail
  · obtain ⟨ps, ⟨g', t', cs, fuel, p, q, hg', ht', hvar, hd, _, _⟩, _⟩ := h.tail
    obtain rfl := Option.some.inj (gBits.symm.trans hg')
    rcases Nat.lt_or_ge 5 W.heap.size with h' | h'
    · exact h'
    · exfalso
      have e := hvar
      simp only [World.var?, gBits, Option.bind_some, Array.getElem?_eq_none h'] at e
      cases e
end Go.Proofs.YtdcempejdggkpaaGreatDoor
