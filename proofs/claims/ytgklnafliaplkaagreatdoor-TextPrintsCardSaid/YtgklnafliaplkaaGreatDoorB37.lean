/-
  What the row's list gives the readers of texts: 'TG'.
-/
import Derived.Test.YtgklnafliaplkaaGreatDoorRows
import Derived.Test.YtgklnafliaplkaaGreatDoorB19
import Derived.Stop.LaidErr
import Derived.MakeChecks
import Derived.LaidMore
import Derived.Lib.LaidTab
namespace Go.Proofs.YtgklnafliaplkaaGreatDoor
open Go.RowKit Go.ChangeShapes
def laidT : List (String × DataW Unit) := [("math/bits.deBruijn32tab", Rows.laid_math_bits_deBruijn32tab), ("math/bits.deBruijn64tab", Rows.laid_math_bits_deBruijn64tab), ("internal/strconv.uint64pow10", Rows.laid_internal_strconv_uint64pow10), ("strconv.ErrRange", Rows.laid_strconv_ErrRange), ("strconv.ErrSyntax", Rows.laid_strconv_ErrSyntax)]
theorem tx_star (s : String) (h : s = "errors.errorString") : "*" ++ s = "*errors.errorString" := by subst h; decide
theorem tx_rowErr (u : TypeId) (h : Tryz.prog.typeName? 3 u = some "*errors.errorString") : u = 126 :=
  typeName_ptr_named (nm := "errors.errorString") (by rw [tx_star _ rfl]; kernel_rfl) (by kernel_rfl) (by decide) u (by rw [tx_star _ rfl]; exact h)
theorem tx_gRng : Tryz.prog.globalNamed "strconv.ErrRange" = some 1 := by kernel_rfl
theorem tx_var_lt {W : World} {n : String} {g : Nat} {cs : Array Value} (hg : Tryz.prog.globalNamed n = some g) (h : W.var? Tryz.prog n = some cs) : g < W.heap.size := by
  rcases Nat.lt_or_ge g W.heap.size with h' | h'
  · exact h'
  · exfalso
    simp only [World.var?, hg, Option.bind_some, Array.getElem?_eq_none h'] at h
    cases h
theorem tg_of_laid {W : World} (h : laidMetH Tryz.prog laidT W) : TG W := by
  rw [MakeChecks.laidMetH_plain _ _ _ (by kernel_rfl)] at h
  obtain ⟨a1, s1, hr, _⟩ := laid_sentinel (P := Tryz.prog) (n := "strconv.ErrRange") (h.tail.tail.tail) tx_gRng (by kernel_rfl) Tryz.underlying72 tx_rowErr Tryz.underlying126 Tryz.underlying128 rfl rfl Tryz.underlying9 (by kernel_rfl) (by kernel_rfl)
  refine ⟨⟨_, by simpa using World.var?_cell tx_gRng hr 0, .inr ⟨_, _, rfl⟩⟩, tx_var_lt tx_gRng hr, ?_, ?_⟩
  · exact Lib.tabIs_of_head (n := 20) (t := 131) (e := 114) tx_tab_named (by kernel_rfl) Tryz.underlying131 Tryz.underlying114 (by kernel_rfl) (by kernel_rfl) h.tail.tail
  · obtain ⟨ps, ⟨g', t', cs, fuel, p, q, hg', ht', hvar, hd, _, _⟩, _⟩ := h.tail.tail
    exact tx_var_lt tx_tab_named hvar
end Go.Proofs.YtgklnafliaplkaaGreatDoor
