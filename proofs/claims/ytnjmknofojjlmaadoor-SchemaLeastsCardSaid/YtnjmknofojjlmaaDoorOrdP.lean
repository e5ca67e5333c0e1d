/-
  More of the order of documents.
-/
import Derived.Test.YtnjmknofojjlmaaDoorOrd
import Derived.WalkLawsBesides
namespace Go.Proofs.YtnjmknofojjlmaaDoor
open Go.RowKit

theorem scmp_lt {x y : ByteArray} (h : scmp x y = -1) : Op.bytesLess x.toList y.toList = true := by
  rw [less_compare, ByteArray.toList_eq, ByteArray.toList_eq]; simpa [scmp] using h
theorem scmp_nlt {x y : ByteArray} (h : scmp x y ≠ -1) : Op.bytesLess x.toList y.toList = false := by
  rw [less_compare, ByteArray.toList_eq, ByteArray.toList_eq]; simpa [scmp] using h
theorem scmp_eq {x y : ByteArray} (h : scmp x y = 0) : (x.toList == y.toList) = true := by
  rw [ByteArray.toList_eq, ByteArray.toList_eq, beq_iff_eq]; exact (eq_compare _ _).1 h
theorem scmp_ne {x y : ByteArray} (h : scmp x y ≠ 0) : (x.toList == y.toList) = false := by
  rw [ByteArray.toList_eq, ByteArray.toList_eq, beq_eq_false_iff_ne]; exact fun hh => h ((eq_compare _ _).2 hh)
theorem cmps_end {xs ys : List D} {k : Nat} (h1 : xs.length ≤ k) (h2 : ys.length ≤ k) : D.cmps (xs.drop k) (ys.drop k) = 0 := by
  rw [List.drop_eq_nil_of_le h2, List.drop_eq_nil_of_le h1]; simp [D.cmps]
theorem cmps_same {xs ys : List D} {k : Nat} (h1 : k < xs.length) (h2 : k < ys.length) (h : D.cmp xs[k] ys[k] = 0) : D.cmps (xs.drop k) (ys.drop k) = D.cmps (xs.drop (k + 1)) (ys.drop (k + 1)) := by
  rw [List.drop_eq_getElem_cons h1, List.drop_eq_getElem_cons h2]; simp [D.cmps, orI, h]
theorem cmps_apart {xs ys : List D} {k : Nat} (h1 : k < xs.length) (h2 : k < ys.length) (h : D.cmp xs[k] ys[k] ≠ 0) : D.cmps (xs.drop k) (ys.drop k) = D.cmp xs[k] ys[k] := by
  rw [List.drop_eq_getElem_cons h1, List.drop_eq_getElem_cons h2]; simp [D.cmps, orI, h]
theorem D.cmp_eq (d d' : D) : D.cmp d d' = orI (D.root d d') (D.cmps d.kids d'.kids) := by
  obtain ⟨_, _, _, _, _⟩ := d; obtain ⟨_, _, _, _, _⟩ := d'; simp only [D.cmp, D.kids]
theorem kcmp_more {xs ys : List ByteArray} {k : Nat} (h1 : k < xs.length) (h2 : ys.length ≤ k) : kcmp (xs.drop k) (ys.drop k) = 1 := by
  rw [List.drop_eq_getElem_cons h1, List.drop_eq_nil_of_le h2]; rfl
theorem kcmp_less {xs ys : List ByteArray} {k : Nat} (h1 : xs.length ≤ k) (h2 : k < ys.length) : kcmp (xs.drop k) (ys.drop k) = -1 := by
  rw [List.drop_eq_getElem_cons h2, List.drop_eq_nil_of_le h1]; rfl
theorem kcmp_end {xs ys : List ByteArray} {k : Nat} (h1 : xs.length ≤ k) (h2 : ys.length ≤ k) : kcmp (xs.drop k) (ys.drop k) = 0 := by
  rw [List.drop_eq_nil_of_le h2, List.drop_eq_nil_of_le h1]; rfl
theorem kcmp_same {xs ys : List ByteArray} {k : Nat} (h1 : k < xs.length) (h2 : k < ys.length) (h : scmp xs[k] ys[k] = 0) : kcmp (xs.drop k) (ys.drop k) = kcmp (xs.drop (k + 1)) (ys.drop (k + 1)) := by
  rw [List.drop_eq_getElem_cons h1, List.drop_eq_getElem_cons h2]; simp [kcmp, h]
theorem kcmp_apart {xs ys : List ByteArray} {k : Nat} (h1 : k < xs.length) (h2 : k < ys.length) (h : scmp xs[k] ys[k] ≠ 0) : kcmp (xs.drop k) (ys.drop k) = scmp xs[k] ys[k] := by
  rw [List.drop_eq_getElem_cons h1, List.drop_eq_getElem_cons h2]; simp [kcmp, h]
theorem D.depth_eq (d : D) : d.depth = D.depths d.kids + 1 := by obtain ⟨_, _, _, _, _⟩ := d; simp [D.depth, D.kids]
end Go.Proofs.YtnjmknofojjlmaaDoor
