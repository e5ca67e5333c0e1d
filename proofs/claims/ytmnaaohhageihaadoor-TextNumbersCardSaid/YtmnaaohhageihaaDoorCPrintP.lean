/-
  Documents as texts: plain functions.
-/
import Derived.Test.YtmnaaohhageihaaDoorB04
import Derived.Test.YtmnaaohhageihaaDoorB01
import Derived.Lib.ItoaMem
import Derived.Lib.Strings
namespace Go.Proofs.YtmnaaohhageihaaDoor

/-- Items, with a comma and a blank between two. -/
def rowD : List (List UInt8) → List UInt8
  | [] => []
  | x :: r => x ++ (match r with | [] => [] | _ :: _ => 44 :: 32 :: rowD r)
theorem rowD_snoc : ∀ (l : List (List UInt8)) (x : List UInt8), rowD (l ++ [x]) = rowD l ++ ((if l = [] then [] else [44, 32]) ++ x)
  | [], x => by simp [rowD]
  | [y], x => by simp [rowD]
  | y :: z :: r, x => by
    have h := rowD_snoc (z :: r) x
    simp only [List.cons_append, rowD, List.append_assoc, List.cons_ne_nil, if_false] at h ⊢
    rw [h]
def recK (keys : List ByteArray) (ps : List (List UInt8)) : List (List UInt8) := List.zipWith (fun k p => k.data.toList ++ ([32, 61, 32] ++ p)) keys ps
def dictK (keys : List ByteArray) (ps : List (List UInt8)) : List (List UInt8) := List.zipWith (fun k p => quoteL k.data.toList ++ ([58, 32] ++ p)) keys ps
def boolL (n : Int) : List UInt8 := if n = 1 then [116, 114, 117, 101] else [102, 97, 108, 115, 101]
def nodeD (kind num : Int) (str : ByteArray) (keys : List ByteArray) (ps : List (List UInt8)) : List UInt8 :=
  if kind = 1 then 123 :: (rowD (recK keys ps) ++ [125])
  else if kind = 2 then 60 :: (rowD (dictK keys ps) ++ [62])
  else if kind = 3 then 91 :: (rowD ps ++ [93])
  else if kind = 4 then Lib.itoa num
  else if kind = 5 then boolL num
  else if kind = 6 then quoteL str.data.toList
  else [63]
mutual
/-- A document's text. -/
def printD : D → List UInt8
  | .mk kind num str keys kids => nodeD kind num str keys (printsD kids)
def printsD : List D → List (List UInt8)
  | [] => []
  | d :: r => printD d :: printsD r
end
theorem printsD_len : ∀ l : List D, (printsD l).length = l.length
  | [] => rfl
  | d :: r => by simp [printsD, printsD_len r]
theorem printsD_at : ∀ (l : List D) (i : Nat) (h : i < l.length), (printsD l)[i]'(by rw [printsD_len]; exact h) = printD l[i]
  | [], i, h => by simp at h
  | d :: r, 0, h => by simp [printsD]
  | d :: r, i + 1, h => by simpa [printsD] using printsD_at r i (by simpa using h)
theorem printD_eq (d : D) : printD d = nodeD d.kind d.num d.str d.keys (printsD d.kids) := by obtain ⟨_, _, _, _, _⟩ := d; simp [printD, D.kind, D.num, D.str, D.keys, D.kids]
theorem rowD_item : ∀ (l : List (List UInt8)) (i : Nat) (h : i < l.length), (l[i]).length ≤ (rowD l).length
  | [], i, h => by simp at h
  | x :: r, 0, h => by simp [rowD]
  | x :: r, i + 1, h => by
    have h1 := rowD_item r i (by simpa using h)
    cases r with
    | nil => simp at h
    | cons y t => simp only [List.getElem_cons_succ, rowD, List.length_append, List.length_cons] at h1 ⊢; omega
theorem rowD_pre (l r : List (List UInt8)) : (rowD l).length ≤ (rowD (l ++ r)).length := by
  induction l with
  | nil => simp [rowD]
  | cons x t ih =>
    cases t with
    | nil => simp [rowD]
    | cons y u =>
      simp only [List.cons_append, rowD, List.length_append, List.length_cons] at ih ⊢
      omega
theorem rowD_take (l : List (List UInt8)) (k : Nat) : (rowD (l.take k)).length ≤ (rowD l).length := by
  have := rowD_pre (l.take k) (l.drop k)
  rwa [List.take_append_drop] at this
theorem rowD_step (l : List (List UInt8)) (k : Nat) (h : k < l.length) : rowD (l.take (k + 1)) = rowD (l.take k) ++ ((if k = 0 then [] else [44, 32]) ++ l[k]) := by
  rw [List.take_succ_eq_append_getElem h, rowD_snoc]
  congr 2
  by_cases hk : k = 0
  · subst hk; simp
  · rw [if_neg hk, if_neg (by intro e; have := congrArg List.length e; rw [List.length_take, List.length_nil] at this; omega)]
end Go.Proofs.YtmnaaohhageihaaDoor
