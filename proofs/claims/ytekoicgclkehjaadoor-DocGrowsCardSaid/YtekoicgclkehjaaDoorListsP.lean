/-
  Lists of numbers: what is got, put and dropped at a place of one digit.
-/
import Derived.Test.YtekoicgclkehjaaDoorMade
import Derived.Test.YtekoicgclkehjaaDoorSize
namespace Go.Proofs.YtekoicgclkehjaaDoor
open Go.RowKit
def numD (n : Int) : D := .mk 4 n ⟨#[]⟩ [] []
def listD (l : List Int) : D := .mk 3 0 ⟨#[]⟩ [] (l.map numD)
def dig (k : Nat) : ByteArray := ⟨#[UInt8.ofNat (48 + k)]⟩
theorem place_dig : ∀ k, k ≤ 9 → placeI (dig k) = (k : Int)
  | 0, _ => by kernel_rfl
  | 1, _ => by kernel_rfl
  | 2, _ => by kernel_rfl
  | 3, _ => by kernel_rfl
  | 4, _ => by kernel_rfl
  | 5, _ => by kernel_rfl
  | 6, _ => by kernel_rfl
  | 7, _ => by kernel_rfl
  | 8, _ => by kernel_rfl
  | 9, _ => by kernel_rfl
  | k + 10, h => by omega
theorem find_list (l : List Int) (k : Nat) (hk : k ≤ 9) : findI (listD l) (dig k) = if l.length ≤ k then -1 else (k : Int) := by
  have h0 : find0 (listD l) (dig k) = (k : Int) := by
    simp only [find0, listD, D.kind]
    rw [if_neg (by omega), if_pos trivial, place_dig k hk]
  unfold findI
  rw [h0]
  simp only [listD, D.kids, List.length_map]
  by_cases h : l.length ≤ k
  · rw [if_pos h, if_pos (by omega)]
  · rw [if_neg h, if_neg (by omega)]
theorem step_in {l : List Int} {k : Nat} (hk : k ≤ 9) (h : k < l.length) : stepD (listD l) (dig k) = some k := by
  have := find_list l k hk
  rw [if_neg (by omega)] at this
  unfold stepD
  rw [this, if_pos (by omega)]
  rfl
theorem step_out {l : List Int} {k : Nat} (hk : k ≤ 9) (h : l.length ≤ k) : stepD (listD l) (dig k) = none := by
  have := find_list l k hk
  rw [if_pos h] at this
  unfold stepD
  rw [this, if_neg (by omega)]
theorem num_right (x : Int) : rightB (numD x) = true := by
  unfold rightB okB
  simp [numD, D.depth, D.depths, D.size, D.sizes, partB, partsB, soundB, numB, strB, formB, D.num, D.kind, D.str, D.keys, D.kids]
  rfl
theorem num_part (x : Int) : partB (numD x) = true := by
  simp [numD, partB, partsB, soundB, numB, strB, formB, D.num, D.kind, D.str, D.keys, D.kids]
  rfl
theorem nums_part : ∀ l : List Int, partsB (l.map numD) = true
  | [] => by simp [partsB]
  | x :: r => by simp only [List.map_cons, partsB, num_part, nums_part r, Bool.and_self]
theorem nums_depth : ∀ l : List Int, D.depths (l.map numD) ≤ 1
  | [] => by simp [D.depths]
  | x :: r => by
    have := nums_depth r
    simp only [List.map_cons, D.depths]
    have h1 : (numD x).depth = 1 := by simp [numD, D.depth, D.depths]
    omega
theorem nums_size : ∀ l : List Int, D.sizes (l.map numD) = l.length
  | [] => by simp [D.sizes]
  | x :: r => by
    have h1 : (numD x).size = 1 := by simp [numD, D.size, D.sizes]
    simp only [List.map_cons, D.sizes, nums_size r, h1, List.length_cons]; omega
theorem list_right {l : List Int} (h : l.length ≤ 20) : rightB (listD l) = true := by
  have h1 := nums_depth l
  have h2 := nums_size l
  have h3 := nums_part l
  have h4 : partB (listD l) = true := by
    simp only [listD, partB, h3, Bool.and_true]
    simp [soundB, numB, strB, formB, D.num, D.kind, D.str, D.keys]
    rfl
  have h5 : (listD l).depth ≤ 2 := by simp only [listD, D.depth]; omega
  have h6 : (listD l).size = l.length + 1 := by simp only [listD, D.size, h2]
  unfold rightB okB
  rw [h4, h6]
  simp
  omega
theorem nums_fit : ∀ l : List Int, D.Fits (l.map numD)
  | [] => by simp [D.Fits]
  | x :: r => by simp [D.Fits, nums_fit r, numD, D.Fit]; decide
theorem num_fit (x : Int) : (numD x).Fit := by simp [numD, D.Fit, D.Fits]; decide
theorem list_fit {l : List Int} (h : l.length ≤ 20) : (listD l).Fit := by
  simp only [listD, D.Fit, nums_fit, List.length_map]
  refine ⟨by decide, by simp, by omega, by simp, trivial⟩
theorem get_dig {l : List Int} {k : Nat} (hk : k ≤ 9) (h : k < l.length) : getV (listD l) [dig k] = (numD l[k], true) := by
  have hs := step_in hk h
  have hkid : (listD l).kids[k]? = some (numD l[k]) := by simp [listD, D.kids, h]
  have e : D.get (listD l) [dig k] = some (numD l[k]) := by
    simp only [D.get, D.locate, hs, hkid, Option.map_some, Option.bind_some, D.subAt]
  unfold getV
  rw [e]
theorem put_dig {l : List Int} {x : Int} (hk : l.length ≤ 9) : putV (listD l) (numD x) [dig l.length] = (listD (l ++ [x]), 0) := by
  have hs := step_out (l := l) hk (Nat.le_refl _)
  have hp := place_dig l.length hk
  have e : setD (listD l) (dig l.length) (numD x) = some ((listD l).snoc (numD x)) := by
    unfold setD
    rw [hs]
    simp only
    rw [if_neg (by simp [listD, D.kind, keyOfB]), if_pos ⟨rfl, by rw [hp]; simp [listD, D.kids]⟩]
  unfold putV
  rw [if_neg (by rw [list_right (by omega), num_right]; simp), if_neg (by simp)]
  simp only [List.dropLast, D.locate, D.subAt, List.getLastD, List.getLast]
  rw [e]
  simp [D.repl, D.snoc, listD, D.kind, D.num, D.str, D.keys, D.kids]
theorem drop_dig {l : List Int} {k : Nat} (hk : k ≤ 9) (hl : l.length ≤ 9) (h : k < l.length) : dropV (listD l) [dig k] = (listD (l.take k ++ l.drop (k + 1)), 0) := by
  have hs := step_in hk h
  unfold dropV
  rw [if_neg (by rw [list_right (by omega)]; simp)]
  simp only [List.dropLast, D.locate, D.subAt, List.getLastD, List.getLast]
  rw [hs]
  simp [D.repl, D.dropKid, listD, D.kind, D.num, D.str, D.keys, D.kids, List.map_take, List.map_drop]
theorem old_list (l : List Int) (s : ByteArray) : OldKey (listD l) [s] := by
  intro is x h1 h2 _
  simp only [List.dropLast, D.locate, Option.some.injEq] at h1
  subst h1
  simp only [D.subAt, Option.some.injEq] at h2
  subst h2
  rfl
end Go.Proofs.YtekoicgclkehjaaDoor
