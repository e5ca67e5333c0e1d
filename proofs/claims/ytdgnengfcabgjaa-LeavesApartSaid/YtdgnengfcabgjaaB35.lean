/-
  leaves.Moved.
  The law's own case of layer 3: what its calls tell, as values.
-/
import Derived.Test.YtdgnengfcabgjaaB34
import Derived.Test.YtdgnengfcabgjaaB25
import Derived.Test.YtdgnengfcabgjaaB33
import Derived.Test.YtdgnengfcabgjaaB10
import Derived.Test.YtdgnengfcabgjaaB11
namespace Go.Proofs.Ytdgnengfcabgjaa
open Go.RowKit Go.Shelf

theorem lmoved_any (ls : List Lf) (from_ to_ : List ByteArray) (v vf vt : Value) (B : Nat) (w : World) (hB : B ≤ w.heap.size) (hls : LvsIn w B v ls) (hfr : Strs w B vf from_) (hto : Strs w B vt to_) (hlen : ls.length ≤ 100000) (hp : ∀ x ∈ ls, x.path.length ≤ 4000) (hf : ∀ x ∈ ls, x.doc.Fit) (hlf : from_.length ≤ 4000) (hlt : to_.length ≤ 4000) :
    Calls Try.prog 21 #[v, vf, vt] w (MadeLvs w.heap.size w (lsrt (ls.map (mvd from_ to_)))) := by
  obtain ⟨A, c, rfl, _⟩ := id hls
  obtain ⟨A1, c1, rfl, _⟩ := id hfr
  obtain ⟨A2, c2, rfl, _⟩ := id hto
  have hb1 : Below w.heap.size w (w.alloc (.cells #[.slice A ls.length c] 26)) := (Below.refl _ w).alloc (Nat.le_refl _) _
  have hb2 : Below w.heap.size w ((w.alloc (.cells #[.slice A ls.length c] 26)).alloc (.cells #[.slice A1 from_.length c1] 22)) := hb1.trans (((Below.refl _ _).alloc (Nat.le_refl _) _).mono (by simp))
  have hb3 : Below w.heap.size w (((w.alloc (.cells #[.slice A ls.length c] 26)).alloc (.cells #[.slice A1 from_.length c1] 22)).alloc (.cells #[.slice A2 to_.length c2] 22)) := hb2.trans (((Below.refl _ _).alloc (Nat.le_refl _) _).mono (by simp; omega))
  have e1 : (((w.alloc (.cells #[.slice A ls.length c] 26)).alloc (.cells #[.slice A1 from_.length c1] 22)).alloc (.cells #[.slice A2 to_.length c2] 22)).cell? ⟨w.heap.size, 0, none⟩ = some (.slice A ls.length c) := (((Boxed.new w 26 (.slice A ls.length c)).alloc _).alloc _).cell
  have e2 : (((w.alloc (.cells #[.slice A ls.length c] 26)).alloc (.cells #[.slice A1 from_.length c1] 22)).alloc (.cells #[.slice A2 to_.length c2] 22)).cell? ⟨w.heap.size + 1, 0, none⟩ = some (.slice A1 from_.length c1) := by
    have := ((Boxed.new (w.alloc (.cells #[.slice A ls.length c] 26)) 22 (.slice A1 from_.length c1)).alloc (.cells #[.slice A2 to_.length c2] 22)).cell
    rwa [World.size_alloc] at this
  have e3 : (((w.alloc (.cells #[.slice A ls.length c] 26)).alloc (.cells #[.slice A1 from_.length c1] 22)).alloc (.cells #[.slice A2 to_.length c2] 22)).cell? ⟨w.heap.size + 2, 0, none⟩ = some (.slice A2 to_.length c2) := by
    have := (Boxed.new ((w.alloc (.cells #[.slice A ls.length c] 26)).alloc (.cells #[.slice A1 from_.length c1] 22)) 22 (.slice A2 to_.length c2)).cell
    rwa [World.size_alloc, World.size_alloc] at this
  have hsz : (((w.alloc (.cells #[.slice A ls.length c] 26)).alloc (.cells #[.slice A1 from_.length c1] 22)).alloc (.cells #[.slice A2 to_.length c2] 22)).heap.size = w.heap.size + 3 := by simp
  have hlm : ∀ x ∈ ls.map (mvd from_ to_), x.path.length ≤ 10000 := fun x hx => by
    obtain ⟨y, hy, rfl⟩ := List.mem_map.1 hx
    have := hp y hy
    unfold mvd
    split
    · show (to_ ++ y.path.drop from_.length).length ≤ 10000
      rw [List.length_append, List.length_drop]; omega
    · omega
  have hseq := moved_seq ls from_ to_ (.slice A ls.length c) (.slice A1 from_.length c1) (.slice A2 to_.length c2) w.heap.size (w.heap.size + 1) (w.heap.size + 2) _ B _ (Nat.le_refl _) (by rw [hsz]; omega) e1 (by rw [hsz]; omega) e2 (by rw [hsz]; omega) e3 (by rw [hsz]; omega)
    (hls.keep fun p h => hb3.cell (Nat.lt_of_lt_of_le h hB)) (hfr.keep fun p h => hb3.cell (Nat.lt_of_lt_of_le h hB)) (hto.keep fun p h => hb3.cell (Nat.lt_of_lt_of_le h hB)) hlen (fun x hx => by have := hp x hx; omega) hf (by omega) (by omega)
  have hcall := sorted_any (enters_of Try.func71 (by kernel_rfl) rfl) hseq (by omega) (fun _ h => h.elim)
    (fun xs _ _ h hk => ⟨h.1, h.2.keeps hk memO_rowMark⟩)
    (fun xs _ h => ⟨by have := congrArg List.length h.1; simp at this; omega, fun x hx => (h.2.each x hx).1, fun x hx => hlm _ (by rw [← h.1]; exact List.mem_map.2 ⟨x, hx, rfl⟩)⟩)
  have HCALL := Lib.hid hcall; have HB3 := Lib.hid hb3
  clear hcall hseq hb1 hb2 hb3 e1 e2 e3 hls hfr hto hlm hsz
  go_enter Try.func21, Try.ntmps21
  go_wp2_with (first
    | (go_at_call 48; refine ((callsIn_wide (n := 0)).1 (callsIn_wide.2 (moved_any _ _ _ _ _ _ _ _ _ _))).mono ?_; rintro e w' ⟨rfl, rfl⟩)
    | (go_at_call 39; refine HCALL.out.mono ?_; rintro e w2 ⟨v', xs, rfl, hs, ho, _, hb2⟩; have H := Lib.hid (And.intro hs (And.intro ho hb2)); clear hs ho hb2 HCALL))
  go_ret
  obtain ⟨hs, ho, hb2⟩ := H.out
  refine ⟨v', srt (byP mkP) xs, rfl, ?_, ownLvs_of (by simp; omega) hs.2 ho, HB3.out.trans (hb2.mono (by simp; omega))⟩
  rw [srt_map (byP mkP) (fun a b : Lf => kcmp a.path b.path) (·.lf) (fun _ _ => rfl), hs.1]; rfl
end Go.Proofs.Ytdgnengfcabgjaa
namespace Go.Proofs.Ytdgnengfcabgjaa
open Go.RowKit

def sA : ByteArray := ⟨#[97]⟩
def sB : ByteArray := ⟨#[98]⟩
def sC : ByteArray := ⟨#[99]⟩
def sD : ByteArray := ⟨#[100]⟩
def sX : ByteArray := ⟨#[120]⟩
def dOne : D := .mk 4 1 ⟨#[]⟩ [] []
def dTwo : D := .mk 4 2 ⟨#[]⟩ [] []
def dLst : D := .mk 3 0 ⟨#[]⟩ [] [dOne]
def dDct : D := .mk 2 0 ⟨#[]⟩ [sX] [dTwo]
def dLaw : D := .mk 1 0 ⟨#[]⟩ [sA, sB] [dLst, dDct]
def lvLaw : List Lf := [⟨[], .mk 1 0 ⟨#[]⟩ [] []⟩, ⟨[sA], dLst⟩, ⟨[sB], .mk 2 0 ⟨#[]⟩ [] []⟩, ⟨[sB, sX], dTwo⟩]
def mvLaw : List Lf := [⟨[], .mk 1 0 ⟨#[]⟩ [] []⟩, ⟨[sA], dLst⟩, ⟨[sC, sD], .mk 2 0 ⟨#[]⟩ [] []⟩, ⟨[sC, sD, sX], dTwo⟩]
theorem dLaw_fit : dLaw.Fit := by simp only [dLaw, dLst, dDct, dOne, dTwo, sA, sB, sX, D.Fit, D.Fits]; decide
theorem flat_law : lsrt (vis [] dLaw) = lvLaw := by kernel_rfl
theorem tree_law : treeV lvLaw = (dLaw, 0) := by kernel_rfl
theorem tree_nil : treeV [] = (D.zero, 9) := by kernel_rfl
theorem tree_two : treeV (lvLaw ++ [⟨[], .mk 1 0 ⟨#[]⟩ [] []⟩]) = (D.zero, 5) := by kernel_rfl
theorem mvd_law : lsrt (lvLaw.map (mvd [sB] [sC, sD])) = mvLaw := by kernel_rfl
theorem find_law : lfind [sB] lvLaw 0 = 2 := by kernel_rfl
theorem less_law : kcmp [sA] [sA, sB] = -1 := by kernel_rfl
theorem same_law : D.same dLaw dLaw = true := by kernel_rfl
theorem depth_law : dLaw.depth ≤ 9000 := by decide
theorem vis_law : (vis [] dLaw).length ≤ 1000000 := by
  have : (vis [] dLaw).length = 4 := by kernel_rfl
  omega
theorem small_law : ∀ x ∈ lvLaw ++ [⟨[], .mk 1 0 ⟨#[]⟩ [] []⟩], SmallL x ∧ x.path.length ≤ 4000 := by
  intro x hx
  simp only [lvLaw, List.cons_append, List.nil_append, List.mem_cons, List.not_mem_nil, or_false] at hx
  rcases hx with rfl | rfl | rfl | rfl | rfl <;> simp only [SmallL, dLst, dTwo, dOne, sA, sB, sX, D.Fit, D.Fits, D.keys, D.kids] <;> decide
end Go.Proofs.Ytdgnengfcabgjaa
