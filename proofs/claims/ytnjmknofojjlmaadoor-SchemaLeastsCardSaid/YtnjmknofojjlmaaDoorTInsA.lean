/-
  slices.Insert of one document, and of one string, wherever.
-/
import Derived.Test.YtnjmknofojjlmaaDoorTInsG
namespace Go.Proofs.YtnjmknofojjlmaaDoor
open Go.RowKit
theorem insF_any {w : World} {base n c i vb : Nat} {A : Option Addr} {cs : List Value} {y0 y1 y2 y3 y4 y5 y6 y7 : Value} (hown : w.ownsRow base 40 8 (.slice A n c) n cs) (h1c : ∀ u ∈ cs, u.oneCell' = true) (hi : i ≤ n) (hn : n ≤ 10000)
    (hvb : w.heap[vb]? = some (.cells #[y0, y1, y2, y3, y4, y5, y6, y7] 40 (0, 0))) (h1 : ∀ u ∈ [y0, y1, y2, y3, y4, y5, y6, y7], u.oneCell' = true) (hne : (Value.slice A n c).ownBlock ≠ some vb) (hbase : base ≤ w.heap.size) :
    Calls Tryd.prog 31 #[.slice A n c, .int .i64 i, .slice (some ⟨vb, 0, none⟩) 1 1] w (InsToldF w base (.slice A n c) n i cs [y0, y1, y2, y3, y4, y5, y6, y7]) := by
  rcases Nat.lt_or_ge i n with h | h
  · obtain ⟨g, rfl⟩ : ∃ g, A = some ⟨g, 0, none⟩ := by
      rcases hown.2 with ⟨_, h0⟩ | ⟨g, cap, cur, e, _⟩
      · omega
      · injection e with e _ _; exact ⟨g, e⟩
    rcases Nat.lt_or_ge c (n + 1) with hr | hr
    · exact insF_grow hown h1c h hr hn hvb h1 hbase
    · exact insF_room hown h1c h hr hn hvb h1 (fun e => hne (by rw [e]; rfl))
  · obtain rfl : i = n := by omega
    exact insF_end hown hn hvb h1 hbase

end Go.Proofs.YtnjmknofojjlmaaDoor
