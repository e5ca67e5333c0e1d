/-
  slices.Insert of one document, and of one string, wherever.
-/
import Derived.Test.YtpohbabdoiennaaDoorInsS
namespace Go.Proofs.YtpohbabdoiennaaDoor
open Go.RowKit
theorem insD_any {w : World} {base n c i vb : Nat} {A : Option Addr} {cs : List Value} {y0 y1 y2 y3 y4 : Value} (hown : w.ownsRow base 25 5 (.slice A n c) n cs) (h1c : ∀ u ∈ cs, u.oneCell' = true) (hi : i ≤ n) (hn : n ≤ 10000)
    (hvb : w.heap[vb]? = some (.cells #[y0, y1, y2, y3, y4] 25 (0, 0))) (h1 : ∀ u ∈ [y0, y1, y2, y3, y4], u.oneCell' = true) (hne : (Value.slice A n c).ownBlock ≠ some vb) (hbase : base ≤ w.heap.size) :
    Calls Tryd.prog 35 #[.slice A n c, .int .i64 i, .slice (some ⟨vb, 0, none⟩) 1 1] w (InsTold w base (.slice A n c) n i cs [y0, y1, y2, y3, y4]) := by
  rcases Nat.lt_or_ge i n with h | h
  · obtain ⟨g, rfl⟩ : ∃ g, A = some ⟨g, 0, none⟩ := by
      rcases hown.2 with ⟨_, h0⟩ | ⟨g, cap, cur, e, _⟩
      · omega
      · injection e with e _ _; exact ⟨g, e⟩
    rcases Nat.lt_or_ge c (n + 1) with hr | hr
    · exact insD_grow hown h1c h hr hn hvb h1 hbase
    · exact insD_room hown h1c h hr hn hvb h1 (fun e => hne (by rw [e]; rfl))
  · obtain rfl : i = n := by omega
    exact insD_end hown hn hvb h1 hbase
theorem insS_any {w : World} {base n c i vb : Nat} {A : Option Addr} {cs : List Value} {y0 : Value} (hown : w.ownsRow base 9 1 (.slice A n c) n cs) (h1c : ∀ u ∈ cs, u.oneCell' = true) (hi : i ≤ n) (hn : n ≤ 10000)
    (hvb : w.heap[vb]? = some (.cells #[y0] 9 (0, 0))) (h1 : ∀ u ∈ [y0], u.oneCell' = true) (hne : (Value.slice A n c).ownBlock ≠ some vb) (hbase : base ≤ w.heap.size) :
    Calls Tryd.prog 34 #[.slice A n c, .int .i64 i, .slice (some ⟨vb, 0, none⟩) 1 1] w (InsToldS w base (.slice A n c) n i cs [y0]) := by
  rcases Nat.lt_or_ge i n with h | h
  · obtain ⟨g, rfl⟩ : ∃ g, A = some ⟨g, 0, none⟩ := by
      rcases hown.2 with ⟨_, h0⟩ | ⟨g, cap, cur, e, _⟩
      · omega
      · injection e with e _ _; exact ⟨g, e⟩
    rcases Nat.lt_or_ge c (n + 1) with hr | hr
    · exact insS_grow hown h1c h hr hn hvb h1 hbase
    · exact insS_room hown h1c h hr hn hvb h1 (fun e => hne (by rw [e]; rfl))
  · obtain rfl : i = n := by omega
    exact insS_end hown hn hvb h1 hbase
end Go.Proofs.YtpohbabdoiennaaDoor
