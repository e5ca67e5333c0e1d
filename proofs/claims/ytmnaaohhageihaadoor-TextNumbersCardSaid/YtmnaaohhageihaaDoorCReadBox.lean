/-
  text.read with a closure that lays what it read into a variable.
-/
import Derived.Test.YtmnaaohhageihaaDoorCParseE
import Derived.Test.YtmnaaohhageihaaDoorCRead
import Derived.Test.YtmnaaohhageihaaDoorCPDoc
namespace Go.Proofs.YtmnaaohhageihaaDoor
open Go.RowKit

theorem tx_tab_named : Tryd.prog.globalNamed "internal/strconv.uint64pow10" = some 3 := by kernel_rfl
theorem tx_tab_same {w w' : World} (h : Lib.TabIs Tryd.prog w "internal/strconv.uint64pow10" .u64 Lib.pow10Tab) (hs : w'.heap[3]? = w.heap[3]?) : Lib.TabIs Tryd.prog w' "internal/strconv.uint64pow10" .u64 Lib.pow10Tab := by
  have e : w'.var? Tryd.prog "internal/strconv.uint64pow10" = w.var? Tryd.prog "internal/strconv.uint64pow10" := by simp [World.var?, tx_tab_named, hs]
  unfold Lib.TabIs at *
  rw [e]; exact h
/-- What the package variables must be. -/
structure TG (w : World) : Prop where
  eg : ∃ ev, w.cell? ⟨1, 0, none⟩ = some ev ∧ (ev = .nilIface ∨ ∃ te pe, ev = .iface te pe)
  gr : 1 < w.heap.size
  tab : Lib.TabIs Tryd.prog w "internal/strconv.uint64pow10" .u64 Lib.pow10Tab
  tl : 3 < w.heap.size
theorem TG.next {w w' : World} (h : TG w) (hb : Below w.heap.size w w') : TG w' := by
  obtain ⟨ev, h1, h2⟩ := h.eg
  exact ⟨⟨ev, (hb.cell (p := ⟨1, 0, none⟩) h.gr).trans h1, h2⟩, Nat.lt_of_lt_of_le h.gr hb.size, tx_tab_same h.tab (hb.block _ h.tl), Nat.lt_of_lt_of_le h.tl hb.size⟩
/-- The reader at its start. -/
theorem RdL.begin {w : World} {r : Nat} {s : ByteArray} (h : Rdr w r s 0 0) (hg : ∃ ev, w.cell? ⟨1, 0, none⟩ = some ev ∧ (ev = .nilIface ∨ ∃ te pe, ev = .iface te pe)) (hr : 1 < r) : RdL w r s s.data.toList 0 := by
  refine ⟨?_, List.suffix_refl _, hg, hr⟩
  have h1 : s.size - s.data.toList.length = 0 := by simp
  rw [h1]; exact h
/-- What the closure tells: PB of the value and the world, with the variable b. -/
def BoxTo {α : Type} (w : World) (r : Nat) (s : ByteArray) (b : Nat) (PB : α → World → Prop) (t : Tk α) (e : Ending) (w' : World) : Prop := match t with
  | .ok v l => e = .returned (.tuple #[]) ∧ (∃ p, RdL w' r s l p) ∧ PB v w' ∧ Turned w w' [b] r
  | .bad l er => Failed ((s.size - l.length : Nat) : Int) er e ∧ Turned w w' [] r
/-- What read tells then. -/
def ReadTo {α : Type} (w : World) (s : ByteArray) (b : Nat) (PB : α → World → Prop) (t : Tk α) (e : Ending) (w' : World) : Prop := Turned w w' [] b ∧ match t with
  | .ok v l => if l = [] then e = .returned (.tuple #[.int .i64 s.size, .int .i64 0]) ∧ PB v w' else e = .returned (.tuple #[.int .i64 ((s.size - l.length : Nat) : Int), .int .i64 4])
  | .bad l er => e = .returned (.tuple #[.int .i64 ((s.size - l.length : Nat) : Int), .int .i64 (er : Int)])
theorem turned_read {w w1 w2 w' : World} {b r : Nat} (hb1 : Below w.heap.size w w1) (h : Turned w1 w2 [b] r) (hr : w.heap.size ≤ r) (h2 : Below w.heap.size w2 w') : Turned w w' [] b := by
  have z1 := hb1.size
  refine ⟨h2.os.trans (h.os.trans hb1.os), h2.tape.trans (h.tape.trans hb1.tape), h2.output.trans (h.output.trans hb1.output), Nat.le_trans z1 (Nat.le_trans h.size h2.size), fun k hk _ hk2 => ?_⟩
  exact (h2.block k hk).trans ((h.block k (by omega) (by simpa using hk2) (by omega)).trans (hb1.block k hk))
theorem turned_more {w w' : World} {b r : Nat} (h : Turned w w' [] r) : Turned w w' [b] r := ⟨h.os, h.tape, h.output, h.size, fun k hk _ h2 => h.block k hk (by simp) h2⟩
theorem read_box {α : Type} {PB : α → World → Prop} {t : Tk α} {g b : Nat} {s : ByteArray} {w : World} (hbw : b < w.heap.size)
    (eg : ∀ args w, (callFunc g args).run Tryd.prog w = .ok (.enter g args) w)
    (hPB : ∀ v w1 w2, PB v w1 → (∀ k, k ≠ w.heap.size → k ≠ w.heap.size + 1 → w2.heap[k]? = w1.heap[k]?) → PB v w2)
    (hcl : ∀ w1, Below w.heap.size w w1 → Rdr w1 (w.heap.size + 1 + 1) s 0 0 → Calls Tryd.prog g #[.pointer (some ⟨w.heap.size + 1 + 1, 0, none⟩), .pointer (some ⟨b, 0, none⟩)] w1 (BoxTo w1 (w.heap.size + 1 + 1) s b PB t)) :
    Calls Tryd.prog 14 #[.string s, .func (.func g) #[] #[.pointer (some ⟨b, 0, none⟩)]] w (ReadTo w s b PB t) := by
  cases t with
  | bad l er =>
    refine Calls.mono (read_bad (at_ := s.size - l.length) (err := er) (T := fun w2 => ∃ w1, Below w.heap.size w w1 ∧ Turned w1 w2 [b] (w.heap.size + 1 + 1)) eg fun w1 hb1 hR => ?_) ?_
    · refine Calls.mono (hcl w1 hb1 hR) ?_
      rintro e w2 ⟨hf, ht⟩
      have hlt : w.heap.size + 1 + 1 < w1.heap.size := by
        rcases Nat.lt_or_ge (w.heap.size + 1 + 1) w1.heap.size with h1 | h1
        · exact h1
        · unfold Rdr at hR; simp [Array.getElem?_eq_none h1] at hR
      exact ⟨hf, ⟨w1, hb1, turned_more ht⟩, fun k h1 h2 => ht.block k (by omega) (by simp) (by omega), ht.size⟩
    · rintro e w' ⟨rfl, w2, ⟨w1, hb1, ht⟩, hb2⟩
      exact ⟨turned_read hb1 ht (by omega) hb2, rfl⟩
  | ok v l =>
    by_cases hl : l = []
    · subst hl
      refine Calls.mono (read_ok (T := fun w2 => PB v w2 ∧ ∃ w1, Below w.heap.size w w1 ∧ Turned w1 w2 [b] (w.heap.size + 1 + 1)) eg fun w1 hb1 hR => ?_) ?_
      · refine Calls.mono (hcl w1 hb1 hR) ?_
        rintro e w2 ⟨rfl, ⟨p, hr⟩, hpb, ht⟩
        have hlt : w.heap.size + 1 + 1 < w1.heap.size := by
          rcases Nat.lt_or_ge (w.heap.size + 1 + 1) w1.heap.size with h1 | h1
          · exact h1
          · unfold Rdr at hR; simp [Array.getElem?_eq_none h1] at hR
        refine ⟨rfl, ⟨hpb, w1, hb1, ht⟩, ⟨p, ?_⟩, fun k h1 h2 => ht.block k (by omega) (by simp; omega) (by omega), ht.size⟩
        have h3 := hr.rd
        simpa using h3
      · rintro e w' ⟨rfl, w2, ⟨hpb, w1, hb1, ht⟩, hb2, hfar⟩
        refine ⟨turned_read hb1 ht (by omega) hb2, ?_⟩
        simp only [if_true]
        exact ⟨trivial, hPB _ _ _ hpb hfar⟩
    · by_cases hlen : l.length ≤ s.size
      · have hpos : 0 < l.length := List.length_pos_iff.2 hl
        refine Calls.mono (read_more (k := s.size - l.length) (T := fun w2 => ∃ w1, Below w.heap.size w w1 ∧ Turned w1 w2 [b] (w.heap.size + 1 + 1)) eg (by omega) fun w1 hb1 hR => ?_) ?_
        · refine Calls.mono (hcl w1 hb1 hR) ?_
          rintro e w2 ⟨rfl, ⟨p, hr⟩, hpb, ht⟩
          have hlt : w.heap.size + 1 + 1 < w1.heap.size := by
            rcases Nat.lt_or_ge (w.heap.size + 1 + 1) w1.heap.size with h1 | h1
            · exact h1
            · unfold Rdr at hR; simp [Array.getElem?_eq_none h1] at hR
          exact ⟨rfl, ⟨w1, hb1, ht⟩, ⟨p, hr.rd⟩, fun k h1 h2 => ht.block k (by omega) (by simp; omega) (by omega), ht.size⟩
        · rintro e w' ⟨rfl, w2, ⟨w1, hb1, ht⟩, hb2⟩
          exact ⟨turned_read hb1 ht (by omega) hb2, by simp only [if_neg hl]⟩
      · refine Calls.mono (read_ok (T := fun _ => False) eg fun w1 hb1 hR => ?_) ?_
        · refine Calls.mono (hcl w1 hb1 hR) ?_
          rintro e w2 ⟨_, ⟨p, hr⟩, _⟩
          exact absurd hr.len hlen
        · rintro e w' ⟨_, w2, hT, _⟩
          exact hT.elim
end Go.Proofs.YtmnaaohhageihaaDoor
