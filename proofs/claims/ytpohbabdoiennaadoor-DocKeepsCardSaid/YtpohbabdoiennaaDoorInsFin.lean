/-
  A document with one key more: how it lies behind both inserts.
-/
import Derived.Test.YtpohbabdoiennaaDoorInsA
import Derived.Test.YtpohbabdoiennaaDoorSearch
import Derived.Test.YtpohbabdoiennaaDoorSet
namespace Go.Proofs.YtpohbabdoiennaaDoor
open Go.RowKit

def D.insP (d : D) (s : ByteArray) (y : D) : D := .mk d.kind d.num d.str (d.keys.take (placeOf d.keys s) ++ s :: d.keys.drop (placeOf d.keys s)) (d.kids.take (placeOf d.keys s) ++ y :: d.kids.drop (placeOf d.keys s))
/-- Kids, cut in two. -/
theorem OwnKids.cut {w : World} {base : Nat} : ∀ {l : List D} {cs : List Value} {F : List Nat}, OwnKids w base l cs F → ∀ (i : Nat), i ≤ l.length →
    ∃ (c1 c2 : List Value) (F1 F2 : List Nat), cs = c1 ++ c2 ∧ c1.length = i * 5 ∧ F = F1 ++ F2 ∧ OwnKids w base (l.take i) c1 F1 ∧ OwnKids w base (l.drop i) c2 F2
  | l, cs, F, hk, 0, _ => ⟨[], cs, [], F, rfl, rfl, rfl, by simp [OwnKids], by simpa using hk⟩
  | [], _, _, _, i + 1, h => by simp at h
  | d :: r, _, _, hk, i + 1, h => by
    simp only [OwnKids] at hk
    obtain ⟨u0, u1, u2, u3, u4, cs', F1, F2, rfl, h2, h3, rfl⟩ := hk
    obtain ⟨c1, c2, E1, E2, rfl, e1, rfl, k1, k2⟩ := OwnKids.cut h3 i (by simpa using h)
    refine ⟨u0 :: u1 :: u2 :: u3 :: u4 :: c1, c2, F1 ++ E1, E2, by simp, by simp [e1]; omega, by simp, ?_, by simpa using k2⟩
    simp only [List.take_succ_cons, OwnKids]
    exact ⟨u0, u1, u2, u3, u4, c1, F1, E1, rfl, h2, k1, rfl⟩

theorem ins_fin {x y : D} {s : ByteArray} {w W : World} {base b off g3 g4 cap3 cap4 : Nat} {v3 v4 y0 y1 y2 y3 y4 : Value} {G FY Fs : List Nat} {cs : List Value}
    (hc : Cells5 W b off (.int .i64 x.kind) (.int .i64 x.num) (.string x.str) (.slice (some ⟨g3, 0, none⟩) (x.keys.length + 1) cap3) (.slice (some ⟨g4, 0, none⟩) (x.kids.length + 1) cap4)) (hupd : UpdBlk w W b off)
    (h3 : W.ownsRow base 9 1 (.slice (some ⟨g3, 0, none⟩) (x.keys.length + 1) cap3) (x.keys.length + 1) ((x.insP s y).keys.map Value.string))
    (h4 : W.ownsRow base 25 5 (.slice (some ⟨g4, 0, none⟩) (x.kids.length + 1) cap4) (x.kids.length + 1) (cs.take (placeOf x.keys s * 5) ++ ([y0, y1, y2, y3, y4] ++ cs.drop (placeOf x.keys s * 5))))
    (hk3 : w.ownsRow base 9 1 v3 x.keys.length (x.keys.map Value.string)) (hk4 : w.ownsRow base 25 5 v4 x.kids.length cs) (hkd : OwnKids w base x.kids cs Fs) (hy : OwnIn w base y y0 y1 y2 y3 y4 FY) (hyn : FY.Nodup)
    (hdis : ∀ k ∈ FY, k ∉ G ∧ k ≠ b) (hG : G = blk v3 ++ (blk v4 ++ Fs)) (hn : G.Nodup) (hb : b ∉ G) (hbl : b < w.heap.size) (hkk : x.keys.length = x.kids.length)
    (far : ∀ k, k < w.heap.size → k ≠ b → k ∉ blk v3 → k ∉ blk v4 → W.heap[k]? = w.heap[k]?) (hg3 : g3 ∈ blk v3 ∨ w.heap.size ≤ g3) (hg4 : g4 ∈ blk v4 ∨ w.heap.size ≤ g4) (hg34 : g3 ≠ g4) (ht : Turned w W G b) :
    SetOk w base (x.insP s y) b off G FY W := by
  have hp : placeOf x.keys s ≤ x.kids.length := by have := placeOf_le x.keys s; omega
  obtain ⟨c1, c2, F1, F2, rfl, hcl, rfl, ok1, ok2⟩ := hkd.cut (placeOf x.keys s) hp
  have hcs : (c1 ++ c2).take (placeOf x.keys s * 5) ++ ([y0, y1, y2, y3, y4] ++ (c1 ++ c2).drop (placeOf x.keys s * 5)) = c1 ++ (y0 :: y1 :: y2 :: y3 :: y4 :: c2) := by
    rw [← hcl, List.take_left, List.drop_left]; rfl
  rw [hcs] at h4
  have l3 := hk3.lt
  have l4 := hk4.lt
  have lF := hkd.lt
  have lY := hy.lt
  have memG : ∀ k, k ∈ G ↔ k ∈ blk v3 ∨ k ∈ blk v4 ∨ k ∈ F1 ∨ k ∈ F2 := fun k => by rw [hG]; simp [List.mem_append]
  rw [hG] at hn
  simp only [List.nodup_append, List.mem_append, ne_eq] at hn
  obtain ⟨n3, ⟨n4, ⟨nF1, nF2, nF12⟩, n4F⟩, n3d⟩ := hn
  have hgF : ∀ k, k ∈ F1 ∨ k ∈ F2 → k ≠ g3 ∧ k ≠ g4 ∧ k ≠ b ∧ k ∉ blk v3 ∧ k ∉ blk v4 := fun k hk => by
    have hkG : k ∈ G := (memG k).2 (.inr (.inr hk))
    have hl := (lF k (by simpa using hk)).2
    have e3 : k ∉ blk v3 := fun h => n3d k h k (.inr hk) rfl
    have e4 : k ∉ blk v4 := fun h => n4F k h k hk rfl
    refine ⟨fun h => ?_, fun h => ?_, fun h => hb (h ▸ hkG), e3, e4⟩
    · rcases hg3 with h' | h'
      · exact e3 (h ▸ h')
      · omega
    · rcases hg4 with h' | h'
      · exact e4 (h ▸ h')
      · omega
  have hgY : ∀ k, k ∈ FY → k ≠ g3 ∧ k ≠ g4 ∧ k ≠ b ∧ k ∉ blk v3 ∧ k ∉ blk v4 ∧ k ∉ F1 ∧ k ∉ F2 := fun k hk => by
    have hl := (lY k hk).2
    have hd := hdis k hk
    have e3 : k ∉ blk v3 := fun h => hd.1 ((memG k).2 (.inl h))
    have e4 : k ∉ blk v4 := fun h => hd.1 ((memG k).2 (.inr (.inl h)))
    refine ⟨fun h => ?_, fun h => ?_, hd.2, e3, e4, fun h => hd.1 ((memG k).2 (.inr (.inr (.inl h)))), fun h => hd.1 ((memG k).2 (.inr (.inr (.inr h))))⟩
    · rcases hg3 with h' | h'
      · exact e3 (h ▸ h')
      · omega
    · rcases hg4 with h' | h'
      · exact e4 (h ▸ h')
      · omega
  have f1 : ∀ k ∈ F1, W.heap[k]? = w.heap[k]? := fun k hk => by
    obtain ⟨_, _, a, b', c⟩ := hgF k (.inl hk)
    exact far k (lF k (by simp [hk])).2 a b' c
  have f2 : ∀ k ∈ F2, W.heap[k]? = w.heap[k]? := fun k hk => by
    obtain ⟨_, _, a, b', c⟩ := hgF k (.inr hk)
    exact far k (lF k (by simp [hk])).2 a b' c
  have fY : ∀ k ∈ FY, W.heap[k]? = w.heap[k]? := fun k hk => by
    obtain ⟨_, _, a, b', c, _⟩ := hgY k hk
    exact far k (lY k hk).2 a b' c
  have hkl : (x.insP s y).keys.length = x.keys.length + 1 := by
    have := placeOf_le x.keys s
    show (x.keys.take _ ++ s :: x.keys.drop _).length = _
    simp; omega
  have hdl : (x.insP s y).kids.length = x.kids.length + 1 := by
    show (x.kids.take _ ++ y :: x.kids.drop _).length = _
    simp; omega
  have hb3 : b ≠ g3 := by
    rcases hg3 with h | h
    · exact fun e => hb ((memG b).2 (.inl (e ▸ h)))
    · omega
  have hb4 : b ≠ g4 := by
    rcases hg4 with h | h
    · exact fun e => hb ((memG b).2 (.inr (.inl (e ▸ h))))
    · omega
  refine ⟨_, _, _, _, _, [g3] ++ ([g4] ++ (F1 ++ (FY ++ F2))), hupd, hc, ?_, ?_, ?_, ?_, ht⟩
  · have := OwnIn.make (w := W) (base := base) (d := x.insP s y) (v3 := .slice (some ⟨g3, 0, none⟩) (x.keys.length + 1) cap3) (v4 := .slice (some ⟨g4, 0, none⟩) (x.kids.length + 1) cap4) (cs := c1 ++ (y0 :: y1 :: y2 :: y3 :: y4 :: c2)) (Fs := F1 ++ (FY ++ F2))
      (by rw [hkl]; exact h3) (by rw [hdl]; exact h4) (OwnKids.join (hy.same (Nat.le_refl _) fY) (ok2.same (Nat.le_refl _) f2) (ok1.same (Nat.le_refl _) f1))
    exact this
  · simp only [List.nodup_append, List.nodup_cons, List.mem_append, List.mem_cons, List.not_mem_nil, or_false, ne_eq, List.nodup_nil, not_false_eq_true, true_and]
    refine ⟨⟨⟨nF1, ⟨hyn, nF2, fun a ha c hcc hac => (hgY a ha).2.2.2.2.2.2 (hac ▸ hcc)⟩, fun a ha c hcc hac => ?_⟩, fun a ha c hcc hac => ?_⟩, fun a ha c hcc hac => ?_⟩
    · rcases hcc with h | h
      · exact (hgY c h).2.2.2.2.2.1 (hac ▸ ha)
      · exact nF12 a ha c h hac
    · subst ha
      rcases hcc with h | h | h
      · exact (hgF c (.inl h)).2.1 hac.symm
      · exact (hgY c h).2.1 hac.symm
      · exact (hgF c (.inr h)).2.1 hac.symm
    · subst ha
      rcases hcc with h | h | h | h
      · exact hg34 (hac.trans h)
      · exact (hgF c (.inl h)).1 hac.symm
      · exact (hgY c h).1 hac.symm
      · exact (hgF c (.inr h)).1 hac.symm
  · intro hm
    simp only [List.mem_append, List.mem_cons, List.not_mem_nil, or_false] at hm
    rcases hm with h | h | h | h | h
    · exact hb3 h
    · exact hb4 h
    · exact (hgF b (.inl h)).2.2.1 rfl
    · exact (hgY b h).2.2.1 rfl
    · exact (hgF b (.inr h)).2.2.1 rfl
  · intro k hk
    simp only [List.mem_append, List.mem_cons, List.not_mem_nil, or_false] at hk
    rcases hk with rfl | rfl | h | h | h
    · rcases hg3 with h | h
      · exact .inl ((memG _).2 (.inl h))
      · exact .inr (.inr h)
    · rcases hg4 with h | h
      · exact .inl ((memG _).2 (.inr (.inl h)))
      · exact .inr (.inr h)
    · exact .inl ((memG k).2 (.inr (.inr (.inl h))))
    · exact .inr (.inl h)
    · exact .inl ((memG k).2 (.inr (.inr (.inr h))))
end Go.Proofs.YtpohbabdoiennaaDoor
