/-
  The one stable order of a row: what any stable sort makes is what inserting one by one makes.
  Rows of elements of k cells: as a sort sees them, and as their owner does.
-/
import Derived.Test.YtdgnengfcabgjaaB01
import Derived.Test.YtdgnengfcabgjaaB19
import Derived.Test.YtdgnengfcabgjaaB06
import Derived.Test.YtdgnengfcabgjaaB03
import Derived.Shelf.SlSortCmp.KitK
import Derived.Laws.AppendOwn
namespace Go.Proofs.Ytdgnengfcabgjaa
open Go.RowKit Go.Sort

theorem kcmp_ordered : Ordered kcmp (fun _ => True) := by
  have h : kcmp = lcmp scmp := by funext a b; exact kcmp_eq a b
  rw [h]
  exact (lcmp_ordered scmp_ordered).mono fun _ _ _ _ => trivial
theorem snoc_induction {α : Type} {p : List α → Prop} (nil : p []) (snoc : ∀ l x, p l → p (l ++ [x])) (l : List α) : p l := by
  have h : ∀ m : List α, p m.reverse := fun m => by
    induction m with
    | nil => exact nil
    | cons x m ih => rw [List.reverse_cons]; exact snoc _ _ ih
  have := h l.reverse
  rwa [List.reverse_reverse] at this
section
variable {β : Type} (c : β → β → Int)
/-- Behind all that do not come behind it. -/
def insL (x : β) : List β → List β
  | [] => [x]
  | y :: ys => if c y x ≤ 0 then y :: insL x ys else x :: y :: ys
/-- A row, sorted: leaf by leaf, each laid behind all that do not come behind it. -/
def srt (l : List β) : List β := l.foldl (fun o x => insL c x o) []
theorem srt_snoc (l : List β) (x : β) : srt c (l ++ [x]) = insL c x (srt c l) := by simp [srt]
theorem insL_split (x : β) (B : List β) (hB : ∀ b ∈ B, ¬ c b x ≤ 0) : ∀ A : List β, (∀ a ∈ A, c a x ≤ 0) → insL c x (A ++ B) = A ++ x :: B
  | [], _ => by
    cases B with
    | nil => rfl
    | cons y ys => rw [List.nil_append, insL, if_neg (hB y (by simp))]; rfl
  | a :: A, h => by rw [List.cons_append, insL, if_pos (h a (by simp)), insL_split x B hB A (fun a' h' => h a' (by simp [h']))]; rfl
theorem insL_perm (x : β) : ∀ l : List β, (insL c x l).Perm (x :: l)
  | [] => List.Perm.refl _
  | y :: ys => by
    rw [insL]
    split
    · exact ((insL_perm x ys).cons y).trans (List.Perm.swap _ _ _)
    · exact List.Perm.refl _
theorem srt_perm (l : List β) : (srt c l).Perm l := by
  induction l using snoc_induction with
  | nil => exact List.Perm.refl _
  | snoc l x ih => rw [srt_snoc]; exact (insL_perm c x _).trans ((ih.cons x).trans (List.perm_append_comm (l₁ := [x])))
theorem srt_length (l : List β) : (srt c l).length = l.length := (srt_perm c l).length_eq
/-- What comes first: by key, and then by place. -/
def ahd {α : Type} (key : α → β) (idx : α → Nat) (x y : α) : Bool := decide (c (key x) (key y) < 0) || (decide (c (key x) (key y) = 0) && decide (idx x < idx y))
theorem ahd_iff {α : Type} {key : α → β} {idx : α → Nat} {x y : α} : ahd c key idx x y = true ↔ c (key x) (key y) < 0 ∨ (c (key x) (key y) = 0 ∧ idx x < idx y) := by simp [ahd]
theorem stable_unique {α : Type} (key : α → β) (idx : α → Nat) (hf : ∀ a b, c b a = - c a b) : ∀ (l m : List α), l.Pairwise (fun x y => idx x < idx y) → m.Perm l → m.Pairwise (fun a b => ahd c key idx b a = false) → m.map key = srt c (l.map key) := by
  intro l
  induction l using snoc_induction with
  | nil => intro m _ hp _; rw [hp.eq_nil]; rfl
  | snoc l x ih =>
    intro m hl hp hm
    have hx : x ∈ m := hp.symm.subset (by simp)
    obtain ⟨A, B, rfl⟩ := List.append_of_mem hx
    have hp2 : (A ++ B).Perm l := by
      have h1 : (x :: (A ++ B)).Perm (x :: l) := List.perm_middle.symm.trans (hp.trans (List.perm_append_comm (l₂ := [x])))
      exact h1.cons_inv
    have hlx : ∀ y ∈ l, idx y < idx x := fun y hy => (List.pairwise_append.1 hl).2.2 y hy x (by simp)
    have hAB := List.pairwise_append.1 hm
    have hxB := List.pairwise_cons.1 hAB.2.1
    have e := ih (A ++ B) (List.pairwise_append.1 hl).1 hp2 (List.pairwise_append.2 ⟨hAB.1, hxB.2, fun a ha b hb => hAB.2.2 a ha b (by simp [hb])⟩)
    rw [List.map_append (l₁ := l), List.map_singleton, srt_snoc, ← e, List.map_append, List.map_append, List.map_cons]
    refine (insL_split c (key x) _ ?_ _ ?_).symm
    · intro b hb
      obtain ⟨y, hy, rfl⟩ := List.mem_map.1 hb
      have h := hxB.1 y hy
      have hi := hlx y (hp2.subset (by simp [hy]))
      intro hle
      have : ahd c key idx y x = true := (ahd_iff c).2 (by omega)
      rw [h] at this; cases this
    · intro a ha
      obtain ⟨y, hy, rfl⟩ := List.mem_map.1 ha
      have h := hAB.2.2 y hy x (by simp)
      have hfl := hf (key y) (key x)
      by_cases hle : c (key y) (key x) ≤ 0
      · exact hle
      · have : ahd c key idx x y = true := (ahd_iff c).2 (.inl (by omega))
        rw [h] at this; cases this
end
theorem swo_of {α γ : Type} {e : γ → γ → Int} (o : Ordered e (fun _ => True)) (f : α → γ) : SWO (fun x y => decide (e (f x) (f y) = -1)) where
  irrefl x := by simp [o.refl (f x) trivial]
  trans x y z h1 h2 := by
    simp only [decide_eq_true_eq] at *
    exact o.trans _ _ _ trivial trivial trivial h1 h2
  ntrans x y z h1 h2 := by
    simp only [decide_eq_false_iff_not] at *
    rcases o.cases (f x) (f y) trivial trivial with h | h | h
    · exact absurd h h1
    · rw [(o.eq _ _ trivial trivial).1 h]; exact h2
    · rcases o.cases (f y) (f z) trivial trivial with k | k | k
      · exact absurd k h2
      · rw [← (o.eq _ _ trivial trivial).1 k]; exact h1
      · have a := o.flip (f x) (f y) trivial trivial
        have b := o.flip (f y) (f z) trivial trivial
        have t := o.trans (f z) (f y) (f x) trivial trivial trivial (by omega) (by omega)
        have u := o.flip (f x) (f z) trivial trivial
        omega
theorem ahd_swo {α β : Type} {c : β → β → Int} (o : Ordered c (fun _ => True)) (key : α → β) (idx : α → Nat) : SWO (ahd c key idx) := by
  have h := swo_of ((o.prod icmp_ordered).mono (Q := fun _ => True) fun _ _ => ⟨trivial, trivial⟩) (fun x : α => (key x, (idx x : Int)))
  have e : ahd c key idx = fun x y => decide (orI (c (key x) (key y)) (icmp (idx x) (idx y)) = -1) := by
    funext x y
    rw [Bool.eq_iff_iff, ahd_iff, decide_eq_true_eq]
    rcases o.cases (key x) (key y) trivial trivial with k | k | k <;> simp [orI, k, icmp]
    split <;> (try split) <;> simp <;> omega
  rw [e]
  exact h
end Go.Proofs.Ytdgnengfcabgjaa
namespace Go.Proofs.Ytdgnengfcabgjaa
open Go.RowKit Go.Lib Go.Sort Go.Shelf
section
variable {α : Type} [Inhabited α] {enc : α → List Value} {k : Nat}
theorem flatMap_get (hk : ∀ x, (enc x).length = k) (h0 : 0 < k) : ∀ (l : List α) (t : Nat), t < l.length * k → (l.flatMap enc)[t]? = some ((enc (l[t / k]!))[t % k]!)
  | [], t, h => by simp at h
  | x :: l, t, h => by
    rw [List.flatMap_cons]
    by_cases ht : t < k
    · rw [List.getElem?_append_left (by rw [hk]; exact ht), Nat.div_eq_of_lt ht, Nat.mod_eq_of_lt ht]
      have : t < (enc x).length := by rw [hk]; exact ht
      simp [this]
    · have hl : (x :: l).length * k = l.length * k + k := by rw [List.length_cons, Nat.add_mul, Nat.one_mul]
      have e1 : t / k = (t - k) / k + 1 := Nat.div_eq_sub_div h0 (by omega)
      have e2 : t % k = (t - k) % k := Nat.mod_eq_sub_mod (by omega)
      rw [List.getElem?_append_right (by rw [hk]; omega), hk, flatMap_get hk h0 l (t - k) (by omega), e1, e2]
      rfl
omit [Inhabited α] in
theorem length_flatMapK (hk : ∀ x, (enc x).length = k) : ∀ l : List α, (l.flatMap enc).length = l.length * k
  | [] => by simp
  | x :: l => by rw [List.flatMap_cons, List.length_append, hk, length_flatMapK hk l, List.length_cons, Nat.add_mul, Nat.one_mul]; omega
theorem flatK_toList (hk : ∀ x, (enc x).length = k) (h0 : 0 < k) (d : Array α) : (flatK enc k d).toList = d.toList.flatMap enc := by
  apply List.ext_getElem?
  intro t
  by_cases ht : t < d.size * k
  · rw [flatMap_get hk h0 d.toList t (by simpa using ht), Array.getElem?_toList, Array.getElem?_eq_getElem (by rw [size_flatK]; exact ht)]
    have e := get_flatK enc k d t ht
    rw [getElem!_pos _ t (by rw [size_flatK]; exact ht)] at e
    have e3 : d.toList[t / k]! = d[t / k]! := by simp [getElem!_def]
    rw [e, e3]
  · rw [List.getElem?_eq_none (by rw [Array.length_toList, size_flatK]; omega), List.getElem?_eq_none (by rw [length_flatMapK hk, Array.length_toList]; omega)]
theorem holds_of_owns (hk : ∀ x, (enc x).length = k) (h0 : 0 < k) {w : World} {base g cap : Nat} {e : TypeId} {d : Array α} (h : w.ownsRow base e k (.slice (some ⟨g, 0, none⟩) d.size cap) d.size (d.toList.flatMap enc)) : HoldsK enc k w g 0 d := by
  obtain ⟨_, h2⟩ := h
  rcases h2 with ⟨h2, _⟩ | ⟨g', cap', cur, hv, _, hg, _, _, hcs, htk⟩
  · cases h2
  · cases hv
    intro j hj
    rw [size_flatK] at hj
    refine ⟨?_, by simp [World.frozen?, hg]⟩
    have e1 : cur[j]? = some ((flatK enc k d)[j]!) := by
      have e2 : (cur.toList.take (d.size * k))[j]? = (flatK enc k d).toList[j]? := by rw [htk, flatK_toList hk h0]
      rw [List.getElem?_take_of_lt hj, Array.getElem?_toList, Array.getElem?_toList, Array.getElem?_eq_getElem (xs := flatK enc k d) (by rw [size_flatK]; exact hj)] at e2
      rw [e2, getElem!_pos _ j (by rw [size_flatK]; exact hj)]
    rw [cell_of_row w g (0 + j) _ _ _ hg, Nat.zero_add]
    exact e1
theorem swk_far {w0 W : World} {blk off : Nat} {dk : Array α} (h : SWK enc k w0 blk off dk W) : W.os = w0.os ∧ W.tape = w0.tape ∧ W.output = w0.output ∧ w0.heap.size ≤ W.heap.size ∧ (∀ i, i < w0.heap.size → i ≠ blk → W.heap[i]? = w0.heap[i]?) ∧
    ∀ cur e fz, w0.heap[blk]? = some (.cells cur e fz) → W.heap[blk]? = some (.cells (putCells id off (flatK enc k dk) cur) e fz) := by
  obtain ⟨n, os, rfl⟩ := h
  refine ⟨rfl, rfl, rfl, ?_, fun i hi hb => ?_, fun cur e fz hc => ?_⟩
  · unfold sortWorldK; rw [Sort.size_grow, size_putRowK]; exact Nat.le_add_right _ _
  · unfold sortWorldK Sort.grow putRowK Sort.putRow Sort.mapBlock Sort.ahead
    simp only
    rw [Array.getElem?_append_left (by simpa using hi), Array.getElem?_modify, if_neg (fun e => hb e.symm)]
  · have hlt := heap_lt hc
    unfold sortWorldK Sort.grow putRowK Sort.putRow Sort.mapBlock Sort.ahead
    simp only
    rw [Array.getElem?_append_left (by simpa using hlt), Array.getElem?_modify, if_pos rfl, hc]
    rfl
theorem owns_of_swk (hk : ∀ x, (enc x).length = k) (h0 : 0 < k) {w0 W : World} {base g cap : Nat} {e : TypeId} {d d' : Array α} (h : w0.ownsRow base e k (.slice (some ⟨g, 0, none⟩) d.size cap) d.size (d.toList.flatMap enc)) (hs : SWK enc k w0 g 0 d' W) (hd : d'.size = d.size) :
    W.ownsRow base e k (.slice (some ⟨g, 0, none⟩) d.size cap) d.size (d'.toList.flatMap enc) := by
  have hlen : (d'.toList.flatMap enc).length = d.size * k := by rw [length_flatMapK hk, Array.length_toList, hd]
  obtain ⟨_, h2⟩ := h
  rcases h2 with ⟨h2, _⟩ | ⟨g', cap', cur, hv, hb, hg, hn, hc, hcs, htk⟩
  · cases h2
  · cases hv
    refine ⟨hlen, .inr ⟨g, cap, _, rfl, hb, (swk_far hs).2.2.2.2.2 _ _ _ hg, hn, hc, by simp [putCells, hcs], ?_⟩⟩
    have hle : d.size * k ≤ cap * k := Nat.mul_le_mul_right k hn
    apply List.ext_getElem?
    intro t
    by_cases ht : t < d.size * k
    · rw [List.getElem?_take_of_lt ht, Array.getElem?_toList, ← flatK_toList hk h0, Array.getElem?_toList]
      simp only [putCells, Array.getElem?_mapIdx]
      rw [Array.getElem?_eq_getElem (xs := cur) (by omega), Array.getElem?_eq_getElem (xs := flatK enc k d') (by rw [size_flatK, hd]; exact ht)]
      simp only [Option.map_some, Nat.zero_le, true_and, Nat.zero_add, size_flatK, hd, ht, if_true, Nat.sub_zero, id]
      rw [getElem!_pos _ t (by rw [size_flatK, hd]; exact ht)]
    · rw [List.getElem?_eq_none (by rw [List.length_take]; omega), List.getElem?_eq_none (by omega)]
end
end Go.Proofs.Ytdgnengfcabgjaa
