/-
  append(path, key): the longer row, and the older one as it was.
-/
import Derived.Test.YtdgnengfcabgjaaB15
import Derived.Test.YtdgnengfcabgjaaB16
import Derived.Maps.AppendAt
namespace Go.Proofs.Ytdgnengfcabgjaa
open Go.RowKit Go.Shelf

theorem run_append_path {w : World} {m : Nat} {v : Value} {p : List ByteArray} {key : ByteArray} {ty : TypeId} {ad : Addr} {c : Nat} (hm : m ≤ w.heap.size) (hown : w.ownsRow m 9 1 v p.length (p.map Value.string)) (hco : CapOkE v p.length)
    (hnews : ∀ j u, [Value.string key][j]? = some u → w.cell? (ad.add j) = some u) (hc : 1 ≤ c) (hpl : p.length + 1 ≤ 10000) :
    ∃ v' w', (Builtin.append_ #[22, 22] ty #[v, .slice (some ad) 1 c]).run Try.prog w = .ok v' w' ∧ w'.ownsRow m 9 1 v' (p ++ [key]).length ((p ++ [key]).map Value.string) ∧ CapOkE v' (p ++ [key]).length ∧
      w'.ownsRow m 9 1 v p.length (p.map Value.string) ∧ w.grownBy w' v.ownBlock ∧ (v'.ownBlock = v.ownBlock ∨ v'.ownBlock = some w.heap.size) := by
  obtain ⟨i0, hi, hz0, hz1, hz2⟩ := info_parts infoS
  have hu : RowE w 1 (.slice (some ad) 1 c) 1 [.string key] := ⟨some ad, c, rfl, hc, rfl, by simp [Value.oneCell'], fun h => (by cases h), fun a ha j u hj => by cases ha; exact hnews j u hj⟩
  obtain ⟨v', w', hr, h1, h2, h3⟩ := append_keepE (P := Try.prog) (ty := ty) (L := p.map Value.string ++ [.string key]) i0 (.string ByteArray.empty) Try.underlying22 hi hz0 (by decide) (by decide) (by decide : 16 ≤ 120) hz1 hz2 (by rfl) hm hown hco hu (List.prefix_refl _) hpl
  obtain ⟨v2, w2, hr2, _, g2, _, a2⟩ := run_append_own_at (P := Try.prog) w m 22 ty 9 i0 (.string ByteArray.empty) 1 16 Try.underlying22 hi hz0 hz1 hz2 (by rfl) (by decide) v p.length (p.map Value.string) hown ad 1 c [.string key] rfl hnews (by simp [Value.oneCell']) (by unfold maxLen; omega) (by omega) hm
  rw [hr] at hr2
  cases hr2
  refine ⟨v', w', hr, by simpa using h1, by simpa using h2, h3.2.1 v p.length _ (List.prefix_append _ _) hown, g2, a2⟩
/-- The state with the longer path, and what the step has turned. -/
theorem VisSt.longer {J : List Mk → World → Prop} {l m M N : Nat} (C : YieldC l J m M N) {p : List ByteArray} {key : ByteArray} {v v' : Value} {pre : List Mk} {W w w' : World} (h : VisSt J m p v pre W) (hb : Below W.heap.size W w) (hg : w.grownBy w' v.ownBlock) (hold : w'.ownsRow m 9 1 v p.length (p.map Value.string))
    (hown : w'.ownsRow m 9 1 v' (p ++ [key]).length ((p ++ [key]).map Value.string)) (hat : v'.ownBlock = v.ownBlock ∨ v'.ownBlock = some w.heap.size) :
    VisSt J m p v pre w' ∧ VisSt J m (p ++ [key]) v' pre w' ∧ KeepsI (VisK v) m W w' := by
  have s1 := hb.size; have s2 := hg.size; have hm := h.hm
  have hbl : Below m W w' := (hb.mono hm).grown hg (by omega) fun j e => (h.row.lt j e).1
  have hsame : ∀ k, k < W.heap.size → v.ownBlock ≠ some k → w'.heap[k]? = W.heap[k]? := fun k hk hne => (hg.block k (by omega) (fun e => hne e.symm)).trans (hb.block k hk)
  have hI : KeepsI (Turns StrO M) m W w' := ⟨hbl, fun k o ho hn => by
    by_cases e : v.ownBlock = some k
    · obtain ⟨cs, hc⟩ := ownsRow_obj h.row (blk_mem.2 e)
      rw [hc] at ho; cases ho
      exact absurd (.inl ⟨_, _, rfl⟩) hn
    · exact (hsame k (heap_lt ho) e).trans ho⟩
  have hmk : Mks m pre w' := ⟨fun x hx => ⟨(h.mks.each x hx).1.same fun k hk => hsame k ((h.mks.each x hx).1.lt k hk).2 fun e => h.free x hx k e hk, (h.mks.each x hx).2⟩, h.mks.apart⟩
  have hhi : ∀ x ∈ pre, x.hi ≤ w'.heap.size := fun x hx => by have := h.hi x hx; omega
  refine ⟨⟨C.hJ _ _ _ h.j hI, hmk, hhi, hold, h.free, by omega⟩, ⟨C.hJ _ _ _ h.j hI, hmk, hhi, hown, fun x hx b hb' hmem => ?_, by omega⟩, ⟨hbl, fun k o ho hn => (hsame k (heap_lt ho) fun e => hn (.inr e)).trans ho⟩⟩
  rcases hat with e | e
  · exact h.free x hx b (e ▸ hb') hmem
  · rw [e] at hb'; cases hb'
    have := ((h.mks.each x hx).1.lt _ hmem).2
    omega
theorem ownsRow_shorter {w w7 : World} {m n : Nat} {v v' : Value} {xs ys : List Value} (h : w.ownsRow m 9 1 v n xs) (h' : w.ownsRow m 9 1 v' (n + 1) (xs ++ ys)) (he : v'.ownBlock = v.ownBlock) (h7 : w7.ownsRow m 9 1 v' (n + 1) (xs ++ ys)) : w7.ownsRow m 9 1 v n xs := by
  obtain ⟨hl, h2⟩ := h
  refine ⟨hl, ?_⟩
  rcases h2 with h2 | ⟨g, cap, cur, rfl, hg, hh, hn, hcm, hcs, htk⟩
  · exact .inl h2
  · rcases h'.2 with ⟨rfl, _⟩ | ⟨g', cap', cur', rfl, _, hh', _, _, hcs', _⟩
    · simp [Value.ownBlock] at he
    · obtain rfl : g' = g := by simpa [Value.ownBlock] using he
      rw [hh] at hh'; cases hh'
      rcases h7.2 with ⟨e, _⟩ | ⟨g7, cap7, cur7, e, _, hh7, hn7, _, hcs7, htk7⟩
      · cases e
      · injection e with e1 e2 e3
        injection e1 with e1; injection e1 with e1
        subst e1; subst e3
        refine .inr ⟨g', cap, cur7, rfl, hg, hh7, hn, hcm, by omega, ?_⟩
        have : cur7.toList.take (n * 1) = (cur7.toList.take ((n + 1) * 1)).take (n * 1) := by rw [List.take_take]; congr 1; omega
        rw [this, htk7, List.take_left' (by omega)]
/-- Behind a visit along the longer path. -/
theorem VisSt.back {J : List Mk → World → Prop} {m : Nat} {p : List ByteArray} {key : ByteArray} {v v' : Value} {pre zs : List Mk} {W w6 w7 : World} (h : VisSt J m p v pre w6) (hown : w6.ownsRow m 9 1 v' (p ++ [key]).length ((p ++ [key]).map Value.string)) {H : Nat} (hH : W.heap.size ≤ H) (hv : ∀ k, v.ownBlock = some k → k < W.heap.size)
    (hat : v'.ownBlock = v.ownBlock ∨ v'.ownBlock = some H) (hk : KeepsI (VisK v) m W w6) (hlo : ∀ y ∈ zs, w6.heap.size ≤ y.lo) (h7 : VisSt J m (p ++ [key]) v' (pre ++ zs) w7) (hk7 : KeepsI (VisK v') m w6 w7) :
    VisSt J m p v (pre ++ zs) w7 ∧ KeepsI (VisK v) m W w7 := by
  have s6 := hk.below.size
  have hne : ∀ k, k < W.heap.size → v.ownBlock ≠ some k → v'.ownBlock ≠ some k := fun k hk hn e => by
    rcases hat with a | a
    · exact hn (a ▸ e)
    · rw [a] at e; cases e; omega
  have hrow : w7.ownsRow m 9 1 v p.length (p.map Value.string) := by
    by_cases e : v'.ownBlock = v.ownBlock
    · rw [List.length_append, List.length_singleton, List.map_append] at hown
      have h7r := h7.row
      rw [List.length_append, List.length_singleton, List.map_append] at h7r
      exact ownsRow_shorter h.row hown e h7r
    · refine ownsRow_same h.row fun k hkm => ?_
      obtain ⟨cs, hc⟩ := ownsRow_obj h.row hkm
      rw [hc]
      refine hk7.same _ _ hc ?_
      rintro (⟨_, _, a | a⟩ | a)
      · cases a
      · cases a
      · have := blk_mem.1 hkm; exact e (a.trans this.symm)
  refine ⟨⟨h7.j, h7.mks, h7.hi, hrow, fun x hx b hb hmem => ?_, h7.hm⟩, hk.below.trans hk7.below, fun k o ho hn => hk7.same _ _ (hk.same k o ho hn) ?_⟩
  · rcases List.mem_append.1 hx with hx2 | hx2
    · exact h.free x hx2 b hb hmem
    · have := ((h7.mks.each x hx).1.lt b hmem).1
      have := hlo x hx2
      have := hv b hb
      omega
  · rintro (a | a)
    · exact hn (.inl a)
    · exact hne k (heap_lt ho) (fun e => hn (.inr e)) a
end Go.Proofs.Ytdgnengfcabgjaa
