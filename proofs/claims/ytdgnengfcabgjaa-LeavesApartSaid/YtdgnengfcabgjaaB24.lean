/-
  slices.SortStableFunc by leaves.byPath: the row's one stable order.
  slices.Collect and slices.SortedStableFunc at leaves; leaves.Sort.
-/
import Derived.Test.YtdgnengfcabgjaaB20
import Derived.Test.YtdgnengfcabgjaaB09
import Derived.Test.YtdgnengfcabgjaaB23
import Derived.Test.YtdgnengfcabgjaaB01
import Derived.Test.YtdgnengfcabgjaaB12
namespace Go.Proofs.Ytdgnengfcabgjaa
open Go.RowKit Go.Lib Go.Sort Go.Shelf

set_option maxRecDepth 100000 in
theorem linsertion_none (v : Value) (A : Option Addr) (c : Nat) (w : World) : Calls Try.prog 90 #[.slice A 0 c, .int .i64 0, .int .i64 0, v] w (fun e w' => e = .returned (.tuple #[]) ∧ w' = w) := by
  go_enter Try.func90, Try.ntmps90
  go_wp2_with fail
  refine wp_loop_rounds 1 ?_
  rw [rounds_succ]
  go_wp2_with fail
  go_end0
  exact ⟨rfl, rfl⟩
set_option maxRecDepth 100000 in
theorem lstable_none (v : Value) (A : Option Addr) (c : Nat) (w : World) : Calls Try.prog 82 #[.slice A 0 c, .int .i64 0, v] w (fun e w' => e = .returned (.tuple #[]) ∧ w' = w) := by
  go_enter Try.func82, Try.ntmps82
  go_wp2_with fail
  refine wp_loop_rounds 1 ?_
  rw [rounds_succ]
  go_wp2_with fail
  refine (linsertion_none v A c w).mono ?_
  rintro e w' ⟨rfl, rfl⟩
  go_wp2_with fail
  refine wp_loop_rounds 1 ?_
  rw [rounds_succ]
  go_wp2_with fail
  go_end0
  exact ⟨rfl, rfl⟩
set_option maxRecDepth 100000 in
theorem lsort_none (v : Value) (A : Option Addr) (c : Nat) (w : World) : Calls Try.prog 65 #[.slice A 0 c, v] w (fun e w' => e = .returned (.tuple #[]) ∧ w' = w) := by
  go_enter Try.func65, Try.ntmps65
  go_wp2_with fail
  refine (lstable_none v A c w).mono ?_
  rintro e w' ⟨rfl, rfl⟩
  go_wp2_with fail
  go_end0
  exact ⟨rfl, rfl⟩
theorem lsort_of (v : Value) (A : Option Addr) (n c : Nat) (w : World) (R : Ending → World → Prop) (h : Calls Try.prog 82 #[.slice A n c, .int .i64 n, v] w (fun e w' => e = .returned (.tuple #[]) ∧ R e w')) :
    Calls Try.prog 65 #[.slice A n c, v] w R := by
  have HC := Lib.hid h; clear h
  go_enter Try.func65, Try.ntmps65
  go_wp2_with fail
  refine HC.out.mono ?_
  rintro e w' ⟨rfl, hr⟩
  go_wp2_with fail
  go_end0
  exact hr
theorem StrsS.strs {w : World} {S : Nat → Prop} {B : Nat} {v : Value} {xs : List ByteArray} (h : StrsS w S v xs) (hs : ∀ k, S k → k < B) : Strs w B v xs := by
  obtain ⟨A, c, e, l, h1⟩ := h
  refine ⟨A, c, e, l, fun hl => ?_⟩
  obtain ⟨b, off, e', hb, hc⟩ := h1 hl
  exact ⟨b, off, e', hs _ hb, hc⟩
theorem extract_all {α : Type} (d : Array α) {n : Nat} (h : d.size = n) : d.extract 0 n = d := by subst h; simp
section
variable {α : Type} (enc : α → List Value) (path : α → List ByteArray)
/-- Leaves by their paths. -/
def byP (a b : α) : Int := kcmp (path a) (path b)
theorem sortRow_some (hk : ∀ x, (enc x).length = 6) (xs : List α) (h1 : ∀ x ∈ xs, ∀ v ∈ enc x, v.oneCell' = true) (hne : 0 < xs.length) (hlen : xs.length ≤ 1000000) (hpl : ∀ x ∈ xs, (path x).length ≤ 10000) (base g cap : Nat) (w : World)
    (hown : w.ownsRow base 42 6 (.slice (some ⟨g, 0, none⟩) xs.length cap) xs.length (xs.flatMap enc))
    (hr : ∀ x ∈ xs, ∃ v0 v1 v2 v3 v4 v5, enc x = [v0, v1, v2, v3, v4, v5] ∧ StrsS w (fun k => k < w.heap.size ∧ k ≠ g) v0 (path x)) :
    Calls Try.prog 65 #[.slice (some ⟨g, 0, none⟩) xs.length cap, .func (.func 41) #[] #[]] w fun e w' => e = .returned (.tuple #[]) ∧
      w'.ownsRow base 42 6 (.slice (some ⟨g, 0, none⟩) xs.length cap) xs.length ((srt (byP path) xs).flatMap enc) ∧ Keeps RowO base w w' := by
  obtain ⟨n, hn⟩ : ∃ n, n = xs.length := ⟨_, rfl⟩
  haveI : Inhabited (Fin n) := ⟨⟨0, by omega⟩⟩
  obtain ⟨key, hkey⟩ : ∃ key : Fin n → α, key = fun i => xs[i.val]'(by have := i.isLt; omega) := ⟨_, rfl⟩
  obtain ⟨d, hd⟩ : ∃ d : Array (Fin n), d = Array.ofFn (fun i => i) := ⟨_, rfl⟩
  have hds : d.size = n := by rw [hd]; simp
  have hdi : ∀ (j : Nat) (h : j < n), d[j]! = ⟨j, h⟩ := fun j h => by rw [hd, getElem!_pos _ j (by simpa using h)]; simp
  have hxs : d.toList.map key = xs := by
    apply List.ext_getElem
    · simp [hds, hn]
    · intro i h1 h2; simp [hd, hkey]
  have hflat : ∀ l : List (Fin n), l.flatMap (fun i => enc (key i)) = (l.map key).flatMap enc := fun l => by rw [List.flatMap_map]
  have hmem : ∀ i, key i ∈ xs := fun i => by rw [hkey]; exact List.getElem_mem _
  have hk2 : ∀ x : Fin n, (enc (key x)).length = 6 := fun x => hk _
  have hown2 : w.ownsRow base 42 6 (.slice (some ⟨g, 0, none⟩) d.size cap) d.size (d.toList.flatMap (fun i => enc (key i))) := by rw [hflat, hxs, hds, hn]; exact hown
  have hgb : base ≤ g ∧ ∃ cur, w.heap[g]? = some (.cells cur 42 (0, 0)) := by
    rcases hown.2 with ⟨h, _⟩ | ⟨g', cap', cur, hv, hb, hg, _⟩
    · cases h
    · cases hv; exact ⟨hb, _, hg⟩
  obtain ⟨hgb, cur, hg⟩ := hgb
  have hH := holds_of_owns hk2 (by omega) hown2
  have R : RowK (fun i => enc (key i)) 6 w g 0 d := ⟨hk2, fun x => h1 _ (hmem x), hH, heap_lt hg⟩
  have hcmp : CmpLays Try.prog 41 #[] (fun i => enc (key i)) 6 (fun x y => kcmp (path (key x)) (path (key y))) g 0 d.size w := fun m os dk hdk x y => by
    have hsw := swk_far (show SWK (fun i => enc (key i)) 6 w g 0 dk _ from ⟨m, os, rfl⟩)
    obtain ⟨v0, v1, v2, v3, v4, v5, e1, hs1⟩ := hr _ (hmem x)
    obtain ⟨u0, u1, u2, u3, u4, u5, e2, hs2⟩ := hr _ (hmem y)
    have hcell : ∀ p : Addr, (p.block < w.heap.size ∧ p.block ≠ g) → (sortWorldK (fun i => enc (key i)) 6 w g 0 m dk os).cell? p = w.cell? p := fun p hp => World.cell?_of_block (a := p) (hsw.2.2.2.2.1 p.block hp.1 hp.2)
    have hc := byPath_any (path (key x)) (path (key y)) v0 v1 v2 v3 v4 v5 u0 u1 u2 u3 u4 u5 w.heap.size _ hsw.2.2.2.1 ((hs1.keep (fun _ h => h) hcell).strs fun _ h => h.1) ((hs2.keep (fun _ h => h) hcell).strs fun _ h => h.1) (hpl _ (hmem x)) (hpl _ (hmem y))
    have ea : (#[Value.agg (enc (key x)).toArray, .agg (enc (key y)).toArray] ++ #[] : Array Value) = #[.agg #[v0, v1, v2, v3, v4, v5], .agg #[u0, u1, u2, u3, u4, u5]] := by rw [e1, e2]; rfl
    show Calls Try.prog _ (#[Value.agg (enc (key x)).toArray, .agg (enc (key y)).toArray] ++ #[]) _ _
    rw [ea]
    refine hc.mono ?_
    rintro e w' ⟨rfl, rfl⟩
    exact ⟨rfl, 0, #[_, _], by rw [alloc_eq_grow, alloc_eq_grow, grow_grow]; rfl⟩
  have hcl : ∀ x y : Fin n, x.val < y.val → (kcmp (path (key y)) (path (key x)) < 0 ↔ ahd kcmp (fun i => path (key i)) (·.val) y x = true) := fun x y hxy => by rw [ahd_iff]; omega
  have hS : SWO (ahd kcmp (fun i : Fin n => path (key i)) (·.val)) := ahd_swo kcmp_ordered _ _
  have hcall := stableK_any (T := ahd kcmp (fun i : Fin n => path (key i)) (·.val)) (L := fun x y : Fin n => x.val < y.val) (cf := fun x y => kcmp (path (key x)) (path (key y))) hS hcl lfP (fun i => enc (key i)) 41 #[] g 0 cap d w
    (enters_of Try.func41 (by kernel_rfl) rfl) hcmp R (by omega) fun i j hij hj => by
      rw [hds] at hj
      rw [hdi i (by omega), hdi j hj]; exact hij
  rw [hds] at hcall
  rw [← hn]
  refine lsort_of _ _ _ _ _ _ (hcall.mono ?_)
  rintro e w3 h3
  obtain ⟨rfl, d', hs', S', hp', ho'⟩ := h3.of
  have hsw := swk_far S'.out
  refine ⟨rfl, rfl, ?_, ⟨hsw.1, hsw.2.1, hsw.2.2.1, hsw.2.2.2.1, fun i hi => hsw.2.2.2.2.1 i (by have := heap_lt hg; omega) (by omega)⟩, fun i o ho hno => ?_⟩
  · have hfin := owns_of_swk hk2 (by omega) hown2 S'.out hs'
    have hu : d'.toList.map key = srt (byP path) (d.toList.map key) := stable_unique (byP path) key (·.val) (fun a b => kcmp_ordered.flip _ _ trivial trivial) d.toList d'.toList
      (List.pairwise_iff_getElem.2 fun i j hi hj hij => by simp [hd]; exact hij)
      (by
        have := hp'.out.2.2
        rwa [extract_all d' (hs'.trans hds), extract_all d hds] at this)
      (List.pairwise_iff_getElem.2 fun i j hi hj hij => by
        have hj2 : j < n := by rw [Array.length_toList, hs', hds] at hj; exact hj
        have := ho'.out i j (Nat.zero_le _) hij hj2
        rw [getElem!_pos d' j (by omega), getElem!_pos d' i (by omega)] at this
        rw [Array.getElem_toList, Array.getElem_toList]
        exact this)
    rw [hflat, hu, hxs, hds] at hfin
    exact hfin
  · by_cases e : i = g
    · subst e; rw [hg] at ho; cases ho; exact absurd ⟨_, _, .inr rfl⟩ hno
    · exact (hsw.2.2.2.2.1 i (heap_lt ho) e).trans ho
end
end Go.Proofs.Ytdgnengfcabgjaa
namespace Go.Proofs.Ytdgnengfcabgjaa
open Go.RowKit Go.Shelf

theorem MkIn.strsS {x : Mk} {W : World} (h : MkIn x W) {g : Nat} {cur : Array Value} {fz : Nat × Nat} (hg : W.heap[g]? = some (.cells cur 42 fz)) : StrsS W (fun k => k < W.heap.size ∧ k ≠ g) x.v0 x.lf.path := by
  obtain ⟨hl, h2⟩ := h.path
  rcases h2 with ⟨e, h0⟩ | ⟨g', cap, cs, e, hb, hh, hn, _, hcs, htk⟩
  · exact ⟨none, 0, by rw [e, h0], by omega, fun h => by omega⟩
  · refine ⟨some ⟨g', 0, none⟩, cap, e, hn, fun _ => ⟨g', 0, rfl, ⟨heap_lt hh, fun e' => by subst e'; rw [hg] at hh; cases hh⟩, fun i hi => ?_⟩⟩
    have e2 : (cs.toList.take (x.lf.path.length * 1))[i]? = (x.lf.path.map Value.string)[i]? := by rw [htk]
    rw [List.getElem?_take_of_lt (by omega), Array.getElem?_toList, List.getElem?_map, List.getElem?_eq_getElem hi] at e2
    rw [cell_of_row W g' (0 + i) _ _ _ hh, Nat.zero_add]
    exact e2
abbrev mkP (x : Mk) : List ByteArray := x.lf.path
theorem sortMk_any (xs : List Mk) (base : Nat) (v : Value) (w : World) (hM : ∀ x ∈ xs, MkIn x w) (hpl : ∀ x ∈ xs, x.lf.path.length ≤ 10000) (hlen : xs.length ≤ 1000000) (hown : w.ownsRow base 42 6 v xs.length (xs.flatMap Mk.enc)) :
    Calls Try.prog 65 #[v, .func (.func 41) #[] #[]] w fun e w' => e = .returned (.tuple #[]) ∧
      w'.ownsRow base 42 6 v xs.length ((srt (byP mkP) xs).flatMap Mk.enc) ∧ Keeps RowO base w w' := by
  have hown' := hown
  rcases hown.2 with ⟨rfl, h0⟩ | ⟨g, cap, cur, rfl, hb, hg, _⟩
  · obtain rfl : xs = [] := List.eq_nil_of_length_eq_zero h0
    refine (lsort_none _ none 0 w).mono ?_
    rintro e w' ⟨rfl, rfl⟩
    exact ⟨rfl, hown', Keeps.refl _ _ _⟩
  · rcases Nat.eq_zero_or_pos xs.length with h0 | h0
    · obtain rfl : xs = [] := List.eq_nil_of_length_eq_zero h0
      refine (lsort_none _ _ _ w).mono ?_
      rintro e w' ⟨rfl, rfl⟩
      exact ⟨rfl, hown', Keeps.refl _ _ _⟩
    · exact sortRow_some Mk.enc mkP (fun _ => rfl) xs (fun x hx => (hM x hx).one) h0 hlen hpl base g cap w hown' fun x hx => ⟨_, _, _, _, _, _, rfl, (hM x hx).strsS hg⟩
section
variable {gf : Nat} {lb : Array Value} {TI : Obj → Prop} {S : List Mk → World → Prop} {N : Nat} {w : World}
theorem collect_any (eg : ∀ args w, (callFunc gf args).run Try.prog w = .ok (.enter gf args) w) (hseq : SeqR Try.prog gf lb (fun x => #[.agg (Mk.enc x).toArray]) TI RowO w.heap.size MkR S N w) (hN : N ≤ 1000000)
    (hTI : ∀ o, TI o → ∃ cs fz, o = .cells cs 9 fz) (hS : ∀ xs A B, S xs A → Keeps (fun o => RowO o ∨ IsMark o) w.heap.size A B → S xs B) :
    Calls Try.prog 64 #[.func (.func gf) #[] lb] w fun e W' => ∃ v xs, e = .returned v ∧ S xs W' ∧ W'.ownsRow w.heap.size 42 6 v xs.length (xs.flatMap Mk.enc) ∧ (v = .slice none 0 0 ↔ xs = []) ∧ Below w.heap.size w W' := by
  have HC := Lib.hid (appendSeq_any Mk.enc (R := MkR) (fun x n W h => ⟨_, _, _, _, _, _, rfl, h.1.one⟩) eg hseq hN hTI hS)
  clear hseq hS hTI
  go_enter Try.func64, Try.ntmps64
  go_wp2_with (go_at_call 81; refine HC.out.mono ?_; rintro e w' ⟨v, xs, rfl, h⟩; have H := Lib.hid h; clear h)
  go_ret
  exact ⟨v, xs, rfl, H.out⟩
theorem sorted_any (eg : ∀ args w, (callFunc gf args).run Try.prog w = .ok (.enter gf args) w) (hseq : SeqR Try.prog gf lb (fun x => #[.agg (Mk.enc x).toArray]) TI RowO w.heap.size MkR S N w) (hN : N ≤ 1000000)
    (hTI : ∀ o, TI o → ∃ cs fz, o = .cells cs 9 fz) (hS : ∀ xs A B, S xs A → Keeps (fun o => RowO o ∨ IsMark o) w.heap.size A B → S xs B)
    (hR : ∀ xs W, S xs W → xs.length ≤ 1000000 ∧ (∀ x ∈ xs, MkIn x W) ∧ ∀ x ∈ xs, x.lf.path.length ≤ 10000) :
    Calls Try.prog 39 #[.func (.func gf) #[] lb, .func (.func 41) #[] #[]] w fun e W' => ∃ v xs, e = .returned v ∧ S xs W' ∧
      W'.ownsRow w.heap.size 42 6 v xs.length ((srt (byP mkP) xs).flatMap Mk.enc) ∧ (v = .slice none 0 0 ↔ xs = []) ∧ Below w.heap.size w W' := by
  have HC := Lib.hid (collect_any eg hseq hN hTI hS)
  have HS := Lib.hid hS; have HR := Lib.hid hR
  clear hseq hS hTI hR
  go_enter Try.func39, Try.ntmps39
  go_wp2_with (first
    | (go_at_call 64; refine HC.out.mono ?_; rintro e w' ⟨v, xs, rfl, hs, hown, hnil, hb⟩
       have hr := HR.out _ _ hs
       have hsort := sortMk_any xs w.heap.size v w' hr.2.1 hr.2.2 hr.1 hown
       have HSORT := Lib.hid hsort; have HSS := Lib.hid hs; have HNIL := Lib.hid hnil; have HB := Lib.hid hb
       clear hr hsort hs hown hnil hb HC HR)
    | (go_at_call 65; refine HSORT.out.mono ?_; rintro e w2 ⟨rfl, ho, hk⟩
       have H := Lib.hid (And.intro (HS.out _ _ _ HSS.out (hk.wide fun _ h => .inl h)) (And.intro ho (HB.out.trans hk.below)))
       clear ho hk HSORT HSS HB HS))
  go_ret
  exact ⟨v, xs, rfl, H.out.1, H.out.2.1, HNIL.out, H.out.2.2⟩
end
end Go.Proofs.Ytdgnengfcabgjaa
