/-
  
  set, with a key that is new.
-/
import Derived.Test.YtlemlgllkcgigaaGreatDoorF26
import Derived.Test.YtlemlgllkcgigaaGreatDoorF25
namespace Go.Proofs.YtlemlgllkcgigaaGreatDoor
open Go.RowKit

set_option maxHeartbeats 4000000 in
set_option maxRecDepth 100000 in
theorem set_no {x y : D} {u0 u1 u2 u3 u4 y0 y1 y2 y3 y4 : Value} {s : ByteArray} {w : World} {base b off : Nat} {G FY : List Nat} (hf : x.Fit) (hs : Short s) (hg : Glob w) (hc : Cells5 w b off u0 u1 u2 u3 u4) (hx : OwnIn w base x u0 u1 u2 u3 u4 G)
    (hy : OwnIn w base y y0 y1 y2 y3 y4 FY) (hst : findI x s = -1) (hxk : keyOfB x.kind s = false) (hno : ¬ (x.kind = 3 ∧ placeI s = x.kids.length)) :
    Calls Tryz.prog 61 #[.pointer (some ⟨b, off, none⟩), .string s, .agg #[y0, y1, y2, y3, y4]] w fun e w' => e = .returned (.bool false) ∧ Below w.heap.size w w' := by
  have HX := Lib.hid hx; have HF := Lib.hid hf; have HS := Lib.hid hs; have HG := Lib.hid hg; have HFI := Lib.hid hst
  have hbl := hc.lt
  obtain ⟨A3, c3, A4, c4, rfl, rfl, rfl, rfl, rfl⟩ := hy.doc.forms
  obtain ⟨X3, d3, X4, d4, rfl, rfl, rfl, rfl, rfl⟩ := hx.doc.forms
  obtain ⟨p0, p1, p2, p3, p4⟩ := hc
  have HXK := Lib.hid hxk
  clear hx hf hs hg hst hxk hy
  by_cases hk : x.kind = 3
  · have hk3 : (x.kind == 3) = true := by simp [hk]
    have hpl : (placeI s == (x.kids.length : Int)) = false := by
      rw [beq_eq_false_iff_ne]; exact fun h => hno ⟨hk, h⟩
    clear hno hk
    go_enter Tryz.func61, Tryz.ntmps61
    go_wp2_with fail
    refine (find_any (B := w.heap.size) HF.out HS.out (HG.out.alloc _) (by simp) (HX.out.doc.keep (Nat.le_refl _) fun p hp => World.cell?_alloc_lt w _ p hp)).mono ?_
    rintro e w1 ⟨rfl, hb1⟩
    rw [HFI.out]
    have hz1 := hb1.size
    simp only [World.size_alloc] at hz1
    have k1 : ∀ o, w1.cell? ⟨b, o, none⟩ = w.cell? ⟨b, o, none⟩ := fun o => (hb1.cell (p := ⟨b, o, none⟩) (by simp; omega)).trans (World.cell?_alloc_lt w _ ⟨b, o, none⟩ hbl)
    rw [← k1] at p0 p1 p2 p3 p4
    clear k1
    go_wp2_with fail
    refine (keyOf_any x.kind s w1 HS.out).mono ?_
    rintro e w2 ⟨rfl, rfl⟩
    rw [HXK.out]
    go_wp2_with fail
    have hgl1 : Glob w1 := (HG.out.alloc _).below hb1 (by have := HG.out.size; simp; omega)
    have HGL1 := Lib.hid hgl1; clear hgl1
    have HB1 := Lib.hid hb1; clear hb1
    go_region_held3 (fun w' => w'.cell? ⟨b, off, none⟩ = some (.int .i64 x.kind) ∧ w'.cell? ⟨b, off + 4, none⟩ = some (.slice X4 x.kids.length d4))
      (first | go_keep | (exact ⟨(hb2.cell (p := ⟨b, off, none⟩) (by simp; omega)).trans p0, (hb2.cell (p := ⟨b, off + 4, none⟩) (by simp; omega)).trans p4⟩))
      ((go_at_call 99; refine (place_any s _ HS.out (HGL1.out.below (Below.refl _ _).drew (by have := HGL1.out.size; omega))).mono ?_; rintro e w2 ⟨rfl, hb2⟩))
    go_wp2_with fail
    go_ret
    exact ⟨rfl, ((Below.refl _ _).alloc (Nat.le_refl _) _).trans ((HB1.out.mono (by simp)).trans (((Below.refl w1.heap.size w1).drew.trans hb2).mono (by omega)))⟩
  · have hk3 : (x.kind == 3) = false := by simp [hk]
    clear hno hk
    go_enter Tryz.func61, Tryz.ntmps61
    go_wp2_with fail
    refine (find_any (B := w.heap.size) HF.out HS.out (HG.out.alloc _) (by simp) (HX.out.doc.keep (Nat.le_refl _) fun p hp => World.cell?_alloc_lt w _ p hp)).mono ?_
    rintro e w1 ⟨rfl, hb1⟩
    rw [HFI.out]
    have hz1 := hb1.size
    simp only [World.size_alloc] at hz1
    have k1 : ∀ o, w1.cell? ⟨b, o, none⟩ = w.cell? ⟨b, o, none⟩ := fun o => (hb1.cell (p := ⟨b, o, none⟩) (by simp; omega)).trans (World.cell?_alloc_lt w _ ⟨b, o, none⟩ hbl)
    rw [← k1] at p0 p1 p2 p3 p4
    clear k1
    go_wp2_with fail
    refine (keyOf_any x.kind s w1 HS.out).mono ?_
    rintro e w2 ⟨rfl, rfl⟩
    rw [HXK.out]
    go_wp2_with fail
    have HB1 := Lib.hid hb1; clear hb1
    go_quiet (fail)
    go_wp2_with fail
    go_ret
    exact ⟨rfl, ((Below.refl _ _).alloc (Nat.le_refl _) _).trans ((HB1.out.mono (by simp)).trans ((below_drewN w1 _).mono (by omega)))⟩
end Go.Proofs.YtlemlgllkcgigaaGreatDoor
namespace Go.Proofs.YtlemlgllkcgigaaGreatDoor
open Go.RowKit

set_option maxHeartbeats 4000000 in
set_option maxRecDepth 100000 in
theorem set_new {x y : D} {u0 u1 u2 u3 u4 y0 y1 y2 y3 y4 : Value} {s : ByteArray} {w : World} {base b off : Nat} {G FY : List Nat} (hf : x.Fit) (hs : Short s) (hg : Glob w) (hc : Cells5 w b off u0 u1 u2 u3 u4) (hx : OwnIn w base x u0 u1 u2 u3 u4 G) (hn : G.Nodup) (hb : b ∉ G)
    (hblk : ∃ cur : Array Value, w.heap[b]? = some (.cells cur 29 (0, 0))) (hy : OwnIn w base y y0 y1 y2 y3 y4 FY) (hyn : FY.Nodup) (hdis : ∀ k ∈ FY, k ∉ G ∧ k ≠ b) (hst : findI x s = -1) (hxk : keyOfB x.kind s = true) (hri : Rising x.keys) (hkk : x.keys.length = x.kids.length) (hbase : base ≤ w.heap.size) :
    Calls Tryz.prog 61 #[.pointer (some ⟨b, off, none⟩), .string s, .agg #[y0, y1, y2, y3, y4]] w fun e w' => e = .returned (.bool true) ∧ SetOk w base (x.insP s y) b off G FY w' := by
  have hkl := hf.kids; have hkeys := hf.keys
  have HX := Lib.hid hx; have HY := Lib.hid hy; have HC := Lib.hid hc; have HF := Lib.hid hf; have HS := Lib.hid hs; have HG := Lib.hid hg; have HFI := Lib.hid hst
  have hbl := hc.lt
  have HBS := Lib.hid hbase; have HRI := Lib.hid hri; have HKK := Lib.hid hkk
  obtain ⟨A3, c3, A4, c4, rfl, rfl, rfl, rfl, rfl⟩ := hy.doc.forms
  obtain ⟨X3, d3, X4, d4, rfl, rfl, rfl, rfl, rfl⟩ := hx.doc.forms
  obtain ⟨_, _, _, hk3w, HCS, Fs, hr4w, hkdw, hGe⟩ := hx.parts
  have HK3W := Lib.hid hk3w; have HR4W := Lib.hid hr4w; have HKD := Lib.hid hkdw; have HGE := Lib.hid hGe
  obtain ⟨p0, p1, p2, p3, p4⟩ := hc
  have HXK := Lib.hid hxk
  have HBK := Lib.hid hblk; have HDIS := Lib.hid hdis; have HNB := Lib.hid hb; have HNG := Lib.hid hn
  have hpl : placeOf x.keys s ≤ x.keys.length := placeOf_le _ _
  have n3 : (Value.slice X3 x.keys.length d3).ownBlock ≠ some b := fun h => hb (by rw [hGe]; simp [blk_mem, h])
  have n4 : (Value.slice X4 x.kids.length d4).ownBlock ≠ some b := fun h => hb (by rw [hGe]; simp [blk_mem, h])
  have l3 := hk3w.lt; have l4 := hr4w.lt
  have HL := Lib.hid (And.intro (And.intro n3 n4) (And.intro l3 l4))
  clear hblk hdis hb hx hy hf hs hg hst hxk hk3w hr4w hkdw hGe hri hkk hbase hn n3 n4 l3 l4
  go_enter Tryz.func61, Tryz.ntmps61
  go_wp2_with fail
  refine (find_any (B := w.heap.size) HF.out HS.out (HG.out.alloc _) (by simp) (HX.out.doc.keep (Nat.le_refl _) fun p hp => World.cell?_alloc_lt w _ p hp)).mono ?_
  rintro e w1 ⟨rfl, hb1⟩
  rw [HFI.out]
  have hz1 := hb1.size
  simp only [World.size_alloc] at hz1
  have k1 : ∀ o, w1.cell? ⟨b, o, none⟩ = w.cell? ⟨b, o, none⟩ := fun o => (hb1.cell (p := ⟨b, o, none⟩) (by simp; omega)).trans (World.cell?_alloc_lt w _ ⟨b, o, none⟩ hbl)
  have e1 : ∀ k, k < w.heap.size → w1.heap[k]? = w.heap[k]? := fun k hk => (hb1.block k (by simp; omega)).trans (Below.heap_alloc w _ k hk)
  have hy5 := (Box5.new w (.int .i64 y.kind) (.int .i64 y.num) (.string y.str) (.slice A3 y.keys.length c3) (.slice A4 y.kids.length c4)).same (hb1.block w.heap.size (by simp))
  rw [← k1] at p0 p1 p2 p3 p4
  have E1 := Lib.hid e1; have HY5 := Lib.hid hy5; have HB1 := Lib.hid hb1
  clear k1 e1 hy5 hb1
  go_wp2_with fail
  refine (keyOf_any x.kind s w1 HS.out).mono ?_
  rintro e w2 ⟨rfl, rfl⟩
  rw [HXK.out]
  go_wp2_with fail
  refine (search_any (B := w.heap.size) (HX.out.doc.keys_.keep fun p hp => World.cell?_of_block (E1.out p.block hp)) HRI.out hkeys).mono ?_
  rintro e w2 ⟨f, rfl, rfl⟩
  go_wp2_with fail
  have hown : (w1.alloc (.cells #[.string s] 9)).ownsRow base 9 1 (.slice X3 x.keys.length d3) x.keys.length (x.keys.map Value.string) := ownsRow_same HK3W.out fun k hk => by
    have h1 := (HK3W.out.lt k (blk_mem.1 hk)).2
    exact (Below.heap_alloc w1 _ k (by omega)).trans (E1.out k h1)
  have HOW := Lib.hid hown; clear hown
  refine (insS_any (vb := w1.heap.size) (y0 := .string s) (i := placeOf x.keys s) HOW.out (by intro u hu; simp only [List.mem_map] at hu; obtain ⟨z, _, rfl⟩ := hu; rfl) hpl hkeys (heap_alloc_new w1 _) (by intro u hu; simp at hu; subst hu; rfl) (fun h => by have := (HL.out.2.1 _ h).2; omega) (by have := HBS.out; simp; omega)).mono ?_
  rintro e w3 ⟨g3, cap3, rfl, hown3, hgr3, hat3⟩
  have hz3 := hgr3.size
  simp only [World.size_alloc] at hz3
  have e3 : ∀ k, k < w1.heap.size → (Value.slice X3 x.keys.length d3).ownBlock ≠ some k → w3.heap[k]? = w1.heap[k]? := fun k hk hne => (hgr3.block k (by simp; omega) (fun e => hne e.symm)).trans (Below.heap_alloc w1 _ k hk)
  have kb : w3.heap[b]? = w1.heap[b]? := e3 b (by omega) HL.out.1.1
  have k3 : ∀ o, w3.cell? ⟨b, o, none⟩ = w1.cell? ⟨b, o, none⟩ := fun o => World.cell?_of_block (a := ⟨b, o, none⟩) kb
  have f3 : ∀ o, w3.frozen? ⟨b, o, none⟩ = false := fun o => by
    obtain ⟨cur, hcur⟩ := HBK.out
    simp [World.frozen?, kb.trans ((E1.out b hbl).trans hcur)]
  rw [← k3] at p0 p1 p2 p3 p4
  have hy3 : Box5 w3 w.heap.size (.int .i64 y.kind) (.int .i64 y.num) (.string y.str) (.slice A3 y.keys.length c3) (.slice A4 y.kids.length c4) := HY5.out.same (e3 w.heap.size (by omega) fun h => by have := (HL.out.2.1 _ h).2; omega)
  have HY3 := Lib.hid hy3; have E3 := Lib.hid e3; have KB := Lib.hid kb; have HO3 := Lib.hid hown3; have HG3 := Lib.hid hgr3; have HA3 := Lib.hid hat3
  clear hown3 hgr3 hat3 e3 kb k3 hy3
  go_wp2_with fail
  obtain ⟨W4, hW4⟩ : ∃ W4, W4 = w3.setCell ⟨b, off + 3, none⟩ (.slice (some ⟨g3, 0, none⟩) (x.keys.length + 1) cap3) := ⟨_, rfl⟩
  have hb4 : ∀ k, k ≠ b → W4.heap[k]? = w3.heap[k]? := fun k hk => by rw [hW4]; exact Below.heap_setCell w3 _ _ k hk
  have hz4 : W4.heap.size = w3.heap.size := by rw [hW4]; simp
  have hy4 : Box5 W4 w.heap.size (.int .i64 y.kind) (.int .i64 y.num) (.string y.str) (.slice A3 y.keys.length c3) (.slice A4 y.kids.length c4) := HY3.out.same (hb4 _ (by omega))
  have c4' : ∀ o, o ≠ off + 3 → W4.cell? ⟨b, o, none⟩ = w3.cell? ⟨b, o, none⟩ := fun o ho => by rw [hW4]; exact World.cell?_setCell_other _ _ _ _ (by intro e; injection e with _ e _; exact ho e.symm)
  have m0 : W4.cell? ⟨b, off, none⟩ = some (.int .i64 x.kind) := (c4' _ (by omega)).trans p0
  have m1 : W4.cell? ⟨b, off + 1, none⟩ = some (.int .i64 x.num) := (c4' _ (by omega)).trans p1
  have m2 : W4.cell? ⟨b, off + 2, none⟩ = some (.string x.str) := (c4' _ (by omega)).trans p2
  have m3 : W4.cell? ⟨b, off + 3, none⟩ = some (.slice (some ⟨g3, 0, none⟩) (x.keys.length + 1) cap3) := by rw [hW4]; exact World.cell?_setCell_same _ _ _ p3
  have m4 : W4.cell? ⟨b, off + 4, none⟩ = some (.slice X4 x.kids.length d4) := (c4' _ (by omega)).trans p4
  obtain ⟨s0, s1, s2, s3, s4⟩ := hy4.cells
  rw [← hW4]
  have hx4 : W4.ownsRow base 29 5 (.slice X4 x.kids.length d4) x.kids.length HCS := ownsRow_same HR4W.out fun k hk => by
    have h1 := (HL.out.2.2 k (blk_mem.1 hk)).2
    have hkb : k ≠ b := fun h => HL.out.1.2 (h ▸ blk_mem.1 hk)
    have h34 : (Value.slice X3 x.keys.length d3).ownBlock ≠ some k := fun h => by
      have hn := HNG.out
      rw [HGE.out] at hn
      simp only [List.nodup_append, List.mem_append, ne_eq] at hn
      exact hn.2.2 k (blk_mem.2 h) k (.inl hk) rfl
    exact (hb4 k hkb).trans ((E3.out k (by omega) h34).trans (E1.out k h1))
  have HX4 := Lib.hid hx4; have HY4 := Lib.hid hy4; have HB4 := Lib.hid hb4
  have HP := Lib.hid (show placeOf x.keys s ≤ x.kids.length by have := HKK.out; omega)
  have HONE := Lib.hid (oneCell_own HKD.out)
  have HM := Lib.hid (And.intro m0 (And.intro m1 (And.intro m2 m3)))
  have hne : b ≠ w.heap.size := by omega
  have hbs : b < w3.heap.size := by omega
  have hws : w.heap.size < w3.heap.size := by omega
  have HW4 := Lib.hid hW4
  have f4 : ∀ o, W4.frozen? ⟨b, o, none⟩ = false := fun o => by rw [hW4]; simpa using f3 o
  have hcall := insD_any (w := (W4.alloc (.cells #[.int .i64 y.kind, .int .i64 y.num, .string y.str, .slice A3 y.keys.length c3, .slice A4 y.kids.length c4] 29)).drew) (vb := w3.heap.size) (i := placeOf x.keys s) (ownsRow_same (w' := (W4.alloc (.cells #[.int .i64 y.kind, .int .i64 y.num, .string y.str, .slice A3 y.keys.length c3, .slice A4 y.kids.length c4] 29)).drew) HX4.out fun k hk => Below.heap_alloc W4 _ k (HX4.out.lt k (blk_mem.1 hk)).2) HONE.out HP.out hkl (Box5.new' (w := W4) hz4 _ _ _ _ _) (oneCell_agg HY.out.doc) (fun h => by have := (HL.out.2.2 _ h).2; omega) (by have := HBS.out; show base ≤ (W4.alloc _).heap.size; simp; omega)
  have HCALL := Lib.hid hcall; clear hcall
  clear hx4 hy4 hb4 c4' m0 m1 m2 m3 hW4 f3 p0 p1 p2 p3 p4
  go_region_law
    (first | (go_simp; go_at_call 98; (refine HCALL.out.mono ?_); (rintro e w6 ⟨g4, cap4, rfl, hown6, hgr6, hat6⟩); (have kb6 : w6.heap[b]? = W4.heap[b]? := (hgr6.block b (by show b < (W4.alloc _).heap.size; simp; omega) (fun e => HL.out.1.2 e.symm)).trans (Below.heap_alloc W4 _ b (by omega))); (have q6 : w6.cell? ⟨b, off + 4, none⟩ = some (.slice X4 x.kids.length d4) := (World.cell?_of_block (a := ⟨b, off + 4, none⟩) kb6).trans m4); (have f6 : ∀ o, w6.frozen? ⟨b, o, none⟩ = false := fun o => (World.frozen?_of_block (a := ⟨b, o, none⟩) kb6).trans (f4 o)); (have HE6 := Lib.hid (And.intro hown6 (And.intro hgr6 (And.intro hat6 kb6)))); (clear hown6 hgr6 hat6 kb6)))
  all_goals (go_wp2_with fail; go_ret)
  all_goals (
    refine ⟨rfl, ?_⟩
    obtain ⟨hown6, hgr6, hat6, kb6⟩ := HE6.out
    obtain ⟨⟨n3, n4⟩, l3, l4⟩ := HL.out
    obtain ⟨m0, m1, m2, m3⟩ := HM.out
    obtain ⟨curb, hcurb⟩ := HBK.out
    have z6 := hgr6.size
    have z5 : ((W4.alloc (.cells #[.int .i64 y.kind, .int .i64 y.num, .string y.str, .slice A3 y.keys.length c3, .slice A4 y.kids.length c4] 29)).drew).heap.size = w3.heap.size + 1 := by show (W4.alloc _).heap.size = _; simp [hz4]
    rw [z5] at z6
    have z2 : (w1.alloc (.cells #[.string s] 9)).heap.size = w1.heap.size + 1 := by simp
    have hnd := HNG.out
    rw [HGE.out] at hnd
    simp only [List.nodup_append, List.mem_append, ne_eq] at hnd
    have x34 : ∀ k, (Value.slice X3 x.keys.length d3).ownBlock = some k → (Value.slice X4 x.kids.length d4).ownBlock ≠ some k := fun k h h' => hnd.2.2 k (blk_mem.2 h) k (.inl (blk_mem.2 h')) rfl
    have lg3 : g3 < w3.heap.size := (HO3.out.lt g3 rfl).2
    have lg4 : g4 < w6.heap.size := (hown6.lt g4 rfl).2
    have hat3 : (Value.slice X3 x.keys.length d3).ownBlock = some g3 ∨ w1.heap.size < g3 := by
      rcases HA3.out with h | h
      · exact .inl h
      · rw [z2] at h; exact .inr (by omega)
    have hat4 : (Value.slice X4 x.kids.length d4).ownBlock = some g4 ∨ w3.heap.size < g4 := by
      rcases hat6 with h | h
      · exact .inl h
      · rw [z5] at h; exact .inr (by omega)
    have g3b : g3 ≠ b := by
      rcases hat3 with h | h
      · rintro rfl; exact n3 h
      · omega
    have g4b : g4 ≠ b := by
      rcases hat4 with h | h
      · rintro rfl; exact n4 h
      · omega
    have g3x : (Value.slice X4 x.kids.length d4).ownBlock ≠ some g3 := by
      rcases hat3 with h | h
      · exact x34 g3 h
      · intro h'; have := (l4 g3 h').2; omega
    have hW5 : ∀ k, k < w3.heap.size → (Value.slice X4 x.kids.length d4).ownBlock ≠ some k → w6.heap[k]? = W4.heap[k]? := fun k hk h => (hgr6.block k (by rw [z5]; omega) (fun e => h e.symm)).trans (Below.heap_alloc W4 _ k (by omega))
    have hWk : ∀ k, k ≠ b → (w6.setCell ⟨b, off + 4, none⟩ (.slice (some ⟨g4, 0, none⟩) (x.kids.length + 1) cap4)).heap[k]? = w6.heap[k]? := fun k hk => Below.heap_setCell w6 _ _ k hk
    have cW : ∀ o, o ≠ off + 4 → (w6.setCell ⟨b, off + 4, none⟩ (.slice (some ⟨g4, 0, none⟩) (x.kids.length + 1) cap4)).cell? ⟨b, o, none⟩ = W4.cell? ⟨b, o, none⟩ := fun o ho => (World.cell?_setCell_other _ _ _ _ (by intro e; injection e with _ e _; exact ho e.symm)).trans (World.cell?_of_block (a := ⟨b, o, none⟩) kb6)
    have hw3b : w3.heap[b]? = w.heap[b]? := KB.out.trans (E1.out b hbl)
    have hu4 : UpdBlk w W4 b off := by rw [HW4.out]; exact ((UpdBlk.refl off hcurb).same hw3b).setCell (by omega) (by omega) _
    refine ins_fin (v3 := .slice X3 x.keys.length d3) (v4 := .slice X4 x.kids.length d4) (g3 := g3) (g4 := g4) (cap3 := cap3) (cap4 := cap4) (Fs := Fs) (cs := HCS) ⟨(cW _ (by omega)).trans m0, (cW _ (by omega)).trans m1, (cW _ (by omega)).trans m2, (cW _ (by omega)).trans m3, World.cell?_setCell_same _ _ _ q6⟩ ((hu4.same kb6).setCell (by omega) (by omega) _)
      ?_ (ownsRow_same hown6 fun k hk => hWk k (by
        have : k = g4 := by simpa [blk, Value.ownBlock] using hk
        rw [this]; exact g4b)) HK3W.out HR4W.out HKD.out HY.out hyn HDIS.out HGE.out HNG.out HNB.out hbl HKK.out (fun k hk h1 h2 h3 => ?_) ?_ ?_ ?_ ?_
    · have h := ownsRow_same (w' := w6.setCell ⟨b, off + 4, none⟩ (.slice (some ⟨g4, 0, none⟩) (x.kids.length + 1) cap4)) HO3.out fun k hk => by
        have e : k = g3 := by simpa [blk, Value.ownBlock] using hk
        rw [e]
        exact (hWk g3 g3b).trans ((hW5 g3 lg3 g3x).trans (HB4.out g3 g3b))
      have e : (x.keys.map Value.string).take (placeOf x.keys s * 1) ++ ([Value.string s] ++ (x.keys.map Value.string).drop (placeOf x.keys s * 1)) = (x.insP s y).keys.map Value.string := by
        show _ = (x.keys.take _ ++ s :: x.keys.drop _).map Value.string
        simp [List.map_take, List.map_drop]
      rw [e] at h
      exact h
    · exact (hWk k h1).trans ((hW5 k (by omega) (fun h => h3 (blk_mem.2 h))).trans ((HB4.out k h1).trans ((E3.out k (by omega) (fun h => h2 (blk_mem.2 h))).trans (E1.out k hk))))
    · rcases hat3 with h | h
      · exact .inl (blk_mem.2 h)
      · exact .inr (by omega)
    · rcases hat4 with h | h
      · exact .inl (blk_mem.2 h)
      · exact .inr (by omega)
    · intro h
      rcases hat4 with h' | h'
      · exact g3x (h ▸ h')
      · omega
    · have t1 : Turned w w1 G b := Turned.of_below (((Below.refl _ _).alloc (Nat.le_refl _) _).trans (HB1.out.mono (by simp))) _ _
      have t3 : Turned w w3 G b := (t1.alloc _).grown HG3.out fun j hj => .inl (by rw [HGE.out]; simp [blk_mem, hj])
      have t4 : Turned w W4 G b := by rw [HW4.out]; exact t3.setCell (.inr (.inl rfl)) _
      have t6 : Turned w w6 G b := ((t4.alloc _).drew).grown hgr6 fun j hj => .inl (by rw [HGE.out]; simp [blk_mem, hj])
      exact t6.setCell (.inr (.inl rfl)) _)
end Go.Proofs.YtlemlgllkcgigaaGreatDoor
