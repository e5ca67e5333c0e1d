/-
  
-/
import Derived.Test.YtdcempejdggkpaaGreatDoorB20
namespace Go.Proofs.YtdcempejdggkpaaGreatDoor
open Go.RowKit
attribute [local go_sem ↓] Go.wp_at_zero Go.wp_at_succ

set_option maxHeartbeats 4000000 in
set_option maxRecDepth 100000 in
theorem set_push {x y : D} {u0 u1 u2 u3 u4 y0 y1 y2 y3 y4 : Value} {s : ByteArray} {w : World} {base b off : Nat} {G FY : List Nat} (hf : x.Fit) (hs : Short s) (hg : Glob w) (hc : Cells5 w b off u0 u1 u2 u3 u4) (hx : OwnIn w base x u0 u1 u2 u3 u4 G) (hn : G.Nodup) (hb : b ∉ G)
    (hblk : ∃ cur : Array Value, w.heap[b]? = some (.cells cur 27 (0, 0))) (hy : OwnIn w base y y0 y1 y2 y3 y4 FY) (hyn : FY.Nodup) (hdis : ∀ k ∈ FY, k ∉ G ∧ k ≠ b) (hst : findI x s = -1) (hk : x.kind = 3) (hpl : placeI s = x.kids.length) (hbase : base ≤ w.heap.size) :
    Calls Tryz.prog 31 #[.pointer (some ⟨b, off, none⟩), .string s, .agg #[y0, y1, y2, y3, y4]] w fun e w' => e = .returned (.bool true) ∧ SetOk w base (x.snoc y) b off G FY w' := by
  have hkl := hf.kids
  have HX := Lib.hid hx; have HY := Lib.hid hy; have HC := Lib.hid hc; have HF := Lib.hid hf; have HS := Lib.hid hs; have HG := Lib.hid hg; have HFI := Lib.hid hst; have HPL := Lib.hid hpl
  have hbl := hc.lt
  have HBS := Lib.hid hbase; clear hbase
  obtain ⟨A3, c3, A4, c4, rfl, rfl, rfl, rfl, rfl⟩ := hy.doc.forms
  obtain ⟨X3, d3, X4, d4, rfl, rfl, rfl, rfl, rfl⟩ := hx.doc.forms
  obtain ⟨_, _, _, hk3w, HCS, Fs, hr4w, hkdw, hGe⟩ := hx.parts
  have hxlt := hx.lt
  have HK3W := Lib.hid hk3w; have HR4W := Lib.hid hr4w; have HKD := Lib.hid hkdw; have HGE := Lib.hid hGe
  have HCE := Lib.hid hc
  clear hk3w hr4w hkdw hGe
  obtain ⟨p0, p1, p2, p3, p4⟩ := hc
  have hxk : keyOfB x.kind s = false := by simp [keyOfB, hk]
  have HXK := Lib.hid hxk
  have HBK := Lib.hid hblk; have HDIS := Lib.hid hdis; have HNB := Lib.hid hb
  have hk3 : (x.kind == 3) = true := by simp [hk]
  clear hxlt hblk hdis hb hx hy hf hs hg hst hxk hpl hk
  go_enter Tryz.func31, Tryz.ntmps31
  go_wp2_with fail
  refine (find_any (B := w.heap.size) HF.out HS.out (HG.out.alloc _) (by simp) (HX.out.doc.keep (Nat.le_refl _) fun p hp => World.cell?_alloc_lt w _ p hp)).mono ?_
  rintro e w1 ⟨rfl, hb1⟩
  rw [HFI.out]
  have hz1 := hb1.size
  simp only [World.size_alloc] at hz1
  have k1 : ∀ o, w1.cell? ⟨b, o, none⟩ = w.cell? ⟨b, o, none⟩ := fun o => (hb1.cell (p := ⟨b, o, none⟩) (by simp; omega)).trans (World.cell?_alloc_lt w _ ⟨b, o, none⟩ hbl)
  have hy5 := (Box5.new w (.int .i64 y.kind) (.int .i64 y.num) (.string y.str) (.slice A3 y.keys.length c3) (.slice A4 y.kids.length c4)).same (hb1.block w.heap.size (by simp))
  rw [← k1] at p0 p1 p2 p3 p4
  clear k1
  go_wp2_with fail
  refine (keyOf_any x.kind s w1 HS.out).mono ?_
  rintro e w2 ⟨rfl, rfl⟩
  rw [HXK.out]
  go_wp2_with fail
  have hgl1 : Glob w1 := (HG.out.alloc _).below hb1 (by have := HG.out.size; simp; omega)
  have HGL1 := Lib.hid hgl1; clear hgl1
  have HB1 := Lib.hid hb1; have HY5 := Lib.hid hy5; clear hb1 hy5
  go_region_held3 (fun w' => w'.cell? ⟨b, off, none⟩ = some (.int .i64 x.kind) ∧ w'.cell? ⟨b, off + 4, none⟩ = some (.slice X4 x.kids.length d4))
    (first | go_keep | (exact ⟨(hb2.cell (p := ⟨b, off, none⟩) (by simp; omega)).trans p0, (hb2.cell (p := ⟨b, off + 4, none⟩) (by simp; omega)).trans p4⟩))
    ((go_at_call 47; refine (place_any s _ HS.out (HGL1.out.below (Below.refl _ _).drew (by have := HGL1.out.size; omega))).mono ?_; rintro e w2 ⟨rfl, hb2⟩; rw [HPL.out]))
  go_wp2_with fail
  have hz2 : w1.heap.size ≤ w2.heap.size := hb2.size
  have hbb1 : Below w.heap.size w w1 := ((Below.refl _ _).alloc (Nat.le_refl _) _).trans (HB1.out.mono (by simp))
  have hbb : Below w.heap.size w w2 := hbb1.trans (((Below.refl w1.heap.size w1).drew.trans (hb2.mono (Nat.le_refl _))).mono (by omega))
  have hy5' := HY5.out.same (w' := w2) (hb2.block w.heap.size (by simp; omega))
  have hr4 : w2.ownsRow base 27 5 (.slice X4 x.kids.length d4) x.kids.length HCS := ownsRow_same HR4W.out fun k hk => hbb.block k (HR4W.out.lt k (blk_mem.1 hk)).2
  have HR4 := Lib.hid hr4
  have m0 : w2.cell? ⟨b, off, none⟩ = some (.int .i64 x.kind) := (hb2.cell (p := ⟨b, off, none⟩) (by simp; omega)).trans p0
  have m4 : w2.cell? ⟨b, off + 4, none⟩ = some (.slice X4 x.kids.length d4) := (hb2.cell (p := ⟨b, off + 4, none⟩) (by simp; omega)).trans p4
  have mf : ∀ o, w2.frozen? ⟨b, o, none⟩ = false := fun o => by
    obtain ⟨cur, hcur⟩ := HBK.out
    have : w2.heap[b]? = some (.cells cur 27 (0, 0)) := (hbb.block b hbl).trans hcur
    simp [World.frozen?, this]
  obtain ⟨s0, s1, s2, s3, s4⟩ := hy5'.cells
  have HY5' := Lib.hid hy5'; have HB2 := Lib.hid hb2; have HBB := Lib.hid hbb; have HBB1 := Lib.hid hbb1
  obtain ⟨i0, hi, hz0, hz1, hz2⟩ := info_parts infoD
  have HI := Lib.hid hi; have HZ0 := Lib.hid hz0; have HZ1 := Lib.hid hz1; have HZ2 := Lib.hid hz2
  clear hi hz0 hz1 hz2 hr4 hy5' hb2 hbb hbb1 p0 p1 p2 p3 p4
  have ag1 : (Value.slice X4 x.kids.length d4).ownBlock ≠ some b := fun h => HNB.out (by rw [HGE.out]; simp [blk_mem, h])
  have ag2 : (Value.slice X4 x.kids.length d4).ownBlock ≠ some w.heap.size := fun h => by have := (HR4W.out.lt _ h).2; omega
  have HCL : Hid (HCS.length = x.kids.length * 5) := HR4.out.1
  have ib0 : (0 : Int) ≤ (x.kids.length : Int) := by omega
  have ib1 : (x.kids.length : Int) < ((x.kids.length + 1 : Nat) : Int) := by omega
  have ib2 : (x.kids.length : Int) < (x.kids.length : Int) + 1 := by omega
  have hbw2 : b < w2.heap.size := by omega
  have hyw2 : w.heap.size < w2.heap.size := by omega
  go_region_law (refine step_append_lies _ (by rfl) _ _ _ (by rfl) base 27 i0 (.agg #[.int .i64 0, .int .i64 0, .string ByteArray.empty, .slice none 0 0, .slice none 0 0]) 5 80 Tryz.underlying23 HI.out HZ0.out HZ1.out HZ2.out (by rfl) (by omega) (.slice X4 x.kids.length d4) x.kids.length HCS (by rfl) ((HR4.out.alloc _).drew) ⟨w2.heap.size, 0, none⟩ 1 1 [.int .i64 0, .int .i64 0, .string ⟨#[]⟩, .slice none 0 0, .slice none 0 0] (by rfl) (by rfl) (World.news_of_block (cs := #[.int .i64 0, .int .i64 0, .string ⟨#[]⟩, .slice none 0 0, .slice none 0 0]) (t := 27) (fr := (0, 0)) (heap_alloc_new w2 _)) (by simp [Value.oneCell']) (by omega) (by unfold maxLen; omega) (by omega) (Nat.le_trans HBS.out (by simp; omega)) (w2.heap.size + 1) (by simp) ?_; intro g cap w3 hown3 hgrow3 hat3 hlt3; obtain ⟨t0, t1, t2, t3, t4⟩ := own_last5 hown3 HCL.out; have tf := hown3.frozenAt; have HO3 := Lib.hid hown3; have hgb := ne_of_at hat3 ag1 (by omega); have hgy := ne_of_at hat3 ag2 (by omega); have mf3 : ∀ o, w3.frozen? ⟨b, o, none⟩ = false := (fun o => (hgrow3.frozen_far ⟨b, o, none⟩ (by simp; omega) (Ne.symm ag1)).trans ((frozen_alloc_drew hbw2 _ o).trans (mf o))); have m43 := (hgrow3.cell_far ⟨b, off + 4, none⟩ (by simp; omega) (Ne.symm ag1)).trans ((cell_alloc_drew hbw2 _ (off + 4)).trans m4); have hgb' := Ne.symm hgb; have hgy' := Ne.symm hgy; clear hown3)
  all_goals (go_wp2_with fail)
  all_goals (go_ret)
  all_goals (refine ⟨rfl, ?_⟩)
  all_goals (try rw [setCell_comm _ ⟨b, off + 4, none⟩ ⟨g, x.kids.length * 5, none⟩ _ _ hgb, setCell_comm _ ⟨b, off + 4, none⟩ ⟨g, x.kids.length * 5 + 1, none⟩ _ _ hgb, setCell_comm _ ⟨b, off + 4, none⟩ ⟨g, x.kids.length * 5 + 2, none⟩ _ _ hgb, setCell_comm _ ⟨b, off + 4, none⟩ ⟨g, x.kids.length * 5 + 3, none⟩ _ _ hgb, setCell_comm _ ⟨b, off + 4, none⟩ ⟨g, x.kids.length * 5 + 4, none⟩ _ _ hgb])
  all_goals (exact push_fin HBK.out HCE.out hn HNB.out HY.out hyn HDIS.out HBB.out HK3W.out HR4W.out HKD.out HGE.out _ hgrow3 hat3 HO3.out)
end Go.Proofs.YtdcempejdggkpaaGreatDoor
