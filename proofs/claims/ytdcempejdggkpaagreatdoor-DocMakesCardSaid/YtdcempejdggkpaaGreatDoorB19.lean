/-
  
-/
import Derived.Test.YtdcempejdggkpaaGreatDoorB18
import Derived.Test.YtdcempejdggkpaaGreatDoorB07
import Derived.Deep.RegionHeld3
namespace Go.Proofs.YtdcempejdggkpaaGreatDoor
open Go.RowKit

/-- The document at b, off is x' now. -/
def SetOk (w : World) (base : Nat) (x' : D) (b off : Nat) (G FY : List Nat) (w' : World) : Prop :=
  ∃ (y0 y1 y2 y3 y4 : Value) (G' : List Nat), UpdBlk w w' b off ∧ Cells5 w' b off y0 y1 y2 y3 y4 ∧ OwnIn w' base x' y0 y1 y2 y3 y4 G' ∧ G'.Nodup ∧ b ∉ G' ∧ (∀ k ∈ G', k ∈ G ∨ k ∈ FY ∨ w.heap.size ≤ k) ∧ Turned w w' G b

theorem SetOk.drew {w w' : World} {base b off : Nat} {x' : D} {G FY : List Nat} (h : SetOk w base x' b off G FY w') : SetOk w base x' b off G FY w'.drew := by
  obtain ⟨y0, y1, y2, y3, y4, G', h1, h2, h3, h4, h5, h6, h7⟩ := h
  exact ⟨y0, y1, y2, y3, y4, G', h1.same rfl, h2.keep fun _ => rfl, h3.same (Nat.le_refl _) fun _ _ => rfl, h4, h5, h6, h7.drew⟩
theorem Cells5.setAll {w : World} {b off : Nat} {v0 v1 v2 v3 v4 : Value} (h : Cells5 w b off v0 v1 v2 v3 v4) (y0 y1 y2 y3 y4 : Value) :
    Cells5 (((((w.setCell ⟨b, off, none⟩ y0).setCell ⟨b, off + 1, none⟩ y1).setCell ⟨b, off + 2, none⟩ y2).setCell ⟨b, off + 3, none⟩ y3).setCell ⟨b, off + 4, none⟩ y4) b off y0 y1 y2 y3 y4 := by
  obtain ⟨h0, h1, h2, h3, h4⟩ := h
  constructor <;> go_simp
def D.snoc (d : D) (y : D) : D := .mk d.kind d.num d.str d.keys (d.kids ++ [y])

set_option maxHeartbeats 4000000 in
set_option maxRecDepth 100000 in
theorem set_there {x y : D} {u0 u1 u2 u3 u4 y0 y1 y2 y3 y4 : Value} {s : ByteArray} {w : World} {base b off i : Nat} {G FY : List Nat} (hf : x.Fit) (hs : Short s) (hg : Glob w) (hc : Cells5 w b off u0 u1 u2 u3 u4) (hx : OwnIn w base x u0 u1 u2 u3 u4 G) (hn : G.Nodup) (hb : b ∉ G)
    (hblk : ∃ cur : Array Value, w.heap[b]? = some (.cells cur 27 (0, 0))) (hy : OwnIn w base y y0 y1 y2 y3 y4 FY) (hyn : FY.Nodup) (hdis : ∀ k ∈ FY, k ∉ G ∧ k ≠ b) (hst : stepD x s = some i) :
    Calls Tryz.prog 31 #[.pointer (some ⟨b, off, none⟩), .string s, .agg #[y0, y1, y2, y3, y4]] w fun e w' => e = .returned (.bool true) ∧ SetOk w base (x.setKid i y) b off G FY w' := by
  obtain ⟨hik, hfi⟩ := stepD_lt hf.keys hst
  have hkl := hf.kids
  have HX := Lib.hid hx; have HY := Lib.hid hy; have HC := Lib.hid hc; have HF := Lib.hid hf; have HS := Lib.hid hs; have HG := Lib.hid hg; have HFI := Lib.hid hfi
  have hbl := hc.lt
  obtain ⟨e0, e1, e2, hk3, cs, Fs, hr4, hkids, rfl⟩ := hx.parts
  obtain ⟨g, cap, rfl, hgb, hgl⟩ := hr4.form (by omega)
  obtain ⟨f0, f1, f2, f3, f4, G0, hfo⟩ := focus [i] x x.kids[i] b off _ _ _ _ _ _ g (i * 5) hblk hc hx hn hb (by simp [D.subAt, List.getElem?_eq_getElem hik]) ⟨g, 0, _, _, hc.c4, by simp [Leads]⟩
  have HFO := Lib.hid hfo
  obtain ⟨A3, c3, A4, c4, rfl, rfl, rfl, rfl, rfl⟩ := hy.doc.forms
  obtain ⟨X3, d3, X4, d4, q0, q1, q2, q3, q4⟩ := hx.doc.forms
  subst q0; subst q1; subst q2; subst q3
  injection q4 with q4 _ q5
  obtain ⟨p0, p1, p2, p3, p4⟩ := hc
  have hcap : x.kids.length ≤ cap := hx.doc.kids_.2.1
  have hgcur : ∃ cur : Array Value, w.heap[g]? = some (.cells cur 27 (0, 0)) := by
    rcases hr4.2 with ⟨e, _⟩ | ⟨g', cap', cur0, e, _, hh, _⟩
    · cases e
    · injection e with e _ _
      injection e with e
      injection e with e
      subst e
      exact ⟨cur0, hh⟩
  have HGC := Lib.hid hgcur; have HBK := Lib.hid hblk; have HDIS := Lib.hid hdis; have HNB := Lib.hid hb
  clear hgcur hblk hdis hb
  clear hx hy hf hs hg hst hfi hr4 hk3 hkids e0 e1 e2 q4 q5 hfo
  go_enter Tryz.func31, Tryz.ntmps31
  go_wp2_with fail
  refine (find_any (B := w.heap.size) HF.out HS.out (HG.out.alloc _) (by simp) (HX.out.doc.keep (Nat.le_refl _) fun p hp => World.cell?_alloc_lt w _ p hp)).mono ?_
  rintro e w1 ⟨rfl, hb1⟩
  rw [HFI.out]
  have hz1 := hb1.size
  simp only [World.size_alloc] at hz1
  have k1 : ∀ o, w1.cell? ⟨b, o, none⟩ = w.cell? ⟨b, o, none⟩ := fun o => (hb1.cell (p := ⟨b, o, none⟩) (by simp; omega)).trans (World.cell?_alloc_lt w _ ⟨b, o, none⟩ hbl)
  have k2 : ∀ o, w1.cell? ⟨g, o, none⟩ = w.cell? ⟨g, o, none⟩ := fun o => (hb1.cell (p := ⟨g, o, none⟩) (by simp; omega)).trans (World.cell?_alloc_lt w _ ⟨g, o, none⟩ hgl)
  have hy5 := (Box5.new w (.int .i64 y.kind) (.int .i64 y.num) (.string y.str) (.slice A3 y.keys.length c3) (.slice A4 y.kids.length c4)).same (hb1.block w.heap.size (by simp))
  have hg5 := HFO.out.cells.keep (w' := w1) k2
  rw [← k1] at p0 p1 p2 p3 p4
  obtain ⟨s0, s1, s2, s3, s4⟩ := hy5.cells
  have HG5 := Lib.hid hg5
  obtain ⟨r0, r1, r2, r3, r4⟩ := hg5
  have rf : ∀ o, w1.frozen? ⟨g, o, none⟩ = false := fun o => by
    obtain ⟨cur, hcur⟩ := HGC.out
    have : w1.heap[g]? = some (.cells cur 27 (0, 0)) := (hb1.block g (by simp; omega)).trans ((Below.heap_alloc w _ g hgl).trans hcur)
    simp [World.frozen?, this]
  have hgne : g ≠ w.heap.size := by omega
  have hil : (i : Int) < (x.kids.length : Int) := by omega
  have hi0 : (0 : Int) ≤ (i : Int) := by omega
  clear hy5 k1 k2
  go_wp2_with fail
  refine wp_region_still_tail 7 (by kernel_rfl) (by kernel_rfl) ?_
  change wpStill _ _ (World.drew w1) (fun a' => wpList _ _ _ _ a' (World.drew w1)) _ _
  simp only [List.take_succ_cons, List.take_zero, List.drop_succ_cons, List.drop_zero]
  repeat still_step
  refine wpStill_nil ?_
  go_wp2_with fail
  go_ret
  refine ⟨rfl, ?_⟩
  have hgx := HFO.out; have hgcur := HGC.out; have hblk := HBK.out; have hdis := HDIS.out; have hb := HNB.out
  have hgm : g ∈ blk (.slice X3 x.keys.length d3) ++ (blk (.slice (some ⟨g, 0, none⟩) x.kids.length cap) ++ Fs) := by simp [blk, Value.ownBlock]
  have hbg : b ≠ g := fun h => hb (h ▸ hgm)
  have ht1 : Turned w w1 (blk (.slice X3 x.keys.length d3) ++ (blk (.slice (some ⟨g, 0, none⟩) x.kids.length cap) ++ Fs)) b := Turned.of_below (((Below.refl _ _).alloc (Nat.le_refl _) _).trans (hb1.mono (by simp))) _ _
  have ht2 := ((((ht1.setCell (p := ⟨g, i * 5, none⟩) (.inl hgm) (.int .i64 y.kind)).setCell (p := ⟨g, i * 5 + 1, none⟩) (.inl hgm) (.int .i64 y.num)).setCell (p := ⟨g, i * 5 + 2, none⟩) (.inl hgm) (.string y.str)).setCell (p := ⟨g, i * 5 + 3, none⟩) (.inl hgm) (.slice A3 y.keys.length c3)).setCell (p := ⟨g, i * 5 + 4, none⟩) (.inl hgm) (.slice A4 y.kids.length c4)
  have hfar : ∀ k, k ≠ g → k < w.heap.size → (((((w1.setCell ⟨g, i * 5, none⟩ (.int .i64 y.kind)).setCell ⟨g, i * 5 + 1, none⟩ (.int .i64 y.num)).setCell ⟨g, i * 5 + 2, none⟩ (.string y.str)).setCell ⟨g, i * 5 + 3, none⟩ (.slice A3 y.keys.length c3)).setCell ⟨g, i * 5 + 4, none⟩ (.slice A4 y.kids.length c4)).heap[k]? = w.heap[k]? := fun k hk hk2 => by
    rw [Below.heap_setCell _ _ _ k hk, Below.heap_setCell _ _ _ k hk, Below.heap_setCell _ _ _ k hk, Below.heap_setCell _ _ _ k hk, Below.heap_setCell _ _ _ k hk]
    exact (hb1.block k (by simp; omega)).trans (Below.heap_alloc w _ k hk2)
  obtain ⟨curb, hcurb⟩ := hblk
  have hub : UpdBlk w w1 g (i * 5) := by
    obtain ⟨cur, hcur⟩ := hgcur
    exact (UpdBlk.refl _ hcur).same ((hb1.block g (by simp; omega)).trans (Below.heap_alloc w _ g hgl))
  have hu2 := ((((hub.setCell (o := i * 5) (by omega) (by omega) (.int .i64 y.kind)).setCell (o := i * 5 + 1) (by omega) (by omega) (.int .i64 y.num)).setCell (o := i * 5 + 2) (by omega) (by omega) (.string y.str)).setCell (o := i * 5 + 3) (by omega) (by omega) (.slice A3 y.keys.length c3)).setCell (o := i * 5 + 4) (by omega) (by omega) (.slice A4 y.kids.length c4)
  have hGl := HX.out.lt
  have hYl := HY.out.lt
  obtain ⟨z0, z1, z2, z3, z4, F', k1, k2, k3, k4, k5⟩ := hgx.back (((((w1.setCell ⟨g, i * 5, none⟩ (.int .i64 y.kind)).setCell ⟨g, i * 5 + 1, none⟩ (.int .i64 y.num)).setCell ⟨g, i * 5 + 2, none⟩ (.string y.str)).setCell ⟨g, i * 5 + 3, none⟩ (.slice A3 y.keys.length c3)).setCell ⟨g, i * 5 + 4, none⟩ (.slice A4 y.kids.length c4)) y _ _ _ _ _ FY (fun k hk _ hkg => hfar k hkg (hGl k hk).2) (fun h => hfar b h hbl) hu2 (HG5.out.setAll _ _ _ _ _)
    (HY.out.same (Nat.le_refl _) fun k hk => hfar k (fun h => (hdis k hk).1 (h ▸ hgm)) (hYl k hk).2) hyn (fun k hk => .inr (hdis k hk)) (fun h => (hdis g h).1 hgm)
  have hrep : D.repl x [i] y = x.setKid i y := by simp [D.repl, List.getElem?_eq_getElem hik]
  rw [hrep] at k2
  have l1 := (UpdBlk.refl off hcurb).same (hfar b hbg hbl)
  have l2 : ∀ k ∈ F', k ∈ blk (.slice X3 x.keys.length d3) ++ (blk (.slice (some ⟨g, 0, none⟩) x.kids.length cap) ++ Fs) ∨ k ∈ FY ∨ w.heap.size ≤ k := fun k hk => by
    rcases k5 k hk with h | h
    · exact .inl h
    · exact .inr (.inl h)
  exact SetOk.drew ⟨z0, z1, z2, z3, z4, F', l1, k1, k2, k3, k4, l2, ht2⟩
end Go.Proofs.YtdcempejdggkpaaGreatDoor
