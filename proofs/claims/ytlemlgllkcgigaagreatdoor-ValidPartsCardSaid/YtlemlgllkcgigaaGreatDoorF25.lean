/-
  
  
  
  
  A document with one key more: how it lies behind both inserts.
-/
import Derived.Test.YtlemlgllkcgigaaGreatDoorF23
import Derived.Test.YtlemlgllkcgigaaGreatDoorF01
import Derived.Deep.RegionHeld3
import Derived.Deep.RegionLaw
import Derived.Deep.DrawnRows
import Derived.BigRegion
import Derived.Test.YtlemlgllkcgigaaGreatDoorF11
import Derived.Test.YtlemlgllkcgigaaGreatDoorF24
import Derived.Test.YtlemlgllkcgigaaGreatDoorF09
namespace Go.Proofs.YtlemlgllkcgigaaGreatDoor
open Go.RowKit

/-- The document at b, off is x' now. -/
def SetOk (w : World) (base : Nat) (x' : D) (b off : Nat) (G FY : List Nat) (w' : World) : Prop :=
  ∃ (y0 y1 y2 y3 y4 : Value) (G' : List Nat), UpdBlk w w' b off ∧ Cells5 w' b off y0 y1 y2 y3 y4 ∧ OwnIn w' base x' y0 y1 y2 y3 y4 G' ∧ G'.Nodup ∧ b ∉ G' ∧ (∀ k ∈ G', k ∈ G ∨ k ∈ FY ∨ w.heap.size ≤ k) ∧ Turned w w' G b

theorem SetOk.drew {w w' : World} {base b off : Nat} {x' : D} {G FY : List Nat} (h : SetOk w base x' b off G FY w') : SetOk w base x' b off G FY w'.drew := by
  obtain ⟨y0, y1, y2, y3, y4, G', h1, h2, h3, h4, h5, h6, h7⟩ := h
  exact ⟨y0, y1, y2, y3, y4, G', h1.same rfl, h2.keep fun _ => rfl, h3.same (Nat.le_refl _) fun _ _ => rfl, h4, h5, h6, h7.drew⟩
theorem Cells5.setAll {w : World} {b off : Nat} {v0 v1 v2 v3 v4 : Value} (h : Cells5 w b off v0 v1 v2 v3 v4) (y0 y1 y2 y3 y4 : Value) :
    Cells5 (((((w.setCell ⟨b, off, none⟩ y0).setCell ⟨b, off + 1, none⟩ y1).setCell ⟨b, off + 2, none⟩ y2).setCell ⟨b, off + 3, none⟩ y3).setCell ⟨b, off + 4, none⟩ y4) b off y0 y1 y2 y3 y4 := by
  obtain ⟨h0, h1, h2, h3, h4⟩ := h
  constructor <;> go_simp
def D.snoc (d : D) (y : D) : D := .mk d.kind d.num d.str d.keys (d.kids ++ [y])

set_option maxHeartbeats 4000000 in
set_option maxRecDepth 100000 in
theorem set_there {x y : D} {u0 u1 u2 u3 u4 y0 y1 y2 y3 y4 : Value} {s : ByteArray} {w : World} {base b off i : Nat} {G FY : List Nat} (hf : x.Fit) (hs : Short s) (hg : Glob w) (hc : Cells5 w b off u0 u1 u2 u3 u4) (hx : OwnIn w base x u0 u1 u2 u3 u4 G) (hn : G.Nodup) (hb : b ∉ G)
    (hblk : ∃ cur : Array Value, w.heap[b]? = some (.cells cur 29 (0, 0))) (hy : OwnIn w base y y0 y1 y2 y3 y4 FY) (hyn : FY.Nodup) (hdis : ∀ k ∈ FY, k ∉ G ∧ k ≠ b) (hst : stepD x s = some i) :
    Calls Tryz.prog 61 #[.pointer (some ⟨b, off, none⟩), .string s, .agg #[y0, y1, y2, y3, y4]] w fun e w' => e = .returned (.bool true) ∧ SetOk w base (x.setKid i y) b off G FY w' := by
  obtain ⟨hik, hfi⟩ := stepD_lt hf.keys hst
  have hkl := hf.kids
  have HX := Lib.hid hx; have HY := Lib.hid hy; have HC := Lib.hid hc; have HF := Lib.hid hf; have HS := Lib.hid hs; have HG := Lib.hid hg; have HFI := Lib.hid hfi
  have hbl := hc.lt
  obtain ⟨e0, e1, e2, hk3, cs, Fs, hr4, hkids, rfl⟩ := hx.parts
  obtain ⟨g, cap, rfl, hgb, hgl⟩ := hr4.form (by omega)
  obtain ⟨f0, f1, f2, f3, f4, G0, hfo⟩ := focus [i] x x.kids[i] b off _ _ _ _ _ _ g (i * 5) hblk hc hx hn hb (by simp [D.subAt, List.getElem?_eq_getElem hik]) ⟨g, 0, _, _, hc.c4, by simp [Leads]⟩
  have HFO := Lib.hid hfo
  obtain ⟨A3, c3, A4, c4, rfl, rfl, rfl, rfl, rfl⟩ := hy.doc.forms
  obtain ⟨X3, d3, X4, d4, q0, q1, q2, q3, q4⟩ := hx.doc.forms
  subst q0; subst q1; subst q2; subst q3
  injection q4 with q4 _ q5
  obtain ⟨p0, p1, p2, p3, p4⟩ := hc
  have hcap : x.kids.length ≤ cap := hx.doc.kids_.2.1
  have hgcur : ∃ cur : Array Value, w.heap[g]? = some (.cells cur 29 (0, 0)) := by
    rcases hr4.2 with ⟨e, _⟩ | ⟨g', cap', cur0, e, _, hh, _⟩
    · cases e
    · injection e with e _ _
      injection e with e
      injection e with e
      subst e
      exact ⟨cur0, hh⟩
  have HGC := Lib.hid hgcur; have HBK := Lib.hid hblk; have HDIS := Lib.hid hdis; have HNB := Lib.hid hb
  clear hgcur hblk hdis hb
  clear hx hy hf hs hg hst hfi hr4 hk3 hkids e0 e1 e2 q4 q5 hfo
  go_enter Tryz.func61, Tryz.ntmps61
  go_wp2_with fail
  refine (find_any (B := w.heap.size) HF.out HS.out (HG.out.alloc _) (by simp) (HX.out.doc.keep (Nat.le_refl _) fun p hp => World.cell?_alloc_lt w _ p hp)).mono ?_
  rintro e w1 ⟨rfl, hb1⟩
  rw [HFI.out]
  have hz1 := hb1.size
  simp only [World.size_alloc] at hz1
  have k1 : ∀ o, w1.cell? ⟨b, o, none⟩ = w.cell? ⟨b, o, none⟩ := fun o => (hb1.cell (p := ⟨b, o, none⟩) (by simp; omega)).trans (World.cell?_alloc_lt w _ ⟨b, o, none⟩ hbl)
  have k2 : ∀ o, w1.cell? ⟨g, o, none⟩ = w.cell? ⟨g, o, none⟩ := fun o => (hb1.cell (p := ⟨g, o, none⟩) (by simp; omega)).trans (World.cell?_alloc_lt w _ ⟨g, o, none⟩ hgl)
  have hy5 := (Box5.new w (.int .i64 y.kind) (.int .i64 y.num) (.string y.str) (.slice A3 y.keys.length c3) (.slice A4 y.kids.length c4)).same (hb1.block w.heap.size (by simp))
  have hg5 := HFO.out.cells.keep (w' := w1) k2
  rw [← k1] at p0 p1 p2 p3 p4
  obtain ⟨s0, s1, s2, s3, s4⟩ := hy5.cells
  have HG5 := Lib.hid hg5
  obtain ⟨r0, r1, r2, r3, r4⟩ := hg5
  have rf : ∀ o, w1.frozen? ⟨g, o, none⟩ = false := fun o => by
    obtain ⟨cur, hcur⟩ := HGC.out
    have : w1.heap[g]? = some (.cells cur 29 (0, 0)) := (hb1.block g (by simp; omega)).trans ((Below.heap_alloc w _ g hgl).trans hcur)
    simp [World.frozen?, this]
  have hgne : g ≠ w.heap.size := by omega
  have hil : (i : Int) < (x.kids.length : Int) := by omega
  have hi0 : (0 : Int) ≤ (i : Int) := by omega
  clear hy5 k1 k2
  go_wp2_with fail
  refine wp_region_still_tail 7 (by kernel_rfl) (by kernel_rfl) ?_
  change wpStill _ _ (World.drew w1) (fun a' => wpList _ _ _ _ a' (World.drew w1)) _ _
  simp only [List.take_succ_cons, List.take_zero, List.drop_succ_cons, List.drop_zero]
  repeat still_step
  refine wpStill_nil ?_
  go_wp2_with fail
  go_ret
  refine ⟨rfl, ?_⟩
  have hgx := HFO.out; have hgcur := HGC.out; have hblk := HBK.out; have hdis := HDIS.out; have hb := HNB.out
  have hgm : g ∈ blk (.slice X3 x.keys.length d3) ++ (blk (.slice (some ⟨g, 0, none⟩) x.kids.length cap) ++ Fs) := by simp [blk, Value.ownBlock]
  have hbg : b ≠ g := fun h => hb (h ▸ hgm)
  have ht1 : Turned w w1 (blk (.slice X3 x.keys.length d3) ++ (blk (.slice (some ⟨g, 0, none⟩) x.kids.length cap) ++ Fs)) b := Turned.of_below (((Below.refl _ _).alloc (Nat.le_refl _) _).trans (hb1.mono (by simp))) _ _
  have ht2 := ((((ht1.setCell (p := ⟨g, i * 5, none⟩) (.inl hgm) (.int .i64 y.kind)).setCell (p := ⟨g, i * 5 + 1, none⟩) (.inl hgm) (.int .i64 y.num)).setCell (p := ⟨g, i * 5 + 2, none⟩) (.inl hgm) (.string y.str)).setCell (p := ⟨g, i * 5 + 3, none⟩) (.inl hgm) (.slice A3 y.keys.length c3)).setCell (p := ⟨g, i * 5 + 4, none⟩) (.inl hgm) (.slice A4 y.kids.length c4)
  have hfar : ∀ k, k ≠ g → k < w.heap.size → (((((w1.setCell ⟨g, i * 5, none⟩ (.int .i64 y.kind)).setCell ⟨g, i * 5 + 1, none⟩ (.int .i64 y.num)).setCell ⟨g, i * 5 + 2, none⟩ (.string y.str)).setCell ⟨g, i * 5 + 3, none⟩ (.slice A3 y.keys.length c3)).setCell ⟨g, i * 5 + 4, none⟩ (.slice A4 y.kids.length c4)).heap[k]? = w.heap[k]? := fun k hk hk2 => by
    rw [Below.heap_setCell _ _ _ k hk, Below.heap_setCell _ _ _ k hk, Below.heap_setCell _ _ _ k hk, Below.heap_setCell _ _ _ k hk, Below.heap_setCell _ _ _ k hk]
    exact (hb1.block k (by simp; omega)).trans (Below.heap_alloc w _ k hk2)
  obtain ⟨curb, hcurb⟩ := hblk
  have hub : UpdBlk w w1 g (i * 5) := by
    obtain ⟨cur, hcur⟩ := hgcur
    exact (UpdBlk.refl _ hcur).same ((hb1.block g (by simp; omega)).trans (Below.heap_alloc w _ g hgl))
  have hu2 := ((((hub.setCell (o := i * 5) (by omega) (by omega) (.int .i64 y.kind)).setCell (o := i * 5 + 1) (by omega) (by omega) (.int .i64 y.num)).setCell (o := i * 5 + 2) (by omega) (by omega) (.string y.str)).setCell (o := i * 5 + 3) (by omega) (by omega) (.slice A3 y.keys.length c3)).setCell (o := i * 5 + 4) (by omega) (by omega) (.slice A4 y.kids.length c4)
  have hGl := HX.out.lt
  have hYl := HY.out.lt
  obtain ⟨z0, z1, z2, z3, z4, F', k1, k2, k3, k4, k5⟩ := hgx.back (((((w1.setCell ⟨g, i * 5, none⟩ (.int .i64 y.kind)).setCell ⟨g, i * 5 + 1, none⟩ (.int .i64 y.num)).setCell ⟨g, i * 5 + 2, none⟩ (.string y.str)).setCell ⟨g, i * 5 + 3, none⟩ (.slice A3 y.keys.length c3)).setCell ⟨g, i * 5 + 4, none⟩ (.slice A4 y.kids.length c4)) y _ _ _ _ _ FY (fun k hk _ hkg => hfar k hkg (hGl k hk).2) (fun h => hfar b h hbl) hu2 (HG5.out.setAll _ _ _ _ _)
    (HY.out.same (Nat.le_refl _) fun k hk => hfar k (fun h => (hdis k hk).1 (h ▸ hgm)) (hYl k hk).2) hyn (fun k hk => .inr (hdis k hk)) (fun h => (hdis g h).1 hgm)
  have hrep : D.repl x [i] y = x.setKid i y := by simp [D.repl, List.getElem?_eq_getElem hik]
  rw [hrep] at k2
  have l1 := (UpdBlk.refl off hcurb).same (hfar b hbg hbl)
  have l2 : ∀ k ∈ F', k ∈ blk (.slice X3 x.keys.length d3) ++ (blk (.slice (some ⟨g, 0, none⟩) x.kids.length cap) ++ Fs) ∨ k ∈ FY ∨ w.heap.size ≤ k := fun k hk => by
    rcases k5 k hk with h | h
    · exact .inl h
    · exact .inr (.inl h)
  exact SetOk.drew ⟨z0, z1, z2, z3, z4, F', l1, k1, k2, k3, k4, l2, ht2⟩
end Go.Proofs.YtlemlgllkcgigaaGreatDoor
namespace Go.Proofs.YtlemlgllkcgigaaGreatDoor
open Go.RowKit

theorem setCell_comm (w : World) (p q : Addr) (u v : Value) (hne : p.block ≠ q.block) : (w.setCell p u).setCell q v = (w.setCell q v).setCell p u := by
  have : ∀ (h : Array Obj) (f f' : Obj → Obj), (h.modify p.block f).modify q.block f' = (h.modify q.block f').modify p.block f := by
    intro h f f'
    apply Array.ext_getElem?
    intro i
    simp only [Array.getElem?_modify]
    by_cases h1 : p.block = i
    · by_cases h2 : q.block = i
      · exact absurd (h1.trans h2.symm) hne
      · simp [h1, h2]
    · by_cases h2 : q.block = i <;> simp [h1, h2]
  simp only [World.setCell, this]
theorem own_last5 {w : World} {base g cap n : Nat} {cs : List Value} {a0 a1 a2 a3 a4 : Value} (h : w.ownsRow base 29 5 (.slice (some ⟨g, 0, none⟩) (n + 1) cap) (n + 1) (cs ++ [a0, a1, a2, a3, a4])) (hl : cs.length = n * 5) : Cells5 w g (n * 5) a0 a1 a2 a3 a4 := by
  constructor <;> (rw [h.cellAt _ (by omega), List.getElem?_append_right (by omega)]; simp [hl])
theorem ne_of_at {v : Value} {g H b : Nat} (h : v.ownBlock = some g ∨ g = H) (ha : v.ownBlock ≠ some b) (hb : b < H) : b ≠ g := by
  rcases h with h | h
  · rintro rfl; exact ha h
  · omega
theorem push_fin {x y : D} {w w2 w3 : World} {base b off g cap d3 d4 c3 c4 : Nat} {X3 X4 A3 A4 : Option Addr} {G FY Fs : List Nat} {cs : List Value} (hblk : ∃ cur : Array Value, w.heap[b]? = some (.cells cur 29 (0, 0)))
    (hce : Cells5 w b off (.int .i64 x.kind) (.int .i64 x.num) (.string x.str) (.slice X3 x.keys.length d3) (.slice X4 x.kids.length d4)) (hn : G.Nodup) (hb : b ∉ G)
    (hy : OwnIn w base y (.int .i64 y.kind) (.int .i64 y.num) (.string y.str) (.slice A3 y.keys.length c3) (.slice A4 y.kids.length c4) FY) (hyn : FY.Nodup) (hdis : ∀ k ∈ FY, k ∉ G ∧ k ≠ b) (hbb : Below w.heap.size w w2)
    (hk3 : w.ownsRow base 9 1 (.slice X3 x.keys.length d3) x.keys.length (x.keys.map Value.string)) (hr4 : w.ownsRow base 29 5 (.slice X4 x.kids.length d4) x.kids.length cs) (hkd : OwnKids w base x.kids cs Fs)
    (hG : G = blk (.slice X3 x.keys.length d3) ++ (blk (.slice X4 x.kids.length d4) ++ Fs)) (ob : Obj) (hgrow : (w2.alloc ob).drew.grownBy w3 (Value.slice X4 x.kids.length d4).ownBlock)
    (hat : (Value.slice X4 x.kids.length d4).ownBlock = some g ∨ g = w2.heap.size + 1) {a0 a1 a2 a3 a4 : Value} (ho3 : w3.ownsRow base 29 5 (.slice (some ⟨g, 0, none⟩) (x.kids.length + 1) cap) (x.kids.length + 1) (cs ++ [a0, a1, a2, a3, a4])) :
    SetOk w base (x.snoc y) b off G FY ((((((w3.setCell ⟨g, x.kids.length * 5, none⟩ (.int .i64 y.kind)).setCell ⟨g, x.kids.length * 5 + 1, none⟩ (.int .i64 y.num)).setCell ⟨g, x.kids.length * 5 + 2, none⟩ (.string y.str)).setCell ⟨g, x.kids.length * 5 + 3, none⟩ (.slice A3 y.keys.length c3)).setCell
      ⟨g, x.kids.length * 5 + 4, none⟩ (.slice A4 y.kids.length c4)).setCell ⟨b, off + 4, none⟩ (.slice (some ⟨g, 0, none⟩) (x.kids.length + 1) cap)) := by
  have hbl := hce.lt
  have hz := hbb.size
  have hcl : cs.length = x.kids.length * 5 := hr4.1
  have lr4 := hr4.lt
  have lk3 := hk3.lt
  have lkd := hkd.lt
  have lY := hy.lt
  have ob4 : ∀ k, (Value.slice X4 x.kids.length d4).ownBlock = some k → k ∈ G := fun k hk => by rw [hG]; simp [blk_mem, hk]
  have hgb : b ≠ g := by
    rcases hat with h | h
    · exact fun e => hb (e ▸ ob4 g h)
    · omega
  have hgw : g ∈ G ∨ w.heap.size ≤ g := by
    rcases hat with h | h
    · exact .inl (ob4 g h)
    · exact .inr (by omega)
  have w3far : ∀ k, k < w.heap.size → (Value.slice X4 x.kids.length d4).ownBlock ≠ some k → w3.heap[k]? = w.heap[k]? := fun k hk hne =>
    (hgrow.block k (by show k < (w2.alloc ob).heap.size; rw [World.size_alloc]; omega) (fun e => hne e.symm)).trans ((Below.heap_alloc w2 ob k (by omega)).trans (hbb.block k hk))
  have chfar : ∀ k, k ≠ g → (((((w3.setCell ⟨g, x.kids.length * 5, none⟩ (.int .i64 y.kind)).setCell ⟨g, x.kids.length * 5 + 1, none⟩ (.int .i64 y.num)).setCell ⟨g, x.kids.length * 5 + 2, none⟩ (.string y.str)).setCell ⟨g, x.kids.length * 5 + 3, none⟩ (.slice A3 y.keys.length c3)).setCell
      ⟨g, x.kids.length * 5 + 4, none⟩ (.slice A4 y.kids.length c4)).heap[k]? = w3.heap[k]? := fun k hk => by
    rw [Below.heap_setCell _ _ _ k hk, Below.heap_setCell _ _ _ k hk, Below.heap_setCell _ _ _ k hk, Below.heap_setCell _ _ _ k hk, Below.heap_setCell _ _ _ k hk]
  have hbX : (Value.slice X4 x.kids.length d4).ownBlock ≠ some b := fun h => hb (ob4 b h)
  have hl5 := own_last5 ho3 hcl
  have hgc : ∃ cur : Array Value, w3.heap[g]? = some (.cells cur 29 (0, 0)) := by
    rcases ho3.2 with ⟨e, _⟩ | ⟨g', cap', cur0, e, _, hh, _⟩
    · cases e
    · injection e with e _ _
      injection e with e
      injection e with e
      subst e
      exact ⟨cur0, hh⟩
  obtain ⟨curg, hcurg⟩ := hgc
  have hu2 := (((((UpdBlk.refl (x.kids.length * 5) hcurg).setCell (o := x.kids.length * 5) (by omega) (by omega) (.int .i64 y.kind)).setCell (o := x.kids.length * 5 + 1) (by omega) (by omega) (.int .i64 y.num)).setCell (o := x.kids.length * 5 + 2) (by omega) (by omega) (.string y.str)).setCell
    (o := x.kids.length * 5 + 3) (by omega) (by omega) (.slice A3 y.keys.length c3)).setCell (o := x.kids.length * 5 + 4) (by omega) (by omega) (.slice A4 y.kids.length c4)
  have hrow := ownsRow_upd (c2 := []) ho3 hcl hu2 (hl5.setAll (.int .i64 y.kind) (.int .i64 y.num) (.string y.str) (.slice A3 y.keys.length c3) (.slice A4 y.kids.length c4))
  have h0 : Turned w w3 G b := ⟨hgrow.os.trans hbb.os, hgrow.tape.trans hbb.tape, hgrow.output.trans hbb.output, Nat.le_trans hz (Nat.le_trans (by show w2.heap.size ≤ (w2.alloc ob).heap.size; rw [World.size_alloc]; omega) hgrow.size), fun k hk hkG _ => w3far k hk fun h => hkG (ob4 k h)⟩
  have hgw' : g ∈ G ∨ g = b ∨ w.heap.size ≤ g := hgw.elim .inl fun h => .inr (.inr h)
  have ht := (((((h0.setCell (p := ⟨g, x.kids.length * 5, none⟩) hgw' (.int .i64 y.kind)).setCell (p := ⟨g, x.kids.length * 5 + 1, none⟩) hgw' (.int .i64 y.num)).setCell (p := ⟨g, x.kids.length * 5 + 2, none⟩) hgw' (.string y.str)).setCell (p := ⟨g, x.kids.length * 5 + 3, none⟩) hgw' (.slice A3 y.keys.length c3)).setCell
    (p := ⟨g, x.kids.length * 5 + 4, none⟩) hgw' (.slice A4 y.kids.length c4)).setCell (p := ⟨b, off + 4, none⟩) (.inr (.inl rfl)) (.slice (some ⟨g, 0, none⟩) (x.kids.length + 1) cap)
  generalize hW : (((((w3.setCell ⟨g, x.kids.length * 5, none⟩ (.int .i64 y.kind)).setCell ⟨g, x.kids.length * 5 + 1, none⟩ (.int .i64 y.num)).setCell ⟨g, x.kids.length * 5 + 2, none⟩ (.string y.str)).setCell ⟨g, x.kids.length * 5 + 3, none⟩ (.slice A3 y.keys.length c3)).setCell
      ⟨g, x.kids.length * 5 + 4, none⟩ (.slice A4 y.kids.length c4)) = W at chfar hrow hu2 ht ⊢
  clear hW
  have hWb : W.heap[b]? = w.heap[b]? := (chfar b hgb).trans (w3far b hbl hbX)
  obtain ⟨curb, hcurb⟩ := hblk
  have hfar : ∀ k, k < w.heap.size → k ≠ g → k ≠ b → (Value.slice X4 x.kids.length d4).ownBlock ≠ some k → (W.setCell ⟨b, off + 4, none⟩ (.slice (some ⟨g, 0, none⟩) (x.kids.length + 1) cap)).heap[k]? = w.heap[k]? := fun k h1 h2 h3 h4 =>
    (Below.heap_setCell W _ _ k h3).trans ((chfar k h2).trans (w3far k h1 h4))
  have hWc : Cells5 W b off (.int .i64 x.kind) (.int .i64 x.num) (.string x.str) (.slice X3 x.keys.length d3) (.slice X4 x.kids.length d4) := hce.keep fun o => World.cell?_of_block (a := ⟨b, o, none⟩) hWb
  rw [hG] at hn hb hdis
  have memG : ∀ k, k ∈ blk (.slice X3 x.keys.length d3) ++ (blk (.slice X4 x.kids.length d4) ++ Fs) ↔ k ∈ blk (.slice X3 x.keys.length d3) ∨ k ∈ blk (.slice X4 x.kids.length d4) ∨ k ∈ Fs := fun k => by simp [List.mem_append]
  simp only [List.nodup_append, List.mem_append, ne_eq] at hn
  obtain ⟨n3, ⟨_, nF, n4F⟩, n3d⟩ := hn
  have hg3 : g ∉ blk (.slice X3 x.keys.length d3) := fun h => by
    rcases hat with h' | h'
    · exact n3d g h g (.inl (blk_mem.2 h')) rfl
    · have := lk3 g (blk_mem.1 h); omega
  have hgF : g ∉ Fs := fun h => by
    rcases hat with h' | h'
    · exact n4F g (blk_mem.2 h') g h rfl
    · have := lkd g h; omega
  have hgY : g ∉ FY := fun h => by
    rcases hat with h' | h'
    · exact (hdis g h).1 ((memG g).2 (.inr (.inl (blk_mem.2 h'))))
    · have := lY g h; omega
  have c4' : ∀ o, o ≠ off + 4 → (W.setCell ⟨b, off + 4, none⟩ (.slice (some ⟨g, 0, none⟩) (x.kids.length + 1) cap)).cell? ⟨b, o, none⟩ = W.cell? ⟨b, o, none⟩ := fun o ho => World.cell?_setCell_other _ _ _ _ (by intro e; injection e with _ e _; exact ho e.symm)
  refine ⟨.int .i64 x.kind, .int .i64 x.num, .string x.str, .slice X3 x.keys.length d3, .slice (some ⟨g, 0, none⟩) (x.kids.length + 1) cap, blk (.slice X3 x.keys.length d3) ++ ([g] ++ (Fs ++ FY)),
    ((UpdBlk.refl off hcurb).same hWb).setCell (by omega) (by omega) _, ⟨(c4' _ (by omega)).trans hWc.c0, (c4' _ (by omega)).trans hWc.c1, (c4' _ (by omega)).trans hWc.c2, (c4' _ (by omega)).trans hWc.c3, ?_⟩, ?_, ?_, ?_, ?_, ?_⟩
  · exact World.cell?_setCell_same _ _ _ hWc.c4
  · have hlen : (x.snoc y).kids.length = x.kids.length + 1 := by simp [D.snoc, D.kids]
    have := OwnIn.make (d := x.snoc y) (w := W.setCell ⟨b, off + 4, none⟩ (.slice (some ⟨g, 0, none⟩) (x.kids.length + 1) cap)) (base := base) (v3 := .slice X3 x.keys.length d3) (v4 := .slice (some ⟨g, 0, none⟩) (x.kids.length + 1) cap)
      (cs := cs ++ [.int .i64 y.kind, .int .i64 y.num, .string y.str, .slice A3 y.keys.length c3, .slice A4 y.kids.length c4]) (Fs := Fs ++ FY)
      (ownsRow_same hk3 fun k hk => hfar k (lk3 k (blk_mem.1 hk)).2 (fun h => hg3 (h ▸ hk)) (fun h => hb ((memG b).2 (.inl (h ▸ hk)))) (fun h => n3d k hk k (.inl (blk_mem.2 h)) rfl))
      (by rw [hlen]; exact ownsRow_same hrow fun k hk => Below.heap_setCell W _ _ k (by
            have : k = g := by simpa [blk, Value.ownBlock] using hk
            rw [this]; exact fun h => hgb h.symm))
      (by
        show OwnKids _ _ (x.kids ++ [y]) _ _
        exact OwnKids.push (hy.same (Nat.le_refl _) fun k hk => hfar k (lY k hk).2 (fun h => hgY (h ▸ hk)) (hdis k hk).2 (fun h => (hdis k hk).1 ((memG k).2 (.inr (.inl (blk_mem.2 h)))))) (hkd.same (Nat.le_refl _) fun k hk => hfar k (lkd k hk).2 (fun h => hgF (h ▸ hk)) (fun h => hb ((memG b).2 (.inr (.inr (h ▸ hk))))) (fun h => n4F k (blk_mem.2 h) k hk rfl)))
    exact this
  · simp only [List.nodup_append, List.nodup_cons, List.mem_append, List.mem_cons, List.not_mem_nil, or_false, ne_eq, List.nodup_nil, not_false_eq_true, true_and]
    refine ⟨n3, ⟨⟨nF, hyn, fun a ha c hc hac => (hdis c hc).1 ((memG c).2 (.inr (.inr (hac ▸ ha))))⟩, fun a ha c hc hac => ?_⟩, fun a ha c hc hac => ?_⟩
    · subst hac; subst ha
      rcases hc with h | h
      · exact hgF h
      · exact hgY h
    · subst hac
      rcases hc with h | h | h
      · exact hg3 (h ▸ ha)
      · exact n3d a ha a (.inr h) rfl
      · exact (hdis a h).1 ((memG a).2 (.inl ha))
  · intro hm
    simp only [List.mem_append, List.mem_cons, List.not_mem_nil, or_false] at hm
    rcases hm with h | h | h | h
    · exact hb ((memG b).2 (.inl h))
    · exact hgb h
    · exact hb ((memG b).2 (.inr (.inr h)))
    · exact (hdis b h).2 rfl
  · intro k hk
    simp only [List.mem_append, List.mem_cons, List.not_mem_nil, or_false] at hk
    rw [hG, memG]
    rcases hk with h | h | h | h
    · exact .inl (.inl h)
    · subst h
      rcases hat with h' | h'
      · exact .inl (.inr (.inl (blk_mem.2 h')))
      · exact .inr (.inr (by omega))
    · exact .inl (.inr (.inr h))
    · exact .inr (.inl h)
  · exact ht
end Go.Proofs.YtlemlgllkcgigaaGreatDoor
namespace Go.Proofs.YtlemlgllkcgigaaGreatDoor
open Go.RowKit

theorem delStr_any {w : World} {base g cap i : Nat} {xs : List ByteArray} (hown : w.ownsRow base 9 1 (.slice (some ⟨g, 0, none⟩) xs.length cap) xs.length (xs.map Value.string)) (hi : i < xs.length) (hn : xs.length ≤ 10000) :
    Calls Tryz.prog 101 #[.slice (some ⟨g, 0, none⟩) xs.length cap, .int .i64 i, .int .i64 ((i : Int) + 1)] w fun e w' =>
      e = .returned (.slice (some ⟨g, 0, none⟩) (xs.length - 1) cap) ∧ w'.ownsRow base 9 1 (.slice (some ⟨g, 0, none⟩) (xs.length - 1) cap) (xs.length - 1) ((xs.take i ++ xs.drop (i + 1)).map Value.string) ∧ w.grownBy w' (some g) := by
  obtain ⟨cur, hcur, hbase, hncap, hcapm, hcsz, htake⟩ : ∃ cur : Array Value, w.heap[g]? = some (.cells cur 9 (0, 0)) ∧ base ≤ g ∧ xs.length ≤ cap ∧ cap ≤ maxLen ∧ cur.size = cap * 1 ∧ cur.toList.take (xs.length * 1) = xs.map Value.string := by
    rcases hown.2 with ⟨e, _⟩ | ⟨g', cap', cur, e, hg, hh, a1, a2, a3, a4⟩
    · cases e
    · injection e with e _ e3
      injection e with e
      injection e with e
      subst e; subst e3
      exact ⟨cur, hh, hg, a1, a2, a3, a4⟩
  have hcm : cap ≤ 9223372036854775807 := hcapm
  have hcell : ∀ j, j < xs.length → w.cell? ⟨g, 0 + j, none⟩ = some (.string (xs.getD j ByteArray.empty)) := fun j hj => by
    rw [Nat.zero_add, hown.cellAt j (by omega)]; simp [List.getD, hj]
  have hfz : ∀ j, j < xs.length → w.frozen? ⟨g, 0 + j, none⟩ = false := fun j _ => hown.frozenAt _
  have h := Tryz.slices_Delete_string_cells g 0 xs.length cap i (i + 1) (fun j => xs.getD j ByteArray.empty) w hncap hcm (by omega) (by omega) hcell hfz
  have hcast : ((i + 1 : Nat) : Int) = (i : Int) + 1 := by omega
  rw [hcast] at h
  refine h.mono ?_
  rintro e w' ⟨rfl, q, rfl⟩
  have hstr : Lib.strsOf (fun j => xs.getD j ByteArray.empty) xs.length = xs.map (fun s => s.data.toList) := by
    apply List.ext_getElem?
    intro j
    simp only [Lib.strsOf, List.getElem?_map]
    by_cases hj : j < xs.length
    · simp [hj, List.getD]
    · simp [hj]
  rw [hstr, show i + 1 - i = 1 from by omega]
  generalize hvs : (((xs.map fun s : ByteArray => s.data.toList).take i ++ (xs.map fun s : ByteArray => s.data.toList).drop (i + 1) ++ List.replicate 1 []).map Go.Proofs.encStr) = vs
  have hvl : vs.length = xs.length := by rw [← hvs]; simp; omega
  have hv : ∀ j, j < xs.length - 1 → vs[j]? = ((xs.take i ++ xs.drop (i + 1)).map Value.string)[j]? := fun j hj => by
    rw [← hvs, List.map_append, List.getElem?_append_left (by simp; omega), ← List.map_take, ← List.map_drop, ← List.map_append, List.map_map]
    congr 2
  obtain ⟨cur2, d1, d2, d3⟩ := setCells_block (g := g) (T := 9) (fr := (0, 0)) vs 0 (w.drewN q) cur hcur
  refine ⟨rfl, ⟨by simp; omega, .inr ⟨g, cap, cur2, rfl, hbase, d1, by omega, hcapm, by omega, ?_⟩⟩, ?_⟩
  · apply List.ext_getElem?
    intro j
    rw [List.getElem?_take]
    by_cases hj : j < (xs.length - 1) * 1
    · rw [if_pos hj, Array.getElem?_toList, d3 j, if_pos ⟨by omega, by omega, by omega⟩, Nat.sub_zero, hv j (by omega)]
    · rw [if_neg hj, List.getElem?_eq_none (by simp; omega)]
  · have t1 := tape_setCells (g := g) vs 0 (w.drewN q)
    refine ⟨t1.2.1, t1.1, t1.2.2, ?_, fun k _ hne => ?_⟩
    · rw [size_setCells]; exact Nat.le_refl _
    · exact heap_setCells_far (fun h => hne (by rw [h])) _ _ _

def D.dropKid (d : D) (i : Nat) : D := .mk d.kind d.num d.str (if d.kind = 3 then d.keys else d.keys.take i ++ d.keys.drop (i + 1)) (d.kids.take i ++ d.kids.drop (i + 1))

theorem oneCell_own {w : World} {base : Nat} : ∀ {l : List D} {cs : List Value} {F : List Nat}, OwnKids w base l cs F → ∀ u ∈ cs, u.oneCell' = true
  | [], _, _, h, u, hu => by
    simp only [OwnKids] at h
    rw [h.1] at hu; simp at hu
  | d :: r, _, _, h, u, hu => by
    simp only [OwnKids] at h
    obtain ⟨v0, v1, v2, v3, v4, cs', F1, F2, rfl, h2, h3, rfl⟩ := h
    rcases List.mem_append.1 (show u ∈ [v0, v1, v2, v3, v4] ++ cs' by simpa using hu) with h | h
    · exact oneCell_agg h2.doc u h
    · exact oneCell_own h3 u h

theorem unset_fin {x : D} {w W : World} {base b off i g cap : Nat} {v3 v3' : Value} {G Fs : List Nat} {cs : List Value} (hc : Cells5 W b off (.int .i64 x.kind) (.int .i64 x.num) (.string x.str) v3' (.slice (some ⟨g, 0, none⟩) (x.kids.length - 1) cap)) (hupd : UpdBlk w W b off)
    (h3 : W.ownsRow base 9 1 v3' (x.dropKid i).keys.length ((x.dropKid i).keys.map Value.string)) (hb3 : blk v3' = blk v3) (h4 : W.ownsRow base 29 5 (.slice (some ⟨g, 0, none⟩) (x.kids.length - 1) cap) (x.kids.length - 1) (cs.take (i * 5) ++ cs.drop ((i + 1) * 5)))
    (hkd : OwnKids w base x.kids cs Fs) (hfr : ∀ k ∈ Fs, W.heap[k]? = w.heap[k]?) (hG : G = blk v3 ++ ([g] ++ Fs)) (hn : G.Nodup) (hb : b ∉ G) (ht : Turned w W G b) (hik : i < x.kids.length) : SetOk w base (x.dropKid i) b off G [] W := by
  obtain ⟨t0, t1, t2, t3, t4, c1, c2, F1, G0, F2, rfl, hcl, rfl, ok1, okx, ok2⟩ := hkd.split i hik
  have hcs : (c1 ++ (t0 :: t1 :: t2 :: t3 :: t4 :: c2)).take (i * 5) ++ (c1 ++ (t0 :: t1 :: t2 :: t3 :: t4 :: c2)).drop ((i + 1) * 5) = c1 ++ c2 := by
    rw [← hcl, List.take_left]
    congr 1
    rw [List.drop_append, List.drop_eq_nil_of_le (by omega), List.nil_append, show (i + 1) * 5 - c1.length = 5 from by omega]
    rfl
  rw [hcs] at h4
  have hkl : (x.dropKid i).kids.length = x.kids.length - 1 := by
    show (x.kids.take i ++ x.kids.drop (i + 1)).length = _
    simp; omega
  rw [hG] at hn hb
  simp only [List.nodup_append, List.mem_append, ne_eq] at hn
  obtain ⟨n3, ⟨_, ⟨n1, ⟨_, n2, _⟩, n12⟩, ngF⟩, n3d⟩ := hn
  refine ⟨.int .i64 x.kind, .int .i64 x.num, .string x.str, v3', .slice (some ⟨g, 0, none⟩) (x.kids.length - 1) cap, blk v3' ++ ([g] ++ (F1 ++ F2)), hupd, hc, ?_, ?_, ?_, ?_, ht⟩
  · have := OwnIn.make (d := x.dropKid i) (Fs := F1 ++ F2) h3 (by rw [hkl]; exact h4) (by
      show OwnKids W base (x.kids.take i ++ x.kids.drop (i + 1)) _ _
      exact OwnKids.append (ok2.same (Nat.le_refl _) fun k hk => hfr k (by simp [hk])) (ok1.same (Nat.le_refl _) fun k hk => hfr k (by simp [hk])))
    exact this
  · rw [hb3]
    simp only [List.nodup_append, List.nodup_cons, List.mem_append, List.mem_cons, List.not_mem_nil, or_false, ne_eq, List.nodup_nil, not_false_eq_true, true_and]
    refine ⟨n3, ⟨⟨n1, n2, fun a ha c hcc hac => n12 a ha c (.inr hcc) hac⟩, fun a ha c hcc hac => ?_⟩, fun a ha c hcc hac => ?_⟩
    · rcases hcc with h | h
      · exact ngF a (by simp [ha]) c (.inl h) hac
      · exact ngF a (by simp [ha]) c (.inr (.inr h)) hac
    · rcases hcc with h | h | h
      · exact n3d a ha c (.inl (by simp [h])) hac
      · exact n3d a ha c (.inr (.inl h)) hac
      · exact n3d a ha c (.inr (.inr (.inr h))) hac
  · rw [hb3]
    intro hm
    apply hb
    simp only [List.mem_append, List.mem_cons, List.not_mem_nil, or_false] at hm ⊢
    rcases hm with h | h | h | h
    · exact .inl h
    · exact .inr (.inl h)
    · exact .inr (.inr (.inl h))
    · exact .inr (.inr (.inr (.inr h)))
  · intro k hk
    rw [hb3] at hk
    rw [hG]
    simp only [List.mem_append, List.mem_cons, List.not_mem_nil, or_false] at hk ⊢
    rcases hk with h | h | h | h
    · exact .inl (.inl h)
    · exact .inl (.inr (.inl h))
    · exact .inl (.inr (.inr (.inl h)))
    · exact .inl (.inr (.inr (.inr (.inr h))))

set_option maxHeartbeats 4000000 in
set_option maxRecDepth 100000 in
theorem unset_there {x : D} {u0 u1 u2 u3 u4 : Value} {s : ByteArray} {w : World} {base b off i : Nat} {G : List Nat} (hf : x.Fit) (hs : Short s) (hg : Glob w) (hc : Cells5 w b off u0 u1 u2 u3 u4) (hx : OwnIn w base x u0 u1 u2 u3 u4 G) (hn : G.Nodup) (hb : b ∉ G)
    (hblk : ∃ cur : Array Value, w.heap[b]? = some (.cells cur 29 (0, 0))) (hst : stepD x s = some i) (hkk : x.kind ≠ 3 → x.keys.length = x.kids.length) :
    Calls Tryz.prog 62 #[.pointer (some ⟨b, off, none⟩), .string s] w fun e w' => e = .returned (.bool true) ∧ SetOk w base (x.dropKid i) b off G [] w' := by
  obtain ⟨hik, hfi⟩ := stepD_lt hf.keys hst
  have hkl := hf.kids; have hkeys := hf.keys
  have HX := Lib.hid hx; have HC := Lib.hid hc; have HF := Lib.hid hf; have HS := Lib.hid hs; have HG := Lib.hid hg; have HFI := Lib.hid hfi
  have hbl := hc.lt
  obtain ⟨e0, e1, e2, hk3, cs, Fs, hr4, hkids, rfl⟩ := hx.parts
  obtain ⟨g, cap, rfl, hgb, hgl⟩ := hr4.form (by omega)
  obtain ⟨X3, d3, X4, d4, q0, q1, q2, q3, q4⟩ := hx.doc.forms
  subst q0; subst q1; subst q2; subst q3
  clear q4 e0 e1 e2
  obtain ⟨p0, p1, p2, p3, p4⟩ := hc
  have HBK := Lib.hid hblk; have HNB := Lib.hid hb; have HN := Lib.hid hn; have HK3 := Lib.hid hk3; have HR4 := Lib.hid hr4; have HKD := Lib.hid hkids; have HKK := Lib.hid hkk
  have hgm : g ∈ blk (.slice X3 x.keys.length d3) ++ (blk (.slice (some ⟨g, 0, none⟩) x.kids.length cap) ++ Fs) := by simp [blk, Value.ownBlock]
  have hbg : b ≠ g := fun h => hb (h ▸ hgm)
  have hcap : x.kids.length ≤ cap := hx.doc.kids_.2.1
  clear hblk hb hn hk3 hr4 hkids hkk hx hf hs hg hst hfi
  go_enter Tryz.func62, Tryz.ntmps62
  go_wp2_with fail
  refine (find_any (B := w.heap.size) HF.out HS.out HG.out (Nat.le_refl _) HX.out.doc).mono ?_
  rintro e w1 ⟨rfl, hb1⟩
  rw [HFI.out]
  have hz1 := hb1.size
  have k1 : ∀ o, w1.cell? ⟨b, o, none⟩ = w.cell? ⟨b, o, none⟩ := fun o => hb1.cell (p := ⟨b, o, none⟩) hbl
  rw [← k1] at p0 p1 p2 p3 p4
  clear k1
  go_wp2_with fail
  refine (delete_any (ownsRow_same HR4.out fun k hk => hb1.block k (HR4.out.lt k (blk_mem.1 hk)).2) (oneCell_own HKD.out) hik hkl).mono ?_
  rintro e w2 ⟨rfl, hown2, hgr2⟩
  have HO2 := Lib.hid hown2; have HGR2 := Lib.hid hgr2
  have hz2 := hgr2.size
  have k2 : ∀ o, w2.cell? ⟨b, o, none⟩ = w1.cell? ⟨b, o, none⟩ := fun o => World.cell?_of_block (a := ⟨b, o, none⟩) (hgr2.block b (by omega) (by simpa using hbg))
  have f2 : ∀ o, w2.frozen? ⟨b, o, none⟩ = false := fun o => by
    obtain ⟨cur, hcur⟩ := HBK.out
    have : w2.heap[b]? = some (.cells cur 29 (0, 0)) := (hgr2.block b (by omega) (by simpa using hbg)).trans ((hb1.block b hbl).trans hcur)
    simp [World.frozen?, this]
  rw [← k2] at p0 p1 p2 p3 p4
  have HB1 := Lib.hid hb1
  clear hown2 hgr2 k2 hb1
  by_cases hk : x.kind = 3
  · have hk3 : (x.kind != 3) = false := by simp [hk]
    have HK := Lib.hid hk; clear hk
    go_wp2_with fail
    go_ret
    refine ⟨rfl, ?_⟩
    obtain ⟨curb, hcurb⟩ := HBK.out
    have hgm2 : blk (.slice (some ⟨g, 0, none⟩) x.kids.length cap) = [g] := rfl
    have hn := HN.out; have hb := HNB.out
    rw [hgm2] at hn hb ⊢
    have hfar : ∀ k, k < w.heap.size → k ≠ g → k ≠ b → (w2.setCell ⟨b, off + 4, none⟩ (.slice (some ⟨g, 0, none⟩) (x.kids.length - 1) cap)).heap[k]? = w.heap[k]? := fun k h1 h2 h3 =>
      (Below.heap_setCell w2 _ _ k h3).trans ((HGR2.out.block k (by omega) (by simpa using h2)).trans (HB1.out.block k h1))
    have hwb : w2.heap[b]? = w.heap[b]? := (HGR2.out.block b (by omega) (by simpa using hbg)).trans (HB1.out.block b hbl)
    have c4' : ∀ o, o ≠ off + 4 → (w2.setCell ⟨b, off + 4, none⟩ (.slice (some ⟨g, 0, none⟩) (x.kids.length - 1) cap)).cell? ⟨b, o, none⟩ = w2.cell? ⟨b, o, none⟩ := fun o ho => World.cell?_setCell_other _ _ _ _ (by intro e; injection e with _ e _; exact ho e.symm)
    have hkeys' : (x.dropKid i).keys = x.keys := by simp [D.dropKid, D.keys, HK.out]
    have hnn := hn
    simp only [List.nodup_append, List.mem_append, ne_eq] at hnn
    have l3 := HK3.out.lt
    have lF := HKD.out.lt
    refine unset_fin (v3' := .slice X3 x.keys.length d3) ⟨(c4' _ (by omega)).trans p0, (c4' _ (by omega)).trans p1, (c4' _ (by omega)).trans p2, (c4' _ (by omega)).trans p3, World.cell?_setCell_same _ _ _ p4⟩ (((UpdBlk.refl off hcurb).same hwb).setCell (by omega) (by omega) _)
      (by rw [hkeys']; exact ownsRow_same HK3.out fun k hk => hfar k (l3 k (blk_mem.1 hk)).2 (fun h => hnn.2.2 k hk g (.inl (by simp)) h) (fun h => hb (by rw [← h]; simp [hk]))) rfl
      (ownsRow_same HO2.out fun k hk => Below.heap_setCell w2 _ _ k (by
        have : k = g := by simpa [blk, Value.ownBlock] using hk
        rw [this]; exact fun h => hbg h.symm))
      HKD.out (fun k hk => hfar k (lF k hk).2 (fun h => hnn.2.1.2.2 g (by simp) k hk h.symm) (fun h => hb (by rw [← h]; simp [hk]))) rfl hn hb ?_ hik
    exact (((Turned.of_below HB1.out _ b).grown HGR2.out (fun j hj => .inl (by injection hj with hj; simp [← hj]))).setCell (p := ⟨b, off + 4, none⟩) (.inr (.inl rfl)) _)
  · have hk3 : (x.kind != 3) = true := by simp [hk]
    have hkk := HKK.out hk
    have HK := Lib.hid hk; clear hk
    obtain ⟨g3, cap3, hform, hg3b, hg3l⟩ := HK3.out.form (by omega)
    injection hform with hX3 _ hd3
    subst hX3; subst hd3
    have HKE := Lib.hid hkk; clear hkk
    go_wp2_with fail
    have hgm2 : blk (.slice (some ⟨g, 0, none⟩) x.kids.length cap) = [g] := rfl
    have hgm3 : blk (.slice (some ⟨g3, 0, none⟩) x.keys.length d3) = [g3] := rfl
    have hn := HN.out; have hb := HNB.out
    rw [hgm2, hgm3] at hn hb
    have hnn := hn
    simp only [List.nodup_append, List.mem_append, ne_eq] at hnn
    have hg3g : g3 ≠ g := fun h => hnn.2.2 g3 (by simp) g (.inl (by simp)) h
    have hg3b : g3 ≠ b := fun h => hb (by simp [h])
    have hw3 : (w2.setCell ⟨b, off + 4, none⟩ (.slice (some ⟨g, 0, none⟩) (x.kids.length - 1) cap)).heap[g3]? = w.heap[g3]? :=
      (Below.heap_setCell w2 _ _ g3 hg3b).trans ((HGR2.out.block g3 (by omega) (by simpa using hg3g)).trans (HB1.out.block g3 hg3l))
    refine (delStr_any (i := i) (ownsRow_same HK3.out fun k hk => by
      have : k = g3 := by simpa [blk, Value.ownBlock] using hk
      rw [this]; exact hw3) (by have := HKE.out; omega) hkeys).mono ?_
    rintro e w3 ⟨rfl, hown3, hgr3⟩
    have hz3 := hgr3.size
    have hsz : (w2.setCell ⟨b, off + 4, none⟩ (.slice (some ⟨g, 0, none⟩) (x.kids.length - 1) cap)).heap.size = w2.heap.size := by simp [World.setCell]
    rw [hsz] at hz3
    have hwb3 : w3.heap[b]? = (w2.setCell ⟨b, off + 4, none⟩ (.slice (some ⟨g, 0, none⟩) (x.kids.length - 1) cap)).heap[b]? := hgr3.block b (by omega) (by simpa using fun h => hg3b h.symm)
    have r3 : w3.cell? ⟨b, off + 3, none⟩ = some (.slice (some ⟨g3, 0, none⟩) x.keys.length d3) := (World.cell?_of_block (a := ⟨b, off + 3, none⟩) hwb3).trans ((World.cell?_setCell_other _ _ _ _ (by intro e; injection e with _ e _; omega)).trans p3)
    have f3 : ∀ o, w3.frozen? ⟨b, o, none⟩ = false := fun o => (World.frozen?_of_block (a := ⟨b, o, none⟩) hwb3).trans (by
      obtain ⟨cur, hcur⟩ := HBK.out
      have : w2.heap[b]? = some (.cells cur 29 (0, 0)) := (HGR2.out.block b (by omega) (by simpa using hbg)).trans ((HB1.out.block b hbl).trans hcur)
      simp [World.frozen?, World.setCell, Array.getElem?_modify, this])
    have HO3 := Lib.hid hown3; have HGR3 := Lib.hid hgr3; have HWB3 := Lib.hid hwb3
    clear hown3 hgr3 hwb3
    go_wp2_with fail
    go_ret
    refine ⟨rfl, ?_⟩
    obtain ⟨curb, hcurb⟩ := HBK.out
    rw [hgm2, hgm3]
    have l3 := HK3.out.lt
    have lF := HKD.out.lt
    have hwb : w2.heap[b]? = w.heap[b]? := (HGR2.out.block b (by omega) (by simpa using hbg)).trans (HB1.out.block b hbl)
    have hfar : ∀ k, k < w.heap.size → k ≠ g → k ≠ g3 → k ≠ b → (w3.setCell ⟨b, off + 3, none⟩ (.slice (some ⟨g3, 0, none⟩) (x.keys.length - 1) d3)).heap[k]? = w.heap[k]? := fun k h1 h2 h3 h4 =>
      (Below.heap_setCell w3 _ _ k h4).trans ((HGR3.out.block k (by omega) (by simpa using h3)).trans ((Below.heap_setCell w2 _ _ k h4).trans ((HGR2.out.block k (by omega) (by simpa using h2)).trans (HB1.out.block k h1))))
    have c2' : ∀ o, o ≠ off + 4 → (w2.setCell ⟨b, off + 4, none⟩ (.slice (some ⟨g, 0, none⟩) (x.kids.length - 1) cap)).cell? ⟨b, o, none⟩ = w2.cell? ⟨b, o, none⟩ := fun o ho => World.cell?_setCell_other _ _ _ _ (by intro e; injection e with _ e _; exact ho e.symm)
    have c3' : ∀ o, o ≠ off + 3 → (w3.setCell ⟨b, off + 3, none⟩ (.slice (some ⟨g3, 0, none⟩) (x.keys.length - 1) d3)).cell? ⟨b, o, none⟩ = (w2.setCell ⟨b, off + 4, none⟩ (.slice (some ⟨g, 0, none⟩) (x.kids.length - 1) cap)).cell? ⟨b, o, none⟩ := fun o ho =>
      (World.cell?_setCell_other _ _ _ _ (by intro e; injection e with _ e _; exact ho e.symm)).trans (World.cell?_of_block (a := ⟨b, o, none⟩) HWB3.out)
    have hkeys' : (x.dropKid i).keys = x.keys.take i ++ x.keys.drop (i + 1) := by
      show (if x.kind = 3 then x.keys else x.keys.take i ++ x.keys.drop (i + 1)) = _
      rw [if_neg HK.out]
    have hklen : (x.keys.take i ++ x.keys.drop (i + 1)).length = x.keys.length - 1 := by have := HKE.out; simp; omega
    have hup := (((UpdBlk.refl off hcurb).same hwb).setCell (o := off + 4) (by omega) (by omega) (.slice (some ⟨g, 0, none⟩) (x.kids.length - 1) cap))
    refine unset_fin (v3 := .slice (some ⟨g3, 0, none⟩) x.keys.length d3) (v3' := .slice (some ⟨g3, 0, none⟩) (x.keys.length - 1) d3) ⟨(c3' _ (by omega)).trans ((c2' _ (by omega)).trans p0), (c3' _ (by omega)).trans ((c2' _ (by omega)).trans p1), (c3' _ (by omega)).trans ((c2' _ (by omega)).trans p2), World.cell?_setCell_same _ _ _ r3, (c3' _ (by omega)).trans (World.cell?_setCell_same _ _ _ p4)⟩
      ((hup.same HWB3.out).setCell (by omega) (by omega) _)
      (by rw [hkeys', hklen]; exact ownsRow_same HO3.out fun k hk => Below.heap_setCell w3 _ _ k (by
            have : k = g3 := by simpa [blk, Value.ownBlock] using hk
            rw [this]; exact hg3b)) rfl
      (ownsRow_same HO2.out fun k hk => by
        have hkg : k = g := by simpa [blk, Value.ownBlock] using hk
        subst hkg
        exact (Below.heap_setCell w3 _ _ k (fun h => hbg h.symm)).trans ((HGR3.out.block k (by omega) (by simpa using fun h => hg3g h.symm)).trans (Below.heap_setCell w2 _ _ k (fun h => hbg h.symm))))
      HKD.out (fun k hk => hfar k (lF k hk).2 (fun h => hnn.2.1.2.2 g (by simp) k hk h.symm) (fun h => hnn.2.2 g3 (by simp) k (.inr hk) h.symm) (fun h => hb (by rw [← h]; simp [hk]))) rfl hn hb ?_ hik
    exact ((((Turned.of_below HB1.out _ b).grown HGR2.out (fun j hj => .inl (by injection hj with hj; simp [← hj]))).setCell (p := ⟨b, off + 4, none⟩) (.inr (.inl rfl)) _).grown HGR3.out (fun j hj => .inl (by injection hj with hj; simp [← hj]))).setCell (p := ⟨b, off + 3, none⟩) (.inr (.inl rfl)) _
theorem unset_none {x : D} {u0 u1 u2 u3 u4 : Value} {s : ByteArray} {w : World} {base b off : Nat} {G : List Nat} (hf : x.Fit) (hs : Short s) (hg : Glob w) (hc : Cells5 w b off u0 u1 u2 u3 u4) (hx : OwnIn w base x u0 u1 u2 u3 u4 G) (hst : findI x s < 0) :
    Calls Tryz.prog 62 #[.pointer (some ⟨b, off, none⟩), .string s] w fun e w' => e = .returned (.bool false) ∧ Below w.heap.size w w' := by
  have HX := Lib.hid hx; have HF := Lib.hid hf; have HS := Lib.hid hs; have HG := Lib.hid hg
  obtain ⟨X3, d3, X4, d4, rfl, rfl, rfl, rfl, rfl⟩ := hx.doc.forms
  obtain ⟨p0, p1, p2, p3, p4⟩ := hc
  clear hx hf hs hg
  go_enter Tryz.func62, Tryz.ntmps62
  go_wp2_with fail
  refine (find_any (B := w.heap.size) HF.out HS.out HG.out (Nat.le_refl _) HX.out.doc).mono ?_
  rintro e w1 ⟨rfl, hb1⟩
  go_wp2_with fail
  go_ret
  exact ⟨rfl, hb1⟩
end Go.Proofs.YtlemlgllkcgigaaGreatDoor
namespace Go.Proofs.YtlemlgllkcgigaaGreatDoor
open Go.RowKit

theorem whole_turned {w w' : World} {base box b off : Nat} {d x x' : D} {is : List Nat} {v0 v1 v2 v3 v4 u0 u1 u2 u3 u4 : Value} {F G FY : List Nat} (hf : Focus w base d is x box 0 v0 v1 v2 v3 v4 F b off u0 u1 u2 u3 u4 G) (hset : SetOk w base x' b off G FY w')
    (hFY : ∀ k ∈ FY, k ∉ F ∧ k ≠ box) (hF : ∀ k ∈ F, k < w.heap.size) (hbox : box < w.heap.size) (hbF : box ∉ F) :
    ∃ (z0 z1 z2 z3 z4 : Value) (F' : List Nat), Cells5 w' box 0 z0 z1 z2 z3 z4 ∧ OwnIn w' base (D.repl d is x') z0 z1 z2 z3 z4 F' ∧ F'.Nodup ∧ (∀ k ∈ F', k ∈ F ∨ k ∈ FY ∨ w.heap.size ≤ k) ∧ Turned w w' F box := by
  obtain ⟨y0, y1, y2, y3, y4, G', h1, h2, h3, h4, h5, h6, h7⟩ := hset
  have hbb : b = box ∨ b ∈ F := by
    rcases hf.place with ⟨_, h, _⟩ | h
    · exact .inl h
    · exact .inr h
  obtain ⟨z0, z1, z2, z3, z4, F', k1, k2, k3, _, k5⟩ := hf.back w' x' y0 y1 y2 y3 y4 G' (fun k hk hkG hkb => h7.block k (hF k hk) hkG hkb) (fun h => h7.block box hbox (fun hm => hbF (hf.sub box hm)) h) h1 h2 h3 h4 (fun k hk => by
    rcases h6 k hk with h | h | h
    · exact .inl h
    · exact .inr (hFY k h)
    · exact .inr ⟨fun hm => by have := hF k hm; omega, by omega⟩) h5
  refine ⟨z0, z1, z2, z3, z4, F', k1, k2, k3, fun k hk => ?_, ⟨h7.os, h7.tape, h7.output, h7.size, fun k hk hkF hkb => h7.block k hk (fun hm => hkF (hf.sub k hm)) (fun h => ?_)⟩⟩
  · rcases k5 k hk with h | h
    · exact .inl h
    · rcases h6 k h with h | h | h
      · exact .inl (hf.sub k h)
      · exact .inr (.inl h)
      · exact .inr (.inr h)
  · subst h
    rcases hbb with h | h
    · exact hkb h
    · exact hkF h

theorem partB_sub : ∀ (is : List Nat) (d x : D), partB d = true → D.subAt d is = some x → partB x = true
  | [], d, x, h, hs => by simp only [D.subAt, Option.some.injEq] at hs; rw [← hs]; exact h
  | i :: is, d, x, h, hs => by
    simp only [D.subAt] at hs
    cases hk : d.kids[i]? with
    | none => rw [hk] at hs; cases hs
    | some k =>
      rw [hk] at hs
      obtain ⟨hi, rfl⟩ := List.getElem?_eq_some_iff.1 hk
      rw [partB_eq, Bool.and_eq_true] at h
      exact partB_sub is _ x (partsB_at h.2 hi) hs
theorem sound_keys {x : D} (h : soundB x = true) (hk : x.kind ≠ 3) : x.keys.length = x.kids.length := by
  simp only [soundB, Bool.and_eq_true] at h
  have h2 := h.2.2
  simp only [formB] at h2
  by_cases h1 : x.kind = 1
  · rw [if_pos h1, keyedB, Bool.and_eq_true, decide_eq_true_eq] at h2; exact h2.1
  · rw [if_neg h1] at h2
    by_cases h3 : x.kind = 2
    · rw [if_pos h3, keyedB, Bool.and_eq_true, decide_eq_true_eq] at h2; exact h2.1
    · rw [if_neg h3, if_neg hk] at h2
      split at h2
      · simp only [Bool.and_eq_true, decide_eq_true_eq] at h2; omega
      · cases h2
theorem right_part {d : D} (h : rightB d = true) : partB d = true := (okB_iff.1 h).2.2

/-- What Drop tells. -/
def dropV (d : D) (ps : List ByteArray) : D × Int :=
  if rightB d = false ∨ ps = [] then (D.zero, 1)
  else match D.locate d ps.dropLast with
    | none => (D.zero, 3)
    | some is => match D.subAt d is with
      | none => (D.zero, 3)
      | some x => match stepD x (ps.getLastD ByteArray.empty) with
        | none => (D.zero, 3)
        | some i => (D.repl d is (x.dropKid i), 0)

set_option maxHeartbeats 4000000 in
set_option maxRecDepth 100000 in
theorem drop_v {d : D} {v pv : Value} {ps : List ByteArray} {w : World} {B : Nat} (hf : d.Fit) (hps : ps.length ≤ 10000) (hs : ∀ s ∈ ps, Short s) (hg : Glob w) (hB : B ≤ w.heap.size) (hd : DocV w B d v) (hp : Strs w B pv ps) :
    Calls Tryz.prog 32 #[v, pv] w (MadeDoc2 w.heap.size w (dropV d ps).1 (.int .i64 (dropV d ps).2)) := by
  obtain ⟨v0, v1, v2, v3, v4, rfl, hd⟩ := hd
  have HD := Lib.hid hd; have HP := Lib.hid hp; have HS := Lib.hid hs; have HG := Lib.hid hg; have HF := Lib.hid hf
  obtain ⟨A3, c3, A4, c4, rfl, rfl, rfl, rfl, rfl⟩ := hd.forms
  obtain ⟨A, c, rfl, hpc, hpcells⟩ := hp
  have HPC := Lib.hid hpcells
  clear hd hs hg hf hpcells
  go_enter Tryz.func32, Tryz.ntmps32
  go_wp2_with fail
  have keep : ∀ o o' : Obj, ∀ p : Addr, p.block < B → ((w.alloc o).alloc o').cell? p = w.cell? p := fun o o' p hp => (World.cell?_alloc_lt (w.alloc _) _ p (by simp; omega)).trans (World.cell?_alloc_lt w _ p (by omega))
  have hx1 := (Box5.new w (.int .i64 d.kind) (.int .i64 d.num) (.string d.str) (.slice A3 d.keys.length c3) (.slice A4 d.kids.length c4)).alloc (.cells #[.int .i64 0, .int .i64 0, .string ⟨#[]⟩, .slice none 0 0, .slice none 0 0] 29)
  have hr1 := Box5.new' (w := w.alloc (.cells #[.int .i64 d.kind, .int .i64 d.num, .string d.str, .slice A3 d.keys.length c3, .slice A4 d.kids.length c4] 29)) (World.size_alloc _ _) (.int .i64 0) (.int .i64 0) (.string ⟨#[]⟩) (.slice none 0 0) (.slice none 0 0)
  refine (right_v (B := B) (d := d) HF.out (by simp; omega) ⟨_, _, _, _, _, rfl, HD.out.keep (Nat.le_refl _) (keep _ _)⟩).mono ?_
  rintro e w1 ⟨rfl, hb1⟩
  simp only [World.size_alloc] at hb1
  have hz1 := hb1.size
  simp only [World.size_alloc] at hz1
  have hx2 := hx1.same (hb1.block w.heap.size (by omega))
  have hr2 := hr1.same (hb1.block (w.heap.size + 1) (by omega))
  have hbw : Below w.heap.size w w1 := (((Below.refl _ _).alloc (Nat.le_refl _) _).alloc (by simp) _).trans (hb1.mono (by omega))
  have HR2 := Lib.hid hr2; have HBW := Lib.hid hbw
  cases hr : rightB d with
  | false =>
    have E : Hid (dropV d ps = (D.zero, 1)) := by show dropV d ps = _; unfold dropV; rw [if_pos (.inl hr)]
    obtain ⟨r0, r1, r2, r3, r4⟩ := hr2.cells
    have r5 := hr2.frozen
    clear hx1 hr1 keep hr2 hx2 hbw hb1
    go_wp2_with fail
    have hfin := ((((HR2.out.set0 (.int .i64 0)).set1 (.int .i64 0)).set2 (.string ⟨#[]⟩)).set3 (.slice none 0 0)).set4 (.slice none 0 0)
    refine ret_cell5_2 (u := .int .i64 1) rfl rfl rfl hfin.load rfl ?_
    rw [E.out]
    exact ⟨_, _, _, _, _, [], rfl, OwnIn.zero _ _, List.nodup_nil, ((((HBW.out.setCell (by show w.heap.size ≤ w.heap.size + 1; omega) _).setCell (by show w.heap.size ≤ w.heap.size + 1; omega) _).setCell (by show w.heap.size ≤ w.heap.size + 1; omega) _).setCell (by show w.heap.size ≤ w.heap.size + 1; omega) _).setCell (by show w.heap.size ≤ w.heap.size + 1; omega) _⟩
  | true =>
    have HRT := Lib.hid hr
    rcases Nat.eq_zero_or_pos ps.length with h0 | h0
    · have E : Hid (dropV d ps = (D.zero, 1)) := by show dropV d ps = _; unfold dropV; rw [if_pos (.inr (List.eq_nil_of_length_eq_zero h0))]
      have hl0 : ((ps.length : Int) == 0) = true := by simp [h0]
      obtain ⟨r0, r1, r2, r3, r4⟩ := hr2.cells
      have r5 := hr2.frozen
      clear hx1 hr1 keep hr2 hx2 hbw hb1 h0
      go_wp2_with fail
      have hfin := ((((HR2.out.set0 (.int .i64 0)).set1 (.int .i64 0)).set2 (.string ⟨#[]⟩)).set3 (.slice none 0 0)).set4 (.slice none 0 0)
      refine ret_cell5_2 (u := .int .i64 1) rfl rfl rfl hfin.load rfl ?_
      rw [E.out]
      exact ⟨_, _, _, _, _, [], rfl, OwnIn.zero _ _, List.nodup_nil, ((((HBW.out.setCell (by show w.heap.size ≤ w.heap.size + 1; omega) _).setCell (by show w.heap.size ≤ w.heap.size + 1; omega) _).setCell (by show w.heap.size ≤ w.heap.size + 1; omega) _).setCell (by show w.heap.size ≤ w.heap.size + 1; omega) _).setCell (by show w.heap.size ≤ w.heap.size + 1; omega) _⟩
    · have hl0 : ((ps.length : Int) == 0) = false := beq_eq_false_iff_ne.2 (by omega)
      obtain ⟨pb, po, rfl, hpb, hpcells⟩ := HPC.out h0
      have HPCE := Lib.hid hpcells
      obtain ⟨q0, q1, q2, q3, q4⟩ := hx2.cells
      have hd1 : DocIn w1 B d (.int .i64 d.kind) (.int .i64 d.num) (.string d.str) (.slice A3 d.keys.length c3) (.slice A4 d.kids.length c4) := HD.out.keep (Nat.le_refl _) fun p hp => hbw.cell (p := p) (by omega)
      have HD1 := Lib.hid hd1
      have HB1 := Lib.hid hb1
      clear hx1 hr1 keep hr2 hx2 hbw hb1 hpcells hd1
      go_wp2_with fail
      refine (copy_v (B := B) (d := d) HF.out (by omega) ⟨_, _, _, _, _, rfl, HD1.out⟩).mono ?_
      rintro e w2 ⟨y0, y1, y2, y3, y4, F, rfl, hown, hnd, hb2⟩
      obtain ⟨Y3, f3, Y4, f4, rfl, rfl, rfl, rfl, rfl⟩ := hown.doc.forms
      have hz2 := hb2.size
      have hbw2 : Below w.heap.size w w2 := HBW.out.trans (hb2.mono (by omega))
      have HO := Lib.hid hown; have HN := Lib.hid hnd; have HB2 := Lib.hid hb2; have HBW2 := Lib.hid hbw2
      have hgp : w2.cell? ⟨pb, po + (ps.length - 1), none⟩ = some (.string (ps[ps.length - 1]'(by omega))) := (hbw2.cell (p := ⟨pb, po + (ps.length - 1), none⟩) (by show pb < _; omega)).trans (HPCE.out (ps.length - 1) (by omega))
      have hpw2 : pb < w2.heap.size := by omega
      have hlc : ps.length ≤ c := hpc
      have ib0 : (0 : Int) ≤ (ps.length : Int) - 1 := by omega
      have ib1 : (ps.length : Int) - 1 ≤ (c : Int) := by omega
      clear hown hnd hb2 hbw2 q0 q1 q2 q3 q4
      go_wp2_with fail
      have hboxn := Box5.new w2 (.int .i64 d.kind) (.int .i64 d.num) (.string d.str) (.slice Y3 d.keys.length f3) (.slice Y4 d.kids.length f4)
      have hbw3 : Below w.heap.size w (w2.alloc (.cells #[.int .i64 d.kind, .int .i64 d.num, .string d.str, .slice Y3 d.keys.length f3, .slice Y4 d.kids.length f4] 29)) := HBW2.out.alloc (by omega) _
      have hstr : Strs (w2.alloc (.cells #[.int .i64 d.kind, .int .i64 d.num, .string d.str, .slice Y3 d.keys.length f3, .slice Y4 d.kids.length f4] 29)) w2.heap.size (.slice (some ⟨pb, po, none⟩) (ps.length - 1) c) ps.dropLast :=
        ⟨some ⟨pb, po, none⟩, c, by rw [List.length_dropLast], by rw [List.length_dropLast]; omega, fun _ => ⟨pb, po, rfl, hpw2, fun i hi => by
          rw [List.length_dropLast] at hi
          rw [List.getElem_dropLast]
          exact (hbw3.cell (p := ⟨pb, po + i, none⟩) (by show pb < _; omega)).trans (HPCE.out i (by omega))⟩⟩
      refine (at_any (B := w2.heap.size) (d := d) (ps := ps.dropLast) HF.out (by rw [List.length_dropLast]; omega) (fun s hs => HS.out s (List.dropLast_subset _ hs)) (HG.out.below hbw3 HG.out.size) (by simp) ⟨hboxn.cells.1, hboxn.cells.2.1, hboxn.cells.2.2.1, hboxn.cells.2.2.2.1, hboxn.cells.2.2.2.2⟩
        (HO.out.doc.keep (Nat.le_refl _) fun p hp => World.cell?_alloc_lt w2 _ p hp) hstr).mono ?_
      rintro e w3 ⟨ht, hb3⟩
      simp only [World.size_alloc] at hb3
      have hz3 := hb3.size
      simp only [World.size_alloc] at hz3
      have hbox3 := hboxn.same (hb3.block w2.heap.size (by omega))
      have hr3 := (HR2.out.same (HB2.out.block (w.heap.size + 1) (by omega))).same (w' := w3) ((hb3.block (w.heap.size + 1) (by omega)).trans (Below.heap_alloc w2 _ (w.heap.size + 1) (by omega)))
      have hbw4 : Below w.heap.size w w3 := hbw3.trans (hb3.mono (by omega))
      have hgp3 : w3.cell? ⟨pb, po + (ps.length - 1), none⟩ = some (.string (ps[ps.length - 1]'(by omega))) := (hbw4.cell (p := ⟨pb, po + (ps.length - 1), none⟩) (by show pb < _; omega)).trans (HPCE.out (ps.length - 1) (by omega))
      have hdl : ps.getLastD ByteArray.empty = ps[ps.length - 1]'(by omega) := by
        rw [List.getLastD_eq_getLast?, List.getLast?_eq_getElem?, List.getElem?_eq_getElem (by omega)]; rfl
      have hne : ¬ (rightB d = false ∨ ps = []) := by
        rintro (h | h)
        · rw [HRT.out] at h; cases h
        · rw [h] at h0; simp at h0
      have HR3 := Lib.hid hr3; have HBW4 := Lib.hid hbw4; have HBOX3 := Lib.hid hbox3; have HDL := Lib.hid hdl; have HNE := Lib.hid hne
      clear hboxn hbw3 hstr hgp hdl hne hbw4
      rcases ht with ⟨hloc, rfl⟩ | ⟨is, b', off', x, u0, u1, u2, u3, u4, hloc, rfl, hlead, hsub, hcx, hdx, hfx⟩
      · have E : Hid (dropV d ps = (D.zero, 3)) := by show dropV d ps = _; unfold dropV; rw [if_neg HNE.out, hloc]
        obtain ⟨r0, r1, r2, r3, r4⟩ := hr3.cells
        have r5 := hr3.frozen
        clear hloc hr3 hbox3 hb3
        go_wp2_with fail
        have hfin := ((((HR3.out.set0 (.int .i64 0)).set1 (.int .i64 0)).set2 (.string ⟨#[]⟩)).set3 (.slice none 0 0)).set4 (.slice none 0 0)
        refine ret_cell5_2 (u := .int .i64 3) rfl rfl rfl hfin.load rfl ?_
        rw [E.out]
        exact ⟨_, _, _, _, _, [], rfl, OwnIn.zero _ _, List.nodup_nil, ((((HBW4.out.setCell (by show w.heap.size ≤ w.heap.size + 1; omega) _).setCell (by show w.heap.size ≤ w.heap.size + 1; omega) _).setCell (by show w.heap.size ≤ w.heap.size + 1; omega) _).setCell (by show w.heap.size ≤ w.heap.size + 1; omega) _).setCell (by show w.heap.size ≤ w.heap.size + 1; omega) _⟩
      · have hF := HO.out.lt
        have hown3 : OwnIn w3 w1.heap.size d (.int .i64 d.kind) (.int .i64 d.num) (.string d.str) (.slice Y3 d.keys.length f3) (.slice Y4 d.kids.length f4) F := HO.out.same (Nat.le_refl _) fun k hk => (hb3.block k (by have := (hF k hk).2; omega)).trans (Below.heap_alloc w2 _ k (hF k hk).2)
        have hboxF : w2.heap.size ∉ F := fun h => by have := (hF _ h).2; omega
        have hlead3 : Leads w3 w2.heap.size 0 is b' off' := hlead.keep fun p hp => hb3.cell (by simpa using hp)
        obtain ⟨s0, s1, s2, s3, s4, G, hfo⟩ := focus is d x w2.heap.size 0 _ _ _ _ _ F b' off' ⟨_, hbox3⟩ ⟨hbox3.cells.1, hbox3.cells.2.1, hbox3.cells.2.2.1, hbox3.cells.2.2.2.1, hbox3.cells.2.2.2.2⟩ hown3 HN.out hboxF hsub hlead3
        have HFO := Lib.hid hfo
        have hxs : soundB x = true := by
          have := partB_sub is d x (right_part HRT.out) hsub
          rw [partB_eq, Bool.and_eq_true] at this
          exact this.1
        have hw4g : Glob w3 := HG.out.below HBW4.out HG.out.size
        have HW4G := Lib.hid hw4g; have HXS := Lib.hid hxs; have HFX := Lib.hid hfx; have HLOC := Lib.hid hloc; have HSUB := Lib.hid hsub
        have hlast : Short (ps[ps.length - 1]'(by omega)) := HS.out _ (List.getElem_mem _)
        have HLAST := Lib.hid hlast
        clear hw4g hxs hfx hlead hlead3 hown3 hcx hdx hfo hb3 hloc hsub hlast
        go_wp2_with fail
        cases hst : stepD x (ps[ps.length - 1]'(by omega)) with
        | none =>
          have hneg : findI x (ps[ps.length - 1]'(by omega)) < 0 := by
            by_cases h : 0 ≤ findI x (ps[ps.length - 1]'(by omega))
            · rw [stepD_some h] at hst; cases hst
            · omega
          have E : Hid (dropV d ps = (D.zero, 3)) := by show dropV d ps = _; unfold dropV; rw [if_neg HNE.out, HLOC.out]; simp only; rw [HSUB.out]; simp only; rw [HDL.out, hst]
          clear hst
          refine (unset_none HFX.out HLAST.out HW4G.out HFO.out.cells HFO.out.own hneg).mono ?_
          rintro e w4 ⟨rfl, hb4⟩
          have hr4 := HR3.out.same (w' := w4) (hb4.block (w.heap.size + 1) (by omega))
          have hb5 : Below w.heap.size w w4 := HBW4.out.trans (hb4.mono (by omega))
          obtain ⟨r0, r1, r2, r3, r4⟩ := hr4.cells
          have r5 := hr4.frozen
          have HR4 := Lib.hid hr4; have HB5 := Lib.hid hb5
          clear hr4 hr3 hbox3 hb4 hb5
          go_wp2_with fail
          have hfin := ((((HR4.out.set0 (.int .i64 0)).set1 (.int .i64 0)).set2 (.string ⟨#[]⟩)).set3 (.slice none 0 0)).set4 (.slice none 0 0)
          refine ret_cell5_2 (u := .int .i64 3) rfl rfl rfl hfin.load rfl ?_
          rw [E.out]
          exact ⟨_, _, _, _, _, [], rfl, OwnIn.zero _ _, List.nodup_nil, ((((HB5.out.setCell (by show w.heap.size ≤ w.heap.size + 1; omega) _).setCell (by show w.heap.size ≤ w.heap.size + 1; omega) _).setCell (by show w.heap.size ≤ w.heap.size + 1; omega) _).setCell (by show w.heap.size ≤ w.heap.size + 1; omega) _).setCell (by show w.heap.size ≤ w.heap.size + 1; omega) _⟩
        | some i =>
          have E : Hid (dropV d ps = (D.repl d is (x.dropKid i), 0)) := by show dropV d ps = _; unfold dropV; rw [if_neg HNE.out, HLOC.out]; simp only; rw [HSUB.out]; simp only; rw [HDL.out, hst]
          refine (unset_there HFX.out HLAST.out HW4G.out HFO.out.cells HFO.out.own HFO.out.nodup HFO.out.out HFO.out.blkc hst (sound_keys HXS.out)).mono ?_
          rintro e w4 ⟨rfl, hset⟩
          obtain ⟨z0, z1, z2, z3, z4, F', zc, zo, zn, zf, zt⟩ := whole_turned HFO.out hset (fun k hk => by simp at hk) (fun k hk => by have := (hF k hk).2; omega) (by omega) hboxF
          have hz4 := zt.size
          have hr4 := HR3.out.same (w' := w4) (zt.block (w.heap.size + 1) (by omega) (fun h => by have := (hF _ h).1; omega) (by omega))
          have hb5 : Below w.heap.size w w4 := HBW4.out.trans (zt.below (fun k hk => by have := (hF k hk).1; omega) (by omega) (by omega))
          obtain ⟨Z3, g3, Z4, g4, rfl, rfl, rfl, rfl, rfl⟩ := zo.doc.forms
          obtain ⟨t0, t1, t2, t3, t4⟩ := zc
          obtain ⟨r0, r1, r2, r3, r4⟩ := hr4.cells
          have r5 := hr4.frozen
          have HR4 := Lib.hid hr4; have HB5 := Lib.hid hb5; have HZO := Lib.hid zo; have HZF := Lib.hid zf; have HZN := Lib.hid zn
          clear hr4 hr3 hbox3 hb5 zo zf zn zt hset hst
          go_wp2_with fail
          have hfin := ((((HR4.out.set0 (.int .i64 (D.repl d is (x.dropKid i)).kind)).set1 (.int .i64 (D.repl d is (x.dropKid i)).num)).set2 (.string (D.repl d is (x.dropKid i)).str)).set3 (.slice Z3 (D.repl d is (x.dropKid i)).keys.length g3)).set4 (.slice Z4 (D.repl d is (x.dropKid i)).kids.length g4)
          refine ret_cell5_2 (u := .int .i64 0) rfl rfl rfl hfin.load rfl ?_
          rw [E.out]
          refine ⟨_, _, _, _, _, F', rfl, HZO.out.same (by omega) fun k hk => ?_, HZN.out, ((((HB5.out.setCell (by show w.heap.size ≤ w.heap.size + 1; omega) _).setCell (by show w.heap.size ≤ w.heap.size + 1; omega) _).setCell (by show w.heap.size ≤ w.heap.size + 1; omega) _).setCell (by show w.heap.size ≤ w.heap.size + 1; omega) _).setCell (by show w.heap.size ≤ w.heap.size + 1; omega) _⟩
          have hk1 : k ≠ w.heap.size + 1 := by
            rcases HZF.out k hk with h | h | h
            · have := (hF k h).1; omega
            · simp at h
            · omega
          rw [Below.heap_setCell _ _ _ k hk1, Below.heap_setCell _ _ _ k hk1, Below.heap_setCell _ _ _ k hk1, Below.heap_setCell _ _ _ k hk1, Below.heap_setCell _ _ _ k hk1]
end Go.Proofs.YtlemlgllkcgigaaGreatDoor
namespace Go.Proofs.YtlemlgllkcgigaaGreatDoor
open Go.RowKit

def D.insP (d : D) (s : ByteArray) (y : D) : D := .mk d.kind d.num d.str (d.keys.take (placeOf d.keys s) ++ s :: d.keys.drop (placeOf d.keys s)) (d.kids.take (placeOf d.keys s) ++ y :: d.kids.drop (placeOf d.keys s))
/-- Kids, cut in two. -/
theorem OwnKids.cut {w : World} {base : Nat} : ∀ {l : List D} {cs : List Value} {F : List Nat}, OwnKids w base l cs F → ∀ (i : Nat), i ≤ l.length →
    ∃ (c1 c2 : List Value) (F1 F2 : List Nat), cs = c1 ++ c2 ∧ c1.length = i * 5 ∧ F = F1 ++ F2 ∧ OwnKids w base (l.take i) c1 F1 ∧ OwnKids w base (l.drop i) c2 F2
  | l, cs, F, hk, 0, _ => ⟨[], cs, [], F, rfl, rfl, rfl, by simp [OwnKids], by simpa using hk⟩
  | [], _, _, _, i + 1, h => by simp at h
  | d :: r, _, _, hk, i + 1, h => by
    simp only [OwnKids] at hk
    obtain ⟨u0, u1, u2, u3, u4, cs', F1, F2, rfl, h2, h3, rfl⟩ := hk
    obtain ⟨c1, c2, E1, E2, rfl, e1, rfl, k1, k2⟩ := OwnKids.cut h3 i (by simpa using h)
    refine ⟨u0 :: u1 :: u2 :: u3 :: u4 :: c1, c2, F1 ++ E1, E2, by simp, by simp [e1]; omega, by simp, ?_, by simpa using k2⟩
    simp only [List.take_succ_cons, OwnKids]
    exact ⟨u0, u1, u2, u3, u4, c1, F1, E1, rfl, h2, k1, rfl⟩

theorem ins_fin {x y : D} {s : ByteArray} {w W : World} {base b off g3 g4 cap3 cap4 : Nat} {v3 v4 y0 y1 y2 y3 y4 : Value} {G FY Fs : List Nat} {cs : List Value}
    (hc : Cells5 W b off (.int .i64 x.kind) (.int .i64 x.num) (.string x.str) (.slice (some ⟨g3, 0, none⟩) (x.keys.length + 1) cap3) (.slice (some ⟨g4, 0, none⟩) (x.kids.length + 1) cap4)) (hupd : UpdBlk w W b off)
    (h3 : W.ownsRow base 9 1 (.slice (some ⟨g3, 0, none⟩) (x.keys.length + 1) cap3) (x.keys.length + 1) ((x.insP s y).keys.map Value.string))
    (h4 : W.ownsRow base 29 5 (.slice (some ⟨g4, 0, none⟩) (x.kids.length + 1) cap4) (x.kids.length + 1) (cs.take (placeOf x.keys s * 5) ++ ([y0, y1, y2, y3, y4] ++ cs.drop (placeOf x.keys s * 5))))
    (hk3 : w.ownsRow base 9 1 v3 x.keys.length (x.keys.map Value.string)) (hk4 : w.ownsRow base 29 5 v4 x.kids.length cs) (hkd : OwnKids w base x.kids cs Fs) (hy : OwnIn w base y y0 y1 y2 y3 y4 FY) (hyn : FY.Nodup)
    (hdis : ∀ k ∈ FY, k ∉ G ∧ k ≠ b) (hG : G = blk v3 ++ (blk v4 ++ Fs)) (hn : G.Nodup) (hb : b ∉ G) (hbl : b < w.heap.size) (hkk : x.keys.length = x.kids.length)
    (far : ∀ k, k < w.heap.size → k ≠ b → k ∉ blk v3 → k ∉ blk v4 → W.heap[k]? = w.heap[k]?) (hg3 : g3 ∈ blk v3 ∨ w.heap.size ≤ g3) (hg4 : g4 ∈ blk v4 ∨ w.heap.size ≤ g4) (hg34 : g3 ≠ g4) (ht : Turned w W G b) :
    SetOk w base (x.insP s y) b off G FY W := by
  have hp : placeOf x.keys s ≤ x.kids.length := by have := placeOf_le x.keys s; omega
  obtain ⟨c1, c2, F1, F2, rfl, hcl, rfl, ok1, ok2⟩ := hkd.cut (placeOf x.keys s) hp
  have hcs : (c1 ++ c2).take (placeOf x.keys s * 5) ++ ([y0, y1, y2, y3, y4] ++ (c1 ++ c2).drop (placeOf x.keys s * 5)) = c1 ++ (y0 :: y1 :: y2 :: y3 :: y4 :: c2) := by
    rw [← hcl, List.take_left, List.drop_left]; rfl
  rw [hcs] at h4
  have l3 := hk3.lt
  have l4 := hk4.lt
  have lF := hkd.lt
  have lY := hy.lt
  have memG : ∀ k, k ∈ G ↔ k ∈ blk v3 ∨ k ∈ blk v4 ∨ k ∈ F1 ∨ k ∈ F2 := fun k => by rw [hG]; simp [List.mem_append]
  rw [hG] at hn
  simp only [List.nodup_append, List.mem_append, ne_eq] at hn
  obtain ⟨n3, ⟨n4, ⟨nF1, nF2, nF12⟩, n4F⟩, n3d⟩ := hn
  have hgF : ∀ k, k ∈ F1 ∨ k ∈ F2 → k ≠ g3 ∧ k ≠ g4 ∧ k ≠ b ∧ k ∉ blk v3 ∧ k ∉ blk v4 := fun k hk => by
    have hkG : k ∈ G := (memG k).2 (.inr (.inr hk))
    have hl := (lF k (by simpa using hk)).2
    have e3 : k ∉ blk v3 := fun h => n3d k h k (.inr hk) rfl
    have e4 : k ∉ blk v4 := fun h => n4F k h k hk rfl
    refine ⟨fun h => ?_, fun h => ?_, fun h => hb (h ▸ hkG), e3, e4⟩
    · rcases hg3 with h' | h'
      · exact e3 (h ▸ h')
      · omega
    · rcases hg4 with h' | h'
      · exact e4 (h ▸ h')
      · omega
  have hgY : ∀ k, k ∈ FY → k ≠ g3 ∧ k ≠ g4 ∧ k ≠ b ∧ k ∉ blk v3 ∧ k ∉ blk v4 ∧ k ∉ F1 ∧ k ∉ F2 := fun k hk => by
    have hl := (lY k hk).2
    have hd := hdis k hk
    have e3 : k ∉ blk v3 := fun h => hd.1 ((memG k).2 (.inl h))
    have e4 : k ∉ blk v4 := fun h => hd.1 ((memG k).2 (.inr (.inl h)))
    refine ⟨fun h => ?_, fun h => ?_, hd.2, e3, e4, fun h => hd.1 ((memG k).2 (.inr (.inr (.inl h)))), fun h => hd.1 ((memG k).2 (.inr (.inr (.inr h))))⟩
    · rcases hg3 with h' | h'
      · exact e3 (h ▸ h')
      · omega
    · rcases hg4 with h' | h'
      · exact e4 (h ▸ h')
      · omega
  have f1 : ∀ k ∈ F1, W.heap[k]? = w.heap[k]? := fun k hk => by
    obtain ⟨_, _, a, b', c⟩ := hgF k (.inl hk)
    exact far k (lF k (by simp [hk])).2 a b' c
  have f2 : ∀ k ∈ F2, W.heap[k]? = w.heap[k]? := fun k hk => by
    obtain ⟨_, _, a, b', c⟩ := hgF k (.inr hk)
    exact far k (lF k (by simp [hk])).2 a b' c
  have fY : ∀ k ∈ FY, W.heap[k]? = w.heap[k]? := fun k hk => by
    obtain ⟨_, _, a, b', c, _⟩ := hgY k hk
    exact far k (lY k hk).2 a b' c
  have hkl : (x.insP s y).keys.length = x.keys.length + 1 := by
    have := placeOf_le x.keys s
    show (x.keys.take _ ++ s :: x.keys.drop _).length = _
    simp; omega
  have hdl : (x.insP s y).kids.length = x.kids.length + 1 := by
    show (x.kids.take _ ++ y :: x.kids.drop _).length = _
    simp; omega
  have hb3 : b ≠ g3 := by
    rcases hg3 with h | h
    · exact fun e => hb ((memG b).2 (.inl (e ▸ h)))
    · omega
  have hb4 : b ≠ g4 := by
    rcases hg4 with h | h
    · exact fun e => hb ((memG b).2 (.inr (.inl (e ▸ h))))
    · omega
  refine ⟨_, _, _, _, _, [g3] ++ ([g4] ++ (F1 ++ (FY ++ F2))), hupd, hc, ?_, ?_, ?_, ?_, ht⟩
  · have := OwnIn.make (w := W) (base := base) (d := x.insP s y) (v3 := .slice (some ⟨g3, 0, none⟩) (x.keys.length + 1) cap3) (v4 := .slice (some ⟨g4, 0, none⟩) (x.kids.length + 1) cap4) (cs := c1 ++ (y0 :: y1 :: y2 :: y3 :: y4 :: c2)) (Fs := F1 ++ (FY ++ F2))
      (by rw [hkl]; exact h3) (by rw [hdl]; exact h4) (OwnKids.join (hy.same (Nat.le_refl _) fY) (ok2.same (Nat.le_refl _) f2) (ok1.same (Nat.le_refl _) f1))
    exact this
  · simp only [List.nodup_append, List.nodup_cons, List.mem_append, List.mem_cons, List.not_mem_nil, or_false, ne_eq, List.nodup_nil, not_false_eq_true, true_and]
    refine ⟨⟨⟨nF1, ⟨hyn, nF2, fun a ha c hcc hac => (hgY a ha).2.2.2.2.2.2 (hac ▸ hcc)⟩, fun a ha c hcc hac => ?_⟩, fun a ha c hcc hac => ?_⟩, fun a ha c hcc hac => ?_⟩
    · rcases hcc with h | h
      · exact (hgY c h).2.2.2.2.2.1 (hac ▸ ha)
      · exact nF12 a ha c h hac
    · subst ha
      rcases hcc with h | h | h
      · exact (hgF c (.inl h)).2.1 hac.symm
      · exact (hgY c h).2.1 hac.symm
      · exact (hgF c (.inr h)).2.1 hac.symm
    · subst ha
      rcases hcc with h | h | h | h
      · exact hg34 (hac.trans h)
      · exact (hgF c (.inl h)).1 hac.symm
      · exact (hgY c h).1 hac.symm
      · exact (hgF c (.inr h)).1 hac.symm
  · intro hm
    simp only [List.mem_append, List.mem_cons, List.not_mem_nil, or_false] at hm
    rcases hm with h | h | h | h | h
    · exact hb3 h
    · exact hb4 h
    · exact (hgF b (.inl h)).2.2.1 rfl
    · exact (hgY b h).2.2.1 rfl
    · exact (hgF b (.inr h)).2.2.1 rfl
  · intro k hk
    simp only [List.mem_append, List.mem_cons, List.not_mem_nil, or_false] at hk
    rcases hk with rfl | rfl | h | h | h
    · rcases hg3 with h | h
      · exact .inl ((memG _).2 (.inl h))
      · exact .inr (.inr h)
    · rcases hg4 with h | h
      · exact .inl ((memG _).2 (.inr (.inl h)))
      · exact .inr (.inr h)
    · exact .inl ((memG k).2 (.inr (.inr (.inl h))))
    · exact .inr (.inl h)
    · exact .inl ((memG k).2 (.inr (.inr (.inr h))))
end Go.Proofs.YtlemlgllkcgigaaGreatDoor
