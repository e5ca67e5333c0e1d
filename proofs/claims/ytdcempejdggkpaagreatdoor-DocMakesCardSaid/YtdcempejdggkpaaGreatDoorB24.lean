/-
  
-/
import Derived.Test.YtdcempejdggkpaaGreatDoorB23
import Derived.Test.YtdcempejdggkpaaGreatDoorB19
namespace Go.Proofs.YtdcempejdggkpaaGreatDoor
open Go.RowKit

theorem delStr_any {w : World} {base g cap i : Nat} {xs : List ByteArray} (hown : w.ownsRow base 9 1 (.slice (some ⟨g, 0, none⟩) xs.length cap) xs.length (xs.map Value.string)) (hi : i < xs.length) (hn : xs.length ≤ 10000) :
    Calls Tryz.prog 49 #[.slice (some ⟨g, 0, none⟩) xs.length cap, .int .i64 i, .int .i64 ((i : Int) + 1)] w fun e w' =>
      e = .returned (.slice (some ⟨g, 0, none⟩) (xs.length - 1) cap) ∧ w'.ownsRow base 9 1 (.slice (some ⟨g, 0, none⟩) (xs.length - 1) cap) (xs.length - 1) ((xs.take i ++ xs.drop (i + 1)).map Value.string) ∧ w.grownBy w' (some g) := by
  obtain ⟨cur, hcur, hbase, hncap, hcapm, hcsz, htake⟩ : ∃ cur : Array Value, w.heap[g]? = some (.cells cur 9 (0, 0)) ∧ base ≤ g ∧ xs.length ≤ cap ∧ cap ≤ maxLen ∧ cur.size = cap * 1 ∧ cur.toList.take (xs.length * 1) = xs.map Value.string := by
    rcases hown.2 with ⟨e, _⟩ | ⟨g', cap', cur, e, hg, hh, a1, a2, a3, a4⟩
    · cases e
    · injection e with e _ e3
      injection e with e
      injection e with e
      subst e; subst e3
      exact ⟨cur, hh, hg, a1, a2, a3, a4⟩
  have hcm : cap ≤ 9223372036854775807 := hcapm
  have hcell : ∀ j, j < xs.length → w.cell? ⟨g, 0 + j, none⟩ = some (.string (xs.getD j ByteArray.empty)) := fun j hj => by
    rw [Nat.zero_add, hown.cellAt j (by omega)]; simp [List.getD, hj]
  have hfz : ∀ j, j < xs.length → w.frozen? ⟨g, 0 + j, none⟩ = false := fun j _ => hown.frozenAt _
  have h := Tryz.slices_Delete_string_cells g 0 xs.length cap i (i + 1) (fun j => xs.getD j ByteArray.empty) w hncap hcm (by omega) (by omega) hcell hfz
  have hcast : ((i + 1 : Nat) : Int) = (i : Int) + 1 := by omega
  rw [hcast] at h
  refine h.mono ?_
  rintro e w' ⟨rfl, q, rfl⟩
  have hstr : Lib.strsOf (fun j => xs.getD j ByteArray.empty) xs.length = xs.map (fun s => s.data.toList) := by
    apply List.ext_getElem?
    intro j
    simp only [Lib.strsOf, List.getElem?_map]
    by_cases hj : j < xs.length
    · simp [hj, List.getD]
    · simp [hj]
  rw [hstr, show i + 1 - i = 1 from by omega]
  generalize hvs : (((xs.map fun s : ByteArray => s.data.toList).take i ++ (xs.map fun s : ByteArray => s.data.toList).drop (i + 1) ++ List.replicate 1 []).map Go.Proofs.encStr) = vs
  have hvl : vs.length = xs.length := by rw [← hvs]; simp; omega
  have hv : ∀ j, j < xs.length - 1 → vs[j]? = ((xs.take i ++ xs.drop (i + 1)).map Value.string)[j]? := fun j hj => by
    rw [← hvs, List.map_append, List.getElem?_append_left (by simp; omega), ← List.map_take, ← List.map_drop, ← List.map_append, List.map_map]
    congr 2
  obtain ⟨cur2, d1, d2, d3⟩ := setCells_block (g := g) (T := 9) (fr := (0, 0)) vs 0 (w.drewN q) cur hcur
  refine ⟨rfl, ⟨by simp; omega, .inr ⟨g, cap, cur2, rfl, hbase, d1, by omega, hcapm, by omega, ?_⟩⟩, ?_⟩
  · apply List.ext_getElem?
    intro j
    rw [List.getElem?_take]
    by_cases hj : j < (xs.length - 1) * 1
    · rw [if_pos hj, Array.getElem?_toList, d3 j, if_pos ⟨by omega, by omega, by omega⟩, Nat.sub_zero, hv j (by omega)]
    · rw [if_neg hj, List.getElem?_eq_none (by simp; omega)]
  · have t1 := tape_setCells (g := g) vs 0 (w.drewN q)
    refine ⟨t1.2.1, t1.1, t1.2.2, ?_, fun k _ hne => ?_⟩
    · rw [size_setCells]; exact Nat.le_refl _
    · exact heap_setCells_far (fun h => hne (by rw [h])) _ _ _

def D.dropKid (d : D) (i : Nat) : D := .mk d.kind d.num d.str (if d.kind = 3 then d.keys else d.keys.take i ++ d.keys.drop (i + 1)) (d.kids.take i ++ d.kids.drop (i + 1))

theorem oneCell_own {w : World} {base : Nat} : ∀ {l : List D} {cs : List Value} {F : List Nat}, OwnKids w base l cs F → ∀ u ∈ cs, u.oneCell' = true
  | [], _, _, h, u, hu => by
    simp only [OwnKids] at h
    rw [h.1] at hu; simp at hu
  | d :: r, _, _, h, u, hu => by
    simp only [OwnKids] at h
    obtain ⟨v0, v1, v2, v3, v4, cs', F1, F2, rfl, h2, h3, rfl⟩ := h
    rcases List.mem_append.1 (show u ∈ [v0, v1, v2, v3, v4] ++ cs' by simpa using hu) with h | h
    · exact oneCell_agg h2.doc u h
    · exact oneCell_own h3 u h

theorem unset_fin {x : D} {w W : World} {base b off i g cap : Nat} {v3 v3' : Value} {G Fs : List Nat} {cs : List Value} (hc : Cells5 W b off (.int .i64 x.kind) (.int .i64 x.num) (.string x.str) v3' (.slice (some ⟨g, 0, none⟩) (x.kids.length - 1) cap)) (hupd : UpdBlk w W b off)
    (h3 : W.ownsRow base 9 1 v3' (x.dropKid i).keys.length ((x.dropKid i).keys.map Value.string)) (hb3 : blk v3' = blk v3) (h4 : W.ownsRow base 27 5 (.slice (some ⟨g, 0, none⟩) (x.kids.length - 1) cap) (x.kids.length - 1) (cs.take (i * 5) ++ cs.drop ((i + 1) * 5)))
    (hkd : OwnKids w base x.kids cs Fs) (hfr : ∀ k ∈ Fs, W.heap[k]? = w.heap[k]?) (hG : G = blk v3 ++ ([g] ++ Fs)) (hn : G.Nodup) (hb : b ∉ G) (ht : Turned w W G b) (hik : i < x.kids.length) : SetOk w base (x.dropKid i) b off G [] W := by
  obtain ⟨t0, t1, t2, t3, t4, c1, c2, F1, G0, F2, rfl, hcl, rfl, ok1, okx, ok2⟩ := hkd.split i hik
  have hcs : (c1 ++ (t0 :: t1 :: t2 :: t3 :: t4 :: c2)).take (i * 5) ++ (c1 ++ (t0 :: t1 :: t2 :: t3 :: t4 :: c2)).drop ((i + 1) * 5) = c1 ++ c2 := by
    rw [← hcl, List.take_left]
    congr 1
    rw [List.drop_append, List.drop_eq_nil_of_le (by omega), List.nil_append, show (i + 1) * 5 - c1.length = 5 from by omega]
    rfl
  rw [hcs] at h4
  have hkl : (x.dropKid i).kids.length = x.kids.length - 1 := by
    show (x.kids.take i ++ x.kids.drop (i + 1)).length = _
    simp; omega
  rw [hG] at hn hb
  simp only [List.nodup_append, List.mem_append, ne_eq] at hn
  obtain ⟨n3, ⟨_, ⟨n1, ⟨_, n2, _⟩, n12⟩, ngF⟩, n3d⟩ := hn
  refine ⟨.int .i64 x.kind, .int .i64 x.num, .string x.str, v3', .slice (some ⟨g, 0, none⟩) (x.kids.length - 1) cap, blk v3' ++ ([g] ++ (F1 ++ F2)), hupd, hc, ?_, ?_, ?_, ?_, ht⟩
  · have := OwnIn.make (d := x.dropKid i) (Fs := F1 ++ F2) h3 (by rw [hkl]; exact h4) (by
      show OwnKids W base (x.kids.take i ++ x.kids.drop (i + 1)) _ _
      exact OwnKids.append (ok2.same (Nat.le_refl _) fun k hk => hfr k (by simp [hk])) (ok1.same (Nat.le_refl _) fun k hk => hfr k (by simp [hk])))
    exact this
  · rw [hb3]
    simp only [List.nodup_append, List.nodup_cons, List.mem_append, List.mem_cons, List.not_mem_nil, or_false, ne_eq, List.nodup_nil, not_false_eq_true, true_and]
    refine ⟨n3, ⟨⟨n1, n2, fun a ha c hcc hac => n12 a ha c (.inr hcc) hac⟩, fun a ha c hcc hac => ?_⟩, fun a ha c hcc hac => ?_⟩
    · rcases hcc with h | h
      · exact ngF a (by simp [ha]) c (.inl h) hac
      · exact ngF a (by simp [ha]) c (.inr (.inr h)) hac
    · rcases hcc with h | h | h
      · exact n3d a ha c (.inl (by simp [h])) hac
      · exact n3d a ha c (.inr (.inl h)) hac
      · exact n3d a ha c (.inr (.inr (.inr h))) hac
  · rw [hb3]
    intro hm
    apply hb
    simp only [List.mem_append, List.mem_cons, List.not_mem_nil, or_false] at hm ⊢
    rcases hm with h | h | h | h
    · exact .inl h
    · exact .inr (.inl h)
    · exact .inr (.inr (.inl h))
    · exact .inr (.inr (.inr (.inr h)))
  · intro k hk
    rw [hb3] at hk
    rw [hG]
    simp only [List.mem_append, List.mem_cons, List.not_mem_nil, or_false] at hk ⊢
    rcases hk with h | h | h | h
    · exact .inl (.inl h)
    · exact .inl (.inr (.inl h))
    · exact .inl (.inr (.inr (.inl h)))
    · exact .inl (.inr (.inr (.inr (.inr h))))

set_option maxHeartbeats 4000000 in
set_option maxRecDepth 100000 in
theorem unset_there {x : D} {u0 u1 u2 u3 u4 : Value} {s : ByteArray} {w : World} {base b off i : Nat} {G : List Nat} (hf : x.Fit) (hs : Short s) (hg : Glob w) (hc : Cells5 w b off u0 u1 u2 u3 u4) (hx : OwnIn w base x u0 u1 u2 u3 u4 G) (hn : G.Nodup) (hb : b ∉ G)
    (hblk : ∃ cur : Array Value, w.heap[b]? = some (.cells cur 27 (0, 0))) (hst : stepD x s = some i) (hkk : x.kind ≠ 3 → x.keys.length = x.kids.length) :
    Calls Tryz.prog 32 #[.pointer (some ⟨b, off, none⟩), .string s] w fun e w' => e = .returned (.bool true) ∧ SetOk w base (x.dropKid i) b off G [] w' := by
  obtain ⟨hik, hfi⟩ := stepD_lt hf.keys hst
  have hkl := hf.kids; have hkeys := hf.keys
  have HX := Lib.hid hx; have HC := Lib.hid hc; have HF := Lib.hid hf; have HS := Lib.hid hs; have HG := Lib.hid hg; have HFI := Lib.hid hfi
  have hbl := hc.lt
  obtain ⟨e0, e1, e2, hk3, cs, Fs, hr4, hkids, rfl⟩ := hx.parts
  obtain ⟨g, cap, rfl, hgb, hgl⟩ := hr4.form (by omega)
  obtain ⟨X3, d3, X4, d4, q0, q1, q2, q3, q4⟩ := hx.doc.forms
  subst q0; subst q1; subst q2; subst q3
  clear q4 e0 e1 e2
  obtain ⟨p0, p1, p2, p3, p4⟩ := hc
  have HBK := Lib.hid hblk; have HNB := Lib.hid hb; have HN := Lib.hid hn; have HK3 := Lib.hid hk3; have HR4 := Lib.hid hr4; have HKD := Lib.hid hkids; have HKK := Lib.hid hkk
  have hgm : g ∈ blk (.slice X3 x.keys.length d3) ++ (blk (.slice (some ⟨g, 0, none⟩) x.kids.length cap) ++ Fs) := by simp [blk, Value.ownBlock]
  have hbg : b ≠ g := fun h => hb (h ▸ hgm)
  have hcap : x.kids.length ≤ cap := hx.doc.kids_.2.1
  clear hblk hb hn hk3 hr4 hkids hkk hx hf hs hg hst hfi
  go_enter Tryz.func32, Tryz.ntmps32
  go_wp2_with fail
  refine (find_any (B := w.heap.size) HF.out HS.out HG.out (Nat.le_refl _) HX.out.doc).mono ?_
  rintro e w1 ⟨rfl, hb1⟩
  rw [HFI.out]
  have hz1 := hb1.size
  have k1 : ∀ o, w1.cell? ⟨b, o, none⟩ = w.cell? ⟨b, o, none⟩ := fun o => hb1.cell (p := ⟨b, o, none⟩) hbl
  rw [← k1] at p0 p1 p2 p3 p4
  clear k1
  go_wp2_with fail
  refine (delete_any (ownsRow_same HR4.out fun k hk => hb1.block k (HR4.out.lt k (blk_mem.1 hk)).2) (oneCell_own HKD.out) hik hkl).mono ?_
  rintro e w2 ⟨rfl, hown2, hgr2⟩
  have HO2 := Lib.hid hown2; have HGR2 := Lib.hid hgr2
  have hz2 := hgr2.size
  have k2 : ∀ o, w2.cell? ⟨b, o, none⟩ = w1.cell? ⟨b, o, none⟩ := fun o => World.cell?_of_block (a := ⟨b, o, none⟩) (hgr2.block b (by omega) (by simpa using hbg))
  have f2 : ∀ o, w2.frozen? ⟨b, o, none⟩ = false := fun o => by
    obtain ⟨cur, hcur⟩ := HBK.out
    have : w2.heap[b]? = some (.cells cur 27 (0, 0)) := (hgr2.block b (by omega) (by simpa using hbg)).trans ((hb1.block b hbl).trans hcur)
    simp [World.frozen?, this]
  rw [← k2] at p0 p1 p2 p3 p4
  have HB1 := Lib.hid hb1
  clear hown2 hgr2 k2 hb1
  by_cases hk : x.kind = 3
  · have hk3 : (x.kind != 3) = false := by simp [hk]
    have HK := Lib.hid hk; clear hk
    go_wp2_with fail
    go_ret
    refine ⟨rfl, ?_⟩
    obtain ⟨curb, hcurb⟩ := HBK.out
    have hgm2 : blk (.slice (some ⟨g, 0, none⟩) x.kids.length cap) = [g] := rfl
    have hn := HN.out; have hb := HNB.out
    rw [hgm2] at hn hb ⊢
    have hfar : ∀ k, k < w.heap.size → k ≠ g → k ≠ b → (w2.setCell ⟨b, off + 4, none⟩ (.slice (some ⟨g, 0, none⟩) (x.kids.length - 1) cap)).heap[k]? = w.heap[k]? := fun k h1 h2 h3 =>
      (Below.heap_setCell w2 _ _ k h3).trans ((HGR2.out.block k (by omega) (by simpa using h2)).trans (HB1.out.block k h1))
    have hwb : w2.heap[b]? = w.heap[b]? := (HGR2.out.block b (by omega) (by simpa using hbg)).trans (HB1.out.block b hbl)
    have c4' : ∀ o, o ≠ off + 4 → (w2.setCell ⟨b, off + 4, none⟩ (.slice (some ⟨g, 0, none⟩) (x.kids.length - 1) cap)).cell? ⟨b, o, none⟩ = w2.cell? ⟨b, o, none⟩ := fun o ho => World.cell?_setCell_other _ _ _ _ (by intro e; injection e with _ e _; exact ho e.symm)
    have hkeys' : (x.dropKid i).keys = x.keys := by simp [D.dropKid, D.keys, HK.out]
    have hnn := hn
    simp only [List.nodup_append, List.mem_append, ne_eq] at hnn
    have l3 := HK3.out.lt
    have lF := HKD.out.lt
    refine unset_fin (v3' := .slice X3 x.keys.length d3) ⟨(c4' _ (by omega)).trans p0, (c4' _ (by omega)).trans p1, (c4' _ (by omega)).trans p2, (c4' _ (by omega)).trans p3, World.cell?_setCell_same _ _ _ p4⟩ (((UpdBlk.refl off hcurb).same hwb).setCell (by omega) (by omega) _)
      (by rw [hkeys']; exact ownsRow_same HK3.out fun k hk => hfar k (l3 k (blk_mem.1 hk)).2 (fun h => hnn.2.2 k hk g (.inl (by simp)) h) (fun h => hb (by rw [← h]; simp [hk]))) rfl
      (ownsRow_same HO2.out fun k hk => Below.heap_setCell w2 _ _ k (by
        have : k = g := by simpa [blk, Value.ownBlock] using hk
        rw [this]; exact fun h => hbg h.symm))
      HKD.out (fun k hk => hfar k (lF k hk).2 (fun h => hnn.2.1.2.2 g (by simp) k hk h.symm) (fun h => hb (by rw [← h]; simp [hk]))) rfl hn hb ?_ hik
    exact (((Turned.of_below HB1.out _ b).grown HGR2.out (fun j hj => .inl (by injection hj with hj; simp [← hj]))).setCell (p := ⟨b, off + 4, none⟩) (.inr (.inl rfl)) _)
  · have hk3 : (x.kind != 3) = true := by simp [hk]
    have hkk := HKK.out hk
    have HK := Lib.hid hk; clear hk
    obtain ⟨g3, cap3, hform, hg3b, hg3l⟩ := HK3.out.form (by omega)
    injection hform with hX3 _ hd3
    subst hX3; subst hd3
    have HKE := Lib.hid hkk; clear hkk
    go_wp2_with fail
    have hgm2 : blk (.slice (some ⟨g, 0, none⟩) x.kids.length cap) = [g] := rfl
    have hgm3 : blk (.slice (some ⟨g3, 0, none⟩) x.keys.length d3) = [g3] := rfl
    have hn := HN.out; have hb := HNB.out
    rw [hgm2, hgm3] at hn hb
    have hnn := hn
    simp only [List.nodup_append, List.mem_append, ne_eq] at hnn
    have hg3g : g3 ≠ g := fun h => hnn.2.2 g3 (by simp) g (.inl (by simp)) h
    have hg3b : g3 ≠ b := fun h => hb (by simp [h])
    have hw3 : (w2.setCell ⟨b, off + 4, none⟩ (.slice (some ⟨g, 0, none⟩) (x.kids.length - 1) cap)).heap[g3]? = w.heap[g3]? :=
      (Below.heap_setCell w2 _ _ g3 hg3b).trans ((HGR2.out.block g3 (by omega) (by simpa using hg3g)).trans (HB1.out.block g3 hg3l))
    refine (delStr_any (i := i) (ownsRow_same HK3.out fun k hk => by
      have : k = g3 := by simpa [blk, Value.ownBlock] using hk
      rw [this]; exact hw3) (by have := HKE.out; omega) hkeys).mono ?_
    rintro e w3 ⟨rfl, hown3, hgr3⟩
    have hz3 := hgr3.size
    have hsz : (w2.setCell ⟨b, off + 4, none⟩ (.slice (some ⟨g, 0, none⟩) (x.kids.length - 1) cap)).heap.size = w2.heap.size := by simp [World.setCell]
    rw [hsz] at hz3
    have hwb3 : w3.heap[b]? = (w2.setCell ⟨b, off + 4, none⟩ (.slice (some ⟨g, 0, none⟩) (x.kids.length - 1) cap)).heap[b]? := hgr3.block b (by omega) (by simpa using fun h => hg3b h.symm)
    have r3 : w3.cell? ⟨b, off + 3, none⟩ = some (.slice (some ⟨g3, 0, none⟩) x.keys.length d3) := (World.cell?_of_block (a := ⟨b, off + 3, none⟩) hwb3).trans ((World.cell?_setCell_other _ _ _ _ (by intro e; injection e with _ e _; omega)).trans p3)
    have f3 : ∀ o, w3.frozen? ⟨b, o, none⟩ = false := fun o => (World.frozen?_of_block (a := ⟨b, o, none⟩) hwb3).trans (by
      obtain ⟨cur, hcur⟩ := HBK.out
      have : w2.heap[b]? = some (.cells cur 27 (0, 0)) := (HGR2.out.block b (by omega) (by simpa using hbg)).trans ((HB1.out.block b hbl).trans hcur)
      simp [World.frozen?, World.setCell, Array.getElem?_modify, this])
    have HO3 := Lib.hid hown3; have HGR3 := Lib.hid hgr3; have HWB3 := Lib.hid hwb3
    clear hown3 hgr3 hwb3
    go_wp2_with fail
    go_ret
    refine ⟨rfl, ?_⟩
    obtain ⟨curb, hcurb⟩ := HBK.out
    rw [hgm2, hgm3]
    have l3 := HK3.out.lt
    have lF := HKD.out.lt
    have hwb : w2.heap[b]? = w.heap[b]? := (HGR2.out.block b (by omega) (by simpa using hbg)).trans (HB1.out.block b hbl)
    have hfar : ∀ k, k < w.heap.size → k ≠ g → k ≠ g3 → k ≠ b → (w3.setCell ⟨b, off + 3, none⟩ (.slice (some ⟨g3, 0, none⟩) (x.keys.length - 1) d3)).heap[k]? = w.heap[k]? := fun k h1 h2 h3 h4 =>
      (Below.heap_setCell w3 _ _ k h4).trans ((HGR3.out.block k (by omega) (by simpa using h3)).trans ((Below.heap_setCell w2 _ _ k h4).trans ((HGR2.out.block k (by omega) (by simpa using h2)).trans (HB1.out.block k h1))))
    have c2' : ∀ o, o ≠ off + 4 → (w2.setCell ⟨b, off + 4, none⟩ (.slice (some ⟨g, 0, none⟩) (x.kids.length - 1) cap)).cell? ⟨b, o, none⟩ = w2.cell? ⟨b, o, none⟩ := fun o ho => World.cell?_setCell_other _ _ _ _ (by intro e; injection e with _ e _; exact ho e.symm)
    have c3' : ∀ o, o ≠ off + 3 → (w3.setCell ⟨b, off + 3, none⟩ (.slice (some ⟨g3, 0, none⟩) (x.keys.length - 1) d3)).cell? ⟨b, o, none⟩ = (w2.setCell ⟨b, off + 4, none⟩ (.slice (some ⟨g, 0, none⟩) (x.kids.length - 1) cap)).cell? ⟨b, o, none⟩ := fun o ho =>
      (World.cell?_setCell_other _ _ _ _ (by intro e; injection e with _ e _; exact ho e.symm)).trans (World.cell?_of_block (a := ⟨b, o, none⟩) HWB3.out)
    have hkeys' : (x.dropKid i).keys = x.keys.take i ++ x.keys.drop (i + 1) := by
      show (if x.kind = 3 then x.keys else x.keys.take i ++ x.keys.drop (i + 1)) = _
      rw [if_neg HK.out]
    have hklen : (x.keys.take i ++ x.keys.drop (i + 1)).length = x.keys.length - 1 := by have := HKE.out; simp; omega
    have hup := (((UpdBlk.refl off hcurb).same hwb).setCell (o := off + 4) (by omega) (by omega) (.slice (some ⟨g, 0, none⟩) (x.kids.length - 1) cap))
    refine unset_fin (v3 := .slice (some ⟨g3, 0, none⟩) x.keys.length d3) (v3' := .slice (some ⟨g3, 0, none⟩) (x.keys.length - 1) d3) ⟨(c3' _ (by omega)).trans ((c2' _ (by omega)).trans p0), (c3' _ (by omega)).trans ((c2' _ (by omega)).trans p1), (c3' _ (by omega)).trans ((c2' _ (by omega)).trans p2), World.cell?_setCell_same _ _ _ r3, (c3' _ (by omega)).trans (World.cell?_setCell_same _ _ _ p4)⟩
      ((hup.same HWB3.out).setCell (by omega) (by omega) _)
      (by rw [hkeys', hklen]; exact ownsRow_same HO3.out fun k hk => Below.heap_setCell w3 _ _ k (by
            have : k = g3 := by simpa [blk, Value.ownBlock] using hk
            rw [this]; exact hg3b)) rfl
      (ownsRow_same HO2.out fun k hk => by
        have hkg : k = g := by simpa [blk, Value.ownBlock] using hk
        subst hkg
        exact (Below.heap_setCell w3 _ _ k (fun h => hbg h.symm)).trans ((HGR3.out.block k (by omega) (by simpa using fun h => hg3g h.symm)).trans (Below.heap_setCell w2 _ _ k (fun h => hbg h.symm))))
      HKD.out (fun k hk => hfar k (lF k hk).2 (fun h => hnn.2.1.2.2 g (by simp) k hk h.symm) (fun h => hnn.2.2 g3 (by simp) k (.inr hk) h.symm) (fun h => hb (by rw [← h]; simp [hk]))) rfl hn hb ?_ hik
    exact ((((Turned.of_below HB1.out _ b).grown HGR2.out (fun j hj => .inl (by injection hj with hj; simp [← hj]))).setCell (p := ⟨b, off + 4, none⟩) (.inr (.inl rfl)) _).grown HGR3.out (fun j hj => .inl (by injection hj with hj; simp [← hj]))).setCell (p := ⟨b, off + 3, none⟩) (.inr (.inl rfl)) _
theorem unset_none {x : D} {u0 u1 u2 u3 u4 : Value} {s : ByteArray} {w : World} {base b off : Nat} {G : List Nat} (hf : x.Fit) (hs : Short s) (hg : Glob w) (hc : Cells5 w b off u0 u1 u2 u3 u4) (hx : OwnIn w base x u0 u1 u2 u3 u4 G) (hst : findI x s < 0) :
    Calls Tryz.prog 32 #[.pointer (some ⟨b, off, none⟩), .string s] w fun e w' => e = .returned (.bool false) ∧ Below w.heap.size w w' := by
  have HX := Lib.hid hx; have HF := Lib.hid hf; have HS := Lib.hid hs; have HG := Lib.hid hg
  obtain ⟨X3, d3, X4, d4, rfl, rfl, rfl, rfl, rfl⟩ := hx.doc.forms
  obtain ⟨p0, p1, p2, p3, p4⟩ := hc
  clear hx hf hs hg
  go_enter Tryz.func32, Tryz.ntmps32
  go_wp2_with fail
  refine (find_any (B := w.heap.size) HF.out HS.out HG.out (Nat.le_refl _) HX.out.doc).mono ?_
  rintro e w1 ⟨rfl, hb1⟩
  go_wp2_with fail
  go_ret
  exact ⟨rfl, hb1⟩
end Go.Proofs.YtdcempejdggkpaaGreatDoor
