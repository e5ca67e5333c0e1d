/-
  
-/
import Derived.Test.YtdcempejdggkpaaGreatDoorB16
namespace Go.Proofs.YtdcempejdggkpaaGreatDoor
open Go.RowKit

/-- The place of the kid that a part tells. -/
def stepD (d : D) (s : ByteArray) : Option Nat := if 0 ≤ findI d s then some (findI d s).toNat else none
theorem stepD_lt {d : D} {s : ByteArray} {i : Nat} (hl : d.keys.length ≤ 10000) (h : stepD d s = some i) : i < d.kids.length ∧ findI d s = i := by
  have := findI_range d s hl
  unfold stepD at h
  split at h
  · injection h with h; omega
  · cases h
theorem stepD_none {d : D} {s : ByteArray} (h : findI d s < 0) : stepD d s = none := by
  unfold stepD; rw [if_neg (by omega)]
theorem stepD_some {d : D} {s : ByteArray} (h : 0 ≤ findI d s) : stepD d s = some (findI d s).toNat := by
  unfold stepD; rw [if_pos h]
/-- Where a path leads: the places of the kids on its way. -/
def D.locate : D → List ByteArray → Option (List Nat)
  | _, [] => some []
  | d, s :: ps =>
    match stepD d s with
    | none => none
    | some i => match d.kids[i]? with
      | none => none
      | some k => (D.locate k ps).map (i :: ·)
def D.subAt : D → List Nat → Option D
  | d, [] => some d
  | d, i :: is => match d.kids[i]? with
    | none => none
    | some k => D.subAt k is
theorem D.subAt_append : ∀ (d : D) (a b : List Nat), D.subAt d (a ++ b) = (D.subAt d a).bind fun x => D.subAt x b
  | d, [], b => rfl
  | d, i :: a, b => by
    simp only [List.cons_append, D.subAt]
    cases d.kids[i]? with
    | none => rfl
    | some k => exact D.subAt_append k a b
def Leads (w : World) : Nat → Nat → List Nat → Nat → Nat → Prop
  | b, off, [], b', off' => b = b' ∧ off = off'
  | b, off, i :: is, b', off' => ∃ g o n c, w.cell? ⟨b, off + 4, none⟩ = some (.slice (some ⟨g, o, none⟩) n c) ∧ Leads w g (o + i * 5) is b' off'
theorem Leads.snoc {w : World} : ∀ {is : List Nat} {b off b1 o1 g o n c i : Nat}, Leads w b off is b1 o1 → w.cell? ⟨b1, o1 + 4, none⟩ = some (.slice (some ⟨g, o, none⟩) n c) → Leads w b off (is ++ [i]) g (o + i * 5)
  | [], b, off, b1, o1, g, o, n, c, i, h, hc => by
    obtain ⟨rfl, rfl⟩ := h
    exact ⟨g, o, n, c, hc, rfl, rfl⟩
  | j :: is, b, off, b1, o1, g, o, n, c, i, h, hc => by
    obtain ⟨g', o', n', c', h1, h2⟩ := h
    exact ⟨g', o', n', c', h1, Leads.snoc h2 hc⟩
theorem Leads.keep {w w' : World} (hk : ∀ p : Addr, p.block < w.heap.size → w'.cell? p = w.cell? p) : ∀ {is : List Nat} {b off b' off' : Nat}, Leads w b off is b' off' → Leads w' b off is b' off'
  | [], _, _, _, _, h => h
  | i :: is, b, off, b', off', h => by
    obtain ⟨g, o, n, c, h1, h2⟩ := h
    exact ⟨g, o, n, c, (hk _ (World.block_lt_of_cell? _ _ h1)).trans h1, Leads.keep hk h2⟩

/-- Five cells. -/
structure Cells5 (w : World) (b off : Nat) (v0 v1 v2 v3 v4 : Value) : Prop where
  c0 : w.cell? ⟨b, off, none⟩ = some v0
  c1 : w.cell? ⟨b, off + 1, none⟩ = some v1
  c2 : w.cell? ⟨b, off + 2, none⟩ = some v2
  c3 : w.cell? ⟨b, off + 3, none⟩ = some v3
  c4 : w.cell? ⟨b, off + 4, none⟩ = some v4
theorem Cells5.keep {w w' : World} {b off : Nat} {v0 v1 v2 v3 v4 : Value} (h : Cells5 w b off v0 v1 v2 v3 v4) (hk : ∀ o, w'.cell? ⟨b, o, none⟩ = w.cell? ⟨b, o, none⟩) : Cells5 w' b off v0 v1 v2 v3 v4 :=
  ⟨(hk _).trans h.c0, (hk _).trans h.c1, (hk _).trans h.c2, (hk _).trans h.c3, (hk _).trans h.c4⟩
theorem Cells5.lt {w : World} {b off : Nat} {v0 v1 v2 v3 v4 : Value} (h : Cells5 w b off v0 v1 v2 v3 v4) : b < w.heap.size := World.block_lt_of_cell? _ _ h.c0

/-- What doc.at tells: where the path leads, and what stands there. -/
def AtTold (w : World) (B b off : Nat) (d : D) (ps : List ByteArray) (e : Ending) : Prop :=
  (D.locate d ps = none ∧ e = .returned (.pointer none)) ∨
  ∃ (is : List Nat) (b' off' : Nat) (x : D) (u0 u1 u2 u3 u4 : Value), D.locate d ps = some is ∧ e = .returned (.pointer (some ⟨b', off', none⟩)) ∧ Leads w b off is b' off' ∧ D.subAt d is = some x ∧ Cells5 w b' off' u0 u1 u2 u3 u4 ∧ DocIn w B x u0 u1 u2 u3 u4 ∧ x.Fit

theorem locate_none {d : D} {ps : List ByteArray} {k : Nat} {is : List Nat} {x : D} (h : k < ps.length) (hl : D.locate d ps = (D.locate x (ps.drop k)).map (is ++ ·)) (hs : stepD x ps[k] = none) : D.locate d ps = none := by
  rw [hl, List.drop_eq_getElem_cons h]; simp [D.locate, hs]
theorem locate_some {d : D} {ps : List ByteArray} {k i : Nat} {is : List Nat} {x : D} (h : k < ps.length) (hl : D.locate d ps = (D.locate x (ps.drop k)).map (is ++ ·)) (hs : stepD x ps[k] = some i) (hi : i < x.kids.length) :
    D.locate d ps = (D.locate x.kids[i] (ps.drop (k + 1))).map ((is ++ [i]) ++ ·) := by
  rw [hl, List.drop_eq_getElem_cons h]
  simp only [D.locate, hs, List.getElem?_eq_getElem hi, Option.map_map]
  congr 1
  funext l
  simp

set_option maxHeartbeats 4000000 in
set_option maxRecDepth 100000 in
theorem at_any {d : D} {v0 v1 v2 v3 v4 pv : Value} {ps : List ByteArray} {w : World} {B b off : Nat} (hf : d.Fit) (hps : ps.length ≤ 10000) (hs : ∀ s ∈ ps, Short s) (hg : Glob w) (hB : B ≤ w.heap.size)
    (hc : Cells5 w b off v0 v1 v2 v3 v4) (hd : DocIn w B d v0 v1 v2 v3 v4) (hp : Strs w B pv ps) :
    Calls Tryz.prog 30 #[.pointer (some ⟨b, off, none⟩), pv] w fun e w' => AtTold w B b off d ps e ∧ Below w.heap.size w w' := by
  obtain ⟨A, c, rfl, hc1, hc2⟩ := hp
  have HP := Lib.hid hc2; have HS := Lib.hid hs; have HG := Lib.hid hg
  have HF := Lib.hid hf; have HC := Lib.hid hc; have HD := Lib.hid hd
  clear hc2 hs hg hf hc hd
  go_enter Tryz.func30, Tryz.ntmps30
  go_wp2_with fail
  go_loopw [0, 10] (fun p i wr => ∃ (k : Nat) (is : List Nat) (b' off' : Nat) (x : D) (u0 u1 u2 u3 u4 : Value), k ≤ ps.length ∧ i = .int .i64 k ∧ p = .pointer (some ⟨b', off', none⟩) ∧ Leads w b off is b' off' ∧ D.subAt d is = some x ∧
      Cells5 w b' off' u0 u1 u2 u3 u4 ∧ DocIn w B x u0 u1 u2 u3 u4 ∧ x.Fit ∧ D.locate d ps = (D.locate x (ps.drop k)).map (is ++ ·) ∧ Below w.heap.size w wr) (fun _ i _ => ps.length - (intOf i).toNat)
  case atStart => exact ⟨0, [], b, off, d, v0, v1, v2, v3, v4, Nat.zero_le _, rfl, rfl, ⟨rfl, rfl⟩, rfl, HC.out, HD.out, HF.out, by simp, Below.refl _ _⟩
  case round =>
    obtain ⟨k, is, b', off', x, y0, y1, y2, y3, y4, hk, rfl, rfl, hlead, hsub, hcx, hdx, hfx, hloc, hb⟩ := hrel
    have HLD := Lib.hid hlead; have HSB := Lib.hid hsub; have HCX := Lib.hid hcx; have HDX := Lib.hid hdx; have HFX := Lib.hid hfx; have HLC := Lib.hid hloc
    clear hlead hsub hloc
    have hz := hb.size
    by_cases hlt : k < ps.length
    · obtain ⟨pb, po, rfl, hpb, hcells⟩ := HP.out (by omega)
      have gp : wr.cell? ⟨pb, po + k, none⟩ = some (.string ps[k]) := (hb.cell (p := ⟨pb, po + k, none⟩) (by show pb < _; omega)).trans (hcells k hlt)
      clear hcells
      have hbl := hcx.lt
      have hcr := hcx.keep (w' := wr) fun o => hb.cell (p := ⟨b', o, none⟩) hbl
      obtain ⟨A3, c3, A4, c4, rfl, rfl, rfl, rfl, rfl⟩ := hdx.forms
      obtain ⟨g0, g1, g2, g3, g4⟩ := hcr
      have hxk := hfx.keys
      clear hcx hdx hfx
      go_wp2_with fail
      refine (find_any (B := B) HFX.out (HS.out _ (List.getElem_mem hlt)) (HG.out.below hb HG.out.size) (by omega) (HDX.out.below (hb.mono hB))).mono ?_
      rintro e w1 ⟨rfl, hb1⟩
      have hb2 : Below w.heap.size w w1 := hb.trans (hb1.mono hz)
      have hcr1 := HCX.out.keep (w' := w1) fun o => hb2.cell (p := ⟨b', o, none⟩) hbl
      by_cases hneg : findI x ps[k] < 0
      · have E := Lib.hid (locate_none hlt HLC.out (stepD_none hneg))
        go_wp2_with fail
        go_ret
        exact ⟨.inl ⟨E.out, rfl⟩, hb2⟩
      · obtain ⟨i, hi⟩ : ∃ i : Nat, findI x ps[k] = (i : Int) := ⟨(findI x ps[k]).toNat, by omega⟩
        have hst : stepD x ps[k] = some i := by rw [stepD_some (by omega), hi]; simp
        obtain ⟨hik, _⟩ := stepD_lt hxk hst
        have hl2 := locate_some hlt HLC.out hst hik
        have hsub2 : D.subAt d (is ++ [i]) = some x.kids[i] := by rw [D.subAt_append, HSB.out]; simp [D.subAt, List.getElem?_eq_getElem hik]
        obtain ⟨_, hc4, hkk⟩ := HDX.out.kids_
        obtain ⟨kb, ko, rfl, hkb, hki⟩ := hkk (by omega)
        have hkc := KidsIn.at_ hki i hik
        rw [Nat.zero_add] at hkc
        obtain ⟨z0, z1, z2, z3, z4, q0, q1, q2, q3, q4, hdk⟩ := hkc
        have HREL : Hid (Leads w b off (is ++ [i]) kb (ko + i * 5) ∧ D.subAt d (is ++ [i]) = some x.kids[i] ∧ Cells5 w kb (ko + i * 5) z0 z1 z2 z3 z4 ∧ DocIn w B x.kids[i] z0 z1 z2 z3 z4 ∧ (x.kids[i]).Fit ∧
          D.locate d ps = (D.locate x.kids[i] (ps.drop (k + 1))).map ((is ++ [i]) ++ ·)) := ⟨HLD.out.snoc HCX.out.c4, hsub2, ⟨q0, q1, q2, q3, q4⟩, hdk, HFX.out.kid hik, hl2⟩
        obtain ⟨p0, p1, p2, p3, p4⟩ := hcr1
        rw [hi]
        clear hi hst hl2 hsub2 hkk hki q0 q1 q2 q3 q4 hdk hneg
        go_wp2_with fail
        go_roundw
        case rel => exact ⟨k + 1, is ++ [i], kb, ko + i * 5, x.kids[i], z0, z1, z2, z3, z4, by omega, by go_num, rfl, HREL.out.1, HREL.out.2.1, HREL.out.2.2.1, HREL.out.2.2.2.1, HREL.out.2.2.2.2.1, HREL.out.2.2.2.2.2, hb2⟩
        case measure => simp [intOf]; omega
    · have E : Hid (D.locate d ps = some is) := by
        show D.locate d ps = some is
        rw [HLC.out, List.drop_eq_nil_of_le (by omega)]; simp [D.locate]
      go_wp2_with fail
      go_ret
      exact ⟨.inr ⟨is, b', off', x, y0, y1, y2, y3, y4, E.out, rfl, HLD.out, HSB.out, HCX.out, HDX.out, HFX.out⟩, hb⟩
end Go.Proofs.YtdcempejdggkpaaGreatDoor
