/-
  text.write: its three closures.
-/
import Derived.Test.YtmnaaohhageihaaDoorCWriteRow
import Derived.Test.YtmnaaohhageihaaDoorCReadBox
import Derived.Deep.RegionHeld3
namespace Go.Proofs.YtmnaaohhageihaaDoor
open Go.RowKit

theorem BldTo.refl {B b : Nat} {l : List UInt8} {w w1 : World} (h : BldTo B b l w w1) : BldTo B b l w1 w1 := ⟨h.1, Below.refl _ _, Lib.OthersKept.refl _ _ _⟩
/-- What a writer of documents stands on: the builder's and the document's variables, the document, the table. -/
structure PW (B b BB xb xd : Nat) (d : D) (v0 v1 v2 v3 v4 : Value) (w : World) : Prop where
  pb : w.heap[xb]? = some (.cells #[.pointer (some ⟨b, 0, none⟩)] 39 (0, 0))
  pd : Box5 w xd v0 v1 v2 v3 v4
  doc : DocIn w BB d v0 v1 v2 v3 v4
  tab : Lib.TabIs Tryd.prog w "internal/strconv.uint64pow10" .u64 Lib.pow10Tab
theorem PW.next {B b BB xb xd : Nat} {d : D} {v0 v1 v2 v3 v4 : Value} {w w' : World} {l : List UInt8} (h : PW B b BB xb xd d v0 v1 v2 v3 v4 w) (t : BldTo B b l w w') (hBB : BB ≤ B) (hg : 3 < B) (h1 : xb ≠ b) (h2 : xd ≠ b) : PW B b BB xb xd d v0 v1 v2 v3 v4 w' :=
  ⟨t.2.2 xb _ h.pb (by simp; omega) (by intro c fz hh; injection hh with _ hh _; exact absurd hh (by decide)), t.2.2 xd _ h.pd (by simp; omega) (by intro c fz hh; injection hh with _ hh _; exact absurd hh (by decide)),
   h.doc.keep (Nat.le_refl _) (fun p hp => t.2.1.cell (by omega)), tx_tab_same h.tab (t.2.1.block _ hg)⟩
mutual
/-- All numbers are ints. -/
def D.Nums : D → Prop
  | .mk _ n _ _ l => (-9223372036854775808 ≤ n ∧ n ≤ 9223372036854775807) ∧ D.NumsL l
def D.NumsL : List D → Prop
  | [] => True
  | d :: r => d.Nums ∧ D.NumsL r
end
theorem D.NumsL.at_ : ∀ {l : List D}, D.NumsL l → ∀ {i : Nat} (hi : i < l.length), (l[i]).Nums
  | [], _, i, hi => by simp at hi
  | d :: r, h, 0, _ => by simp only [D.NumsL] at h; exact h.1
  | d :: r, h, i + 1, hi => by simp only [D.NumsL] at h; exact D.NumsL.at_ h.2 (by simpa using hi)
theorem D.Nums.kid {d : D} (h : d.Nums) {i : Nat} (hi : i < d.kids.length) : (d.kids[i]).Nums := by obtain ⟨_, _, _, _, _⟩ := d; simp only [D.Nums] at h; exact h.2.at_ hi
theorem D.Nums.num {d : D} (h : d.Nums) : -9223372036854775808 ≤ d.num ∧ d.num ≤ 9223372036854775807 := by obtain ⟨_, _, _, _, _⟩ := d; simp only [D.Nums] at h; exact h.1
/-- That documents so deep are written. -/
def DWrites (B b BB m : Nat) : Prop := ∀ (d : D) (v0 v1 v2 v3 v4 : Value) (l : List UInt8) (w : World), d.depth ≤ m → d.Fit → d.Nums → DocIn w BB d v0 v1 v2 v3 v4 → Bld B b l w → B ≤ w.heap.size → Lib.TabIs Tryd.prog w "internal/strconv.uint64pow10" .u64 Lib.pow10Tab → l.length + (printD d).length ≤ 900000 →
  Calls Tryd.prog 17 #[.pointer (some ⟨b, 0, none⟩), .agg #[v0, v1, v2, v3, v4]] w fun e w' => e = .returned (.tuple #[]) ∧ BldTo B b (l ++ printD d) w w'
theorem PW.drew {B b BB xb xd : Nat} {d : D} {v0 v1 v2 v3 v4 : Value} {w : World} (h : PW B b BB xb xd d v0 v1 v2 v3 v4 w) : PW B b BB xb xd d v0 v1 v2 v3 v4 w.drew :=
  ⟨h.pb, h.pd, DocIn.keep (w := w) (w' := w.drew) (Nat.le_refl _) (fun _ _ => rfl) h.doc, tx_tab_same (w := w) (w' := w.drew) h.tab rfl⟩
theorem Bld.drew {B b : Nat} {l : List UInt8} {w : World} (h : Bld B b l w) : Bld B b l w.drew := by
  rcases h with h | h
  · exact .inl h.drew
  · exact .inr h.drew
theorem BldTo.undrew {B b : Nat} {l : List UInt8} {w w' : World} (h : BldTo B b l w.drew w') : BldTo B b l w w' := ⟨h.1, ⟨h.2.1.os, h.2.1.tape, h.2.1.output, h.2.1.size, h.2.1.block⟩, h.2.2⟩
set_option maxHeartbeats 8000000 in
set_option maxRecDepth 100000 in
theorem write3_any {B b BB m xb xd k : Nat} {d : D} {v0 v1 v2 v3 v4 : Value} {l : List UInt8} {w : World} (HD : DWrites B b BB m) (hBB : BB ≤ B) (hg : 3 < B) (hxb : xb ≠ b) (hxd : xd ≠ b) (hdp : d.depth ≤ m + 1) (hf : d.Fit) (hnu : d.Nums) (hp : PW B b BB xb xd d v0 v1 v2 v3 v4 w) (hb : Bld B b l w) (hBw : B ≤ w.heap.size) (hk : k < d.kids.length) (hlen : l.length + (printD d.kids[k]).length ≤ 900000) :
    Calls Tryd.prog 35 #[.int .i64 (k : Nat), .pointer (some ⟨xb, 0, none⟩), .pointer (some ⟨xd, 0, none⟩)] w fun e w' => e = .returned (.tuple #[]) ∧ BldTo B b (l ++ printD d.kids[k]) w w' := by
  obtain ⟨A3, c3, A4, c4, rfl, rfl, rfl, rfl, rfl⟩ := hp.doc.forms
  obtain ⟨-, hc4, hkids⟩ := hp.doc.kids_
  obtain ⟨b4, off4, rfl, hb4, hkin⟩ := hkids (by omega)
  obtain ⟨u0, u1, u2, u3, u4, g0, g1, g2, g3, g4, hkid⟩ := hkin.at_ k hk
  rw [Nat.zero_add] at g0 g1 g2 g3 g4
  obtain ⟨A5, c5, A6, c6, rfl, rfl, rfl, rfl, rfl⟩ := hkid.forms
  obtain ⟨kd, hkd⟩ : ∃ kd, kd = d.kids[k] := ⟨_, rfl⟩
  have hkdep : kd.depth ≤ m := by have := D.depth_kid (d := d) hk; rw [← hkd] at this; omega
  have hkfit : kd.Fit := by rw [hkd]; exact hf.kid hk
  have hknum : kd.Nums := by rw [hkd]; exact hnu.kid hk
  rw [← hkd] at g0 g1 g2 g3 g4 hkid hlen ⊢
  have hki : (k : Int) < (d.kids.length : Int) := by omega
  have hk0 : (0 : Int) ≤ (k : Int) := by omega
  have HSK : Hid (∀ X, PW B b BB xb xd d (.int .i64 d.kind) (.int .i64 d.num) (.string d.str) (.slice A3 d.keys.length c3) (.slice (some ⟨b4, off4, none⟩) d.kids.length c4) X → (∀ o, X.cell? ⟨b4, o, none⟩ = w.cell? ⟨b4, o, none⟩) → X.cell? ⟨xb, 0, none⟩ = some (.pointer (some ⟨b, 0, none⟩)) ∧ X.cell? ⟨xd, 4, none⟩ = some (.slice (some ⟨b4, off4, none⟩) d.kids.length c4) ∧ X.cell? ⟨b4, off4 + k * 5, none⟩ = some (.int .i64 kd.kind) ∧ X.cell? ⟨b4, off4 + k * 5 + 1, none⟩ = some (.int .i64 kd.num) ∧ X.cell? ⟨b4, off4 + k * 5 + 2, none⟩ = some (.string kd.str) ∧ X.cell? ⟨b4, off4 + k * 5 + 3, none⟩ = some (.slice A5 kd.keys.length c5) ∧ X.cell? ⟨b4, off4 + k * 5 + 4, none⟩ = some (.slice A6 kd.kids.length c6)) := Lib.hid fun X h1 hh =>
    ⟨rdr_cell h1.pb, h1.pd.cells.2.2.2.2, (hh _).trans g0, (hh _).trans g1, (hh _).trans g2, (hh _).trans g3, (hh _).trans g4⟩
  have HKID : Hid (∀ X : World, (∀ p : Addr, p.block < BB → X.cell? p = w.cell? p) → DocIn X BB kd (.int .i64 kd.kind) (.int .i64 kd.num) (.string kd.str) (.slice A5 kd.keys.length c5) (.slice A6 kd.kids.length c6)) := Lib.hid fun X hX => hkid.keep (Nat.le_refl _) hX
  have HP := Lib.hid hp; have HB := Lib.hid hb; have HDD := Lib.hid HD
  clear hp hb HD hkin hkids hkid hkd
  have hcall := HDD.out kd _ _ _ _ _ (l) w.drew hkdep hkfit hknum (HKID.out w.drew fun p hp => rfl) HB.out.drew (by first | exact hBw | omega) HP.out.drew.tab (by exact hlen)
  have HS : Hid (∀ X l', BldTo B b l' w.drew X → X.cell? ⟨xb, 0, none⟩ = some (.pointer (some ⟨b, 0, none⟩)) ∧ X.cell? ⟨xd, 4, none⟩ = some (.slice (some ⟨b4, off4, none⟩) d.kids.length c4) ∧ X.cell? ⟨b4, off4 + k * 5, none⟩ = some (.int .i64 kd.kind) ∧ X.cell? ⟨b4, off4 + k * 5 + 1, none⟩ = some (.int .i64 kd.num) ∧ X.cell? ⟨b4, off4 + k * 5 + 2, none⟩ = some (.string kd.str) ∧ X.cell? ⟨b4, off4 + k * 5 + 3, none⟩ = some (.slice A5 kd.keys.length c5) ∧ X.cell? ⟨b4, off4 + k * 5 + 4, none⟩ = some (.slice A6 kd.kids.length c6)) := Lib.hid fun X l' hX => HSK.out X (PW.next HP.out.drew hX hBB hg hxb hxd) fun o => (hX.2.1.cell (p := ⟨b4, o, none⟩) (by show b4 < B; omega)).trans (rfl)
  obtain ⟨s0, s1, s2, s3, s4, s5, s6⟩ := HSK.out w HP.out (fun o => rfl)
  have HC := Lib.hid hcall
  clear hcall
  clear g0 g1 g2 g3 g4
  go_enter Tryd.func35, Tryd.ntmps35
  go_region_held3 (fun X => X.cell? ⟨xb, 0, none⟩ = some (.pointer (some ⟨b, 0, none⟩)) ∧ X.cell? ⟨xd, 4, none⟩ = some (.slice (some ⟨b4, off4, none⟩) d.kids.length c4) ∧ X.cell? ⟨b4, off4 + k * 5, none⟩ = some (.int .i64 kd.kind) ∧ X.cell? ⟨b4, off4 + k * 5 + 1, none⟩ = some (.int .i64 kd.num) ∧ X.cell? ⟨b4, off4 + k * 5 + 2, none⟩ = some (.string kd.str) ∧ X.cell? ⟨b4, off4 + k * 5 + 3, none⟩ = some (.slice A5 kd.keys.length c5) ∧ X.cell? ⟨b4, off4 + k * 5 + 4, none⟩ = some (.slice A6 kd.kids.length c6))
    (first | exact ⟨s0, s1, s2, s3, s4, s5, s6⟩ | with_reducible exact HS.out _ _ hb5)
    ((first
      | (go_at_call 17
         refine HC.out.mono ?_
         rintro e w5 ⟨rfl, hb5⟩)))
  have HB5 := Lib.hid (BldTo.undrew hb5)
  clear hb5
  go_end0
  exact ⟨rfl, HB5.out⟩
set_option maxHeartbeats 8000000 in
set_option maxRecDepth 100000 in
theorem write1_any {B b BB m xb xd k : Nat} {d : D} {v0 v1 v2 v3 v4 : Value} {l : List UInt8} {w : World} (HD : DWrites B b BB m) (hBB : BB ≤ B) (hg : 3 < B) (hxb : xb ≠ b) (hxd : xd ≠ b) (hdp : d.depth ≤ m + 1) (hf : d.Fit) (hnu : d.Nums) (hp : PW B b BB xb xd d v0 v1 v2 v3 v4 w) (hb : Bld B b l w) (hBw : B ≤ w.heap.size) (hk : k < d.kids.length) (hkk : k < d.keys.length) (hlen : l.length + (d.keys[k].data.toList ++ ([32, 61, 32] ++ printD d.kids[k])).length ≤ 900000) :
    Calls Tryd.prog 33 #[.int .i64 (k : Nat), .pointer (some ⟨xb, 0, none⟩), .pointer (some ⟨xd, 0, none⟩)] w fun e w' => e = .returned (.tuple #[]) ∧ BldTo B b (l ++ (d.keys[k].data.toList ++ ([32, 61, 32] ++ printD d.kids[k]))) w w' := by
  obtain ⟨A3, c3, A4, c4, rfl, rfl, rfl, rfl, rfl⟩ := hp.doc.forms
  obtain ⟨-, hc4, hkids⟩ := hp.doc.kids_
  obtain ⟨b4, off4, rfl, hb4, hkin⟩ := hkids (by omega)
  obtain ⟨u0, u1, u2, u3, u4, g0, g1, g2, g3, g4, hkid⟩ := hkin.at_ k hk
  rw [Nat.zero_add] at g0 g1 g2 g3 g4
  obtain ⟨A5, c5, A6, c6, rfl, rfl, rfl, rfl, rfl⟩ := hkid.forms
  obtain ⟨kd, hkd⟩ : ∃ kd, kd = d.kids[k] := ⟨_, rfl⟩
  have hkdep : kd.depth ≤ m := by have := D.depth_kid (d := d) hk; rw [← hkd] at this; omega
  have hkfit : kd.Fit := by rw [hkd]; exact hf.kid hk
  have hknum : kd.Nums := by rw [hkd]; exact hnu.kid hk
  rw [← hkd] at g0 g1 g2 g3 g4 hkid hlen ⊢
  have hki : (k : Int) < (d.kids.length : Int) := by omega
  have hk0 : (0 : Int) ≤ (k : Int) := by omega
  have HSK : Hid (∀ X, PW B b BB xb xd d (.int .i64 d.kind) (.int .i64 d.num) (.string d.str) (.slice A3 d.keys.length c3) (.slice (some ⟨b4, off4, none⟩) d.kids.length c4) X → (∀ o, X.cell? ⟨b4, o, none⟩ = w.cell? ⟨b4, o, none⟩) → X.cell? ⟨xb, 0, none⟩ = some (.pointer (some ⟨b, 0, none⟩)) ∧ X.cell? ⟨xd, 4, none⟩ = some (.slice (some ⟨b4, off4, none⟩) d.kids.length c4) ∧ X.cell? ⟨b4, off4 + k * 5, none⟩ = some (.int .i64 kd.kind) ∧ X.cell? ⟨b4, off4 + k * 5 + 1, none⟩ = some (.int .i64 kd.num) ∧ X.cell? ⟨b4, off4 + k * 5 + 2, none⟩ = some (.string kd.str) ∧ X.cell? ⟨b4, off4 + k * 5 + 3, none⟩ = some (.slice A5 kd.keys.length c5) ∧ X.cell? ⟨b4, off4 + k * 5 + 4, none⟩ = some (.slice A6 kd.kids.length c6)) := Lib.hid fun X h1 hh =>
    ⟨rdr_cell h1.pb, h1.pd.cells.2.2.2.2, (hh _).trans g0, (hh _).trans g1, (hh _).trans g2, (hh _).trans g3, (hh _).trans g4⟩
  have HKID : Hid (∀ X : World, (∀ p : Addr, p.block < BB → X.cell? p = w.cell? p) → DocIn X BB kd (.int .i64 kd.kind) (.int .i64 kd.num) (.string kd.str) (.slice A5 kd.keys.length c5) (.slice A6 kd.kids.length c6)) := Lib.hid fun X hX => hkid.keep (Nat.le_refl _) hX
  obtain ⟨A3', c3', e3, hc3, hkeys⟩ := hp.doc.keys_
  injection e3 with e3 e3a e3b
  subst e3; subst e3b
  obtain ⟨b3, off3, rfl, hb3, hkeyc⟩ := hkeys (by omega)
  have gk := hkeyc k hkk
  obtain ⟨K, hK⟩ : ∃ K, K = d.keys[k] := ⟨_, rfl⟩
  have hKs : K.size ≤ 10000 := by rw [hK]; exact hf.key hkk
  rw [← hK] at gk hlen ⊢
  have hKl : (K.data.toList).length = K.size := by simp
  simp only [List.length_append, List.length_cons, List.length_nil] at hlen
  have hkk' : (k : Int) < (d.keys.length : Int) := by omega
  have HP := Lib.hid hp; have HB := Lib.hid hb; have HDD := Lib.hid HD
  have gx0 : w.cell? ⟨xb, 0, none⟩ = some (.pointer (some ⟨b, 0, none⟩)) := rdr_cell hp.pb
  have gx3 : w.cell? ⟨xd, 3, none⟩ = some (.slice (some ⟨b3, off3, none⟩) d.keys.length c3) := hp.pd.cells.2.2.2.1
  have HS0 : Hid (∀ X l', BldTo B b l' w.drew X → X.cell? ⟨xb, 0, none⟩ = some (.pointer (some ⟨b, 0, none⟩)) ∧ X.cell? ⟨xd, 3, none⟩ = some (.slice (some ⟨b3, off3, none⟩) d.keys.length c3) ∧ X.cell? ⟨b3, off3 + k, none⟩ = some (.string K)) := Lib.hid fun X l' hX => by
    have h1 := PW.next hp.drew hX hBB hg hxb hxd
    exact ⟨rdr_cell h1.pb, h1.pd.cells.2.2.2.1, (hX.2.1.cell (p := ⟨b3, off3 + k, none⟩) (by show b3 < B; omega)).trans gk⟩
  have HC0 := Lib.hid (bstring_any (w := w.drew) K hb.drew (by omega) hBw)
  have HG4 := Lib.hid (fun o (X : World) (h : Below B w X) => h.cell (p := ⟨b4, o, none⟩) (by show b4 < B; omega))
  clear hp hb HD hkin hkids hkid hkd hkeyc hkeys hK hf hKl g0 g1 g2 g3 g4
  go_enter Tryd.func33, Tryd.ntmps33
  go_wp2_with fail
  go_region_held3 (fun X => X.cell? ⟨xb, 0, none⟩ = some (.pointer (some ⟨b, 0, none⟩)) ∧ X.cell? ⟨xd, 3, none⟩ = some (.slice (some ⟨b3, off3, none⟩) d.keys.length c3) ∧ X.cell? ⟨b3, off3 + k, none⟩ = some (.string K))
    (first | exact ⟨gx0, gx3, gk⟩ | with_reducible exact HS0.out _ _ hb1)
    ((first
      | (go_at_call 25
         refine HC0.out.mono ?_
         rintro e w1 ⟨rfl, hb1⟩)))
  have HB1 := Lib.hid (BldTo.undrew hb1)
  have HP1 := Lib.hid (HP.out.next HB1.out hBB hg hxb hxd)
  have hz1 : B ≤ w1.heap.size := Nat.le_trans hBw HB1.out.2.1.size
  have q0 : w1.cell? ⟨xb, 0, none⟩ = some (.pointer (some ⟨b, 0, none⟩)) := rdr_cell HP1.out.pb
  clear hb1 gx0 gx3 gk
  go_wp2_with fail
  refine (bstring_any ⟨#[32, 61, 32]⟩ HB1.out.bld (by show _ + 3 ≤ _; simp; omega) hz1).mono ?_
  rintro e w2 ⟨rfl, hb2⟩
  have HB2 : Hid (BldTo B b ((l ++ K.data.toList) ++ [32, 61, 32]) w w2) := Lib.hid (HB1.out.trans hb2)
  have HP2 := Lib.hid (HP1.out.next hb2 hBB hg hxb hxd)
  have hz2 : B ≤ w2.heap.size := Nat.le_trans hz1 hb2.2.1.size
  have HBB2 := Lib.hid HB2.out.bld
  clear hb2 q0
  have hcall := HDD.out kd _ _ _ _ _ ((l ++ K.data.toList) ++ [32, 61, 32]) w2.drew hkdep hkfit hknum (HKID.out w2.drew fun p hp => HB2.out.2.1.cell (by omega)) HBB2.out.drew hz2 HP2.out.drew.tab (by simp only [List.length_append, List.length_cons, List.length_nil]; omega)
  have HS : Hid (∀ X l', BldTo B b l' w2.drew X → X.cell? ⟨xb, 0, none⟩ = some (.pointer (some ⟨b, 0, none⟩)) ∧ X.cell? ⟨xd, 4, none⟩ = some (.slice (some ⟨b4, off4, none⟩) d.kids.length c4) ∧ X.cell? ⟨b4, off4 + k * 5, none⟩ = some (.int .i64 kd.kind) ∧ X.cell? ⟨b4, off4 + k * 5 + 1, none⟩ = some (.int .i64 kd.num) ∧ X.cell? ⟨b4, off4 + k * 5 + 2, none⟩ = some (.string kd.str) ∧ X.cell? ⟨b4, off4 + k * 5 + 3, none⟩ = some (.slice A5 kd.keys.length c5) ∧ X.cell? ⟨b4, off4 + k * 5 + 4, none⟩ = some (.slice A6 kd.kids.length c6)) := Lib.hid fun X l' hX => HSK.out X (PW.next HP2.out.drew hX hBB hg hxb hxd) fun o => (hX.2.1.cell (p := ⟨b4, o, none⟩) (by show b4 < B; omega)).trans (HG4.out o w2 HB2.out.2.1)
  obtain ⟨s0, s1, s2, s3, s4, s5, s6⟩ := HSK.out w2 HP2.out (fun o => HG4.out o w2 HB2.out.2.1)
  have HC := Lib.hid hcall
  clear hcall
  go_wp2_with fail
  go_region_held3 (fun X => X.cell? ⟨xb, 0, none⟩ = some (.pointer (some ⟨b, 0, none⟩)) ∧ X.cell? ⟨xd, 4, none⟩ = some (.slice (some ⟨b4, off4, none⟩) d.kids.length c4) ∧ X.cell? ⟨b4, off4 + k * 5, none⟩ = some (.int .i64 kd.kind) ∧ X.cell? ⟨b4, off4 + k * 5 + 1, none⟩ = some (.int .i64 kd.num) ∧ X.cell? ⟨b4, off4 + k * 5 + 2, none⟩ = some (.string kd.str) ∧ X.cell? ⟨b4, off4 + k * 5 + 3, none⟩ = some (.slice A5 kd.keys.length c5) ∧ X.cell? ⟨b4, off4 + k * 5 + 4, none⟩ = some (.slice A6 kd.kids.length c6))
    (first | exact ⟨s0, s1, s2, s3, s4, s5, s6⟩ | with_reducible exact HS.out _ _ hb5)
    ((first
      | (go_at_call 17
         refine HC.out.mono ?_
         rintro e w5 ⟨rfl, hb5⟩)))
  have HB5 := Lib.hid (BldTo.undrew hb5)
  clear hb5
  go_end0
  exact ⟨rfl, by have h := HB2.out.trans HB5.out; simpa using h⟩
set_option maxHeartbeats 8000000 in
set_option maxRecDepth 100000 in
theorem write2_any {B b BB m xb xd k : Nat} {d : D} {v0 v1 v2 v3 v4 : Value} {l : List UInt8} {w : World} (HD : DWrites B b BB m) (hBB : BB ≤ B) (hg : 3 < B) (hxb : xb ≠ b) (hxd : xd ≠ b) (hdp : d.depth ≤ m + 1) (hf : d.Fit) (hnu : d.Nums) (hp : PW B b BB xb xd d v0 v1 v2 v3 v4 w) (hb : Bld B b l w) (hBw : B ≤ w.heap.size) (hk : k < d.kids.length) (hkk : k < d.keys.length) (hlen : l.length + (quoteL d.keys[k].data.toList ++ ([58, 32] ++ printD d.kids[k])).length ≤ 900000) :
    Calls Tryd.prog 34 #[.int .i64 (k : Nat), .pointer (some ⟨xb, 0, none⟩), .pointer (some ⟨xd, 0, none⟩)] w fun e w' => e = .returned (.tuple #[]) ∧ BldTo B b (l ++ (quoteL d.keys[k].data.toList ++ ([58, 32] ++ printD d.kids[k]))) w w' := by
  obtain ⟨A3, c3, A4, c4, rfl, rfl, rfl, rfl, rfl⟩ := hp.doc.forms
  obtain ⟨-, hc4, hkids⟩ := hp.doc.kids_
  obtain ⟨b4, off4, rfl, hb4, hkin⟩ := hkids (by omega)
  obtain ⟨u0, u1, u2, u3, u4, g0, g1, g2, g3, g4, hkid⟩ := hkin.at_ k hk
  rw [Nat.zero_add] at g0 g1 g2 g3 g4
  obtain ⟨A5, c5, A6, c6, rfl, rfl, rfl, rfl, rfl⟩ := hkid.forms
  obtain ⟨kd, hkd⟩ : ∃ kd, kd = d.kids[k] := ⟨_, rfl⟩
  have hkdep : kd.depth ≤ m := by have := D.depth_kid (d := d) hk; rw [← hkd] at this; omega
  have hkfit : kd.Fit := by rw [hkd]; exact hf.kid hk
  have hknum : kd.Nums := by rw [hkd]; exact hnu.kid hk
  rw [← hkd] at g0 g1 g2 g3 g4 hkid hlen ⊢
  have hki : (k : Int) < (d.kids.length : Int) := by omega
  have hk0 : (0 : Int) ≤ (k : Int) := by omega
  have HSK : Hid (∀ X, PW B b BB xb xd d (.int .i64 d.kind) (.int .i64 d.num) (.string d.str) (.slice A3 d.keys.length c3) (.slice (some ⟨b4, off4, none⟩) d.kids.length c4) X → (∀ o, X.cell? ⟨b4, o, none⟩ = w.cell? ⟨b4, o, none⟩) → X.cell? ⟨xb, 0, none⟩ = some (.pointer (some ⟨b, 0, none⟩)) ∧ X.cell? ⟨xd, 4, none⟩ = some (.slice (some ⟨b4, off4, none⟩) d.kids.length c4) ∧ X.cell? ⟨b4, off4 + k * 5, none⟩ = some (.int .i64 kd.kind) ∧ X.cell? ⟨b4, off4 + k * 5 + 1, none⟩ = some (.int .i64 kd.num) ∧ X.cell? ⟨b4, off4 + k * 5 + 2, none⟩ = some (.string kd.str) ∧ X.cell? ⟨b4, off4 + k * 5 + 3, none⟩ = some (.slice A5 kd.keys.length c5) ∧ X.cell? ⟨b4, off4 + k * 5 + 4, none⟩ = some (.slice A6 kd.kids.length c6)) := Lib.hid fun X h1 hh =>
    ⟨rdr_cell h1.pb, h1.pd.cells.2.2.2.2, (hh _).trans g0, (hh _).trans g1, (hh _).trans g2, (hh _).trans g3, (hh _).trans g4⟩
  have HKID : Hid (∀ X : World, (∀ p : Addr, p.block < BB → X.cell? p = w.cell? p) → DocIn X BB kd (.int .i64 kd.kind) (.int .i64 kd.num) (.string kd.str) (.slice A5 kd.keys.length c5) (.slice A6 kd.kids.length c6)) := Lib.hid fun X hX => hkid.keep (Nat.le_refl _) hX
  obtain ⟨A3', c3', e3, hc3, hkeys⟩ := hp.doc.keys_
  injection e3 with e3 e3a e3b
  subst e3; subst e3b
  obtain ⟨b3, off3, rfl, hb3, hkeyc⟩ := hkeys (by omega)
  have gk := hkeyc k hkk
  obtain ⟨K, hK⟩ : ∃ K, K = d.keys[k] := ⟨_, rfl⟩
  have hKs : K.size ≤ 10000 := by rw [hK]; exact hf.key hkk
  rw [← hK] at gk hlen ⊢
  have hKl : (quoteL K.data.toList).length = (quoteL K.data.toList).length := by simp
  simp only [List.length_append, List.length_cons, List.length_nil] at hlen
  have hkk' : (k : Int) < (d.keys.length : Int) := by omega
  have HP := Lib.hid hp; have HB := Lib.hid hb; have HDD := Lib.hid HD
  have gx0 : w.cell? ⟨xb, 0, none⟩ = some (.pointer (some ⟨b, 0, none⟩)) := rdr_cell hp.pb
  have gx3 : w.cell? ⟨xd, 3, none⟩ = some (.slice (some ⟨b3, off3, none⟩) d.keys.length c3) := hp.pd.cells.2.2.2.1
  have HS0 : Hid (∀ X l', BldTo B b l' w.drew X → X.cell? ⟨xb, 0, none⟩ = some (.pointer (some ⟨b, 0, none⟩)) ∧ X.cell? ⟨xd, 3, none⟩ = some (.slice (some ⟨b3, off3, none⟩) d.keys.length c3) ∧ X.cell? ⟨b3, off3 + k, none⟩ = some (.string K)) := Lib.hid fun X l' hX => by
    have h1 := PW.next hp.drew hX hBB hg hxb hxd
    exact ⟨rdr_cell h1.pb, h1.pd.cells.2.2.2.1, (hX.2.1.cell (p := ⟨b3, off3 + k, none⟩) (by show b3 < B; omega)).trans gk⟩
  have HC0 := Lib.hid (quote_any (w := w.drew) K hb.drew (by omega) hBw)
  have HG4 := Lib.hid (fun o (X : World) (h : Below B w X) => h.cell (p := ⟨b4, o, none⟩) (by show b4 < B; omega))
  clear hp hb HD hkin hkids hkid hkd hkeyc hkeys hK hf hKl g0 g1 g2 g3 g4
  go_enter Tryd.func34, Tryd.ntmps34
  go_wp2_with fail
  go_region_held3 (fun X => X.cell? ⟨xb, 0, none⟩ = some (.pointer (some ⟨b, 0, none⟩)) ∧ X.cell? ⟨xd, 3, none⟩ = some (.slice (some ⟨b3, off3, none⟩) d.keys.length c3) ∧ X.cell? ⟨b3, off3 + k, none⟩ = some (.string K))
    (first | exact ⟨gx0, gx3, gk⟩ | with_reducible exact HS0.out _ _ hb1)
    ((first
      | (go_at_call 12
         refine HC0.out.mono ?_
         rintro e w1 ⟨rfl, hb1⟩)))
  have HB1 := Lib.hid (BldTo.undrew hb1)
  have HP1 := Lib.hid (HP.out.next HB1.out hBB hg hxb hxd)
  have hz1 : B ≤ w1.heap.size := Nat.le_trans hBw HB1.out.2.1.size
  have q0 : w1.cell? ⟨xb, 0, none⟩ = some (.pointer (some ⟨b, 0, none⟩)) := rdr_cell HP1.out.pb
  clear hb1 gx0 gx3 gk
  go_wp2_with fail
  refine (bstring_any ⟨#[58, 32]⟩ HB1.out.bld (by show _ + 2 ≤ _; simp; omega) hz1).mono ?_
  rintro e w2 ⟨rfl, hb2⟩
  have HB2 : Hid (BldTo B b ((l ++ quoteL K.data.toList) ++ [58, 32]) w w2) := Lib.hid (HB1.out.trans hb2)
  have HP2 := Lib.hid (HP1.out.next hb2 hBB hg hxb hxd)
  have hz2 : B ≤ w2.heap.size := Nat.le_trans hz1 hb2.2.1.size
  have HBB2 := Lib.hid HB2.out.bld
  clear hb2 q0
  have hcall := HDD.out kd _ _ _ _ _ ((l ++ quoteL K.data.toList) ++ [58, 32]) w2.drew hkdep hkfit hknum (HKID.out w2.drew fun p hp => HB2.out.2.1.cell (by omega)) HBB2.out.drew hz2 HP2.out.drew.tab (by simp only [List.length_append, List.length_cons, List.length_nil]; omega)
  have HS : Hid (∀ X l', BldTo B b l' w2.drew X → X.cell? ⟨xb, 0, none⟩ = some (.pointer (some ⟨b, 0, none⟩)) ∧ X.cell? ⟨xd, 4, none⟩ = some (.slice (some ⟨b4, off4, none⟩) d.kids.length c4) ∧ X.cell? ⟨b4, off4 + k * 5, none⟩ = some (.int .i64 kd.kind) ∧ X.cell? ⟨b4, off4 + k * 5 + 1, none⟩ = some (.int .i64 kd.num) ∧ X.cell? ⟨b4, off4 + k * 5 + 2, none⟩ = some (.string kd.str) ∧ X.cell? ⟨b4, off4 + k * 5 + 3, none⟩ = some (.slice A5 kd.keys.length c5) ∧ X.cell? ⟨b4, off4 + k * 5 + 4, none⟩ = some (.slice A6 kd.kids.length c6)) := Lib.hid fun X l' hX => HSK.out X (PW.next HP2.out.drew hX hBB hg hxb hxd) fun o => (hX.2.1.cell (p := ⟨b4, o, none⟩) (by show b4 < B; omega)).trans (HG4.out o w2 HB2.out.2.1)
  obtain ⟨s0, s1, s2, s3, s4, s5, s6⟩ := HSK.out w2 HP2.out (fun o => HG4.out o w2 HB2.out.2.1)
  have HC := Lib.hid hcall
  clear hcall
  go_wp2_with fail
  go_region_held3 (fun X => X.cell? ⟨xb, 0, none⟩ = some (.pointer (some ⟨b, 0, none⟩)) ∧ X.cell? ⟨xd, 4, none⟩ = some (.slice (some ⟨b4, off4, none⟩) d.kids.length c4) ∧ X.cell? ⟨b4, off4 + k * 5, none⟩ = some (.int .i64 kd.kind) ∧ X.cell? ⟨b4, off4 + k * 5 + 1, none⟩ = some (.int .i64 kd.num) ∧ X.cell? ⟨b4, off4 + k * 5 + 2, none⟩ = some (.string kd.str) ∧ X.cell? ⟨b4, off4 + k * 5 + 3, none⟩ = some (.slice A5 kd.keys.length c5) ∧ X.cell? ⟨b4, off4 + k * 5 + 4, none⟩ = some (.slice A6 kd.kids.length c6))
    (first | exact ⟨s0, s1, s2, s3, s4, s5, s6⟩ | with_reducible exact HS.out _ _ hb5)
    ((first
      | (go_at_call 17
         refine HC.out.mono ?_
         rintro e w5 ⟨rfl, hb5⟩)))
  have HB5 := Lib.hid (BldTo.undrew hb5)
  clear hb5
  go_end0
  exact ⟨rfl, by have h := HB2.out.trans HB5.out; simpa using h⟩
end Go.Proofs.YtmnaaohhageihaaDoor
