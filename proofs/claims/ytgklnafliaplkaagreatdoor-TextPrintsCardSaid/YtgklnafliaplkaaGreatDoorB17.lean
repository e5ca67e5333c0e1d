/-
  The reader: one more field, or entry.
-/
import Derived.Test.YtgklnafliaplkaaGreatDoorB16
import Derived.Test.YtgklnafliaplkaaGreatDoorB03
namespace Go.Proofs.YtgklnafliaplkaaGreatDoor
open Go.RowKit

theorem keyI_key {doc : List UInt8 → Nat → Out D} {key : List UInt8 → Tk (List UInt8)} {sign : UInt8} {st : List ByteArray × List D} {l a : List UInt8} {p b : Nat} (h : key (skipL l) = .bad a b) : keyI doc key sign st l p = .bad a b := by simp only [keyI, h]
theorem keyI_has {doc : List UInt8 → Nat → Out D} {key : List UInt8 → Tk (List UInt8)} {sign : UInt8} {st : List ByteArray × List D} {l l1 k : List UInt8} {p : Nat} (h : key (skipL l) = .ok k l1) (hh : hasB st.1 ⟨k.toArray⟩ = true) : keyI doc key sign st l p = .bad (skipL l) 5 := by simp only [keyI, h, if_pos hh]
theorem keyI_sign {doc : List UInt8 → Nat → Out D} {key : List UInt8 → Tk (List UInt8)} {sign : UInt8} {st : List ByteArray × List D} {l l1 k : List UInt8} {p : Nat} (h : key (skipL l) = .ok k l1) (hh : hasB st.1 ⟨k.toArray⟩ = false) (hs : pk (skipL l1) ≠ sign) : keyI doc key sign st l p = .bad (skipL l1) 4 := by simp only [keyI, h, hh, Bool.false_eq_true, if_false, if_neg hs]
theorem keyI_doc {doc : List UInt8 → Nat → Out D} {key : List UInt8 → Tk (List UInt8)} {sign : UInt8} {st : List ByteArray × List D} {l l1 k a : List UInt8} {p b : Nat} (h : key (skipL l) = .ok k l1) (hh : hasB st.1 ⟨k.toArray⟩ = false) (hs : pk (skipL l1) = sign) (hd : doc (skipL l1).tail p = .bad a b) : keyI doc key sign st l p = .bad a b := by simp only [keyI, h, hh, Bool.false_eq_true, if_false, if_pos hs, hd]
theorem keyI_ok {doc : List UInt8 → Nat → Out D} {key : List UInt8 → Tk (List UInt8)} {sign : UInt8} {st : List ByteArray × List D} {l l1 k l2 : List UInt8} {d : D} {p p' : Nat} (h : key (skipL l) = .ok k l1) (hh : hasB st.1 ⟨k.toArray⟩ = false) (hs : pk (skipL l1) = sign) (hd : doc (skipL l1).tail p = .ok d l2 p') :
    keyI doc key sign st l p = .ok (insK st.1 (placeOf st.1 ⟨k.toArray⟩) ⟨k.toArray⟩, insK st.2 (placeOf st.1 ⟨k.toArray⟩) d) l2 p' := by simp only [keyI, h, hh, Bool.false_eq_true, if_false, if_pos hs, hd]
set_option maxHeartbeats 8000000 in
set_option maxRecDepth 100000 in
theorem keyed1_any {r n kf : Nat} {s : ByteArray} {key : List UInt8 → Tk (List UInt8)} {sign : UInt8} (hsg : sign ≠ 0) (HD : DReads r s n) (hn : n ≤ 11) (hs : s.size ≤ 1000000)
    (ek : ∀ args w, (callFunc kf args).run Tryz.prog w = .ok (.enter kf args) w)
    (HKY : ∀ l p w, RdL w r s l p → Calls Tryz.prog kf #[.pointer (some ⟨r, 0, none⟩)] w fun e w' => TkTo w r s p (key l) (fun v => .string ⟨v.toArray⟩) e w')
    {w3 w : World} {db rb fb sb pb : Nat} {kd : Int} {ks : List ByteArray} {ds : List D} {l : List UInt8} {p : Nat} {v3 v4 : Value} {cs : List Value} {F : List Nat}
    (hp : PDoc w3 w db r kd 0 ⟨#[]⟩ ks ds v3 v4 cs F) (h : RdL w r s l p) (hlen : ks.length = ds.length) (hri : Rising ks) (hpp : ds.length ≤ p) (hp2 : p ≤ 512)
    (hr3 : r < w3.heap.size) (hd3 : db < w3.heap.size) (hrd' : r < db) (hrb : w.cell? ⟨rb, 0, none⟩ = some (.pointer (some ⟨r, 0, none⟩))) (hfb : w.cell? ⟨fb, 0, none⟩ = some (.func (.func kf) #[.pointer (some ⟨r, 0, none⟩)] #[])) (hsb : w.cell? ⟨sb, 0, none⟩ = some (.int .u8 sign.toNat)) (hpb : w.cell? ⟨pb, 0, none⟩ = some (.int .i64 (12 - (n : Int))))
    (hrl : rb < w3.heap.size) (hfl : fb < w3.heap.size) (hsl : sb < w3.heap.size) (hpl : pb < w3.heap.size) (hrr : rb ≠ r) (hfr : fb ≠ r) (hsr : sb ≠ r) (hpr : pb ≠ r) :
    Calls Tryz.prog 78 #[.pointer (some ⟨rb, 0, none⟩), .pointer (some ⟨fb, 0, none⟩), .pointer (some ⟨db, 0, none⟩), .pointer (some ⟨sb, 0, none⟩), .pointer (some ⟨pb, 0, none⟩)] w fun e w' =>
      StTo (fun st' _ w' => (∃ v3' v4' cs' F', PDoc w3 w' db r kd 0 ⟨#[]⟩ st'.1 st'.2 v3' v4' cs' F')) (fun w' => Turned w3 w' [r] db) r s (keyI (docP n) key sign (ks, ds) l p) e w' := by
  have hrd : r ≠ db := by omega
  obtain ⟨A3, c3, rfl⟩ := ownsRow_slice hp.o3
  obtain ⟨A4, c4, rfl⟩ := ownsRow_slice hp.o4
  have HLEN := Lib.hid hlen
  have hds : ds.length ≤ 512 := by omega
  have hks : ks.length ≤ 512 := by omega
  have hz := hp.t.size
  have hcells : ∀ X, Turned w X [] r → (X.cell? ⟨rb, 0, none⟩ = some (.pointer (some ⟨r, 0, none⟩)) ∧ X.cell? ⟨fb, 0, none⟩ = some (.func (.func kf) #[.pointer (some ⟨r, 0, none⟩)] #[]) ∧ X.cell? ⟨sb, 0, none⟩ = some (.int .u8 sign.toNat) ∧ X.cell? ⟨pb, 0, none⟩ = some (.int .i64 (12 - (n : Int)))) := fun X hX =>
    ⟨(World.cell?_of_block (a := ⟨rb, 0, none⟩) (hX.block rb (by omega) (by simp) hrr)).trans hrb, (World.cell?_of_block (a := ⟨fb, 0, none⟩) (hX.block fb (by omega) (by simp) hfr)).trans hfb, (World.cell?_of_block (a := ⟨sb, 0, none⟩) (hX.block sb (by omega) (by simp) hsr)).trans hsb, (World.cell?_of_block (a := ⟨pb, 0, none⟩) (hX.block pb (by omega) (by simp) hpr)).trans hpb⟩
  have HCE := Lib.hid hcells
  have HP := Lib.hid hp; have HR := Lib.hid h; have HDD := Lib.hid HD; have HK := Lib.hid HKY; have HRI := Lib.hid hri; have HSG := Lib.hid hsg
  have HPA : Hid (∀ X, Turned w X [] r → PDoc w3 X db r kd 0 ⟨#[]⟩ ks ds (.slice A3 ks.length c3) (.slice A4 ds.length c4) cs F) := Lib.hid fun X hX => hp.past hX hr3 hrd
  have hwr : IntKind.i64.wrap (12 - (n : Int) + 1) = 13 - (n : Int) := by rw [show (12 : Int) - (n : Int) + 1 = 13 - (n : Int) by omega]; exact IntWalk.i64_in _ (by omega)
  have HWR := Lib.hid hwr
  clear hcells hp h HD HKY hri hsg hfb hsb hpb hwr hlen
  go_enter Tryz.func78, Tryz.ntmps78
  go_wp2_with fail
  clear hrb
  refine (blanks_l HR.out (by omega)).mono ?_
  rintro e w1 ⟨rfl, hr1, ht1⟩
  have HR1 := Lib.hid hr1; have HT1 := Lib.hid ht1
  obtain ⟨q1, -, -, -⟩ := HCE.out w1 ht1
  clear hr1 ht1
  obtain ⟨l1, hl1⟩ : ∃ l1, l1 = skipL l := ⟨_, rfl⟩
  have HL1 := Lib.hid hl1
  rw [← hl1] at HR1
  clear hl1
  obtain ⟨k1, hk1⟩ : ∃ k1, k1 = s.size - l1.length := ⟨_, rfl⟩
  have HK1 := Lib.hid hk1
  obtain ⟨c0, c1, c2, -⟩ := HR1.out.cells hk1
  clear hk1
  obtain ⟨-, q2, -, -⟩ := HCE.out w1 HT1.out
  go_wp2_with fail
  clear q1 q2 c0 c1 c2
  refine (HK.out l1 p w1 HR1.out).mono ?_
  intro e w2 ht2
  rcases hky : key l1 with ⟨kk, l2⟩ | ⟨a, b⟩
  rotate_left
  · rw [hky] at ht2
    obtain ⟨hf, ht2⟩ := ht2
    unfold Failed at hf
    subst hf
    exact ⟨rfl, StTo.failed (l := a) (keyI_key (by rw [← HL1.out]; exact hky)) rfl (HPA.out _ (HT1.out.trans ht2)).t⟩
  rw [hky] at ht2
  obtain ⟨rfl, hr2, ht2⟩ := ht2
  have HKEY : Hid (key (skipL l) = .ok kk l2) := Lib.hid (by rw [← HL1.out]; exact hky)
  have HR2 := Lib.hid hr2; have HT2 := Lib.hid (HT1.out.trans ht2)
  clear hr2 ht2 hky
  obtain ⟨K, hK⟩ : ∃ K, K = (⟨kk.toArray⟩ : ByteArray) := ⟨_, rfl⟩
  have HKK := Lib.hid hK
  simp only [← hK]
  clear hK
  have hp2d := HPA.out _ HT2.out
  have HP2 := Lib.hid hp2d
  obtain ⟨d0, d1, d2, d3, d4⟩ := hp2d.bx.cells
  obtain ⟨i, hi⟩ : ∃ i, i = placeOf ks K := ⟨_, rfl⟩
  have hik : i ≤ ks.length := by rw [hi]; exact placeOf_le _ _
  have HI := Lib.hid hi
  obtain ⟨hb, hhb⟩ : ∃ hb, hb = hasB ks K := ⟨_, rfl⟩
  have HHB := Lib.hid hhb
  have hsrch : ∀ W, Strs W w2.heap.size (.slice A3 ks.length c3) ks → Calls Tryz.prog 79 #[.slice A3 ks.length c3, .string K] W fun e w' => e = .returned (.tuple #[.int .i64 (i : Nat), .bool hb]) ∧ W = w' := fun W hW => by
    rw [hi, hhb]; exact search_has hW HRI.out (by omega)
  have HSR := Lib.hid hsrch
  have HST : Hid (Strs w2 w2.heap.size (.slice A3 ks.length c3) ks) := Lib.hid (Strs_of_own hp2d.o3)
  clear hsrch hhb hp2d hi
  go_wp2_with fail
  refine (HSR.out _ HST.out).mono ?_
  rintro e w5 ⟨rfl, rfl⟩
  clear d0 d1 d2 d3 d4
  cases hb with
  | true =>
    have HG : Hid (keyI (docP n) key sign (ks, ds) l p = .bad l1 5) := Lib.hid (by rw [HL1.out]; exact keyI_has HKEY.out (by rw [← HKK.out]; exact HHB.out.symm))
    go_wp2_with fail
    refine (fail_any (k1 : Int) 5 _).mono ?_
    rintro e w6 ⟨he, rfl⟩
    unfold Failed at he
    subst he
    exact ⟨rfl, StTo.failed HG.out HK1.out HP2.out.t⟩
  | false =>
    have HNO : Hid (hasB (ks, ds).1 ⟨kk.toArray⟩ = false) := Lib.hid (by rw [← HKK.out]; exact HHB.out.symm)
    clear HHB
    obtain ⟨q1, q2, q3, q4⟩ := HCE.out w2 HT2.out
    go_wp2_with fail
    refine (blanks_l HR2.out (by omega)).mono ?_
    rintro e w3' ⟨rfl, hr3', ht3⟩
    have HR3 := Lib.hid hr3'; have HT3 := Lib.hid (HT2.out.trans ht3)
    clear hr3' ht3 q1 q2 q3 q4
    obtain ⟨l3, hl3⟩ : ∃ l3, l3 = skipL l2 := ⟨_, rfl⟩
    have HL3 := Lib.hid hl3
    rw [← hl3] at HR3
    clear hl3
    obtain ⟨q1, q2, q3, q4⟩ := HCE.out w3' HT3.out
    have HTK := Lib.hid (take_l sign HSG.out HR3.out (by omega))
    go_wp2_with fail
    refine HTK.out.mono ?_
    clear q1 q2 q3 q4 HTK
    intro e w4 ht4
    by_cases hsn : pk l3 = sign
    rotate_left
    · rw [show takeP sign l3 = .bad l3 4 from if_neg hsn] at ht4
      obtain ⟨hf, ht4⟩ := ht4
      unfold Failed at hf
      subst hf
      exact ⟨rfl, StTo.failed (l := l3) (by rw [HL3.out]; exact keyI_sign HKEY.out HNO.out (by rw [← HL3.out]; exact hsn)) rfl (HPA.out _ (HT3.out.trans ht4)).t⟩
    rw [show takeP sign l3 = .ok () l3.tail from if_pos hsn] at ht4
    obtain ⟨rfl, hr4, ht4⟩ := ht4
    have HR4 := Lib.hid hr4; have HT4 := Lib.hid (HT3.out.trans ht4)
    have HSN : Hid (pk (skipL l2) = sign) := Lib.hid (by rw [← HL3.out]; exact hsn)
    clear hr4 ht4 hsn
    obtain ⟨q1, q2, q3, q4⟩ := HCE.out w4 HT4.out
    have HCALL := Lib.hid (HDD.out l3.tail p w4 HR4.out (by omega))
    have hwr := HWR.out
    go_wp2_with fail
    refine HCALL.out.mono ?_
    clear q1 q2 q3 q4 HCALL hwr
    intro e w5 hd5
    rcases hdc : docP n l3.tail p with ⟨d, l5, p5⟩ | ⟨a, b⟩
    rotate_left
    · rw [hdc] at hd5
      obtain ⟨hf, ht5⟩ := hd5
      unfold Failed at hf
      subst hf
      exact ⟨rfl, StTo.failed (l := a) (keyI_doc HKEY.out HNO.out HSN.out (by rw [← HL3.out]; exact hdc)) rfl (HPA.out _ (HT4.out.trans ht5)).t⟩
    rw [hdc] at hd5
    obtain ⟨y0, y1, y2, y3, y4, G, rfl, hG, hGn, hr5, ht5⟩ := hd5
    have HGO : Hid (keyI (docP n) key sign (ks, ds) l p = .ok (insK ks i K, insK ds i d) l5 p5) := Lib.hid (by
      have h1 := keyI_ok (st := (ks, ds)) HKEY.out HNO.out HSN.out (show docP n (skipL l2).tail p = .ok d l5 p5 by rw [← HL3.out]; exact hdc)
      rw [h1]; simp only [← HKK.out, ← HI.out])
    obtain ⟨A7, c7, A8, c8, rfl, rfl, rfl, rfl, rfl⟩ := hG.doc.forms
    have hGl := hG.lt
    have HP4 := Lib.hid (HPA.out _ HT4.out)
    have hz4 := HP4.out.t.size
    have HP5 := Lib.hid (HPA.out _ (HT4.out.trans ht5))
    have hGd : ∀ k ∈ G, k ∉ blk (.slice A3 ks.length c3) ∧ k ∉ blk (.slice A4 ds.length c4) ∧ k ∉ F := fun k hk => by
      have h1 := (hGl k hk).1
      exact ⟨fun e => by have := (HP4.out.o3.lt k (blk_mem.1 e)).2; omega, fun e => by have := (HP4.out.o4.lt k (blk_mem.1 e)).2; omega, fun e => by have := (HP4.out.ok.lt k e).2; omega⟩
    have HG5 := Lib.hid hG; have HGN := Lib.hid hGn; have HR5 := Lib.hid hr5; have HGD := Lib.hid hGd; have HGL := Lib.hid hGl
    have hz5 := HP5.out.t.size
    have hz45 := ht5.size
    clear hG hGn hr5 ht5 hdc hGd hGl
    obtain ⟨d0, d1, d2, d3, d4⟩ := HP5.out.bx.cells
    have df := HP5.out.bx.frozen
    have hdl5 : db < w5.heap.size := HP5.out.bx.lt
    have ag3 : (Value.slice A3 ks.length c3).ownBlock ≠ some db := fun hh => by have := (HP5.out.o3.lt _ hh).1; omega
    have ag4 : (Value.slice A4 ds.length c4).ownBlock ≠ some db := fun hh => by have := (HP5.out.o4.lt _ hh).1; omega
    go_wp2_with fail
    obtain ⟨w6, hw6⟩ : ∃ w6, w6 = w5.alloc (.cells #[.int .i64 d.kind, .int .i64 d.num, .string d.str, .slice A7 d.keys.length c7, .slice A8 d.kids.length c8] 25) := ⟨_, rfl⟩
    have hz6 : w6.heap.size = w5.heap.size + 1 := by rw [hw6]; simp
    have HA56 : Hid (∀ k, k < w5.heap.size → w6.heap[k]? = w5.heap[k]?) := Lib.hid fun k hk => by rw [hw6]; exact Below.heap_alloc w5 _ k hk
    have hT56 : Turned w5 w6 [] r := by rw [hw6]; exact Turned.of_below ((Below.refl _ _).alloc (Nat.le_refl _) _) _ _
    have hkb : Box5 w6 w5.heap.size (.int .i64 d.kind) (.int .i64 d.num) (.string d.str) (.slice A7 d.keys.length c7) (.slice A8 d.kids.length c8) := by rw [hw6]; exact heap_alloc_new w5 _
    rw [← hw6]
    clear hw6 d0 d1 d2 d3 d4 df
    have HP6 := Lib.hid (HP5.out.past hT56 hr3 hrd)
    have HG6 := Lib.hid (HG5.out.same (w' := w6) (Nat.le_refl _) fun k hk => hT56.block k (HGL.out k hk).2 (by simp) (by have := (HGL.out k hk).1; have := HR4.out.block; omega))
    have HKB := Lib.hid hkb
    have HT56 := Lib.hid hT56
    clear hkb hT56
    have hdl6 : db < w6.heap.size := by omega
    have how : (w6.alloc (.cells #[.string K] 9)).ownsRow w3.heap.size 9 1 (.slice A3 ks.length c3) ks.length (ks.map Value.string) := ownsRow_same HP6.out.o3 fun k hk => Below.heap_alloc w6 _ k (HP6.out.o3.lt k (blk_mem.1 hk)).2
    have hins := insS_any (vb := w6.heap.size) (y0 := .string K) (i := i) how (by intro u hu; simp only [List.mem_map] at hu; obtain ⟨z, _, rfl⟩ := hu; rfl) hik (by omega) (heap_alloc_new w6 _) (by intro u hu; simp at hu; subst hu; rfl) (fun hh => by have := (HP6.out.o3.lt _ hh).2; omega) (by rw [World.size_alloc]; omega)
    rw [hz6] at hins
    refine hins.mono ?_
    clear how hins
    rintro e w7 ⟨g3, cap3, rfl, hown7, hgr7, hat7⟩
    have hgw := Grew.ins hgr7 hat7
    have hz67 := hgw.size
    have hb7 : w7.heap[db]? = w6.heap[db]? := hgw.keep db hdl6 ag3
    have hp7b := HP6.out.bx.same hb7
    obtain ⟨d0, d1, d2, d3, d4⟩ := hp7b.cells
    have df := hp7b.frozen
    have hkb7 := HKB.out.same (w' := w7) (hgw.keep w5.heap.size (by omega) fun hh => by have := (HP5.out.o3.lt _ hh).2; omega)
    obtain ⟨s0, s1, s2, s3, s4⟩ := hkb7.cells
    have hne1 : db ≠ w5.heap.size := by omega
    have hne2 : w5.heap.size ≠ db := by omega
    have hks7 : w5.heap.size < w7.heap.size := by omega
    have hdl7 : db < w7.heap.size := by omega
    have HKB7 := Lib.hid hkb7
    clear hkb7
    have HOW7 := Lib.hid hown7; have HGW := Lib.hid hgw; have HPB := Lib.hid hp7b
    clear hown7 hgr7 hat7 hgw hb7 hp7b
    go_wp2_with fail
    obtain ⟨w8, hw8⟩ : ∃ w8, w8 = w7.setCell ⟨db, 3, none⟩ (.slice (some ⟨g3, 0, none⟩) (ks.length + 1) cap3) := ⟨_, rfl⟩
    have hz8 : w8.heap.size = w7.heap.size := by rw [hw8]; simp
    have hf8 : ∀ k, k ≠ db → w8.heap[k]? = w7.heap[k]? := fun k hk => by rw [hw8]; exact Below.heap_setCell w7 _ _ k hk
    have hp8 : PDoc w3 w8 db r kd 0 ⟨#[]⟩ (insK ks i K) ds (.slice (some ⟨g3, 0, none⟩) (ks.length + 1) cap3) (.slice A4 ds.length c4) cs F :=
      HP6.out.key hd3 hik HGW.out hf8 hz8 (by rw [hw8]; exact ⟨rfl, rfl, rfl⟩) (by rw [hw8]; exact HPB.out.set3 _) (by have h1 := HOW7.out; simpa using h1)
    rw [← hw8]
    clear d0 d1 d2 d3 d4 df s0 s1 s2 s3 s4
    have HP8 := Lib.hid hp8
    obtain ⟨d0, d1, d2, d3, d4⟩ := hp8.bx.cells
    have df := hp8.bx.frozen
    have hRW8 : RdL w8 r s l5 p5 := HR5.out.kept fun k hk => by
      refine (hf8 k (by omega)).trans ((HGW.out.keep k (by omega) fun hh => by have := (HP6.out.o3.lt _ hh).1; omega).trans ?_)
      exact HA56.out k (by omega)
    have HR8 := Lib.hid hRW8
    have hG8 : OwnIn w8 w4.heap.size d (.int .i64 d.kind) (.int .i64 d.num) (.string d.str) (.slice A7 d.keys.length c7) (.slice A8 d.kids.length c8) G := HG6.out.same (Nat.le_refl _) fun k hk => by
      have h1 := HGL.out k hk
      exact (hf8 k (by omega)).trans (HGW.out.keep k (by omega) fun hh => (HGD.out k hk).1 (blk_mem.2 hh))
    have hgd8 : ∀ k ∈ G, k ∉ blk (.slice (some ⟨g3, 0, none⟩) (ks.length + 1) cap3) ∧ k ∉ blk (.slice A4 ds.length c4) ∧ k ∉ F := fun k hk => by
      refine ⟨fun hh => ?_, (HGD.out k hk).2⟩
      have e : k = g3 := by simpa [blk, Value.ownBlock] using hh
      have h1 := HGL.out k hk
      rcases HGW.out.at_ with h2 | h2
      · exact (HGD.out k hk).1 (blk_mem.2 (by rw [e]; exact h2))
      · omega
    have hone : ∀ u ∈ [Value.int .i64 d.kind, .int .i64 d.num, .string d.str, .slice A7 d.keys.length c7, .slice A8 d.kids.length c8], u.oneCell' = true := by
      intro u hu
      simp only [List.mem_cons, List.not_mem_nil, or_false] at hu
      rcases hu with rfl | rfl | rfl | rfl | rfl <;> rfl
    have how : (w8.alloc (.cells #[.int .i64 d.kind, .int .i64 d.num, .string d.str, .slice A7 d.keys.length c7, .slice A8 d.kids.length c8] 25)).ownsRow w3.heap.size 25 5 (.slice A4 ds.length c4) ds.length cs := ownsRow_same hp8.o4 fun k hk => Below.heap_alloc w8 _ k (hp8.o4.lt k (blk_mem.1 hk)).2
    have hilen : i ≤ ds.length := by have := HLEN.out; omega
    have hins := insD_any (vb := w8.heap.size) (i := i) how (oneCell_own hp8.ok) hilen (by omega) (heap_alloc_new w8 _) hone (fun hh => by have := (hp8.o4.lt _ hh).2; omega) (by rw [World.size_alloc]; omega)
    rw [hz8] at hins
    have HG8 := Lib.hid hG8; have HGD8 := Lib.hid hgd8; have HIL := Lib.hid hilen
    refine hins.mono ?_
    clear how hins hone hG8 hgd8 hp8 hRW8 hilen
    rintro e w9 ⟨g4, cap4, rfl, hown9, hgr9, hat9⟩
    have hgw := Grew.ins hgr9 hat9
    have hz89 := hgw.size
    have hb9 : w9.heap[db]? = w8.heap[db]? := hgw.keep db (by omega) ag4
    have hp9b := HP8.out.bx.same hb9
    have df9 := hp9b.frozen
    obtain ⟨u0, u1, u2, u3, u4⟩ := hp9b.cells
    have HOW9 := Lib.hid hown9; have HGW9 := Lib.hid hgw; have HPB9 := Lib.hid hp9b
    clear hown9 hgr9 hat9 hgw hb9 hp9b d0 d1 d2 d3 d4 df hw8
    go_wp2_with fail
    go_end0
    have hf9 : ∀ k, k ≠ db → (w9.setCell ⟨db, 4, none⟩ (.slice (some ⟨g4, 0, none⟩) (ds.length + 1) cap4)).heap[k]? = w9.heap[k]? := fun k hk => Below.heap_setCell w9 _ _ k hk
    have hRX : RdL (w9.setCell ⟨db, 4, none⟩ (.slice (some ⟨g4, 0, none⟩) (ds.length + 1) cap4)) r s l5 p5 := HR8.out.kept fun k hk => (hf9 k (by omega)).trans (HGW9.out.keep k (by omega) fun hh => by have := (HP8.out.o4.lt _ hh).1; omega)
    obtain ⟨F', hfin⟩ := HP8.out.kidAt hd3 HIL.out (by omega) HG8.out HGN.out HGD8.out HGW9.out hf9 (by simp) ⟨rfl, rfl, rfl⟩ (HPB9.out.set4 _) HOW9.out
    exact StTo.done HGO.out ⟨_, _, _, F', hfin⟩ hRX
end Go.Proofs.YtgklnafliaplkaaGreatDoor
