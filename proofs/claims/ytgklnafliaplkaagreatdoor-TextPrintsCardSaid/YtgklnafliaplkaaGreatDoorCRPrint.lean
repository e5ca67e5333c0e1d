/-
  The document's own Print.
-/
import Derived.Test.YtgklnafliaplkaaGreatDoorCRDecP
import Derived.Test.YtgklnafliaplkaaGreatDoorCRQuote
import Derived.Test.YtgklnafliaplkaaGreatDoorCTBack2
namespace Go.Proofs.YtgklnafliaplkaaGreatDoor
open Go.RowKit

theorem rp_cat (a b : ByteArray) : (a ++ b).data.toList = a.data.toList ++ b.data.toList := by rw [ByteArray.data_append, Array.toList_append]
theorem rp_inj {a b : ByteArray} (h : a.data.toList = b.data.toList) : a = b := by
  cases a; cases b; simp only [ByteArray.mk.injEq]; exact Array.toList_inj.1 h
theorem rp_mk (l : List UInt8) : (⟨l.toArray⟩ : ByteArray).data.toList = l := by simp
/-- What is printed of a document's parts. -/
def itemsD (kind : Int) (keys : List ByteArray) (kids : List D) : List (List UInt8) := if kind = 1 then recK keys (printsD kids) else if kind = 2 then dictK keys (printsD kids) else printsD kids
theorem items_len1 (keys : List ByteArray) (kids : List D) : (itemsD 1 keys kids).length = min keys.length kids.length := by simp [itemsD, recK, printsD_len]
theorem items_len2 (keys : List ByteArray) (kids : List D) : (itemsD 2 keys kids).length = min keys.length kids.length := by simp [itemsD, dictK, printsD_len]
theorem items_len3 {kind : Int} (h1 : kind ≠ 1) (h2 : kind ≠ 2) (keys : List ByteArray) (kids : List D) : (itemsD kind keys kids).length = kids.length := by simp [itemsD, h1, h2, printsD_len]
theorem items_at1 {keys : List ByteArray} {kids : List D} {i : Nat} (h : i < (itemsD 1 keys kids).length) (h1 : i < keys.length) (h2 : i < kids.length) : (itemsD 1 keys kids)[i] = keys[i].data.toList ++ ([32, 61, 32] ++ printD kids[i]) := by
  have e : itemsD 1 keys kids = recK keys (printsD kids) := rfl
  simp only [e, recK, List.getElem_zipWith]
  rw [printsD_at kids i h2]
theorem items_at2 {keys : List ByteArray} {kids : List D} {i : Nat} (h : i < (itemsD 2 keys kids).length) (h1 : i < keys.length) (h2 : i < kids.length) : (itemsD 2 keys kids)[i] = quoteL keys[i].data.toList ++ ([58, 32] ++ printD kids[i]) := by
  have e : itemsD 2 keys kids = dictK keys (printsD kids) := rfl
  simp only [e, dictK, List.getElem_zipWith]
  rw [printsD_at kids i h2]
theorem items_at3 {kind : Int} (hk1 : kind ≠ 1) (hk2 : kind ≠ 2) {keys : List ByteArray} {kids : List D} {i : Nat} (h : i < (itemsD kind keys kids).length) (h2 : i < kids.length) : (itemsD kind keys kids)[i] = printD kids[i] := by
  have e : itemsD kind keys kids = printsD kids := by simp [itemsD, hk1, hk2]
  simp only [e]
  rw [printsD_at kids i h2]
theorem items_bound {kind : Int} {keys : List ByteArray} {kids : List D} (hk : ∀ k ∈ keys, k.size ≤ 600) (hl : LimDs 2410 kids) (hs : D.sizes kids ≤ 699) (i : Nat) : (rowD ((itemsD kind keys kids).take i)).length ≤ 3400000 := by
  refine Nat.le_trans (rowD_take _ _) ?_
  have hz : ∀ s : ByteArray, s.data.toList.length = s.size := fun _ => rfl
  have hss := sizes_sum kids
  have hkl := lims_len kids hl
  have h : (rowD (itemsD kind keys kids)).length ≤ (2 * 2410 + 2) * (kids.map D.size).sum := by
    refine rowD_sum (K := 2410) _ _ ?_ fun i a b => ?_
    · unfold itemsD
      split
      · simp [recK, printsD_len]; omega
      · split
        · simp [dictK, printsD_len]; omega
        · simp [printsD_len]
    · have hi : i < kids.length := by simpa using b
      have h2 := hkl i hi
      simp only [List.getElem_map]
      by_cases k1 : kind = 1
      · subst k1
        have ha : i < keys.length := by have := items_len1 keys kids; omega
        have h3 := hk _ (List.getElem_mem ha)
        have h4 := hz keys[i]
        rw [items_at1 a ha hi]
        simp only [List.length_append, List.length_cons, List.length_nil]
        omega
      · by_cases k2 : kind = 2
        · subst k2
          have ha : i < keys.length := by have := items_len2 keys kids; omega
          have h3 := hk _ (List.getElem_mem ha)
          have h4 := hz keys[i]
          have h5 := quoteL_len keys[i].data.toList
          rw [items_at2 a ha hi]
          simp only [List.length_append, List.length_cons, List.length_nil]
          omega
        · rw [items_at3 k1 k2 a hi]
          omega
  rw [hss] at h
  omega
/-- The own Print of documents no deeper. -/
def RPrints (m : Nat) : Prop := ∀ (d : D) (v0 v1 v2 v3 v4 : Value) (w : World) (B : Nat), d.depth ≤ m → d.Fit6 → d.Nums → d.size ≤ 699 → B ≤ w.heap.size → DocIn w B d v0 v1 v2 v3 v4 →
  Calls Tryz.prog 14 #[.agg #[v0, v1, v2, v3, v4]] w fun e w' => e = .returned (.string (printB d)) ∧ Below w.heap.size w w'
set_option maxHeartbeats 4000000 in
set_option maxRecDepth 100000 in
theorem rprint_1 {m : Nat} (IH0 : RPrints m) {num : Int} {str : ByteArray} {keys : List ByteArray} {kids : List D} (v0 v1 v2 v3 v4 : Value) (w : World) (B : Nat) (hdp : D.depths kids ≤ m) (hf : (D.mk 1 num str keys kids).Fit6) (hn : (D.mk 1 num str keys kids).Nums) (hs : D.sizes kids + 1 ≤ 699) (hB : B ≤ w.heap.size) (hd : DocIn w B (.mk 1 num str keys kids) v0 v1 v2 v3 v4) :
    Calls Tryz.prog 14 #[.agg #[v0, v1, v2, v3, v4]] w fun e w' => e = .returned (.string (printB (.mk 1 num str keys kids))) ∧ Below w.heap.size w w' := by
  simp only [D.Fit6] at hf
  obtain ⟨hf1, hf2, hf3, hf4, hf5⟩ := hf
  simp only [D.Nums] at hn
  have HITB := Lib.hid (fun i => items_bound (kind := 1) hf4 (lims_few hf5 hn.2) (by omega : D.sizes kids ≤ 699) i)
  have HF5 := Lib.hid hf5; have HN2 := Lib.hid hn.2; have HF4 := Lib.hid hf4
  have HSZ := Lib.hid hs; have HDP := Lib.hid hdp
  have IH := Lib.hid IH0
  have HL := Lib.hid (lims_few hf5 hn.2)
  have HD := Lib.hid hd
  obtain ⟨A3, c3, A4, c4, e0, e1, e2, e3, e4⟩ := hd.forms
  simp only [D.kind, D.num, D.str, D.keys, D.kids] at e0 e1 e2 e3 e4
  subst e0; subst e1; subst e2; subst e3; subst e4
  have hlen := items_len1 keys kids
  obtain ⟨N, hN⟩ : ∃ N, N = (itemsD 1 keys kids).length := ⟨_, rfl⟩
  rw [← hN] at hlen
  obtain ⟨nk, hnk⟩ : ∃ nk, nk = keys.length := ⟨_, rfl⟩
  obtain ⟨nd, hnd⟩ : ∃ nd, nd = kids.length := ⟨_, rfl⟩
  have HNK := Lib.hid hnk; have HND := Lib.hid hnd; have HNN := Lib.hid hN
  have hNk : N ≤ nd ∧ N ≤ nk := by omega
  have hnd6 : nd ≤ 600 := by omega
  have hnk6 : nk ≤ 600 := by omega
  have emin : min (nd : Int) (nk : Int) = (N : Int) := by omega
  have hb1 : Below w.heap.size w (w.alloc (.cells #[.int .i64 1, .int .i64 num, .string str, .slice A3 keys.length c3, .slice A4 kids.length c4] 25)) := (Below.refl _ _).alloc (Nat.le_refl _) _
  have hbx := Box5.new w (.int .i64 1) (.int .i64 num) (.string str) (.slice A3 keys.length c3) (.slice A4 kids.length c4)
  rw [← hnk, ← hnd] at hb1 hbx HD ⊢
  have HB1 := Lib.hid hb1; have HBX := Lib.hid hbx
  have hwz : w.heap.size < (w.alloc (.cells #[.int .i64 1, .int .i64 num, .string str, .slice A3 nk c3, .slice A4 nd c4] 25)).heap.size := by simp
  clear hd IH0 hf1 hf2 hf3 hf4 hf5 hn hs hdp hlen hN hnk hnd hb1
  go_enter Tryz.func14, Tryz.ntmps14
  go_wp2_with fail
  obtain ⟨w1, hw1⟩ : ∃ W, W = w.alloc (.cells #[.int .i64 1, .int .i64 num, .string str, .slice A3 nk c3, .slice A4 nd c4] 25) := ⟨_, rfl⟩
  rw [← hw1] at HB1 HBX hwz ⊢
  have HW1 := Lib.hid hw1
  clear hw1 hbx
  go_loopw [4, 5] (fun s i wr => ∃ (k : Nat) (q : ByteArray), k ≤ N ∧ s = .string q ∧ i = .int .i64 k ∧ Hid (q.data.toList = rowD ((itemsD 1 keys kids).take k)) ∧ Hid (Below w1.heap.size w1 wr)) (fun _ i _ => N - (intOf i).toNat)
  case atStart => exact ⟨0, ⟨#[]⟩, Nat.zero_le _, rfl, rfl, Lib.hid (by simp [rowD]), Lib.hid (Below.refl _ _)⟩
  case round =>
    obtain ⟨k, q, hk, rfl, rfl, HQ, HB⟩ := hrel
    have hqz : q.size ≤ 3400000 := by
      have h1 := HITB.out k
      rw [← HQ.out] at h1
      exact h1
    have hzr := HB.out.size
    have HBR := Lib.hid (HB1.out.trans (HB.out.mono HB1.out.size))
    obtain ⟨f0, f1, f2, f3, f4⟩ := (HBX.out.same (HB.out.block _ (by exact hwz))).cells
    have HDR := Lib.hid (HD.out.keep (w' := wr) (Nat.le_refl _) fun p hp => HBR.out.cell (by omega))
    by_cases hlt : k < N
    · have i1 : (k : Int) < (N : Int) := by omega
      have i2 : (0 : Int) ≤ (k : Int) := by omega
      have hkd2 : k < kids.length := by rw [← HND.out]; omega
      have j1 : (k : Int) < (nd : Int) := by omega
      obtain ⟨b, off, rfl, hab, hkids⟩ := HDR.out.kids_.2.2 (by show 0 < kids.length; omega)
      have hcells := KidsIn.at_ hkids k hkd2
      rw [Nat.zero_add] at hcells
      obtain ⟨u0, u1, u2, u3, u4, x0, x1, x2, x3, x4, hdk⟩ := hcells
      obtain ⟨A5, c5, A6, c6, rfl, rfl, rfl, rfl, rfl⟩ := hdk.forms
      have HK := Lib.hid hdk
      have HST := Lib.hid (rowD_step (itemsD 1 keys kids) k (by rw [← HNN.out]; exact hlt))
      have hsk := sizes_take kids k hkd2
      have hsl := sizes_take_le kids (k + 1)
      have HIH := Lib.hid (fun (W : World) (hW : Below wr.heap.size wr W) => IH.out kids[k] _ _ _ _ _ W B (Nat.le_trans (depths_at kids k hkd2) HDP.out) (HF5.out.at_ hkd2) (HN2.out.at_ hkd2) (by have := HSZ.out; omega) (Nat.le_trans hB (Nat.le_trans HBR.out.size hW.size)) (HK.out.keep (Nat.le_refl _) fun p hp => hW.cell (by have := HBR.out.size; omega)))
      obtain ⟨p, hp⟩ : ∃ p, p = printB kids[k] := ⟨_, rfl⟩
      have hpz : p.size ≤ 3400000 := by
        have h1 := lims_len kids HL.out k hkd2
        have h2 := HSZ.out
        rw [hp, printB_size]; omega
      rw [← hp] at HIH
      have HP : Hid (p.data.toList = printD kids[k]) := Lib.hid (by rw [hp, printB_list])
      clear hkids hdk hsk hsl hp
      have hkk : k < keys.length := by rw [← HNK.out]; omega
      have j2 : (k : Int) < (nk : Int) := by omega
      obtain ⟨A', c', e', hc1, hc2⟩ := HDR.out.keys_
      injection e' with e1 em e2; clear em; subst e1; subst e2
      obtain ⟨b3, off3, rfl, hab3, hcells3⟩ := hc2 (by show 0 < keys.length; omega)
      have gk := hcells3 k hkk
      have hkz : (keys[k]).size ≤ 600 := HF4.out _ (List.getElem_mem hkk)
      have HIT := Lib.hid (items_at1 (keys := keys) (kids := kids) (by rw [← HNN.out]; exact hlt) hkk hkd2)
      simp only [D.keys] at gk
      obtain ⟨ky, hky⟩ : ∃ ky, ky = keys[k] := ⟨_, rfl⟩
      rw [← hky] at gk hkz HIT
      clear hc2 hc1 hcells3 hky
      have hk0 : k = 0 ∨ 0 < k := by omega
      rcases hk0 with hk0 | hk0
      · have z1 : ¬ (0 : Int) < (k : Int) := by omega
        have HST2 : Hid (rowD ((itemsD 1 keys kids).take (k + 1)) = rowD ((itemsD 1 keys kids).take k) ++ (itemsD 1 keys kids)[k]'(by rw [← HNN.out]; exact hlt)) := Lib.hid (by rw [HST.out, if_pos hk0]; rfl)
        clear hk0
        go_wp2_with fail
        refine (HIH.out _ (Below.refl _ _)).mono ?_
        rintro e w3 ⟨rfl, hb3⟩
        have HB3 := Lib.hid (HB.out.trans (hb3.mono hzr))
        clear hb3 f0 f1 f2 f3 f4 x0 x1 x2 x3 x4 gk
        go_wp2_with fail
        go_roundw
        case rel => exact ⟨k + 1, _, by omega, rfl, by go_num, Lib.hid (by rw [HST2.out]; simp only [rp_cat, HQ.out, HP.out, HIT.out, List.append_assoc]), HB3⟩
        case measure => simp [intOf]; omega
      · have z1 : (0 : Int) < (k : Int) := by omega
        have HST2 : Hid (rowD ((itemsD 1 keys kids).take (k + 1)) = rowD ((itemsD 1 keys kids).take k) ++ ([44, 32] ++ (itemsD 1 keys kids)[k]'(by rw [← HNN.out]; exact hlt))) := Lib.hid (by rw [HST.out, if_neg (by omega)])
        clear hk0
        go_wp2_with fail
        refine (HIH.out _ (Below.refl _ _)).mono ?_
        rintro e w3 ⟨rfl, hb3⟩
        have HB3 := Lib.hid (HB.out.trans (hb3.mono hzr))
        clear hb3 f0 f1 f2 f3 f4 x0 x1 x2 x3 x4 gk
        go_wp2_with fail
        go_roundw
        case rel => exact ⟨k + 1, _, by omega, rfl, by go_num, Lib.hid (by rw [HST2.out]; simp only [rp_cat, HQ.out, HP.out, HIT.out, List.append_assoc]), HB3⟩
        case measure => simp [intOf]; omega
    · have hke : k = N := by omega
      have i1 : ¬ (k : Int) < (N : Int) := by omega
      have HALL : Hid (q.data.toList = rowD (itemsD 1 keys kids)) := Lib.hid (by rw [HQ.out, List.take_of_length_le (by rw [← HNN.out]; omega)])
      clear hke
      go_wp2_with fail
      go_ret
      refine ⟨?_, HBR.out⟩
      refine congrArg (fun x => Ending.returned (.string x)) (rp_inj ?_)
      rw [printB_list, show printD (.mk 1 num str keys kids) = 123 :: (rowD (recK keys (printsD kids)) ++ [125]) by simp [printD, nodeD]]
      simp only [rp_cat, HALL.out]
      rfl
set_option maxHeartbeats 4000000 in
set_option maxRecDepth 100000 in
theorem rprint_2 {m : Nat} (IH0 : RPrints m) {num : Int} {str : ByteArray} {keys : List ByteArray} {kids : List D} (v0 v1 v2 v3 v4 : Value) (w : World) (B : Nat) (hdp : D.depths kids ≤ m) (hf : (D.mk 2 num str keys kids).Fit6) (hn : (D.mk 2 num str keys kids).Nums) (hs : D.sizes kids + 1 ≤ 699) (hB : B ≤ w.heap.size) (hd : DocIn w B (.mk 2 num str keys kids) v0 v1 v2 v3 v4) :
    Calls Tryz.prog 14 #[.agg #[v0, v1, v2, v3, v4]] w fun e w' => e = .returned (.string (printB (.mk 2 num str keys kids))) ∧ Below w.heap.size w w' := by
  simp only [D.Fit6] at hf
  obtain ⟨hf1, hf2, hf3, hf4, hf5⟩ := hf
  simp only [D.Nums] at hn
  have HITB := Lib.hid (fun i => items_bound (kind := 2) hf4 (lims_few hf5 hn.2) (by omega : D.sizes kids ≤ 699) i)
  have HF5 := Lib.hid hf5; have HN2 := Lib.hid hn.2; have HF4 := Lib.hid hf4
  have HSZ := Lib.hid hs; have HDP := Lib.hid hdp
  have IH := Lib.hid IH0
  have HL := Lib.hid (lims_few hf5 hn.2)
  have HD := Lib.hid hd
  obtain ⟨A3, c3, A4, c4, e0, e1, e2, e3, e4⟩ := hd.forms
  simp only [D.kind, D.num, D.str, D.keys, D.kids] at e0 e1 e2 e3 e4
  subst e0; subst e1; subst e2; subst e3; subst e4
  have hlen := items_len2 keys kids
  obtain ⟨N, hN⟩ : ∃ N, N = (itemsD 2 keys kids).length := ⟨_, rfl⟩
  rw [← hN] at hlen
  obtain ⟨nk, hnk⟩ : ∃ nk, nk = keys.length := ⟨_, rfl⟩
  obtain ⟨nd, hnd⟩ : ∃ nd, nd = kids.length := ⟨_, rfl⟩
  have HNK := Lib.hid hnk; have HND := Lib.hid hnd; have HNN := Lib.hid hN
  have hNk : N ≤ nd ∧ N ≤ nk := by omega
  have hnd6 : nd ≤ 600 := by omega
  have hnk6 : nk ≤ 600 := by omega
  have emin : min (nd : Int) (nk : Int) = (N : Int) := by omega
  have hb1 : Below w.heap.size w (w.alloc (.cells #[.int .i64 2, .int .i64 num, .string str, .slice A3 keys.length c3, .slice A4 kids.length c4] 25)) := (Below.refl _ _).alloc (Nat.le_refl _) _
  have hbx := Box5.new w (.int .i64 2) (.int .i64 num) (.string str) (.slice A3 keys.length c3) (.slice A4 kids.length c4)
  rw [← hnk, ← hnd] at hb1 hbx HD ⊢
  have HB1 := Lib.hid hb1; have HBX := Lib.hid hbx
  have hwz : w.heap.size < (w.alloc (.cells #[.int .i64 2, .int .i64 num, .string str, .slice A3 nk c3, .slice A4 nd c4] 25)).heap.size := by simp
  clear hd IH0 hf1 hf2 hf3 hf4 hf5 hn hs hdp hlen hN hnk hnd hb1
  go_enter Tryz.func14, Tryz.ntmps14
  go_wp2_with fail
  obtain ⟨w1, hw1⟩ : ∃ W, W = w.alloc (.cells #[.int .i64 2, .int .i64 num, .string str, .slice A3 nk c3, .slice A4 nd c4] 25) := ⟨_, rfl⟩
  rw [← hw1] at HB1 HBX hwz ⊢
  have HW1 := Lib.hid hw1
  clear hw1 hbx
  go_loopw [4, 5] (fun s i wr => ∃ (k : Nat) (q : ByteArray), k ≤ N ∧ s = .string q ∧ i = .int .i64 k ∧ Hid (q.data.toList = rowD ((itemsD 2 keys kids).take k)) ∧ Hid (Below w1.heap.size w1 wr)) (fun _ i _ => N - (intOf i).toNat)
  case atStart => exact ⟨0, ⟨#[]⟩, Nat.zero_le _, rfl, rfl, Lib.hid (by simp [rowD]), Lib.hid (Below.refl _ _)⟩
  case round =>
    obtain ⟨k, q, hk, rfl, rfl, HQ, HB⟩ := hrel
    have hqz : q.size ≤ 3400000 := by
      have h1 := HITB.out k
      rw [← HQ.out] at h1
      exact h1
    have hzr := HB.out.size
    have HBR := Lib.hid (HB1.out.trans (HB.out.mono HB1.out.size))
    obtain ⟨f0, f1, f2, f3, f4⟩ := (HBX.out.same (HB.out.block _ (by exact hwz))).cells
    have HDR := Lib.hid (HD.out.keep (w' := wr) (Nat.le_refl _) fun p hp => HBR.out.cell (by omega))
    by_cases hlt : k < N
    · have i1 : (k : Int) < (N : Int) := by omega
      have i2 : (0 : Int) ≤ (k : Int) := by omega
      have hkd2 : k < kids.length := by rw [← HND.out]; omega
      have j1 : (k : Int) < (nd : Int) := by omega
      obtain ⟨b, off, rfl, hab, hkids⟩ := HDR.out.kids_.2.2 (by show 0 < kids.length; omega)
      have hcells := KidsIn.at_ hkids k hkd2
      rw [Nat.zero_add] at hcells
      obtain ⟨u0, u1, u2, u3, u4, x0, x1, x2, x3, x4, hdk⟩ := hcells
      obtain ⟨A5, c5, A6, c6, rfl, rfl, rfl, rfl, rfl⟩ := hdk.forms
      have HK := Lib.hid hdk
      have HST := Lib.hid (rowD_step (itemsD 2 keys kids) k (by rw [← HNN.out]; exact hlt))
      have hsk := sizes_take kids k hkd2
      have hsl := sizes_take_le kids (k + 1)
      have HIH := Lib.hid (fun (W : World) (hW : Below wr.heap.size wr W) => IH.out kids[k] _ _ _ _ _ W B (Nat.le_trans (depths_at kids k hkd2) HDP.out) (HF5.out.at_ hkd2) (HN2.out.at_ hkd2) (by have := HSZ.out; omega) (Nat.le_trans hB (Nat.le_trans HBR.out.size hW.size)) (HK.out.keep (Nat.le_refl _) fun p hp => hW.cell (by have := HBR.out.size; omega)))
      obtain ⟨p, hp⟩ : ∃ p, p = printB kids[k] := ⟨_, rfl⟩
      have hpz : p.size ≤ 3400000 := by
        have h1 := lims_len kids HL.out k hkd2
        have h2 := HSZ.out
        rw [hp, printB_size]; omega
      rw [← hp] at HIH
      have HP : Hid (p.data.toList = printD kids[k]) := Lib.hid (by rw [hp, printB_list])
      clear hkids hdk hsk hsl hp
      have hkk : k < keys.length := by rw [← HNK.out]; omega
      have j2 : (k : Int) < (nk : Int) := by omega
      obtain ⟨A', c', e', hc1, hc2⟩ := HDR.out.keys_
      injection e' with e1 em e2; clear em; subst e1; subst e2
      obtain ⟨b3, off3, rfl, hab3, hcells3⟩ := hc2 (by show 0 < keys.length; omega)
      have gk := hcells3 k hkk
      have hkz : (keys[k]).size ≤ 600 := HF4.out _ (List.getElem_mem hkk)
      have HIT := Lib.hid (items_at2 (keys := keys) (kids := kids) (by rw [← HNN.out]; exact hlt) hkk hkd2)
      simp only [D.keys] at gk
      obtain ⟨ky, hky⟩ : ∃ ky, ky = keys[k] := ⟨_, rfl⟩
      rw [← hky] at gk hkz HIT
      clear hc2 hc1 hcells3 hky
      have hk0 : k = 0 ∨ 0 < k := by omega
      rcases hk0 with hk0 | hk0
      · have z1 : ¬ (0 : Int) < (k : Int) := by omega
        have HST2 : Hid (rowD ((itemsD 2 keys kids).take (k + 1)) = rowD ((itemsD 2 keys kids).take k) ++ (itemsD 2 keys kids)[k]'(by rw [← HNN.out]; exact hlt)) := Lib.hid (by rw [HST.out, if_pos hk0]; rfl)
        clear hk0
        have hzw := HBR.out.size
        go_wp2_with fail
        refine (rQuote_any ky _ (by omega)).mono ?_
        rintro e w2 ⟨rfl, hb2⟩
        have hq5 : (⟨(quoteL ky.data.toList).toArray⟩ : ByteArray).size ≤ 3000 := by
          have h1 := quoteL_len ky.data.toList
          have h2 : ky.data.toList.length = ky.size := rfl
          show (quoteL ky.data.toList).toArray.size ≤ _
          rw [List.size_toArray]; omega
        have HQL : Hid ((⟨(quoteL ky.data.toList).toArray⟩ : ByteArray).data.toList = quoteL ky.data.toList) := Lib.hid (rp_mk _)
        obtain ⟨qk, hqk⟩ : ∃ qk, qk = (⟨(quoteL ky.data.toList).toArray⟩ : ByteArray) := ⟨_, rfl⟩
        rw [← hqk] at hq5 HQL ⊢
        clear hqk
        have HB2 := Lib.hid hb2
        have hbr := HBR.out.size
        obtain ⟨f0, f1, f2, f3, f4⟩ := ((HBX.out.same (HB.out.block _ (by exact hwz))).same (HB2.out.block _ (by have := HB1.out.size; omega))).cells
        have y0 := (HB2.out.cell (p := ⟨b, off + k * 5, none⟩) (by show b < _; omega)).trans x0
        have y1 := (HB2.out.cell (p := ⟨b, off + k * 5 + 1, none⟩) (by show b < _; omega)).trans x1
        have y2 := (HB2.out.cell (p := ⟨b, off + k * 5 + 2, none⟩) (by show b < _; omega)).trans x2
        have y3 := (HB2.out.cell (p := ⟨b, off + k * 5 + 3, none⟩) (by show b < _; omega)).trans x3
        have y4 := (HB2.out.cell (p := ⟨b, off + k * 5 + 4, none⟩) (by show b < _; omega)).trans x4
        clear x0 x1 x2 x3 x4 gk
        go_wp2_with fail
        refine (HIH.out _ hb2).mono ?_
        rintro e w3 ⟨rfl, hb3⟩
        have HB3 := Lib.hid (HB.out.trans ((HB2.out.trans (hb3.mono HB2.out.size)).mono hzr))
        clear hb3 f0 f1 f2 f3 f4 hb2 y0 y1 y2 y3 y4
        go_wp2_with fail
        go_roundw
        case rel => exact ⟨k + 1, _, by omega, rfl, by go_num, Lib.hid (by rw [HST2.out]; simp only [rp_cat, HQ.out, HP.out, HIT.out, HQL.out, List.append_assoc]), HB3⟩
        case measure => simp [intOf]; omega
      · have z1 : (0 : Int) < (k : Int) := by omega
        have HST2 : Hid (rowD ((itemsD 2 keys kids).take (k + 1)) = rowD ((itemsD 2 keys kids).take k) ++ ([44, 32] ++ (itemsD 2 keys kids)[k]'(by rw [← HNN.out]; exact hlt))) := Lib.hid (by rw [HST.out, if_neg (by omega)])
        clear hk0
        have hzw := HBR.out.size
        go_wp2_with fail
        refine (rQuote_any ky _ (by omega)).mono ?_
        rintro e w2 ⟨rfl, hb2⟩
        have hq5 : (⟨(quoteL ky.data.toList).toArray⟩ : ByteArray).size ≤ 3000 := by
          have h1 := quoteL_len ky.data.toList
          have h2 : ky.data.toList.length = ky.size := rfl
          show (quoteL ky.data.toList).toArray.size ≤ _
          rw [List.size_toArray]; omega
        have HQL : Hid ((⟨(quoteL ky.data.toList).toArray⟩ : ByteArray).data.toList = quoteL ky.data.toList) := Lib.hid (rp_mk _)
        obtain ⟨qk, hqk⟩ : ∃ qk, qk = (⟨(quoteL ky.data.toList).toArray⟩ : ByteArray) := ⟨_, rfl⟩
        rw [← hqk] at hq5 HQL ⊢
        clear hqk
        have HB2 := Lib.hid hb2
        have hbr := HBR.out.size
        obtain ⟨f0, f1, f2, f3, f4⟩ := ((HBX.out.same (HB.out.block _ (by exact hwz))).same (HB2.out.block _ (by have := HB1.out.size; omega))).cells
        have y0 := (HB2.out.cell (p := ⟨b, off + k * 5, none⟩) (by show b < _; omega)).trans x0
        have y1 := (HB2.out.cell (p := ⟨b, off + k * 5 + 1, none⟩) (by show b < _; omega)).trans x1
        have y2 := (HB2.out.cell (p := ⟨b, off + k * 5 + 2, none⟩) (by show b < _; omega)).trans x2
        have y3 := (HB2.out.cell (p := ⟨b, off + k * 5 + 3, none⟩) (by show b < _; omega)).trans x3
        have y4 := (HB2.out.cell (p := ⟨b, off + k * 5 + 4, none⟩) (by show b < _; omega)).trans x4
        clear x0 x1 x2 x3 x4 gk
        go_wp2_with fail
        refine (HIH.out _ hb2).mono ?_
        rintro e w3 ⟨rfl, hb3⟩
        have HB3 := Lib.hid (HB.out.trans ((HB2.out.trans (hb3.mono HB2.out.size)).mono hzr))
        clear hb3 f0 f1 f2 f3 f4 hb2 y0 y1 y2 y3 y4
        go_wp2_with fail
        go_roundw
        case rel => exact ⟨k + 1, _, by omega, rfl, by go_num, Lib.hid (by rw [HST2.out]; simp only [rp_cat, HQ.out, HP.out, HIT.out, HQL.out, List.append_assoc]), HB3⟩
        case measure => simp [intOf]; omega
    · have hke : k = N := by omega
      have i1 : ¬ (k : Int) < (N : Int) := by omega
      have HALL : Hid (q.data.toList = rowD (itemsD 2 keys kids)) := Lib.hid (by rw [HQ.out, List.take_of_length_le (by rw [← HNN.out]; omega)])
      clear hke
      go_wp2_with fail
      go_ret
      refine ⟨?_, HBR.out⟩
      refine congrArg (fun x => Ending.returned (.string x)) (rp_inj ?_)
      rw [printB_list, show printD (.mk 2 num str keys kids) = 60 :: (rowD (dictK keys (printsD kids)) ++ [62]) by simp [printD, nodeD]]
      simp only [rp_cat, HALL.out]
      rfl
set_option maxHeartbeats 4000000 in
set_option maxRecDepth 100000 in
theorem rprint_3 {m : Nat} (IH0 : RPrints m) {num : Int} {str : ByteArray} {keys : List ByteArray} {kids : List D} (v0 v1 v2 v3 v4 : Value) (w : World) (B : Nat) (hdp : D.depths kids ≤ m) (hf : (D.mk 3 num str keys kids).Fit6) (hn : (D.mk 3 num str keys kids).Nums) (hs : D.sizes kids + 1 ≤ 699) (hB : B ≤ w.heap.size) (hd : DocIn w B (.mk 3 num str keys kids) v0 v1 v2 v3 v4) :
    Calls Tryz.prog 14 #[.agg #[v0, v1, v2, v3, v4]] w fun e w' => e = .returned (.string (printB (.mk 3 num str keys kids))) ∧ Below w.heap.size w w' := by
  simp only [D.Fit6] at hf
  obtain ⟨hf1, hf2, hf3, hf4, hf5⟩ := hf
  simp only [D.Nums] at hn
  have HITB := Lib.hid (fun i => items_bound (kind := 3) hf4 (lims_few hf5 hn.2) (by omega : D.sizes kids ≤ 699) i)
  have HF5 := Lib.hid hf5; have HN2 := Lib.hid hn.2; have HF4 := Lib.hid hf4
  have HSZ := Lib.hid hs; have HDP := Lib.hid hdp
  have IH := Lib.hid IH0
  have HL := Lib.hid (lims_few hf5 hn.2)
  have HD := Lib.hid hd
  obtain ⟨A3, c3, A4, c4, e0, e1, e2, e3, e4⟩ := hd.forms
  simp only [D.kind, D.num, D.str, D.keys, D.kids] at e0 e1 e2 e3 e4
  subst e0; subst e1; subst e2; subst e3; subst e4
  have hlen := items_len3 (kind := 3) (by decide) (by decide) keys kids
  obtain ⟨N, hN⟩ : ∃ N, N = (itemsD 3 keys kids).length := ⟨_, rfl⟩
  rw [← hN] at hlen
  obtain ⟨nk, hnk⟩ : ∃ nk, nk = keys.length := ⟨_, rfl⟩
  obtain ⟨nd, hnd⟩ : ∃ nd, nd = kids.length := ⟨_, rfl⟩
  have HNK := Lib.hid hnk; have HND := Lib.hid hnd; have HNN := Lib.hid hN
  have hNk : N ≤ nd := by omega
  have hnd6 : nd ≤ 600 := by omega
  have hnk6 : nk ≤ 600 := by omega
  have HNd := Lib.hid (show N = nd by omega)
  have hb1 : Below w.heap.size w (w.alloc (.cells #[.int .i64 3, .int .i64 num, .string str, .slice A3 keys.length c3, .slice A4 kids.length c4] 25)) := (Below.refl _ _).alloc (Nat.le_refl _) _
  have hbx := Box5.new w (.int .i64 3) (.int .i64 num) (.string str) (.slice A3 keys.length c3) (.slice A4 kids.length c4)
  rw [← hnk, ← hnd] at hb1 hbx HD ⊢
  have HB1 := Lib.hid hb1; have HBX := Lib.hid hbx
  have hwz : w.heap.size < (w.alloc (.cells #[.int .i64 3, .int .i64 num, .string str, .slice A3 nk c3, .slice A4 nd c4] 25)).heap.size := by simp
  clear hd IH0 hf1 hf2 hf3 hf4 hf5 hn hs hdp hlen hN hnk hnd hb1
  go_enter Tryz.func14, Tryz.ntmps14
  go_wp2_with fail
  obtain ⟨w1, hw1⟩ : ∃ W, W = w.alloc (.cells #[.int .i64 3, .int .i64 num, .string str, .slice A3 nk c3, .slice A4 nd c4] 25) := ⟨_, rfl⟩
  rw [← hw1] at HB1 HBX hwz ⊢
  have HW1 := Lib.hid hw1
  clear hw1 hbx
  go_loopw [4, 5] (fun s i wr => ∃ (k : Nat) (q : ByteArray), k ≤ N ∧ s = .string q ∧ i = .int .i64 k ∧ Hid (q.data.toList = rowD ((itemsD 3 keys kids).take k)) ∧ Hid (Below w1.heap.size w1 wr)) (fun _ i _ => N - (intOf i).toNat)
  case atStart => exact ⟨0, ⟨#[]⟩, Nat.zero_le _, rfl, rfl, Lib.hid (by simp [rowD]), Lib.hid (Below.refl _ _)⟩
  case round =>
    obtain ⟨k, q, hk, rfl, rfl, HQ, HB⟩ := hrel
    have hqz : q.size ≤ 3400000 := by
      have h1 := HITB.out k
      rw [← HQ.out] at h1
      exact h1
    have hzr := HB.out.size
    have HBR := Lib.hid (HB1.out.trans (HB.out.mono HB1.out.size))
    obtain ⟨f0, f1, f2, f3, f4⟩ := (HBX.out.same (HB.out.block _ (by exact hwz))).cells
    have HDR := Lib.hid (HD.out.keep (w' := wr) (Nat.le_refl _) fun p hp => HBR.out.cell (by omega))
    by_cases hlt : k < N
    · have i1 : (k : Int) < (N : Int) := by omega
      have i2 : (0 : Int) ≤ (k : Int) := by omega
      have hNd := HNd.out
      have hkd2 : k < kids.length := by rw [← HND.out]; omega
      have j1 : (k : Int) < (nd : Int) := by omega
      clear hNd
      obtain ⟨b, off, rfl, hab, hkids⟩ := HDR.out.kids_.2.2 (by show 0 < kids.length; omega)
      have hcells := KidsIn.at_ hkids k hkd2
      rw [Nat.zero_add] at hcells
      obtain ⟨u0, u1, u2, u3, u4, x0, x1, x2, x3, x4, hdk⟩ := hcells
      obtain ⟨A5, c5, A6, c6, rfl, rfl, rfl, rfl, rfl⟩ := hdk.forms
      have HK := Lib.hid hdk
      have HST := Lib.hid (rowD_step (itemsD 3 keys kids) k (by rw [← HNN.out]; exact hlt))
      have hsk := sizes_take kids k hkd2
      have hsl := sizes_take_le kids (k + 1)
      have HIH := Lib.hid (fun (W : World) (hW : Below wr.heap.size wr W) => IH.out kids[k] _ _ _ _ _ W B (Nat.le_trans (depths_at kids k hkd2) HDP.out) (HF5.out.at_ hkd2) (HN2.out.at_ hkd2) (by have := HSZ.out; omega) (Nat.le_trans hB (Nat.le_trans HBR.out.size hW.size)) (HK.out.keep (Nat.le_refl _) fun p hp => hW.cell (by have := HBR.out.size; omega)))
      obtain ⟨p, hp⟩ : ∃ p, p = printB kids[k] := ⟨_, rfl⟩
      have hpz : p.size ≤ 3400000 := by
        have h1 := lims_len kids HL.out k hkd2
        have h2 := HSZ.out
        rw [hp, printB_size]; omega
      rw [← hp] at HIH
      have HP : Hid (p.data.toList = printD kids[k]) := Lib.hid (by rw [hp, printB_list])
      clear hkids hdk hsk hsl hp
      have HIT := Lib.hid (items_at3 (kind := 3) (by decide) (by decide) (keys := keys) (kids := kids) (by rw [← HNN.out]; exact hlt) hkd2)
      have hk0 : k = 0 ∨ 0 < k := by omega
      rcases hk0 with hk0 | hk0
      · have z1 : ¬ (0 : Int) < (k : Int) := by omega
        have HST2 : Hid (rowD ((itemsD 3 keys kids).take (k + 1)) = rowD ((itemsD 3 keys kids).take k) ++ (itemsD 3 keys kids)[k]'(by rw [← HNN.out]; exact hlt)) := Lib.hid (by rw [HST.out, if_pos hk0]; rfl)
        clear hk0
        go_wp2_with fail
        refine (HIH.out _ (Below.refl _ _)).mono ?_
        rintro e w3 ⟨rfl, hb3⟩
        have HB3 := Lib.hid (HB.out.trans (hb3.mono hzr))
        clear hb3 f0 f1 f2 f3 f4 x0 x1 x2 x3 x4
        go_wp2_with fail
        go_roundw
        case rel => exact ⟨k + 1, _, by omega, rfl, by go_num, Lib.hid (by rw [HST2.out]; simp only [rp_cat, HQ.out, HP.out, HIT.out]), HB3⟩
        case measure => simp [intOf]; omega
      · have z1 : (0 : Int) < (k : Int) := by omega
        have HST2 : Hid (rowD ((itemsD 3 keys kids).take (k + 1)) = rowD ((itemsD 3 keys kids).take k) ++ ([44, 32] ++ (itemsD 3 keys kids)[k]'(by rw [← HNN.out]; exact hlt))) := Lib.hid (by rw [HST.out, if_neg (by omega)])
        clear hk0
        go_wp2_with fail
        refine (HIH.out _ (Below.refl _ _)).mono ?_
        rintro e w3 ⟨rfl, hb3⟩
        have HB3 := Lib.hid (HB.out.trans (hb3.mono hzr))
        clear hb3 f0 f1 f2 f3 f4 x0 x1 x2 x3 x4
        go_wp2_with fail
        go_roundw
        case rel => exact ⟨k + 1, _, by omega, rfl, by go_num, Lib.hid (by rw [HST2.out]; simp only [rp_cat, HQ.out, HP.out, HIT.out, List.append_assoc]), HB3⟩
        case measure => simp [intOf]; omega
    · have hke : k = N := by omega
      have i1 : ¬ (k : Int) < (N : Int) := by omega
      have i1n : ¬ (k : Int) < (nd : Int) := by rw [← HNd.out]; exact i1
      have HALL : Hid (q.data.toList = rowD (itemsD 3 keys kids)) := Lib.hid (by rw [HQ.out, List.take_of_length_le (by rw [← HNN.out]; omega)])
      clear hke
      go_wp2_with fail
      go_ret
      refine ⟨?_, HBR.out⟩
      refine congrArg (fun x => Ending.returned (.string x)) (rp_inj ?_)
      rw [printB_list, show printD (.mk 3 num str keys kids) = 91 :: (rowD (printsD kids) ++ [93]) by simp [printD, nodeD]]
      simp only [rp_cat, HALL.out]
      rfl
set_option maxHeartbeats 4000000 in
set_option maxRecDepth 100000 in
theorem rprint_0 {m : Nat} (IH0 : RPrints m) {kind num : Int} {str : ByteArray} {keys : List ByteArray} {kids : List D} (hkd : kind ≤ 0) (v0 v1 v2 v3 v4 : Value) (w : World) (B : Nat) (hdp : D.depths kids ≤ m) (hf : (D.mk kind num str keys kids).Fit6) (hn : (D.mk kind num str keys kids).Nums) (hs : D.sizes kids + 1 ≤ 699) (hB : B ≤ w.heap.size) (hd : DocIn w B (.mk kind num str keys kids) v0 v1 v2 v3 v4) :
    Calls Tryz.prog 14 #[.agg #[v0, v1, v2, v3, v4]] w fun e w' => e = .returned (.string (printB (.mk kind num str keys kids))) ∧ Below w.heap.size w w' := by
  have g1 : (kind == 1) = false := by simp; omega
  have g2 : (kind == 2) = false := by simp; omega
  have g3 : kind ≤ 3 := by omega
  have g4 : (kind == 3) = false := by simp; omega
  have g5 : (kind == 4) = false := by simp; omega
  have g6 : (kind == 5) = false := by simp; omega
  have g7 : (kind == 6) = false := by simp; omega
  have hk1 : kind ≠ 1 := by omega
  have hk2 : kind ≠ 2 := by omega
  have hk3 : kind ≠ 3 := by omega
  simp only [D.Fit6] at hf
  obtain ⟨hf1, hf2, hf3, hf4, hf5⟩ := hf
  simp only [D.Nums] at hn
  have HITB := Lib.hid (fun i => items_bound (kind := kind) hf4 (lims_few hf5 hn.2) (by omega : D.sizes kids ≤ 699) i)
  have HF5 := Lib.hid hf5; have HN2 := Lib.hid hn.2; have HF4 := Lib.hid hf4
  have HSZ := Lib.hid hs; have HDP := Lib.hid hdp
  have IH := Lib.hid IH0
  have HL := Lib.hid (lims_few hf5 hn.2)
  have HD := Lib.hid hd
  obtain ⟨A3, c3, A4, c4, e0, e1, e2, e3, e4⟩ := hd.forms
  simp only [D.kind, D.num, D.str, D.keys, D.kids] at e0 e1 e2 e3 e4
  subst e0; subst e1; subst e2; subst e3; subst e4
  have hlen := items_len3 hk1 hk2 keys kids
  obtain ⟨N, hN⟩ : ∃ N, N = (itemsD kind keys kids).length := ⟨_, rfl⟩
  rw [← hN] at hlen
  obtain ⟨nk, hnk⟩ : ∃ nk, nk = keys.length := ⟨_, rfl⟩
  obtain ⟨nd, hnd⟩ : ∃ nd, nd = kids.length := ⟨_, rfl⟩
  have HNK := Lib.hid hnk; have HND := Lib.hid hnd; have HNN := Lib.hid hN
  have hNk : N ≤ nd := by omega
  have hnd6 : nd ≤ 600 := by omega
  have hnk6 : nk ≤ 600 := by omega
  have HNd := Lib.hid (show N = nd by omega)
  have hb1 : Below w.heap.size w (w.alloc (.cells #[.int .i64 kind, .int .i64 num, .string str, .slice A3 keys.length c3, .slice A4 kids.length c4] 25)) := (Below.refl _ _).alloc (Nat.le_refl _) _
  have hbx := Box5.new w (.int .i64 kind) (.int .i64 num) (.string str) (.slice A3 keys.length c3) (.slice A4 kids.length c4)
  rw [← hnk, ← hnd] at hb1 hbx HD ⊢
  have HB1 := Lib.hid hb1; have HBX := Lib.hid hbx
  have hwz : w.heap.size < (w.alloc (.cells #[.int .i64 kind, .int .i64 num, .string str, .slice A3 nk c3, .slice A4 nd c4] 25)).heap.size := by simp
  clear hd IH0 hf1 hf2 hf3 hf4 hf5 hn hs hdp hlen hN hnk hnd hb1
  go_enter Tryz.func14, Tryz.ntmps14
  go_wp2_with fail
  obtain ⟨w1, hw1⟩ : ∃ W, W = w.alloc (.cells #[.int .i64 kind, .int .i64 num, .string str, .slice A3 nk c3, .slice A4 nd c4] 25) := ⟨_, rfl⟩
  rw [← hw1] at HB1 HBX hwz ⊢
  have HW1 := Lib.hid hw1
  clear hw1 hbx
  go_loopw [4, 5] (fun s i wr => ∃ (k : Nat) (q : ByteArray), k ≤ N ∧ s = .string q ∧ i = .int .i64 k ∧ Hid (q.data.toList = rowD ((itemsD kind keys kids).take k)) ∧ Hid (Below w1.heap.size w1 wr)) (fun _ i _ => N - (intOf i).toNat)
  case atStart => exact ⟨0, ⟨#[]⟩, Nat.zero_le _, rfl, rfl, Lib.hid (by simp [rowD]), Lib.hid (Below.refl _ _)⟩
  case round =>
    obtain ⟨k, q, hk, rfl, rfl, HQ, HB⟩ := hrel
    have hqz : q.size ≤ 3400000 := by
      have h1 := HITB.out k
      rw [← HQ.out] at h1
      exact h1
    have hzr := HB.out.size
    have HBR := Lib.hid (HB1.out.trans (HB.out.mono HB1.out.size))
    obtain ⟨f0, f1, f2, f3, f4⟩ := (HBX.out.same (HB.out.block _ (by exact hwz))).cells
    have HDR := Lib.hid (HD.out.keep (w' := wr) (Nat.le_refl _) fun p hp => HBR.out.cell (by omega))
    by_cases hlt : k < N
    · have i1 : (k : Int) < (N : Int) := by omega
      have i2 : (0 : Int) ≤ (k : Int) := by omega
      have hNd := HNd.out
      have hkd2 : k < kids.length := by rw [← HND.out]; omega
      have j1 : (k : Int) < (nd : Int) := by omega
      clear hNd
      obtain ⟨b, off, rfl, hab, hkids⟩ := HDR.out.kids_.2.2 (by show 0 < kids.length; omega)
      have hcells := KidsIn.at_ hkids k hkd2
      rw [Nat.zero_add] at hcells
      obtain ⟨u0, u1, u2, u3, u4, x0, x1, x2, x3, x4, hdk⟩ := hcells
      obtain ⟨A5, c5, A6, c6, rfl, rfl, rfl, rfl, rfl⟩ := hdk.forms
      have HK := Lib.hid hdk
      have HST := Lib.hid (rowD_step (itemsD kind keys kids) k (by rw [← HNN.out]; exact hlt))
      have hsk := sizes_take kids k hkd2
      have hsl := sizes_take_le kids (k + 1)
      have HIH := Lib.hid (fun (W : World) (hW : Below wr.heap.size wr W) => IH.out kids[k] _ _ _ _ _ W B (Nat.le_trans (depths_at kids k hkd2) HDP.out) (HF5.out.at_ hkd2) (HN2.out.at_ hkd2) (by have := HSZ.out; omega) (Nat.le_trans hB (Nat.le_trans HBR.out.size hW.size)) (HK.out.keep (Nat.le_refl _) fun p hp => hW.cell (by have := HBR.out.size; omega)))
      obtain ⟨p, hp⟩ : ∃ p, p = printB kids[k] := ⟨_, rfl⟩
      have hpz : p.size ≤ 3400000 := by
        have h1 := lims_len kids HL.out k hkd2
        have h2 := HSZ.out
        rw [hp, printB_size]; omega
      rw [← hp] at HIH
      have HP : Hid (p.data.toList = printD kids[k]) := Lib.hid (by rw [hp, printB_list])
      clear hkids hdk hsk hsl hp
      have HIT := Lib.hid (items_at3 hk1 hk2 (keys := keys) (kids := kids) (by rw [← HNN.out]; exact hlt) hkd2)
      have hk0 : k = 0 ∨ 0 < k := by omega
      rcases hk0 with hk0 | hk0
      · have z1 : ¬ (0 : Int) < (k : Int) := by omega
        have HST2 : Hid (rowD ((itemsD kind keys kids).take (k + 1)) = rowD ((itemsD kind keys kids).take k) ++ (itemsD kind keys kids)[k]'(by rw [← HNN.out]; exact hlt)) := Lib.hid (by rw [HST.out, if_pos hk0]; rfl)
        clear hk0
        go_wp2_with fail
        refine (HIH.out _ (Below.refl _ _)).mono ?_
        rintro e w3 ⟨rfl, hb3⟩
        have HB3 := Lib.hid (HB.out.trans (hb3.mono hzr))
        clear hb3 f0 f1 f2 f3 f4 x0 x1 x2 x3 x4
        go_wp2_with fail
        go_roundw
        case rel => exact ⟨k + 1, _, by omega, rfl, by go_num, Lib.hid (by rw [HST2.out]; simp only [rp_cat, HQ.out, HP.out, HIT.out]), HB3⟩
        case measure => simp [intOf]; omega
      · have z1 : (0 : Int) < (k : Int) := by omega
        have HST2 : Hid (rowD ((itemsD kind keys kids).take (k + 1)) = rowD ((itemsD kind keys kids).take k) ++ ([44, 32] ++ (itemsD kind keys kids)[k]'(by rw [← HNN.out]; exact hlt))) := Lib.hid (by rw [HST.out, if_neg (by omega)])
        clear hk0
        go_wp2_with fail
        refine (HIH.out _ (Below.refl _ _)).mono ?_
        rintro e w3 ⟨rfl, hb3⟩
        have HB3 := Lib.hid (HB.out.trans (hb3.mono hzr))
        clear hb3 f0 f1 f2 f3 f4 x0 x1 x2 x3 x4
        go_wp2_with fail
        go_roundw
        case rel => exact ⟨k + 1, _, by omega, rfl, by go_num, Lib.hid (by rw [HST2.out]; simp only [rp_cat, HQ.out, HP.out, HIT.out, List.append_assoc]), HB3⟩
        case measure => simp [intOf]; omega
    · have hke : k = N := by omega
      have i1 : ¬ (k : Int) < (N : Int) := by omega
      have i1n : ¬ (k : Int) < (nd : Int) := by rw [← HNd.out]; exact i1
      have HALL : Hid (q.data.toList = rowD (itemsD kind keys kids)) := Lib.hid (by rw [HQ.out, List.take_of_length_le (by rw [← HNN.out]; omega)])
      clear hke
      go_wp2_with fail
      go_ret
      refine ⟨?_, HBR.out⟩
      refine congrArg (fun x => Ending.returned (.string x)) (rp_inj ?_)
      rw [printB_list, show printD (.mk kind num str keys kids) = [63] by simp only [printD, nodeD]; rw [if_neg hk1, if_neg hk2, if_neg hk3, if_neg (by omega), if_neg (by omega), if_neg (by omega)]]
set_option maxHeartbeats 2000000 in
set_option maxRecDepth 100000 in
theorem rprint_4 {num : Int} {str : ByteArray} {keys : List ByteArray} {kids : List D} (v0 v1 v2 v3 v4 : Value) (w : World) (B : Nat) (hf : (D.mk 4 num str keys kids).Fit6) (hn : (D.mk 4 num str keys kids).Nums) (hd : DocIn w B (.mk 4 num str keys kids) v0 v1 v2 v3 v4) :
    Calls Tryz.prog 14 #[.agg #[v0, v1, v2, v3, v4]] w fun e w' => e = .returned (.string (printB (.mk 4 num str keys kids))) ∧ Below w.heap.size w w' := by
  simp only [D.Fit6] at hf
  obtain ⟨hf1, hf2, hf3, hf4, hf5⟩ := hf
  simp only [D.Nums] at hn
  obtain ⟨⟨hn1, hn2⟩, _⟩ := hn
  obtain ⟨A3, c3, A4, c4, e0, e1, e2, e3, e4⟩ := hd.forms
  simp only [D.kind, D.num, D.str, D.keys, D.kids] at e0 e1 e2 e3 e4
  subst e0; subst e1; subst e2; subst e3; subst e4
  obtain ⟨nk, hnk⟩ : ∃ nk, nk = keys.length := ⟨_, rfl⟩
  obtain ⟨nd, hnd⟩ : ∃ nd, nd = kids.length := ⟨_, rfl⟩
  rw [← hnk, ← hnd]
  have HNK := Lib.hid hnk; have HND := Lib.hid hnd
  have hb1 : Below w.heap.size w (w.alloc (.cells #[.int .i64 4, .int .i64 num, .string str, .slice A3 nk c3, .slice A4 nd c4] 25)) := (Below.refl _ _).alloc (Nat.le_refl _) _
  have HB1 := Lib.hid hb1
  clear hd hf2 hf3 hf4 hf5 hb1 hnk hnd
  go_enter Tryz.func14, Tryz.ntmps14
  go_wp2_with fail
  go_loopw [5] (fun i wr => i = .int .i64 0 ∧ wr = w.alloc (.cells #[.int .i64 4, .int .i64 num, .string str, .slice A3 nk c3, .slice A4 nd c4] 25)) (fun _ _ => 0)
  case atStart => exact ⟨rfl, rfl⟩
  case round =>
    obtain ⟨rfl, rfl⟩ := hrel
    have hz0 : nd = 0 ∨ 0 < nd := by omega
    rcases hz0 with hz0 | hz0
    · have z1 : ¬ (0 : Int) < (nd : Int) := by omega
      clear hz0
      go_wp2_with fail
      refine (rdec_any num _ hn1 hn2).mono ?_
      rintro e w3 ⟨rfl, hb3⟩
      have HB3 := Lib.hid (HB1.out.trans (hb3.mono (by simp)))
      clear hb3
      go_wp2_with fail
      go_ret
      exact ⟨by simp [printB, printD, nodeD], HB3.out⟩
    · have z1 : (0 : Int) < (nd : Int) := by omega
      clear hz0
      go_wp2_with fail
      refine (rdec_any num _ hn1 hn2).mono ?_
      rintro e w3 ⟨rfl, hb3⟩
      have HB3 := Lib.hid (HB1.out.trans (hb3.mono (by simp)))
      clear hb3
      go_wp2_with fail
      go_ret
      exact ⟨by simp [printB, printD, nodeD], HB3.out⟩
set_option maxHeartbeats 2000000 in
set_option maxRecDepth 100000 in
theorem rprint_5 {num : Int} {str : ByteArray} {keys : List ByteArray} {kids : List D} (v0 v1 v2 v3 v4 : Value) (w : World) (B : Nat) (hf : (D.mk 5 num str keys kids).Fit6) (hn : (D.mk 5 num str keys kids).Nums) (hd : DocIn w B (.mk 5 num str keys kids) v0 v1 v2 v3 v4) :
    Calls Tryz.prog 14 #[.agg #[v0, v1, v2, v3, v4]] w fun e w' => e = .returned (.string (printB (.mk 5 num str keys kids))) ∧ Below w.heap.size w w' := by
  simp only [D.Fit6] at hf
  obtain ⟨hf1, hf2, hf3, hf4, hf5⟩ := hf
  simp only [D.Nums] at hn
  obtain ⟨⟨hn1, hn2⟩, _⟩ := hn
  obtain ⟨A3, c3, A4, c4, e0, e1, e2, e3, e4⟩ := hd.forms
  simp only [D.kind, D.num, D.str, D.keys, D.kids] at e0 e1 e2 e3 e4
  subst e0; subst e1; subst e2; subst e3; subst e4
  obtain ⟨nk, hnk⟩ : ∃ nk, nk = keys.length := ⟨_, rfl⟩
  obtain ⟨nd, hnd⟩ : ∃ nd, nd = kids.length := ⟨_, rfl⟩
  rw [← hnk, ← hnd]
  have HNK := Lib.hid hnk; have HND := Lib.hid hnd
  have hb1 : Below w.heap.size w (w.alloc (.cells #[.int .i64 5, .int .i64 num, .string str, .slice A3 nk c3, .slice A4 nd c4] 25)) := (Below.refl _ _).alloc (Nat.le_refl _) _
  have HB1 := Lib.hid hb1
  clear hd hf2 hf3 hf4 hf5 hb1 hnk hnd
  go_enter Tryz.func14, Tryz.ntmps14
  go_wp2_with fail
  go_loopw [5] (fun i wr => i = .int .i64 0 ∧ wr = w.alloc (.cells #[.int .i64 5, .int .i64 num, .string str, .slice A3 nk c3, .slice A4 nd c4] 25)) (fun _ _ => 0)
  case atStart => exact ⟨rfl, rfl⟩
  case round =>
    obtain ⟨rfl, rfl⟩ := hrel
    have hz0 : nd = 0 ∨ 0 < nd := by omega
    rcases hz0 with hz0 | hz0
    · have z1 : ¬ (0 : Int) < (nd : Int) := by omega
      clear hz0
      by_cases h1 : num = 1
      · subst h1
        go_wp2_with fail
        go_ret
        exact ⟨rfl, HB1.out⟩
      · have g1 : (num == 1) = false := by simp [h1]
        have E : Hid (printB (.mk 5 num str keys kids) = ⟨#[102, 97, 108, 115, 101]⟩) := Lib.hid (by simp [printB, printD, nodeD, boolL, h1])
        clear h1
        go_wp2_with fail
        go_ret
        exact ⟨by rw [E.out]; rfl, HB1.out⟩
    · have z1 : (0 : Int) < (nd : Int) := by omega
      clear hz0
      by_cases h1 : num = 1
      · subst h1
        go_wp2_with fail
        go_ret
        exact ⟨rfl, HB1.out⟩
      · have g1 : (num == 1) = false := by simp [h1]
        have E : Hid (printB (.mk 5 num str keys kids) = ⟨#[102, 97, 108, 115, 101]⟩) := Lib.hid (by simp [printB, printD, nodeD, boolL, h1])
        clear h1
        go_wp2_with fail
        go_ret
        exact ⟨by rw [E.out]; rfl, HB1.out⟩
set_option maxHeartbeats 2000000 in
set_option maxRecDepth 100000 in
theorem rprint_6 {num : Int} {str : ByteArray} {keys : List ByteArray} {kids : List D} (v0 v1 v2 v3 v4 : Value) (w : World) (B : Nat) (hf : (D.mk 6 num str keys kids).Fit6) (hn : (D.mk 6 num str keys kids).Nums) (hd : DocIn w B (.mk 6 num str keys kids) v0 v1 v2 v3 v4) :
    Calls Tryz.prog 14 #[.agg #[v0, v1, v2, v3, v4]] w fun e w' => e = .returned (.string (printB (.mk 6 num str keys kids))) ∧ Below w.heap.size w w' := by
  simp only [D.Fit6] at hf
  obtain ⟨hf1, hf2, hf3, hf4, hf5⟩ := hf
  simp only [D.Nums] at hn
  obtain ⟨⟨hn1, hn2⟩, _⟩ := hn
  obtain ⟨A3, c3, A4, c4, e0, e1, e2, e3, e4⟩ := hd.forms
  simp only [D.kind, D.num, D.str, D.keys, D.kids] at e0 e1 e2 e3 e4
  subst e0; subst e1; subst e2; subst e3; subst e4
  obtain ⟨nk, hnk⟩ : ∃ nk, nk = keys.length := ⟨_, rfl⟩
  obtain ⟨nd, hnd⟩ : ∃ nd, nd = kids.length := ⟨_, rfl⟩
  rw [← hnk, ← hnd]
  have HNK := Lib.hid hnk; have HND := Lib.hid hnd
  have hb1 : Below w.heap.size w (w.alloc (.cells #[.int .i64 6, .int .i64 num, .string str, .slice A3 nk c3, .slice A4 nd c4] 25)) := (Below.refl _ _).alloc (Nat.le_refl _) _
  have HB1 := Lib.hid hb1
  clear hd hf2 hf3 hf4 hf5 hb1 hnk hnd
  go_enter Tryz.func14, Tryz.ntmps14
  go_wp2_with fail
  go_loopw [5] (fun i wr => i = .int .i64 0 ∧ wr = w.alloc (.cells #[.int .i64 6, .int .i64 num, .string str, .slice A3 nk c3, .slice A4 nd c4] 25)) (fun _ _ => 0)
  case atStart => exact ⟨rfl, rfl⟩
  case round =>
    obtain ⟨rfl, rfl⟩ := hrel
    have hz0 : nd = 0 ∨ 0 < nd := by omega
    rcases hz0 with hz0 | hz0
    · have z1 : ¬ (0 : Int) < (nd : Int) := by omega
      clear hz0
      go_wp2_with fail
      refine (rQuote_any str _ (by omega)).mono ?_
      rintro e w3 ⟨rfl, hb3⟩
      have HB3 := Lib.hid (HB1.out.trans (hb3.mono (by simp)))
      clear hb3
      go_wp2_with fail
      go_ret
      exact ⟨by simp [printB, printD, nodeD], HB3.out⟩
    · have z1 : (0 : Int) < (nd : Int) := by omega
      clear hz0
      go_wp2_with fail
      refine (rQuote_any str _ (by omega)).mono ?_
      rintro e w3 ⟨rfl, hb3⟩
      have HB3 := Lib.hid (HB1.out.trans (hb3.mono (by simp)))
      clear hb3
      go_wp2_with fail
      go_ret
      exact ⟨by simp [printB, printD, nodeD], HB3.out⟩
set_option maxHeartbeats 2000000 in
set_option maxRecDepth 100000 in
theorem rprint_7 {kind num : Int} {str : ByteArray} {keys : List ByteArray} {kids : List D} (hkd : 6 < kind) (v0 v1 v2 v3 v4 : Value) (w : World) (B : Nat) (hf : (D.mk kind num str keys kids).Fit6) (hn : (D.mk kind num str keys kids).Nums) (hd : DocIn w B (.mk kind num str keys kids) v0 v1 v2 v3 v4) :
    Calls Tryz.prog 14 #[.agg #[v0, v1, v2, v3, v4]] w fun e w' => e = .returned (.string (printB (.mk kind num str keys kids))) ∧ Below w.heap.size w w' := by
  have g1 : (kind == 1) = false := by simp; omega
  have g2 : (kind == 2) = false := by simp; omega
  have g3 : ¬ kind ≤ 3 := by omega
  have g4 : (kind == 3) = false := by simp; omega
  have g5 : (kind == 4) = false := by simp; omega
  have g6 : (kind == 5) = false := by simp; omega
  have g7 : (kind == 6) = false := by simp; omega
  simp only [D.Fit6] at hf
  obtain ⟨hf1, hf2, hf3, hf4, hf5⟩ := hf
  simp only [D.Nums] at hn
  obtain ⟨⟨hn1, hn2⟩, _⟩ := hn
  obtain ⟨A3, c3, A4, c4, e0, e1, e2, e3, e4⟩ := hd.forms
  simp only [D.kind, D.num, D.str, D.keys, D.kids] at e0 e1 e2 e3 e4
  subst e0; subst e1; subst e2; subst e3; subst e4
  obtain ⟨nk, hnk⟩ : ∃ nk, nk = keys.length := ⟨_, rfl⟩
  obtain ⟨nd, hnd⟩ : ∃ nd, nd = kids.length := ⟨_, rfl⟩
  rw [← hnk, ← hnd]
  have HNK := Lib.hid hnk; have HND := Lib.hid hnd
  have hb1 : Below w.heap.size w (w.alloc (.cells #[.int .i64 kind, .int .i64 num, .string str, .slice A3 nk c3, .slice A4 nd c4] 25)) := (Below.refl _ _).alloc (Nat.le_refl _) _
  have HB1 := Lib.hid hb1
  clear hd hf2 hf3 hf4 hf5 hb1 hnk hnd
  go_enter Tryz.func14, Tryz.ntmps14
  go_wp2_with fail
  go_loopw [5] (fun i wr => i = .int .i64 0 ∧ wr = w.alloc (.cells #[.int .i64 kind, .int .i64 num, .string str, .slice A3 nk c3, .slice A4 nd c4] 25)) (fun _ _ => 0)
  case atStart => exact ⟨rfl, rfl⟩
  case round =>
    obtain ⟨rfl, rfl⟩ := hrel
    have hz0 : nd = 0 ∨ 0 < nd := by omega
    rcases hz0 with hz0 | hz0
    · have z1 : ¬ (0 : Int) < (nd : Int) := by omega
      clear hz0
      have E : Hid (printB (.mk kind num str keys kids) = ⟨#[63]⟩) := Lib.hid (by simp only [printB, printD, nodeD]; rw [if_neg (by omega), if_neg (by omega), if_neg (by omega), if_neg (by omega), if_neg (by omega), if_neg (by omega)])
      go_wp2_with fail
      go_ret
      exact ⟨by rw [E.out]; rfl, HB1.out⟩
    · have z1 : (0 : Int) < (nd : Int) := by omega
      clear hz0
      have E : Hid (printB (.mk kind num str keys kids) = ⟨#[63]⟩) := Lib.hid (by simp only [printB, printD, nodeD]; rw [if_neg (by omega), if_neg (by omega), if_neg (by omega), if_neg (by omega), if_neg (by omega), if_neg (by omega)])
      go_wp2_with fail
      go_ret
      exact ⟨by rw [E.out]; rfl, HB1.out⟩
theorem rprints_any : ∀ m, RPrints m
  | 0 => fun d _ _ _ _ _ _ _ hdp => by have := D.depth_eq d; omega
  | m + 1 => by
    intro d v0 v1 v2 v3 v4 w B hdp hf hn hs hB hd
    have IH := rprints_any m
    obtain ⟨kind, num, str, keys, kids⟩ := d
    simp only [D.depth] at hdp
    simp only [D.size] at hs
    by_cases k1 : kind = 1
    · subst k1; exact rprint_1 IH v0 v1 v2 v3 v4 w B (by omega) hf hn hs hB hd
    by_cases k2 : kind = 2
    · subst k2; exact rprint_2 IH v0 v1 v2 v3 v4 w B (by omega) hf hn hs hB hd
    by_cases k3 : kind = 3
    · subst k3; exact rprint_3 IH v0 v1 v2 v3 v4 w B (by omega) hf hn hs hB hd
    by_cases k4 : kind = 4
    · subst k4; exact rprint_4 v0 v1 v2 v3 v4 w B hf hn hd
    by_cases k5 : kind = 5
    · subst k5; exact rprint_5 v0 v1 v2 v3 v4 w B hf hn hd
    by_cases k6 : kind = 6
    · subst k6; exact rprint_6 v0 v1 v2 v3 v4 w B hf hn hd
    by_cases k0 : kind ≤ 0
    · exact rprint_0 IH k0 v0 v1 v2 v3 v4 w B (by omega) hf hn hs hB hd
    · exact rprint_7 (by omega) v0 v1 v2 v3 v4 w B hf hn hd
end Go.Proofs.YtgklnafliaplkaaGreatDoor
