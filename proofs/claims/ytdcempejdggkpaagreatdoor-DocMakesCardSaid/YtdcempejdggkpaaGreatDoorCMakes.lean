/-
  The walk of DocMakes.
-/
import Derived.Test.YtdcempejdggkpaaGreatDoorB35
import Derived.Test.YtdcempejdggkpaaGreatDoorB36
import Derived.Test.YtdcempejdggkpaaGreatDoorB39
import Derived.Test.YtdcempejdggkpaaGreatDoorB27
namespace Go.Proofs.YtdcempejdggkpaaGreatDoor
open Go.RowKit

theorem same_self (d : D) : D.same d d = true := by unfold D.same; rw [decide_eq_true_eq]; exact (D.cmp_ordered.eq d d trivial trivial).2 rfl
theorem made_docV {W0 : Nat} {w w' : World} {d : D} {e : Ending} (h : MadeDoc W0 w d e w') : ∃ z, e = .returned z ∧ DocV w' w'.heap.size d z ∧ Below W0 w w' := by
  obtain ⟨v0, v1, v2, v3, v4, F, he, ho, _, hb⟩ := h
  exact ⟨_, he, ⟨_, _, _, _, _, rfl, ho.doc⟩, hb⟩
theorem bare_docV (w : World) (B : Nat) (k n : Int) (s : ByteArray) : DocV w B (.mk k n s [] []) (.agg #[.int .i64 k, .int .i64 n, .string s, .slice none 0 0, .slice none 0 0]) := by
  refine ⟨_, _, _, _, _, rfl, ?_⟩
  simp only [DocIn]
  exact ⟨trivial, trivial, trivial, ⟨none, 0, rfl, by simp, fun h => absurd h (by simp)⟩, ⟨none, 0, rfl, by simp, fun h => absurd h (by simp)⟩⟩
theorem list_docV {w : World} {B : Nat} {l : List D} {v : Value} (h : KidsV w B l v) : DocV w B (.mk 3 0 ⟨#[]⟩ [] l) (.agg #[.int .i64 3, .int .i64 0, .string ⟨#[]⟩, .slice none 0 0, v]) := by
  refine ⟨_, _, _, _, _, rfl, ?_⟩
  simp only [DocIn]
  exact ⟨trivial, trivial, trivial, ⟨none, 0, rfl, by simp, fun h => absurd h (by simp)⟩, h⟩
set_option maxRecDepth 100000 in
theorem rec_unlike (A A' : Option Addr) (n m c c' : Nat) (h : n ≠ m) (w : World) : Calls Tryz.prog 8 #[.slice A n c, .slice A' m c'] w (fun e w' => ∃ z, e = .returned z ∧ DocV w' w'.heap.size (.mk 0 0 ⟨#[]⟩ [] []) z ∧ Below w.heap.size w w') := by
  have hne : ((n : Int) != (m : Int)) = true := by simp; omega
  have HB := Lib.hid ((Below.refl w.heap.size w).alloc (Nat.le_refl _) (.cells #[.int .i64 0, .int .i64 0, .string ⟨#[]⟩, .slice none 0 0, .slice none 0 0] 27))
  clear h
  go_enter Tryz.func8, Tryz.ntmps8
  go_wp2_with fail
  refine ret_cell5 rfl rfl (Box5.new w (.int .i64 0) (.int .i64 0) (.string ⟨#[]⟩) (.slice none 0 0) (.slice none 0 0)).load rfl ?_
  exact ⟨_, rfl, bare_docV _ _ _ _ _, HB.out⟩
set_option maxRecDepth 100000 in
theorem rrec_unlike (A A' : Option Addr) (n m c c' : Nat) (h : n ≠ m) (w : World) : Calls Tryz.prog 9 #[.slice A n c, .slice A' m c'] w (fun e w' => ∃ z, e = .returned z ∧ DocV w' w'.heap.size (.mk 0 0 ⟨#[]⟩ [] []) z ∧ Below w.heap.size w w') := by
  have hne : ((n : Int) != (m : Int)) = true := by simp; omega
  have HB := Lib.hid ((Below.refl w.heap.size w).alloc (Nat.le_refl _) (.cells #[.int .i64 0, .int .i64 0, .string ⟨#[]⟩, .slice none 0 0, .slice none 0 0] 27))
  clear h
  go_enter Tryz.func9, Tryz.ntmps9
  go_wp2_with fail
  refine ret_cell5 rfl rfl (Box5.new w (.int .i64 0) (.int .i64 0) (.string ⟨#[]⟩) (.slice none 0 0) (.slice none 0 0)).load rfl ?_
  exact ⟨_, rfl, bare_docV _ _ _ _ _, HB.out⟩
theorem insAll_from : ∀ (l : List Pair) (acc : List Pair), ∀ q ∈ insAll acc l, q ∈ acc ∨ q ∈ l
  | [], acc, q, h => .inl h
  | p :: r, acc, q, h => by
    rcases insAll_from r _ q h with h | h
    · have : ∀ (ps : List Pair), q ∈ ins p.1 p.2 ps → q = p ∨ q ∈ ps := by
        intro ps
        induction ps with
        | nil => intro h; simp only [ins, List.mem_singleton] at h; exact .inl h
        | cons a t ih =>
          intro h
          unfold ins at h
          split at h
          · rcases List.mem_cons.1 h with h | h
            · exact .inr (by simp [h])
            · rcases ih h with h | h
              · exact .inl h
              · exact .inr (by simp [h])
          · split at h
            · rcases List.mem_cons.1 h with h | h
              · exact .inl h
              · exact .inr (by simp [h])
            · rcases List.mem_cons.1 h with h | h
              · exact .inl h
              · exact .inr h
      rcases this _ h with h | h
      · exact .inr (by simp [h])
      · exact .inl h
    · exact .inr (by simp [h])
theorem recD_fit {ks : List ByteArray} {l : List D} (hlen : l.length = ks.length) (hn : ks.length ≤ 39) (hf : D.Fits l) : (recD (insAll [] (ks.zip l))).FitL := by
  have h1 := insAll_len (ks.zip l) []
  have h2 : (ks.zip l).length = ks.length := by simp [hlen]
  simp only [List.length_nil] at h1
  simp only [recD, D.FitL, List.length_map]
  refine ⟨by omega, by omega, D.FitsL.of fun d hd => ?_⟩
  obtain ⟨q, hq, rfl⟩ := List.mem_map.1 hd
  rcases insAll_from _ _ q hq with h | h
  · cases h
  · have : q.2 ∈ l := (List.of_mem_zip h).2
    obtain ⟨i, hi, e⟩ := List.mem_iff_getElem.1 this
    rw [← e]; exact (hf.at_ hi).long
/-- Both Recs, of whatever keys and kids. -/
theorem recs_same (ks : List ByteArray) (l : List D) (hn : ks.length ≤ 30) (hf : D.Fits l) : ∃ d : D, d.FitL ∧ (∀ (v u : Value) (w : World) (B : Nat), B ≤ w.heap.size → Strs w B v ks → KidsV w B l u → Calls Tryz.prog 8 #[v, u] w (fun e w' => ∃ z, e = .returned z ∧ DocV w' w'.heap.size d z ∧ Below w.heap.size w w')) ∧
    (∀ (v u : Value) (w : World) (B : Nat), B ≤ w.heap.size → Strs w B v ks → KidsV w B l u → Calls Tryz.prog 9 #[v, u] w (fun e w' => ∃ z, e = .returned z ∧ DocV w' w'.heap.size d z ∧ Below w.heap.size w w')) := by
  by_cases h : l.length = ks.length
  · refine ⟨recD (insAll [] (ks.zip l)), recD_fit h (by omega) hf, fun v u w B hB hs hv => ?_, fun v u w B hB hs hv => rrec_any ks l v u w B h (by omega) hB hs hv⟩
    refine (recAll_any ks l v u w B h (by omega) hf hB hs hv).mono fun e w' hm => ?_
    exact made_docV hm
  · refine ⟨.mk 0 0 ⟨#[]⟩ [] [], by simp [D.FitL, D.FitsL], fun v u w B hB hs hv => ?_, fun v u w B hB hs hv => ?_⟩
    · obtain ⟨A, c, rfl, _⟩ := hs
      obtain ⟨A', c', rfl, _⟩ := hv
      exact rec_unlike _ _ _ _ _ _ (fun e => h e.symm) w
    · obtain ⟨A, c, rfl, _⟩ := hs
      obtain ⟨A', c', rfl, _⟩ := hv
      exact rrec_unlike _ _ _ _ _ _ (fun e => h e.symm) w
set_option maxHeartbeats 16000000 in
set_option maxRecDepth 100000 in
theorem makes_law (ks : List ByteArray) (l : List D) (v u : Value) (n : Int) (s : ByteArray) (w : World) (hg : Glob w) (hs : Strs w w.heap.size v ks) (hv : KidsV w w.heap.size l u) :
    Calls Tryz.prog 3 #[v, u, .int .i64 n, .string s] w fun e w' => e = .returned (.bool true) ∧ Below w.heap.size w w' := by
  have HSK := Lib.hid hs; have HVK := Lib.hid hv; have HG := Lib.hid hg
  obtain ⟨A, c, rfl, hc, hkc⟩ := hs
  obtain ⟨A', c', rfl, hc', hlc⟩ := hv
  have HLC := Lib.hid hlc
  clear hkc hlc hg hc hc'
  obtain ⟨nk, hnk⟩ : ∃ nk, nk = ks.length := ⟨_, rfl⟩
  obtain ⟨nl, hnl⟩ : ∃ nl, nl = l.length := ⟨_, rfl⟩
  have HNK := Lib.hid hnk; have HNL := Lib.hid hnl
  rw [← hnk, ← hnl]
  by_cases c1 : 30 < nk
  · have c1z : decide ((nk : Int) > 30) = true := by simp; omega
    have c1y : (30 : Int) < (nk : Int) := by omega
    clear hnk hnl
    go_enter Tryz.func3, Tryz.ntmps3
    go_wp2_with fail
    refine (small_v _ HG.out).mono ?_
    rintro e w1 ⟨rfl, h⟩
    have HB := Lib.hid h
    clear h
    go_wp2_with fail
    go_ret
    exact ⟨rfl, HB.out⟩
  have c1z : decide ((nk : Int) > 30) = false := by simp; omega
  have c1y : ¬ (30 : Int) < (nk : Int) := by omega
  by_cases c2 : 30 < nl
  · have c2z : decide ((nl : Int) > 30) = true := by simp; omega
    have c2y : (30 : Int) < (nl : Int) := by omega
    clear hnk hnl
    go_enter Tryz.func3, Tryz.ntmps3
    go_wp2_with fail
    refine (small_v _ HG.out).mono ?_
    rintro e w1 ⟨rfl, h⟩
    have HB := Lib.hid h
    clear h
    go_wp2_with fail
    go_ret
    exact ⟨rfl, HB.out⟩
  have c2z : decide ((nl : Int) > 30) = false := by simp; omega
  have c2y : ¬ (30 : Int) < (nl : Int) := by omega
  clear hnk hnl
  go_enter Tryz.func3, Tryz.ntmps3
  go_wp2_with fail
  refine (small_v _ HG.out).mono ?_
  rintro e w1 ⟨rfl, h⟩
  have HB1 := Lib.hid h
  clear h
  go_wp2_with fail
  clear c1z c1y c2z c2y
  go_loopw [10] (fun i wr => ∃ k : Nat, k ≤ nl ∧ i = .int .i64 k ∧ Hid (Below w.heap.size w wr) ∧ Hid (∀ j (h : j < l.length), j < k → fewB l[j] = true)) (fun i _ => nl - (intOf i).toNat)
  case atStart => exact ⟨0, Nat.zero_le _, rfl, HB1.out, fun j h hj => by omega⟩
  case round =>
    obtain ⟨k, hk, rfl, HB, HALL⟩ := hrel
    have hzr := HB.out.size
    by_cases hlt : k < nl
    · have hk0 : (0 : Int) ≤ (k : Int) := by omega
      have hk1 : (k : Int) < (nl : Int) := by omega
      have hkl : k < l.length := by have := HNL.out; omega
      obtain ⟨b', off', rfl, hb', hkx⟩ := HLC.out (by omega)
      obtain ⟨u0, u1, u2, u3, u4, g0, g1, g2, g3, g4, hdk⟩ := KidsIn.at_ hkx k hkl
      rw [Nat.zero_add] at g0 g1 g2 g3 g4
      obtain ⟨X3, x3, X4, x4, rfl, rfl, rfl, rfl, rfl⟩ := hdk.forms
      have kc : ∀ p : Addr, p.block < w.heap.size → wr.cell? p = w.cell? p := fun p hp => HB.out.cell hp
      rw [← kc _ (by show b' < _; omega)] at g0 g1 g2 g3 g4
      have HDK := Lib.hid (show DocV wr w.heap.size l[k] _ from ⟨_, _, _, _, _, rfl, hdk.keep (Nat.le_refl _) kc⟩)
      obtain ⟨fb, hfb⟩ : ∃ fb, fb = fewB l[k] := ⟨_, rfl⟩
      have HFB := Lib.hid hfb
      clear hkx hdk kc hfb
      go_wp2_with fail
      refine (few_v hzr HDK.out).mono ?_
      rintro e w2 ⟨rfl, h⟩
      rw [← HFB.out]
      have HB2 : Hid (Below w.heap.size w w2) := HB.out.trans (h.mono hzr)
      clear h g0 g1 g2 g3 g4
      cases fb with
      | false =>
        go_wp2_with fail
        go_ret
        exact ⟨rfl, HB2.out⟩
      | true =>
        go_wp2_with fail
        go_roundw
        case rel => exact ⟨k + 1, hlt, by go_num, HB2.out, fun j h hj => by
          rcases Nat.lt_or_ge j k with h1 | h1
          · exact HALL.out j h h1
          · obtain rfl : j = k := by omega
            exact HFB.out.symm⟩
        case measure => simp [intOf]; omega
    · have hk1 : ¬ (k : Int) < (nl : Int) := by omega
      have hfits : D.Fits l := by
        have : ∀ (m : List D), (∀ d ∈ m, fewB d = true) → D.Fits m := by
          intro m
          induction m with
          | nil => intro _; simp [D.Fits]
          | cons d r ih =>
            intro h
            simp only [D.Fits]
            have hd := h d (by simp)
            simp only [fewB, decide_eq_true_eq] at hd
            exact ⟨hd.fit.fit, ih fun x hx => h x (by simp [hx])⟩
        refine this l fun d hd => ?_
        obtain ⟨j, hj, rfl⟩ := List.mem_iff_getElem.1 hd
        exact HALL.out j hj (by have := HNL.out; omega)
      have HFITS := Lib.hid hfits
      have hnk := HNK.out; have hnl := HNL.out
      obtain ⟨dr, hdf, hr1, hr2⟩ := recs_same ks l (by omega) hfits
      have HDF := Lib.hid hdf; have HR1 := Lib.hid hr1; have HR2 := Lib.hid hr2
      have kv : ∀ W, Below w.heap.size w W → KidsV W w.heap.size l (.slice A' l.length c') := fun W hW => KidsV.keep (Nat.le_refl _) (fun p hp => hW.cell hp) HVK.out
      have ks' : ∀ W, Below w.heap.size w W → Strs W w.heap.size (.slice A ks.length c) ks := fun W hW => Strs.keep (fun p hp => hW.cell hp) HSK.out
      rw [← hnl] at kv
      rw [← hnk] at ks'
      have KV := Lib.hid kv; have KS := Lib.hid ks'
      have hll : l.length ≤ 10000 := by omega
      have HLL := Lib.hid hll
      clear hfits hdf hr1 hr2 kv ks' hnk hnl hll
      go_wp2_with fail
      refine (list_v l _ _ w.heap.size HLL.out HFITS.out hzr (KV.out _ HB.out)).mono ?_
      rintro e w2 ⟨v0, v1, v2, v3, v4, F, rfl, ho, _, hb2⟩
      have hd2 := ho.doc
      obtain ⟨L3, l3, L4, l4, rfl, rfl, rfl, rfl, rfl⟩ := hd2.forms
      have HB2 : Hid (Below w.heap.size w w2) := HB.out.trans (hb2.mono hzr)
      have HD2 := Lib.hid hd2
      clear ho hd2 hb2
      obtain ⟨dl, hdl⟩ : ∃ dl, dl = D.mk 3 0 ⟨#[]⟩ [] l := ⟨_, rfl⟩
      rw [← hdl] at HD2 ⊢
      have HDL := Lib.hid hdl
      have HFDL : Hid dl.FitL := Lib.hid (by rw [hdl]; simp only [D.FitL]; exact ⟨by simp, HLL.out, HFITS.out.long⟩)
      clear hdl
      obtain ⟨w3, hw3⟩ : ∃ w3, w3 = w2.alloc (.cells #[.int .i64 dl.kind, .int .i64 dl.num, .string dl.str, .slice L3 dl.keys.length l3, .slice L4 dl.kids.length l4] 27) := ⟨_, rfl⟩
      have HBX3 : Hid (Box5 w3 w2.heap.size (.int .i64 dl.kind) (.int .i64 dl.num) (.string dl.str) (.slice L3 dl.keys.length l3) (.slice L4 dl.kids.length l4)) := by rw [hw3]; exact Box5.new w2 _ _ _ _ _
      have HB3 : Hid (Below w.heap.size w w3) := by rw [hw3]; exact HB2.out.alloc HB2.out.size _
      have HD3 : Hid (DocV w3 w2.heap.size dl (.agg #[.int .i64 dl.kind, .int .i64 dl.num, .string dl.str, .slice L3 dl.keys.length l3, .slice L4 dl.kids.length l4])) := ⟨_, _, _, _, _, rfl, HD2.out.keep (Nat.le_refl _) fun p hp => by rw [hw3]; exact World.cell?_alloc_lt w2 _ p hp⟩
      have hz3 : w3.heap.size = w2.heap.size + 1 := by rw [hw3]; simp
      have HW3 := Lib.hid hw3
      clear hw3 HD2
      go_wp2_with fail
      rw [← HW3.out]
      refine (HR1.out _ _ w3 w.heap.size HB3.out.size (KS.out _ HB3.out) (KV.out _ HB3.out)).mono ?_
      rintro e w4 ⟨z1, rfl, hz1, h4⟩
      have HZ1 := Lib.hid hz1; have H34 := Lib.hid h4
      have HB4 : Hid (Below w.heap.size w w4) := HB3.out.trans (h4.mono HB3.out.size)
      clear hz1 h4
      go_wp2_with fail
      refine (HR2.out _ _ w4 w.heap.size HB4.out.size (KS.out _ HB4.out) (KV.out _ HB4.out)).mono ?_
      rintro e w5 ⟨z2, rfl, hz2, h5⟩
      have HZ2 := Lib.hid hz2
      have HZ1' : Hid (DocV w5 w5.heap.size dr z1) := HZ1.out.keep h5.size fun p hp => h5.cell hp
      have HB5 : Hid (Below w.heap.size w w5) := HB4.out.trans (h5.mono HB4.out.size)
      have H35 : Hid (Below w3.heap.size w3 w5) := H34.out.trans (h5.mono H34.out.size)
      clear hz2 h5
      go_wp2_with fail
      refine (rsameW_v (B := w5.heap.size) HDF.out HDF.out (Nat.le_refl _) HZ1'.out HZ2.out).mono ?_
      rintro e w6 ⟨rfl, h6⟩
      rw [same_self]
      have HB6 : Hid (Below w.heap.size w w6) := HB5.out.trans (h6.mono HB5.out.size)
      have H36 : Hid (Below w3.heap.size w3 w6) := H35.out.trans (h6.mono H35.out.size)
      clear h6
      have hbx6 := HBX3.out.same (H36.out.block _ (by omega))
      obtain ⟨q0, q1, q2, q3, q4⟩ := hbx6.cells
      have hz6 := H36.out.size
      go_wp2_with fail
      clear q0 q1 q2 q3 q4 hbx6
      refine (rsameW_v (d' := dl) (B := w6.heap.size) HFDL.out HFDL.out (Nat.le_refl _) (HD3.out.keep (by omega) fun p hp => H36.out.cell (by omega)) (by rw [HDL.out]; exact list_docV ((KV.out _ HB6.out).keep HB6.out.size fun _ _ => rfl))).mono ?_
      rintro e w7 ⟨rfl, h7⟩
      rw [same_self]
      have HBw7 : Hid (Below w.heap.size w w7) := HB6.out.trans (h7.mono HB6.out.size)
      clear h7
      go_wp2_with fail
      refine (int_v n w7).mono ?_
      rintro e w8 hm
      obtain ⟨zw8, rfl, hz, h⟩ := made_docV hm
      have HZ := Lib.hid hz
      have HBw8 : Hid (Below w.heap.size w w8) := HBw7.out.trans (h.mono HBw7.out.size)
      clear hm hz h
      go_wp2_with fail
      refine (rsameW_v (d' := .mk 4 n ⟨#[]⟩ [] []) (B := w8.heap.size) (by simp [D.FitL, D.FitsL]) (by simp [D.FitL, D.FitsL]) (Nat.le_refl _) HZ.out (bare_docV _ _ _ _ _)).mono ?_
      rintro e w9 ⟨rfl, h⟩
      rw [same_self]
      have HBw9 : Hid (Below w.heap.size w w9) := HBw8.out.trans (h.mono HBw8.out.size)
      clear h HZ
      go_wp2_with fail
      refine (bytes_v s w9).mono ?_
      rintro e w10 hm
      obtain ⟨zw10, rfl, hz, h⟩ := made_docV hm
      have HZ := Lib.hid hz
      have HBw10 : Hid (Below w.heap.size w w10) := HBw9.out.trans (h.mono HBw9.out.size)
      clear hm hz h
      go_wp2_with fail
      refine (rsameW_v (d' := .mk 6 0 s [] []) (B := w10.heap.size) (by simp [D.FitL, D.FitsL]) (by simp [D.FitL, D.FitsL]) (Nat.le_refl _) HZ.out (bare_docV _ _ _ _ _)).mono ?_
      rintro e w11 ⟨rfl, h⟩
      rw [same_self]
      have HBw11 : Hid (Below w.heap.size w w11) := HBw10.out.trans (h.mono HBw10.out.size)
      clear h HZ
      go_wp2_with fail
      have hmin : min (max n 0) 1 = if decide (0 < n) = true then 1 else 0 := by
        by_cases hp : 0 < n
        · rw [if_pos (by simpa using hp)]; omega
        · rw [if_neg (by simpa using hp)]; omega
      have HMIN := Lib.hid hmin
      clear hmin
      refine (bool_v (decide (0 < n)) w11).mono ?_
      rintro e w12 hm
      obtain ⟨z12, rfl, hz, h⟩ := made_docV hm
      have HZ := Lib.hid hz
      have HBw12 : Hid (Below w.heap.size w w12) := HBw11.out.trans (h.mono HBw11.out.size)
      clear hm hz h
      go_wp2_with fail
      rw [HMIN.out]
      refine (rsameW_v (d' := .mk 5 (if decide (0 < n) = true then 1 else 0) ⟨#[]⟩ [] []) (B := w12.heap.size) (by simp [D.FitL, D.FitsL]) (by simp [D.FitL, D.FitsL]) (Nat.le_refl _) HZ.out (bare_docV _ _ _ _ _)).mono ?_
      rintro e w13 ⟨rfl, h⟩
      rw [same_self]
      have HBw13 : Hid (Below w.heap.size w w13) := HBw12.out.trans (h.mono HBw12.out.size)
      clear h HZ
      go_wp2_with fail
      all_goals go_ret
      all_goals exact ⟨rfl, HBw13.out⟩
end Go.Proofs.YtdcempejdggkpaaGreatDoor
