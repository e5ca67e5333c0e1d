/-
  What doc.Rec makes, given what doc.rising tells.
-/
import Derived.Test.YtdgnengfcabgjaaB37
import Derived.Test.YtdgnengfcabgjaaB11
import Derived.Deep.RegionLaw
import Derived.BigRegion
namespace Go.Proofs.Ytdgnengfcabgjaa
open Go.RowKit

/-- Does the round at i leave its key out (a later one of the same key holds)? -/
def recSkip (ks : List ByteArray) (o : List Nat) (i : Nat) : Bool := decide (i + 1 < o.length) && ((ks.getD (o.getD (i + 1) 0) ⟨#[]⟩).toList == (ks.getD (o.getD i 0) ⟨#[]⟩).toList)
/-- The places that the first i rounds keep. -/
def recKept (ks : List ByteArray) (o : List Nat) : Nat → List Nat
  | 0 => []
  | i + 1 => if recSkip ks o i then recKept ks o i else recKept ks o i ++ [o.getD i 0]
theorem recKept_len (ks : List ByteArray) (o : List Nat) : ∀ i, (recKept ks o i).length ≤ i
  | 0 => by simp [recKept]
  | i + 1 => by
    have := recKept_len ks o i
    unfold recKept
    split
    · omega
    · simp; omega
def recKeys (ks : List ByteArray) (p : List Nat) : List ByteArray := p.map fun i => ks.getD i ⟨#[]⟩
def recKids (l : List D) (p : List Nat) : List D := p.map fun i => l.getD i D.zero
set_option maxHeartbeats 8000000 in
set_option maxRecDepth 100000 in
theorem rec_of (ks : List ByteArray) (l : List D) (o : List Nat) (A : Option Addr) (c : Nat) (v : Value) (w : World) (B : Nat) (hlen : l.length = ks.length) (hn : ks.length ≤ 10000) (hf : D.Fits l) (hB : B ≤ w.heap.size) (hs : Strs w B (.slice A ks.length c) ks) (hv : KidsV w B l v)
    (ho : o.length = ks.length) (hol : ∀ i < o.length, o.getD i 0 < ks.length)
    (hris : ∀ w1 : World, Below w.heap.size w w1 → Calls Try.prog 55 #[.slice A ks.length c] w1 (fun e w' => ∃ g, e = .returned (.slice (some ⟨g, 0, none⟩) ks.length ks.length) ∧ w1.heap.size ≤ g ∧ g < w'.heap.size ∧ (∀ i < ks.length, w'.cell? ⟨g, i, none⟩ = some (.int .i64 (o.getD i 0 : Nat))) ∧ Below w1.heap.size w1 w')) :
    Calls Try.prog 28 #[.slice A ks.length c, v] w (MadeDoc w.heap.size w (.mk 1 0 ⟨#[]⟩ (recKeys ks (recKept ks o ks.length)) (recKids l (recKept ks o ks.length)))) := by
  obtain ⟨A', kc, rfl, hkc, hki⟩ := hv
  have HS := Lib.hid hs; have HK := Lib.hid hki; have HOL := Lib.hid hol; have HRIS := Lib.hid hris; have HF := Lib.hid hf
  clear hs hki hol hris hf hkc
  have ecmp : (l.length : Int) = (ks.length : Int) := by omega
  go_enter Try.func28, Try.ntmps28
  go_wp2_with fail
  refine (HRIS.out _ (((Below.refl _ _).alloc (Nat.le_refl _) _).alloc (by simp) _)).mono ?_
  rintro e w3 ⟨g, rfl, hg, hg3, hord, hb3⟩
  simp only [World.size_alloc] at hg hb3
  have hz3 := hb3.size
  simp only [World.size_alloc] at hz3
  have hx3 : Box5 w3 (w.heap.size + 1) (.int .i64 1) (.int .i64 0) (.string ⟨#[]⟩) (.slice none 0 0) (.slice none 0 0) := (Box5.new' (World.size_alloc _ _) _ _ _ _ _).same (hb3.block _ (by omega))
  have hr3 : Box5 w3 w.heap.size (.int .i64 0) (.int .i64 0) (.string ⟨#[]⟩) (.slice none 0 0) (.slice none 0 0) := ((Box5.new w _ _ _ _ _).alloc _).same (hb3.block _ (by omega))
  have hw3 : Below w.heap.size w w3 := (((Below.refl _ _).alloc (Nat.le_refl _) _).alloc (by simp) _).trans (hb3.mono (by omega))
  have HX3 := Lib.hid hx3; have HR3 := Lib.hid hr3; have HW3 := Lib.hid hw3; have HORD := Lib.hid hord
  clear hx3 hr3 hw3 hb3 hord
  go_wp2_with fail
  go_loopw [20] (fun i wr => ∃ (k : Nat) (v3 v4 : Value) (cs : List Value) (F : List Nat), k ≤ ks.length ∧ i = .int .i64 k ∧ RecSt w3 wr (w.heap.size + 1) (recKeys ks (recKept ks o k)) (recKids l (recKept ks o k)) v3 v4 cs F) (fun i _ => ks.length - (intOf i).toNat)
  case atStart => exact ⟨0, _, _, [], [], Nat.zero_le _, rfl, HX3.out, World.ownsRow_nil _ _ _ _, World.ownsRow_nil _ _ _ _, by simp [OwnKids, recKids, recKept], by simp [blk, Value.ownBlock], Turned.of_below (Below.refl _ _) _ _⟩
  case round =>
    obtain ⟨k, v3, v4, cs, F, hk, rfl, hst⟩ := hrel
    have HST := Lib.hid hst; clear hst
    by_cases hlt : k < ks.length
    · have hik0 : (0 : Int) ≤ (k : Int) := by omega
      have hik : (k : Int) < (ks.length : Int) := by omega
      have oc : ∀ i, i < ks.length → wr.cell? ⟨g, i, none⟩ = some (.int .i64 (o.getD i 0 : Nat)) := fun i hi => by
        rw [← HORD.out i hi]
        exact World.cell?_of_block (a := ⟨g, i, none⟩) (HST.out.t.block g hg3 (by simp) (by omega))
      have oi := oc k hlt
      have OC := Lib.hid oc; clear oc
      have hKn : o.getD k 0 < ks.length := HOL.out k (by omega)
      have hstr : ∃ b off, A = some ⟨b, off, none⟩ ∧ b < B ∧ ∀ i, i < ks.length → wr.cell? ⟨b, off + i, none⟩ = some (.string (ks.getD i ⟨#[]⟩)) := by
        obtain ⟨A1, c1, e, _, h⟩ := HS.out
        injection e with e _ e2
        subst e
        obtain ⟨b, off, rfl, hb, hc⟩ := h (by omega)
        refine ⟨b, off, rfl, hb, fun i hi => ?_⟩
        have hkeep : wr.cell? ⟨b, off + i, none⟩ = w.cell? ⟨b, off + i, none⟩ := World.cell?_of_block (a := ⟨b, off + i, none⟩) ((HST.out.t.block b (by omega) (by simp) (by omega)).trans (HW3.out.block b (by omega)))
        rw [hkeep, hc i hi]
        simp [hi]
      obtain ⟨b, off, rfl, hb, hsc⟩ := hstr
      have sK := hsc (o.getD k 0) hKn
      have ek : recSkip ks o k = (decide (k + 1 < ks.length) && ((ks.getD (o.getD (k + 1) 0) ⟨#[]⟩).toList == (ks.getD (o.getD k 0) ⟨#[]⟩).toList)) := by unfold recSkip; rw [ho]
      have EK := Lib.hid ek; clear ek
      have HSC := Lib.hid hsc; clear hsc
      have hK0 : (0 : Int) ≤ (o.getD k 0 : Nat) := by omega
      have hK1 : ((o.getD k 0 : Nat) : Int) < (ks.length : Int) := by omega
      by_cases hg2 : k + 1 < ks.length
      · have hd : (k : Int) + 1 < (ks.length : Int) := by omega
        have hd0 : (0 : Int) ≤ (k : Int) + 1 := by omega
        have oj := OC.out (k + 1) hg2
        have hLn : o.getD (k + 1) 0 < ks.length := HOL.out (k + 1) (by omega)
        have sL := HSC.out (o.getD (k + 1) 0) hLn
        have hL0 : (0 : Int) ≤ (o.getD (k + 1) 0 : Nat) := by omega
        have hL1 : ((o.getD (k + 1) 0 : Nat) : Int) < (ks.length : Int) := by omega
        have hkep : recSkip ks o k = false → recKept ks o (k + 1) = recKept ks o k ++ [o.getD k 0] := fun h => by
          show (if recSkip ks o k = true then _ else _) = _
          rw [h]; rfl
        have HKEP := Lib.hid hkep; clear hkep
        generalize o.getD k 0 = K at *
        generalize o.getD (k + 1) 0 = L at *
        go_wp2_with fail
        go_quiet (fail)
        go_wp2_with fail
        · rename_i heq
          have e : recKept ks o (k + 1) = recKept ks o k := by
            show (if recSkip ks o k = true then _ else _) = _
            rw [if_pos]
            rw [EK.out, decide_eq_true hg2, Bool.true_and, show ks.getD L ⟨#[]⟩ = ks[L] from by simp [hLn], show ks.getD K ⟨#[]⟩ = ks[K] from by simp [hKn]]
            exact heq
          refine ⟨⟨k + 1, v3, v4, cs, F, by omega, by go_num, by rw [e]; exact HST.out.drewN nq⟩, ?_⟩
          simp [intOf]; omega
        · have hne : (ks[L].toList == ks[K].toList) = false := by assumption
          have eS : recSkip ks o k = false := by
            rw [EK.out, decide_eq_true hg2, Bool.true_and, show ks.getD L ⟨#[]⟩ = ks[L] from by simp [hLn], show ks.getD K ⟨#[]⟩ = ks[K] from by simp [hKn]]
            exact hne
          have e0 := HKEP.out eS
          have HKE := Lib.hid e0; clear e0 eS
          obtain ⟨w4, hw4⟩ : ∃ w4, w4 = wr.drewN nq := ⟨_, rfl⟩
          rw [← hw4]
          have hst4 : RecSt w3 w4 (w.heap.size + 1) (recKeys ks (recKept ks o k)) (recKids l (recKept ks o k)) v3 v4 cs F := by rw [hw4]; exact HST.out.drewN nq
          have HST4 := Lib.hid hst4
          obtain ⟨q0, q1, q2, q3, q4⟩ := hst4.bx.cells
          have q5 := hst4.bx.frozen
          obtain ⟨S, hS⟩ : ∃ S, S = ks.getD K ⟨#[]⟩ := ⟨_, rfl⟩
          rw [← hS] at sK
          have sK4 : w4.cell? ⟨b, off + K, none⟩ = some (.string S) := by rw [hw4]; exact sK
          have hz4 : w3.heap.size ≤ w4.heap.size := hst4.t.size
          have hbl4 : w.heap.size + 1 < w4.heap.size := by omega
          have hpl : (recKeys ks (recKept ks o k)).length ≤ k := by have := recKept_len ks o k; simpa [recKeys] using this
          have hpd : (recKids l (recKept ks o k)).length ≤ k := by have := recKept_len ks o k; simpa [recKids] using this
          have ag : v3.ownBlock ≠ some (w.heap.size + 1) := fun h => by have := (HST4.out.o3.lt _ h).1; omega
          have HSS := Lib.hid hS
          clear hw4 hst4 sK oi hS
          obtain ⟨i0, hi, hz0, hz1, hz2⟩ := info_parts infoS
          have HI := Lib.hid hi; have HZ0 := Lib.hid hz0; have HZ1 := Lib.hid hz1; have HZ2 := Lib.hid hz2
          clear hi hz0 hz1 hz2
          go_region_law (refine step_append_lies _ (by rfl) _ _ _ (by rfl) w3.heap.size 9 i0 (.string ByteArray.empty) 1 16 Try.underlying22 HI.out HZ0.out HZ1.out HZ2.out (by rfl) (by omega) v3 (recKeys ks (recKept ks o k)).length _ (by rfl) ((HST4.out.o3.alloc _).drew) ⟨w4.heap.size, 0, none⟩ 1 1 [.string S] (by rfl) (by rfl) (World.news_of_block (cs := #[.string S]) (t := 9) (fr := (0, 0)) (heap_alloc_new w4 _)) (by simp [Value.oneCell']) (by omega) (by unfold maxLen; omega) (by omega) (by simp; omega) (w4.heap.size + 1) (by simp) ?_; intro g5 cap5 w5 hown5 hgrow5 hat5 hlt5; have mf5 : w5.frozen? ⟨w.heap.size + 1, 3, none⟩ = false := ((hgrow5.frozen_far ⟨w.heap.size + 1, 3, none⟩ (by simp; omega) (Ne.symm ag)).trans ((frozen_alloc_drew hbl4 _ 3).trans (q5 3))); have m45 := (hgrow5.cell_far ⟨w.heap.size + 1, 3, none⟩ (by simp; omega) (Ne.symm ag)).trans ((cell_alloc_drew hbl4 _ 3).trans q3))
          all_goals go_wp2_with fail
          all_goals (
            have hst6 := HST4.out.key (by omega) hown5 _ hgrow5 hat5
            generalize w5.setCell ⟨w.heap.size + 1, 3, none⟩ (.slice (some ⟨g5, 0, none⟩) ((recKeys ks (recKept ks o k)).length + 1) cap5) = w6 at hst6 ⊢
            generalize Value.slice (some ⟨g5, 0, none⟩) ((recKeys ks (recKept ks o k)).length + 1) cap5 = v3' at hst6 ⊢
            have HST6 := Lib.hid hst6
            clear hown5 hgrow5 hat5 hlt5 mf5 m45 q0 q1 q2 q3 q4 q5 sK4
            have hK2 : K < l.length := by omega
            obtain ⟨b', off', rfl, hb', hki⟩ := HK.out (by omega)
            have hcells := KidsIn.at_ hki K hK2
            rw [Nat.zero_add] at hcells
            obtain ⟨u0, u1, u2, u3, u4, g0, g1, g2, g3, g4, hdk⟩ := hcells
            have hfx := HF.out.at_ hK2
            obtain ⟨x, hx⟩ : ∃ x, x = l[K]'hK2 := ⟨_, rfl⟩
            rw [← hx] at hdk hfx
            have HXX := Lib.hid hx
            have bc : ∀ p : Addr, p.block < B → w6.cell? p = w.cell? p := fun p hp => World.cell?_of_block (a := p) ((hst6.t.block p.block (by omega) (by simp) (by omega)).trans (HW3.out.block p.block (by omega)))
            rw [← bc ⟨b', _, none⟩ hb'] at g0 g1 g2 g3 g4
            have hd6 := hdk.keep (Nat.le_refl _) bc
            obtain ⟨A5, c5, A6, c6, rfl, rfl, rfl, rfl, rfl⟩ := hdk.forms
            have HD6 := Lib.hid hd6; have HFX := Lib.hid hfx
            obtain ⟨q0, q1, q2, q3, q4⟩ := hst6.bx.cells
            have q5 := hst6.bx.frozen
            have hz6 : w3.heap.size ≤ w6.heap.size := hst6.t.size
            have ag4 : v4.ownBlock ≠ some (w.heap.size + 1) := fun h => by have := (HST6.out.o4.lt _ h).1; omega
            have hK0' : (K : Int) < (l.length : Int) := by omega
            obtain ⟨j0, hj, hy0, hy1, hy2⟩ := info_parts infoD
            have HJ := Lib.hid hj; have HJ0 := Lib.hid hy0; have HJ1 := Lib.hid hy1; have HJ2 := Lib.hid hy2
            clear hj hy0 hy1 hy2 hst6 hdk hfx hki hx bc hd6)
          all_goals go_region_law (first
            | (refine step_append_lies _ (by rfl) _ _ _ (by rfl) w3.heap.size 25 j0 (.agg #[.int .i64 0, .int .i64 0, .string ByteArray.empty, .slice none 0 0, .slice none 0 0]) 5 80 Try.underlying23 HJ.out HJ0.out HJ1.out HJ2.out (by rfl) (by omega) v4 (recKids l (recKept ks o k)).length cs (by rfl) (HO47.out.alloc _) ⟨w7.heap.size, 0, none⟩ 1 1
                 [.int .i64 x.kind, .int .i64 x.num, .string x.str, .slice A7 x.keys.length c7, .slice A8 x.kids.length c8] (by rfl) (by rfl) (World.news_of_block (cs := #[.int .i64 x.kind, .int .i64 x.num, .string x.str, .slice A7 x.keys.length c7, .slice A8 x.kids.length c8]) (t := 25) (fr := (0, 0)) (heap_alloc_new w7 _)) (by simp [Value.oneCell']) (by omega) (by unfold maxLen; omega) (by omega) (by simp; omega) (w7.heap.size + 1) (by simp) ?_
               intro g8 cap8 w8 hown8 hgrow8 hat8 hlt8
               have mf8 : w8.frozen? ⟨w.heap.size + 1, 4, none⟩ = false := ((hgrow8.frozen_far ⟨w.heap.size + 1, 4, none⟩ (by simp; omega) (Ne.symm ag4)).trans ((frozen_alloc_drew hbl7 _ 4).trans (mf7 4)))
               have m48 := (hgrow8.cell_far ⟨w.heap.size + 1, 4, none⟩ (by simp; omega) (Ne.symm ag4)).trans ((cell_alloc_drew hbl7 _ 4).trans m47))
            | (go_wp2_with fail
               go_at_call 56
               refine (copy_v (d := x) (B := B) (w := w6.drew) HFX.out (by show B ≤ w6.heap.size; omega) ⟨_, _, _, _, _, rfl, DocIn.keep (w := w6) (w' := w6.drew) (Nat.le_refl _) (fun _ _ => rfl) HD6.out⟩).mono ?_
               rintro e w7 ⟨y0, y1, y2, y3, y4, G, rfl, hG, hGn, hb7⟩
               obtain ⟨A7, c7, A8, c8, rfl, rfl, rfl, rfl, rfl⟩ := hG.doc.forms
               have hb67 : Below w6.heap.size w6 w7 := (Below.refl _ _).drew.trans hb7
               have HG7 := Lib.hid hG; have HGN := Lib.hid hGn
               have hz7 : w6.heap.size ≤ w7.heap.size := hb67.size
               have HO47 : Hid (w7.ownsRow w3.heap.size 25 5 v4 (recKids l (recKept ks o k)).length cs) := ownsRow_same HST6.out.o4 fun j hj => hb67.block j (HST6.out.o4.lt j (blk_mem.1 hj)).2
               have hbl7 : w.heap.size + 1 < w7.heap.size := by omega
               have m47 : w7.cell? ⟨w.heap.size + 1, 4, none⟩ = some v4 := (hb67.cell (p := ⟨w.heap.size + 1, 4, none⟩) (by show w.heap.size + 1 < w6.heap.size; omega)).trans q4
               have mf7 : ∀ i, w7.frozen? ⟨w.heap.size + 1, i, none⟩ = false := fun i => (World.frozen?_of_block (a := ⟨w.heap.size + 1, i, none⟩) (hb67.block (w.heap.size + 1) (by omega))).trans (q5 i)
               have HB67 := Lib.hid hb67
               clear hG hGn hb7 hb67))
          all_goals (go_wp2_with fail)
          all_goals (
            have e : recKept ks o (k + 1) = recKept ks o k ++ [K] := HKE.out
            have e1 : recKeys ks (recKept ks o k ++ [K]) = recKeys ks (recKept ks o k) ++ [S] := by simp [recKeys, HSS.out]
            have e2 : recKids l (recKept ks o k ++ [K]) = recKids l (recKept ks o k) ++ [x] := by simp [recKids, HXX.out, hK2]
            refine ⟨⟨k + 1, _, _, _, _, by omega, by go_num, by rw [e, e1, e2]; exact HST6.out.kid (by omega) HB67.out HG7.out HGN.out hown8 _ hgrow8 hat8⟩, ?_⟩
            simp [intOf]; omega)
      · have hd : decide ((k : Int) + 1 < (ks.length : Int)) = false := by simp; omega
        have eS : recSkip ks o k = false := by rw [EK.out]; simp [hg2]
        have e0 : recKept ks o (k + 1) = recKept ks o k ++ [o.getD k 0] := by
          show (if recSkip ks o k = true then _ else _) = _
          rw [eS]; rfl
        have HKE := Lib.hid e0; clear e0
        generalize o.getD k 0 = K at *
        go_wp2_with fail
        go_quiet (fail)
        go_wp2_with fail
        obtain ⟨w4, hw4⟩ : ∃ w4, w4 = wr.drewN nq := ⟨_, rfl⟩
        rw [← hw4]
        have hst4 : RecSt w3 w4 (w.heap.size + 1) (recKeys ks (recKept ks o k)) (recKids l (recKept ks o k)) v3 v4 cs F := by rw [hw4]; exact HST.out.drewN nq
        have HST4 := Lib.hid hst4
        obtain ⟨q0, q1, q2, q3, q4⟩ := hst4.bx.cells
        have q5 := hst4.bx.frozen
        obtain ⟨S, hS⟩ : ∃ S, S = ks.getD K ⟨#[]⟩ := ⟨_, rfl⟩
        rw [← hS] at sK
        have sK4 : w4.cell? ⟨b, off + K, none⟩ = some (.string S) := by rw [hw4]; exact sK
        have hz4 : w3.heap.size ≤ w4.heap.size := hst4.t.size
        have hbl4 : w.heap.size + 1 < w4.heap.size := by omega
        have hpl : (recKeys ks (recKept ks o k)).length ≤ k := by have := recKept_len ks o k; simpa [recKeys] using this
        have hpd : (recKids l (recKept ks o k)).length ≤ k := by have := recKept_len ks o k; simpa [recKids] using this
        have ag : v3.ownBlock ≠ some (w.heap.size + 1) := fun h => by have := (HST4.out.o3.lt _ h).1; omega
        have HSS := Lib.hid hS
        clear hw4 hst4 sK oi hS
        obtain ⟨i0, hi, hz0, hz1, hz2⟩ := info_parts infoS
        have HI := Lib.hid hi; have HZ0 := Lib.hid hz0; have HZ1 := Lib.hid hz1; have HZ2 := Lib.hid hz2
        clear hi hz0 hz1 hz2
        go_region_law (refine step_append_lies _ (by rfl) _ _ _ (by rfl) w3.heap.size 9 i0 (.string ByteArray.empty) 1 16 Try.underlying22 HI.out HZ0.out HZ1.out HZ2.out (by rfl) (by omega) v3 (recKeys ks (recKept ks o k)).length _ (by rfl) ((HST4.out.o3.alloc _).drew) ⟨w4.heap.size, 0, none⟩ 1 1 [.string S] (by rfl) (by rfl) (World.news_of_block (cs := #[.string S]) (t := 9) (fr := (0, 0)) (heap_alloc_new w4 _)) (by simp [Value.oneCell']) (by omega) (by unfold maxLen; omega) (by omega) (by simp; omega) (w4.heap.size + 1) (by simp) ?_; intro g5 cap5 w5 hown5 hgrow5 hat5 hlt5; have mf5 : w5.frozen? ⟨w.heap.size + 1, 3, none⟩ = false := ((hgrow5.frozen_far ⟨w.heap.size + 1, 3, none⟩ (by simp; omega) (Ne.symm ag)).trans ((frozen_alloc_drew hbl4 _ 3).trans (q5 3))); have m45 := (hgrow5.cell_far ⟨w.heap.size + 1, 3, none⟩ (by simp; omega) (Ne.symm ag)).trans ((cell_alloc_drew hbl4 _ 3).trans q3))
        all_goals go_wp2_with fail
        all_goals (
          have hst6 := HST4.out.key (by omega) hown5 _ hgrow5 hat5
          generalize w5.setCell ⟨w.heap.size + 1, 3, none⟩ (.slice (some ⟨g5, 0, none⟩) ((recKeys ks (recKept ks o k)).length + 1) cap5) = w6 at hst6 ⊢
          generalize Value.slice (some ⟨g5, 0, none⟩) ((recKeys ks (recKept ks o k)).length + 1) cap5 = v3' at hst6 ⊢
          have HST6 := Lib.hid hst6
          clear hown5 hgrow5 hat5 hlt5 mf5 m45 q0 q1 q2 q3 q4 q5 sK4
          have hK2 : K < l.length := by omega
          obtain ⟨b', off', rfl, hb', hki⟩ := HK.out (by omega)
          have hcells := KidsIn.at_ hki K hK2
          rw [Nat.zero_add] at hcells
          obtain ⟨u0, u1, u2, u3, u4, g0, g1, g2, g3, g4, hdk⟩ := hcells
          have hfx := HF.out.at_ hK2
          obtain ⟨x, hx⟩ : ∃ x, x = l[K]'hK2 := ⟨_, rfl⟩
          rw [← hx] at hdk hfx
          have HXX := Lib.hid hx
          have bc : ∀ p : Addr, p.block < B → w6.cell? p = w.cell? p := fun p hp => World.cell?_of_block (a := p) ((hst6.t.block p.block (by omega) (by simp) (by omega)).trans (HW3.out.block p.block (by omega)))
          rw [← bc ⟨b', _, none⟩ hb'] at g0 g1 g2 g3 g4
          have hd6 := hdk.keep (Nat.le_refl _) bc
          obtain ⟨A5, c5, A6, c6, rfl, rfl, rfl, rfl, rfl⟩ := hdk.forms
          have HD6 := Lib.hid hd6; have HFX := Lib.hid hfx
          obtain ⟨q0, q1, q2, q3, q4⟩ := hst6.bx.cells
          have q5 := hst6.bx.frozen
          have hz6 : w3.heap.size ≤ w6.heap.size := hst6.t.size
          have ag4 : v4.ownBlock ≠ some (w.heap.size + 1) := fun h => by have := (HST6.out.o4.lt _ h).1; omega
          have hK0' : (K : Int) < (l.length : Int) := by omega
          obtain ⟨j0, hj, hy0, hy1, hy2⟩ := info_parts infoD
          have HJ := Lib.hid hj; have HJ0 := Lib.hid hy0; have HJ1 := Lib.hid hy1; have HJ2 := Lib.hid hy2
          clear hj hy0 hy1 hy2 hst6 hdk hfx hki hx bc hd6)
        all_goals go_region_law (first
          | (refine step_append_lies _ (by rfl) _ _ _ (by rfl) w3.heap.size 25 j0 (.agg #[.int .i64 0, .int .i64 0, .string ByteArray.empty, .slice none 0 0, .slice none 0 0]) 5 80 Try.underlying23 HJ.out HJ0.out HJ1.out HJ2.out (by rfl) (by omega) v4 (recKids l (recKept ks o k)).length cs (by rfl) (HO47.out.alloc _) ⟨w7.heap.size, 0, none⟩ 1 1
               [.int .i64 x.kind, .int .i64 x.num, .string x.str, .slice A7 x.keys.length c7, .slice A8 x.kids.length c8] (by rfl) (by rfl) (World.news_of_block (cs := #[.int .i64 x.kind, .int .i64 x.num, .string x.str, .slice A7 x.keys.length c7, .slice A8 x.kids.length c8]) (t := 25) (fr := (0, 0)) (heap_alloc_new w7 _)) (by simp [Value.oneCell']) (by omega) (by unfold maxLen; omega) (by omega) (by simp; omega) (w7.heap.size + 1) (by simp) ?_
             intro g8 cap8 w8 hown8 hgrow8 hat8 hlt8
             have mf8 : w8.frozen? ⟨w.heap.size + 1, 4, none⟩ = false := ((hgrow8.frozen_far ⟨w.heap.size + 1, 4, none⟩ (by simp; omega) (Ne.symm ag4)).trans ((frozen_alloc_drew hbl7 _ 4).trans (mf7 4)))
             have m48 := (hgrow8.cell_far ⟨w.heap.size + 1, 4, none⟩ (by simp; omega) (Ne.symm ag4)).trans ((cell_alloc_drew hbl7 _ 4).trans m47))
          | (go_wp2_with fail
             go_at_call 56
             refine (copy_v (d := x) (B := B) (w := w6.drew) HFX.out (by show B ≤ w6.heap.size; omega) ⟨_, _, _, _, _, rfl, DocIn.keep (w := w6) (w' := w6.drew) (Nat.le_refl _) (fun _ _ => rfl) HD6.out⟩).mono ?_
             rintro e w7 ⟨y0, y1, y2, y3, y4, G, rfl, hG, hGn, hb7⟩
             obtain ⟨A7, c7, A8, c8, rfl, rfl, rfl, rfl, rfl⟩ := hG.doc.forms
             have hb67 : Below w6.heap.size w6 w7 := (Below.refl _ _).drew.trans hb7
             have HG7 := Lib.hid hG; have HGN := Lib.hid hGn
             have hz7 : w6.heap.size ≤ w7.heap.size := hb67.size
             have HO47 : Hid (w7.ownsRow w3.heap.size 25 5 v4 (recKids l (recKept ks o k)).length cs) := ownsRow_same HST6.out.o4 fun j hj => hb67.block j (HST6.out.o4.lt j (blk_mem.1 hj)).2
             have hbl7 : w.heap.size + 1 < w7.heap.size := by omega
             have m47 : w7.cell? ⟨w.heap.size + 1, 4, none⟩ = some v4 := (hb67.cell (p := ⟨w.heap.size + 1, 4, none⟩) (by show w.heap.size + 1 < w6.heap.size; omega)).trans q4
             have mf7 : ∀ i, w7.frozen? ⟨w.heap.size + 1, i, none⟩ = false := fun i => (World.frozen?_of_block (a := ⟨w.heap.size + 1, i, none⟩) (hb67.block (w.heap.size + 1) (by omega))).trans (q5 i)
             have HB67 := Lib.hid hb67
             clear hG hGn hb7 hb67))
        all_goals (go_wp2_with fail)
        all_goals (
          have e : recKept ks o (k + 1) = recKept ks o k ++ [K] := HKE.out
          have e1 : recKeys ks (recKept ks o k ++ [K]) = recKeys ks (recKept ks o k) ++ [S] := by simp [recKeys, HSS.out]
          have e2 : recKids l (recKept ks o k ++ [K]) = recKids l (recKept ks o k) ++ [x] := by simp [recKids, HXX.out, hK2]
          refine ⟨⟨k + 1, _, _, _, _, by omega, by go_num, by rw [e, e1, e2]; exact HST6.out.kid (by omega) HB67.out HG7.out HGN.out hown8 _ hgrow8 hat8⟩, ?_⟩
          simp [intOf]; omega)
    · have hkl : k = ks.length := by omega
      subst hkl
      have hrr : Box5 wr w.heap.size (.int .i64 0) (.int .i64 0) (.string ⟨#[]⟩) (.slice none 0 0) (.slice none 0 0) := HR3.out.same (HST.out.t.block _ (by omega) (by simp) (by omega))
      have HRR := Lib.hid hrr
      obtain ⟨q0, q1, q2, q3, q4⟩ := HST.out.bx.cells
      obtain ⟨r0, r1, r2, r3, r4⟩ := hrr.cells
      have r5 := hrr.frozen
      obtain ⟨A6, c6, rfl⟩ := ownsRow_slice HST.out.o3
      obtain ⟨A7, c7, rfl⟩ := ownsRow_slice HST.out.o4
      clear hrr
      go_wp2_with fail
      have hfin := ((((HRR.out.set0 (.int .i64 1)).set1 (.int .i64 0)).set2 (.string ⟨#[]⟩)).set3 (.slice A6 (recKeys ks (recKept ks o ks.length)).length c6)).set4 (.slice A7 (recKids l (recKept ks o ks.length)).length c7)
      clear q0 q1 q2 q3 q4 r0 r1 r2 r3 r4 r5
      refine ret_cell5 rfl rfl hfin.load rfl ?_
      have hsame : ∀ k, w3.heap.size ≤ k → (((((wr.setCell ⟨w.heap.size, 0, none⟩ (.int .i64 1)).setCell ⟨w.heap.size, 1, none⟩ (.int .i64 0)).setCell ⟨w.heap.size, 2, none⟩ (.string ⟨#[]⟩)).setCell ⟨w.heap.size, 3, none⟩ (.slice A6 (recKeys ks (recKept ks o ks.length)).length c6)).setCell
          ⟨w.heap.size, 4, none⟩ (.slice A7 (recKids l (recKept ks o ks.length)).length c7)).heap[k]? = wr.heap[k]? := fun k hk => by
        rw [Below.heap_setCell _ _ _ k (by show k ≠ w.heap.size; omega), Below.heap_setCell _ _ _ k (by show k ≠ w.heap.size; omega), Below.heap_setCell _ _ _ k (by show k ≠ w.heap.size; omega), Below.heap_setCell _ _ _ k (by show k ≠ w.heap.size; omega), Below.heap_setCell _ _ _ k (by show k ≠ w.heap.size; omega)]
      have l1 := HST.out.o3.lt
      have l2 := HST.out.o4.lt
      have l3 := HST.out.ok.lt
      have le0 : w.heap.size ≤ w.heap.size := Nat.le_refl _
      refine ⟨_, _, _, _, _, _, rfl, OwnIn.make (d := .mk 1 0 ⟨#[]⟩ (recKeys ks (recKept ks o ks.length)) (recKids l (recKept ks o ks.length)))
        (by exact ownsRow_base (ownsRow_same HST.out.o3 fun k hk => hsame k (by have := l1 k (blk_mem.1 hk); omega)) (by omega))
        (by exact ownsRow_base (ownsRow_same HST.out.o4 fun k hk => hsame k (by have := l2 k (blk_mem.1 hk); omega)) (by omega))
        (HST.out.ok.same (by omega) fun k hk => hsame k (by have := l3 k hk; omega)), HST.out.nd, ?_⟩
      have hb : Below w.heap.size w wr := HW3.out.trans ((HST.out.t.below (B := w.heap.size) (by simp) (by omega) (by omega)))
      exact ((((hb.setCell (by exact le0) _).setCell (by exact le0) _).setCell (by exact le0) _).setCell (by exact le0) _).setCell (by exact le0) _
end Go.Proofs.Ytdgnengfcabgjaa
