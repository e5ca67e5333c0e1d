/-
  valid.lookFields: the fields of a record, and what else it has.
  valid.look, whole.
-/
import Derived.Test.YteecdmceleanjaaGreatDoorB14
namespace Go.Proofs.YteecdmceleanjaaGreatDoor
open Go.RowKit

theorem idx_any (xs : List ByteArray) (v : Value) (x : ByteArray) (B : Nat) (w : World) (hv : Strs w B v xs) (hl : xs.length ≤ 10000) :
    Calls Tryz.prog 117 #[v, .string x] w fun e w' => e = .returned (.int .i64 (Lib.idxOfS xs x)) ∧ w' = w := by
  obtain ⟨A, c, rfl, hc1, hc2⟩ := hv
  rcases Nat.eq_zero_or_pos xs.length with h0 | h0
  · obtain rfl : xs = [] := List.eq_nil_of_length_eq_zero h0
    exact (Tryz.slices_Index_string_empty A c x w).mono fun e w' h => ⟨h.1, h.2⟩
  · obtain ⟨b, off, rfl, _, hc⟩ := hc2 h0
    refine (Tryz.slices_Index_string b off xs.length c xs x w (Nat.le_refl _) (by omega) fun j hj => ?_).mono fun e w' h => ⟨by rw [h.1, List.take_length], h.2⟩
    rw [hc j hj]; simp [hj]
def moreFl (p : List ByteArray) (ks : List ByteArray) : List Flt := ks.map fun s => (p ++ [s], 10)
theorem moreFl_take (p ks : List ByteArray) (k : Nat) (h : k < ks.length) : moreFl p (ks.take (k + 1)) = moreFl p (ks.take k) ++ [(p ++ [ks[k]], 10)] := by
  unfold moreFl; rw [List.take_succ_eq_append_getElem h, List.map_append]; rfl
theorem moreFl_split (p ks : List ByteArray) (k : Nat) : moreFl p ks = moreFl p (ks.take k) ++ moreFl p (ks.drop k) := by
  unfold moreFl; rw [← List.map_append, List.take_append_drop]
def recFl (t : T) (d : D) (p : List ByteArray) : List Flt := faultsF t.fields d p ++ moreFl p (moreV t d.keys)
theorem allL_at : ∀ {l : List T}, allL l = true → ∀ {i : Nat} (h : i < l.length), allT l[i] = true
  | d :: r, h, 0, _ => by simp only [allL, Bool.and_eq_true] at h; exact h.1
  | d :: r, h, i + 1, hi => by simp only [allL, Bool.and_eq_true] at h; exact allL_at h.2 (by simpa using hi)
/-- What lookFields is asked for. -/
def LookFTo (go : Bool) (base c g B m : Nat) : Prop := ∀ (t : T) (d : D) (tv uv pv : Value) (w : World) (l : List Flt) (G : List Nat) (p : List ByteArray), t.depth ≤ m → d.kind = 1 → allT t = true → t.Fit → d.Fit → partB d = true → (go = true ∨ l = []) → l.length + (recFl t d p).length ≤ 100000 → p.length + m ≤ 10000 → B ≤ c →
  TypeV w B t tv → DocV w B d uv → LookSt go base c g w w l G pv p →
  Calls Tryz.prog 105 #[tv, uv, pv, .func (.func 67) #[] #[.pointer (some ⟨g, 0, none⟩)]] w fun e w' => e = .returned (.bool (ends go (recFl t d p))) ∧ LookSt go base c g w w' (gath go l (recFl t d p)) G pv p
set_option maxHeartbeats 16000000 in
set_option maxRecDepth 100000 in
theorem look_fields {go : Bool} {base c g B m : Nat} (ih : LookTo go base c g B m) : LookFTo go base c g B (m + 1) := by
  intro t d tv uv pv w l G p hm hk hall hf hfd hpd hpre hlen hpl hBc ht hd hst
  obtain ⟨v0, v1, v2, v3, v4, v5, rfl, hti⟩ := ht
  obtain ⟨u0, u1, u2, u3, u4, rfl, hdi⟩ := hd
  have hpd' := hpd
  rw [partB_eq, Bool.and_eq_true] at hpd'
  have hkk := (docOk_of hpd'.1).same (.inl hk)
  have hcb := hst.cb; have hbs := hst.bs
  have hbw : Below w.heap.size w ((w.alloc (.cells #[v0, v1, v2, v3, v4, v5] 26)).alloc (.cells #[u0, u1, u2, u3, u4] 29)) := ((Below.refl _ _).alloc (Nat.le_refl _) _).alloc (by simp) _
  obtain ⟨G1, hst1, hlt, hplt, hback⟩ := hst.enter hbw
  have HFR := Lib.hid (LookFr.start (t := t) (d := d) hBc hbs hcb hti hdi (fun k hk => (hlt k hk).2) hplt)
  have HST1 := Lib.hid hst1; have HBACK := Lib.hid hback
  obtain ⟨A3, c3, A4, c4, A5, c5, rfl, rfl, rfl, rfl, rfl, rfl⟩ := hti.forms
  obtain ⟨B3, d3, B4, d4, rfl, rfl, rfl, rfl, rfl⟩ := hdi.forms
  have HF := Lib.hid hf; have HFD := Lib.hid hfd; have HALL := Lib.hid hall; have HPARTS := Lib.hid hpd'.2; have HIH := Lib.hid ih; have HPRE := Lib.hid hpre; have HLEN := Lib.hid hlen; have HM := Lib.hid hm; have HKK := Lib.hid hkk
  have hppl : p.length ≤ 9999 := by omega
  have HPL := Lib.hid hpl
  clear hst hst1 hlt hplt hback hti hdi hf hfd hall hpd hpd' ih hpre hlen hm hbw hpl hk hkk
  go_enter Tryz.func105, Tryz.ntmps105
  obtain ⟨x0, x1, x2, x3, x4, x5⟩ := (HFR.out.box6 HST1.out).cells
  obtain ⟨y0, y1, y2, y3, y4⟩ := (HFR.out.box5 HST1.out).cells
  go_wp2_with fail
  generalize (w.alloc (.cells #[.int .i64 t.kind, .int .i64 t.lo, .int .i64 t.hi, .slice A3 t.names.length c3, .slice A4 t.fields.length c4, .slice A5 t.of.length c5] 26)).alloc (.cells #[.int .i64 d.kind, .int .i64 d.num, .string d.str, .slice B3 d.keys.length d3, .slice B4 d.kids.length d4] 29) = w1 at *
  clear x0 x1 x2 x3 x4 x5 y0 y1 y2 y3 y4
  go_loopw [18] (fun i wr => ∃ k : Nat, k ≤ t.fields.length ∧ i = .int .i64 k ∧ LookSt go base c g w1 wr (gath go l (faultsF (t.fields.take k) d p)) G1 pv p ∧ ends go (faultsF (t.fields.take k) d p) = true) (fun i _ => t.fields.length - (intOf i).toNat)
  case atStart => exact ⟨0, Nat.zero_le _, rfl, by rw [List.take_zero, faultsF, gath_nil]; exact HST1.out, by rw [List.take_zero, faultsF, ends_nil]⟩
  case round =>
    obtain ⟨k, hk0, rfl, hstr, hek⟩ := hrel
    have HSTR := Lib.hid hstr; have HEK := Lib.hid hek
    clear hstr hek
    have sz1 := HFR.out.sz
    have szr := HSTR.out.size
    have hbn := HFR.out.bn
    by_cases hlt : k < t.fields.length
    · have htin := HFR.out.tin HSTR.out
      have hdin := HFR.out.din HSTR.out
      have HDIN := Lib.hid hdin
      obtain ⟨A', c', e5, _, hfv⟩ := htin.fields_
      injection e5 with e51 e52 e53
      subst e51; subst e53
      obtain ⟨bo, off, rfl, hboB, hfw⟩ := hfv (by omega)
      clear hfv e52
      obtain ⟨f, hfe⟩ : ∃ f, f = t.fields[k] := ⟨_, rfl⟩
      obtain ⟨g0, g1', z0, z1, z2, z3, z4, z5, g2, g3, g4, g5, g6, g7, hzi⟩ := hfw.at_ k hlt
      rw [← hfe] at g0 g1' hzi
      simp only [Nat.zero_add] at g0 g1' g2 g3 g4 g5 g6 g7
      have HZI := Lib.hid hzi
      obtain ⟨X3, x3, X4, x4, X5, x5, rfl, rfl, rfl, rfl, rfl, rfl⟩ := hzi.forms
      obtain ⟨t0, t1, t2, t3, t4, t5⟩ := (HFR.out.box6 HSTR.out).cells
      obtain ⟨u0, u1, u2, u3, u4⟩ := (HFR.out.box5 HSTR.out).cells
      have hdep : f.type.depth ≤ m := by have := T.field_depth (t := t) (i := k) hlt; rw [← hfe] at this; have := HM.out; omega
      have HAX : Hid (allT f.type = true) := Lib.hid (by
        have h := HALL.out
        rw [allT_eq, Bool.and_eq_true] at h
        have h2 := h.2
        rw [T.kids, allL_append, Bool.and_eq_true] at h2
        rw [hfe]; have h3 := allL_at h2.1 (i := k) (by simpa using hlt); simpa using h3)
      have HFX : Hid f.type.Fit := Lib.hid (by rw [hfe]; exact (HF.out.parts.2.2.2.2.1.at_ hlt).type)
      have HSUC : Hid (faultsF (t.fields.take (k + 1)) d p = faultsF (t.fields.take k) d p ++ faultsF1 f d p) := Lib.hid (by rw [faultsF_take _ _ _ _ hlt, hfe])
      have HSPL : Hid (∃ r, recFl t d p = faultsF (t.fields.take (k + 1)) d p ++ r) := Lib.hid ⟨faultsF (t.fields.drop (k + 1)) d p ++ moreFl p (moreV t d.keys), by
        unfold recFl
        rw [← List.append_assoc, ← faultsF_append, List.take_append_drop]⟩
      have hLN : (gath go l (faultsF (t.fields.take k) d p)).length + (faultsF1 f d p).length ≤ 100000 := by
        have h1 := gath_len go l (faultsF (t.fields.take k) d p)
        have h2 := HLEN.out
        obtain ⟨r, hr⟩ := HSPL.out
        rw [hr, HSUC.out] at h2
        simp only [List.length_append] at h2
        omega
      have HLN := Lib.hid hLN
      have hik0 : (0 : Int) ≤ (k : Int) := by omega
      have hik1 : (k : Int) < (t.fields.length : Int) := by omega
      have hbol : bo < wr.heap.size := by have := HFR.out.Bc; have := HSTR.out.cb; omega
      clear hfe hzi htin hdin hfw hLN
      go_upto_region 5 with fail
      obtain ⟨wz, hwz⟩ : ∃ wz, wz = wr.alloc (.cells #[.string f.name, .bool f.opt, .int .i64 f.type.kind, .int .i64 f.type.lo, .int .i64 f.type.hi, .slice X3 f.type.names.length x3, .slice X4 f.type.fields.length x4, .slice X5 f.type.of.length x5] 48) := ⟨_, rfl⟩
      have HBZ : Hid (Below wr.heap.size wr wz) := by rw [hwz]; exact (Below.refl _ _).alloc (Nat.le_refl _) _
      have HKB : Hid (Box8 wz wr.heap.size f.name f.opt (.int .i64 f.type.kind) (.int .i64 f.type.lo) (.int .i64 f.type.hi) (.slice X3 f.type.names.length x3) (.slice X4 f.type.fields.length x4) (.slice X5 f.type.of.length x5)) := by rw [hwz]; exact heap_alloc_new wr _
      have hzz : wr.heap.size + 1 ≤ wz.heap.size := by rw [hwz]; simp
      rw [← hwz]
      clear hwz
      have mv : ∀ b o, b < wr.heap.size → wr.cell? ⟨b, o, none⟩ = wz.cell? ⟨b, o, none⟩ := fun b o h => (HBZ.out.cell (p := ⟨b, o, none⟩) h).symm
      rw [mv _ _ (by omega)] at u0 u1 u2 u3 u4
      clear t0 t1 t2 t3 t4 t5 mv g0 g1' g2 g3 g4 g5 g6 g7
      obtain ⟨k0, k1, k2, k3, k4, k5, k6, k7⟩ := HKB.out.cells
      obtain ⟨Gr, hstz, hGr, hpr, hbackz⟩ := HSTR.out.enter HBZ.out
      have HSTZ := Lib.hid hstz; have HBACKZ := Lib.hid hbackz; have HPR := Lib.hid hpr
      have HLP := Lib.hid HFR.out.lp
      have HZZ := Lib.hid (HZI.out.keep (Nat.le_refl B) fun q hq => HBZ.out.cell (p := q) (by omega))
      have HDZ := Lib.hid (HDIN.out.keep (Nat.le_refl B) fun q hq => HBZ.out.cell (p := q) (by omega))
      have HGR := Lib.hid hGr
      have hBz : B ≤ wz.heap.size := by omega
      have hbz : base ≤ wz.heap.size := HSTZ.out.bs
      have hkl10 := HFD.out.keys
      have hfl10 : t.fields.length ≤ 10000 := HF.out.parts.2.1
      have hnx : w.heap.size + 1 < wz.heap.size := by omega
      have hfx : wr.heap.size < wz.heap.size := by omega
      clear hstz hGr hpr hbackz
      go_wp2_with fail
      go_at_call 117
      refine (idx_any d.keys _ f.name B wz HDZ.out.keys_ hkl10).mono ?_
      rintro e w' ⟨rfl, hw'⟩
      rw [hw']
      clear hw'
      by_cases hidx : 0 ≤ Lib.idxOfS d.keys f.name
      · obtain ⟨j, hj⟩ : ∃ j : Nat, Lib.idxOfS d.keys f.name = (j : Int) := ⟨(Lib.idxOfS d.keys f.name).toNat, by omega⟩
        have hjl : j < d.keys.length := by have := idxOfS_lt _ _ hidx; rw [hj] at this; simpa using this
        have hjk : j < d.kids.length := by rw [← HKK.out]; exact hjl
        obtain ⟨y, hye⟩ : ∃ y, y = d.kids[j] := ⟨_, rfl⟩
        have HF1 : Hid (faultsF1 f d p = f.type.faults y (p ++ [f.name])) := Lib.hid (by
          rw [faultsF1_eq, if_pos hidx, hj, List.getD_eq_getElem?_getD, Int.toNat_natCast, List.getElem?_eq_getElem hjk, ← hye]; rfl)
        rw [hj]
        obtain ⟨_, _, hkv⟩ := HDZ.out.kids_
        obtain ⟨bk, offk, rfl, hbkB, hkw⟩ := hkv (by omega)
        clear hkv
        obtain ⟨q0, q1, q2, q3, q4, r0, r1, r2, r3, r4, hyi⟩ := hkw.at_ j hjk
        rw [← hye] at hyi
        simp only [Nat.zero_add] at r0 r1 r2 r3 r4
        have HYZ := Lib.hid hyi
        obtain ⟨Y3, y3, Y4, y4, rfl, rfl, rfl, rfl, rfl⟩ := hyi.forms
        have HFY : Hid y.Fit := Lib.hid (by rw [hye]; exact HFD.out.kid hjk)
        have HPY : Hid (partB y = true) := Lib.hid (by rw [hye]; exact partsB_at HPARTS.out hjk)
        have hlow := HSTZ.out.low
        have hob := HSTZ.out.ob
        have hBc' := HFR.out.Bc
        have hlG := HFR.out.lG
        have hn3 : w.heap.size + 1 < wz.heap.size ∧ w.heap.size + 1 ≠ c ∧ w.heap.size + 1 ∉ Gr ∧ w.heap.size + 1 ∉ blk pv := ⟨by omega, by omega, fun hm => (HGR.out _ hm).1.elim (fun h => by have := hlG _ h; omega) (fun h => by omega), fun hm => by have := HLP.out _ hm; omega⟩
        have hn2 : wr.heap.size < wz.heap.size ∧ wr.heap.size ≠ c ∧ wr.heap.size ∉ Gr ∧ wr.heap.size ∉ blk pv := ⟨by omega, by omega, fun hm => by have := (HGR.out _ hm).2; omega, fun hm => by have := HPR.out _ hm; omega⟩
        have hlB : ∀ b, b < B → b < wz.heap.size ∧ b ≠ c ∧ b ∉ Gr ∧ b ∉ blk pv := fun b hb => ⟨by omega, by omega, fun hm => by have := hlow _ hm; omega, fun hm => by have := (hob _ hm).1; omega⟩
        have HN1 := Lib.hid (hlB bk hbkB); have HN2 := Lib.hid hn2; have HN3 := Lib.hid hn3; have HLB := Lib.hid hlB
        have HK4 : Hid (∀ b o, wz.drew.cell? ⟨b, o, none⟩ = wz.cell? ⟨b, o, none⟩) := Lib.hid (fun _ _ => rfl)
        have HO5 := Lib.hid HSTZ.out.own
        have HK6 : Hid (∀ (ob : Obj) b o, b < wz.heap.size ∧ b ≠ c ∧ b ∉ Gr ∧ b ∉ blk pv → ((wz.alloc ob).drew).cell? ⟨b, o, none⟩ = wz.cell? ⟨b, o, none⟩) := Lib.hid (fun ob b o h => World.cell?_alloc_lt wz ob ⟨b, o, none⟩ h.1)
        obtain ⟨eb, heb⟩ : ∃ eb, eb = ends go (f.type.faults y (p ++ [f.name])) := ⟨_, rfl⟩
        have HEB : Hid (ends go (f.type.faults y (p ++ [f.name])) = eb) := Lib.hid heb.symm
        have hpm : p.length + m ≤ 9999 := by have := HPL.out; omega
        have hj0 : (0 : Int) ≤ (j : Int) := by omega
        have hj1 : (j : Int) < (d.kids.length : Int) := by omega
        have hBcc : B ≤ c := hBc'
        clear hn2 hn3 hlB heb hlow hob hye hkw hyi hidx hj hlG k1 u0 u1 u2 u3
        go_wp2_with fail
        go_region_held3 (fun w' => w'.cell? ⟨wr.heap.size, 0, none⟩ = some (.string f.name) ∧ w'.cell? ⟨wr.heap.size, 2, none⟩ = some (.int .i64 f.type.kind) ∧ w'.cell? ⟨wr.heap.size, 3, none⟩ = some (.int .i64 f.type.lo) ∧ w'.cell? ⟨wr.heap.size, 4, none⟩ = some (.int .i64 f.type.hi) ∧ w'.cell? ⟨wr.heap.size, 5, none⟩ = some (.slice X3 f.type.names.length x3) ∧ w'.cell? ⟨wr.heap.size, 6, none⟩ = some (.slice X4 f.type.fields.length x4) ∧ w'.cell? ⟨wr.heap.size, 7, none⟩ = some (.slice X5 f.type.of.length x5) ∧ w'.cell? ⟨w.heap.size + 1, 4, none⟩ = some (.slice (some ⟨bk, offk, none⟩) d.kids.length d4) ∧ w'.cell? ⟨bk, offk + j * 5, none⟩ = some (.int .i64 y.kind) ∧ w'.cell? ⟨bk, offk + j * 5 + 1, none⟩ = some (.int .i64 y.num) ∧ w'.cell? ⟨bk, offk + j * 5 + 2, none⟩ = some (.string y.str) ∧ w'.cell? ⟨bk, offk + j * 5 + 3, none⟩ = some (.slice Y3 y.keys.length y3) ∧ w'.cell? ⟨bk, offk + j * 5 + 4, none⟩ = some (.slice Y4 y.kids.length y4))
          (first | with_reducible exact ⟨(HK4.out _ _).trans k0, (HK4.out _ _).trans k2, (HK4.out _ _).trans k3, (HK4.out _ _).trans k4, (HK4.out _ _).trans k5, (HK4.out _ _).trans k6, (HK4.out _ _).trans k7, (HK4.out _ _).trans u4, (HK4.out _ _).trans r0, (HK4.out _ _).trans r1, (HK4.out _ _).trans r2, (HK4.out _ _).trans r3, (HK4.out _ _).trans r4⟩ | with_reducible exact ⟨(HK6.out _ _ _ HN2.out).trans k0, (HK6.out _ _ _ HN2.out).trans k2, (HK6.out _ _ _ HN2.out).trans k3, (HK6.out _ _ _ HN2.out).trans k4, (HK6.out _ _ _ HN2.out).trans k5, (HK6.out _ _ _ HN2.out).trans k6, (HK6.out _ _ _ HN2.out).trans k7, (HK6.out _ _ _ HN3.out).trans u4, (HK6.out _ _ _ HN1.out).trans r0, (HK6.out _ _ _ HN1.out).trans r1, (HK6.out _ _ _ HN1.out).trans r2, (HK6.out _ _ _ HN1.out).trans r3, (HK6.out _ _ _ HN1.out).trans r4⟩ | with_reducible exact ⟨(HK7.out _ _ HN2.out).trans k0, (HK7.out _ _ HN2.out).trans k2, (HK7.out _ _ HN2.out).trans k3, (HK7.out _ _ HN2.out).trans k4, (HK7.out _ _ HN2.out).trans k5, (HK7.out _ _ HN2.out).trans k6, (HK7.out _ _ HN2.out).trans k7, (HK7.out _ _ HN3.out).trans u4, (HK7.out _ _ HN1.out).trans r0, (HK7.out _ _ HN1.out).trans r1, (HK7.out _ _ HN1.out).trans r2, (HK7.out _ _ HN1.out).trans r3, (HK7.out _ _ HN1.out).trans r4⟩ | with_reducible exact ⟨(HK8.out _ _ HN2.out).trans k0, (HK8.out _ _ HN2.out).trans k2, (HK8.out _ _ HN2.out).trans k3, (HK8.out _ _ HN2.out).trans k4, (HK8.out _ _ HN2.out).trans k5, (HK8.out _ _ HN2.out).trans k6, (HK8.out _ _ HN2.out).trans k7, (HK8.out _ _ HN3.out).trans u4, (HK8.out _ _ HN1.out).trans r0, (HK8.out _ _ HN1.out).trans r1, (HK8.out _ _ HN1.out).trans r2, (HK8.out _ _ HN1.out).trans r3, (HK8.out _ _ HN1.out).trans r4⟩)
          ((first
            | (refine step_path (by rfl) _ _ (by rfl) base p.length 1 pv (p.map Value.string) f.name ⟨wz.heap.size, 0, none⟩ (by rfl) (by rfl) ((HO5.out.alloc _).drew) (cell_block (heap_alloc_new wz _) 0) (by omega) (by simp; omega) ?_
               intro v' w7 ho7 hp7 hg7 hat7
               have hk7' : ∀ b, b < wz.heap.size ∧ b ≠ c ∧ b ∉ Gr ∧ b ∉ blk pv → w7.heap[b]? = wz.heap[b]? := fun b hb => (hg7.block b (by simp; omega) (fun e => hb.2.2.2 (blk_mem.2 e.symm))).trans (Below.heap_alloc wz _ b hb.1)
               have HK7 : Hid (∀ b o, b < wz.heap.size ∧ b ≠ c ∧ b ∉ Gr ∧ b ∉ blk pv → w7.cell? ⟨b, o, none⟩ = wz.cell? ⟨b, o, none⟩) := Lib.hid (fun b o h => World.cell?_of_block (a := ⟨b, o, none⟩) (hk7' b h))
               have HK7' := Lib.hid hk7'
               obtain ⟨G7, hst7, hG7, hv7, hback7⟩ := (HSTZ.out.next (((Below.refl _ _).alloc (Nat.le_refl _) _).drew)).kid ho7 hp7 hg7 hat7
               have HST7 := Lib.hid hst7; have HBACK7 := Lib.hid hback7
               clear hk7' ho7 hp7 hg7 hat7 hst7 hG7 hv7 hback7)
            | (go_at_call 68
               refine (HIH.out f.type y _ _ v' w7 _ G7 (p ++ [f.name]) hdep HAX.out HFX.out HFY.out HPY.out (gath_pre HEK.out HPRE.out) (by rw [← HF1.out]; exact HLN.out) (by simp; omega) hBcc ⟨_, _, _, _, _, _, rfl, HZZ.out.keep (Nat.le_refl B) fun q hq => World.cell?_of_block (a := q) (HK7'.out q.block (HLB.out _ hq))⟩ ⟨_, _, _, _, _, rfl, HYZ.out.keep (Nat.le_refl B) fun q hq => World.cell?_of_block (a := q) (HK7'.out q.block (HLB.out _ hq))⟩ HST7.out).mono ?_
               rintro e w8 ⟨rfl, hst8⟩
               rw [HEB.out]
               have hst8' := HBACK7.out w8 _ hst8
               have HST8 := Lib.hid hst8'
               have HK8 : Hid (∀ b o, b < wz.heap.size ∧ b ≠ c ∧ b ∉ Gr ∧ b ∉ blk pv → w8.cell? ⟨b, o, none⟩ = wz.cell? ⟨b, o, none⟩) := Lib.hid (fun b o h => World.cell?_of_block (a := ⟨b, o, none⟩) (hst8'.block h.1 h.2.1 (.inr h.2.2)))
               clear hst8 hst8')))
        clear k0 k2 k3 k4 k5 k6 k7 u4 r0 r1 r2 r3 r4
        by_cases hE : eb = true
        · have HSTN : Hid (LookSt go base c g w1 w8 (gath go l (faultsF (t.fields.take (k + 1)) d p)) G1 pv p) := Lib.hid (by
            have h := HBACKZ.out w8 _ HST8.out
            rw [gath_on _ _ HEK.out] at h
            rw [HSUC.out, HF1.out]; exact h)
          have HEN : Hid (ends go (faultsF (t.fields.take (k + 1)) d p) = true) := Lib.hid (by rw [HSUC.out, ends_on _ HEK.out, HF1.out, HEB.out]; exact hE)
          rw [hE]
          clear hE
          go_wp2_with fail
          go_roundw
          case rel => exact ⟨k + 1, by omega, by go_num, HSTN.out, HEN.out⟩
          case measure => simp [intOf]; omega
        · have hE' : eb = false := by simpa using hE
          have hoff : ends go (faultsF (t.fields.take (k + 1)) d p) = false := by rw [HSUC.out, ends_on _ HEK.out, HF1.out, HEB.out]; exact hE'
          obtain ⟨r, hr⟩ := HSPL.out
          have HG1 : Hid (ends go (recFl t d p) = false) := Lib.hid (by rw [hr]; exact ends_off _ hoff)
          have HSTN : Hid (LookSt go base c g w1 w8 (gath go l (recFl t d p)) G1 pv p) := Lib.hid (by
            have h := HBACKZ.out w8 _ HST8.out
            rw [gath_on _ _ HEK.out] at h
            rw [hr, gath_off _ _ hoff, HSUC.out, HF1.out]; exact h)
          rw [hE']
          clear hE hE' hoff hr
          go_wp2_with fail
          go_ret
          exact ⟨ret_bool HG1.out.symm, HBACK.out _ _ HSTN.out⟩
      · have hneg : ¬ (0 ≤ Lib.idxOfS d.keys f.name) := hidx
        have hlt0 : decide (0 ≤ Lib.idxOfS d.keys f.name) = false := by simpa using hidx
        have HF1 : Hid (faultsF1 f d p = if f.opt then [] else [(p ++ [f.name], 9)]) := Lib.hid (by rw [faultsF1_eq, if_neg hidx])
        clear hidx
        by_cases hopt : f.opt = true
        · have HSTN : Hid (LookSt go base c g w1 wz (gath go l (faultsF (t.fields.take (k + 1)) d p)) G1 pv p) := Lib.hid (by
            rw [HSUC.out, HF1.out, if_pos hopt, List.append_nil]; exact HBACKZ.out wz _ HSTZ.out)
          have HEN : Hid (ends go (faultsF (t.fields.take (k + 1)) d p) = true) := Lib.hid (by rw [HSUC.out, HF1.out, if_pos hopt, List.append_nil]; exact HEK.out)
          rw [hopt] at k1
          clear hopt
          go_wp2_with fail
          go_roundw
          case rel => exact ⟨k + 1, by omega, by go_num, HSTN.out, HEN.out⟩
          case measure => simp [intOf]; omega
        · have hopt' : f.opt = false := by simpa using hopt
          have HF2 : Hid (faultsF1 f d p = [(p ++ [f.name], 9)]) := Lib.hid (by rw [HF1.out, if_neg hopt])
          have HLN2 : Hid ((gath go l (faultsF (t.fields.take k) d p)).length ≤ 100000) := Lib.hid (by have := HLN.out; omega)
          rw [hopt'] at k1
          clear hopt hopt'
          go_wp2_with (at_builtin; refine wpList_path rfl _ _ (by rfl) base p.length 1 pv (p.map Value.string) f.name ⟨wz.heap.size, 0, none⟩ (by rfl) (by rfl) (HSTZ.out.own.alloc _) (cell_block (heap_alloc_new wz _) 0) (by omega) (by simp; omega) ?_; intro v' w7 ho7 hp7 hg7 hat7; obtain ⟨G7, hst7, hG7, hv7, hback7⟩ := (HSTZ.out.next ((Below.refl _ _).alloc (Nat.le_refl _) _)).kid ho7 hp7 hg7 hat7; have HST7 := Lib.hid hst7; have HBACK7 := Lib.hid hback7; clear ho7 hp7 hg7 hat7 hst7 hG7 hv7 hback7)
          go_at_call 67
          refine (HST7.out.tell (gath_pre HEK.out HPRE.out) HLN2.out (by simp; omega)).mono ?_
          rintro e w8 ⟨rfl, hst8⟩
          have HST8 := Lib.hid (HBACKZ.out w8 _ (HBACK7.out w8 _ hst8))
          clear hst8
          rw [ends_one]
          by_cases hgo : go = true
          · have HSTN : Hid (LookSt go base c g w1 w8 (gath go l (faultsF (t.fields.take (k + 1)) d p)) G1 pv p) := Lib.hid (by
              have h := HST8.out
              rw [gath_on _ _ HEK.out] at h
              rw [HSUC.out, HF2.out]; exact h)
            have HEN : Hid (ends go (faultsF (t.fields.take (k + 1)) d p) = true) := Lib.hid (by rw [HSUC.out, ends_on _ HEK.out, HF2.out, ends_one]; exact hgo)
            rw [hgo]
            clear hgo
            go_wp2_with fail
            go_roundw
            case rel => exact ⟨k + 1, by omega, by go_num, HSTN.out, HEN.out⟩
            case measure => simp [intOf]; omega
          · have hgo' : go = false := by simpa using hgo
            have hoff : ends go (faultsF (t.fields.take (k + 1)) d p) = false := by rw [HSUC.out, ends_on _ HEK.out, HF2.out, ends_one]; exact hgo'
            obtain ⟨r, hr⟩ := HSPL.out
            have HG1 : Hid (ends go (recFl t d p) = false) := Lib.hid (by rw [hr]; exact ends_off _ hoff)
            have HSTN : Hid (LookSt go base c g w1 w8 (gath go l (recFl t d p)) G1 pv p) := Lib.hid (by
              have h := HST8.out
              rw [gath_on _ _ HEK.out] at h
              rw [hr, gath_off _ _ hoff, HSUC.out, HF2.out]; exact h)
            rw [hgo']
            clear hgo hgo' hoff hr
            go_wp2_with fail
            go_ret
            exact ⟨ret_bool HG1.out.symm, HBACK.out _ _ HSTN.out⟩
    · have hkk : t.fields.take k = t.fields := List.take_of_length_le (by omega)
      have HSTF : Hid (LookSt go base c g w1 wr (gath go l (faultsF t.fields d p)) G1 pv p) := Lib.hid (by have h := HSTR.out; rw [hkk] at h; exact h)
      have HEF : Hid (ends go (faultsF t.fields d p) = true) := Lib.hid (by have h := HEK.out; rw [hkk] at h; exact h)
      clear hkk
      obtain ⟨x0, x1, x2, x3, x4, x5⟩ := (HFR.out.box6 HSTF.out).cells
      obtain ⟨y0, y1, y2, y3, y4⟩ := (HFR.out.box5 HSTF.out).cells
      go_wp2_with fail
      go_at_call 116
      refine (more_any HF.out HFD.out (HFR.out.le HSTF.out) ⟨_, _, _, _, _, _, rfl, HFR.out.tin HSTF.out⟩ ⟨_, _, _, _, _, rfl, HFR.out.din HSTF.out⟩).mono ?_
      rintro e w2 ⟨vm, rfl, hmo, hmb⟩
      obtain ⟨Gm, hstm, hGm, hpm, hbackm⟩ := HSTF.out.enter hmb
      have hml : (moreV t d.keys).length ≤ 10000 := by have := moreV_len t d.keys; have := HFD.out.keys; omega
      have HREC : Hid (recFl t d p = faultsF t.fields d p ++ moreFl p (moreV t d.keys)) := Lib.hid rfl
      have HLB : Hid (∀ k, k ≤ (moreV t d.keys).length → (gath go (gath go l (faultsF t.fields d p)) (moreFl p ((moreV t d.keys).take k))).length ≤ 100000) := Lib.hid (fun k hk => by
        have h1 := gath_len go (gath go l (faultsF t.fields d p)) (moreFl p ((moreV t d.keys).take k))
        have h2 := gath_len go l (faultsF t.fields d p)
        have h3 := HLEN.out
        rw [HREC.out] at h3
        have h4 : (moreFl p ((moreV t d.keys).take k)).length ≤ (moreFl p (moreV t d.keys)).length := by simp [moreFl]; omega
        simp only [List.length_append] at h3
        omega)
      generalize moreV t d.keys = ms at *
      obtain ⟨A7, c7, rfl⟩ := ownsRow_slice hmo
      have HMO := Lib.hid hmo; have HSTM := Lib.hid hstm; have HGM := Lib.hid hGm; have HPM := Lib.hid hpm; have HBACKM := Lib.hid hbackm
      clear hmo hstm hGm hpm hbackm hmb x0 x1 x2 x3 x4 x5 y0 y1 y2 y3 y4
      go_wp2_with fail
      go_loopw [60] (fun i wr => ∃ k : Nat, k ≤ ms.length ∧ i = .int .i64 k ∧ LookSt go base c g w2 wr (gath go (gath go l (faultsF t.fields d p)) (moreFl p (ms.take k))) Gm pv p ∧ ends go (moreFl p (ms.take k)) = true) (fun i _ => ms.length - (intOf i).toNat)
      case atStart => exact ⟨0, Nat.zero_le _, rfl, by rw [List.take_zero]; simp only [moreFl, List.map_nil]; rw [gath_nil]; exact HSTM.out, by rw [List.take_zero]; exact ends_nil _⟩
      case round =>
        obtain ⟨i, hi0, rfl, hstq, heq⟩ := hrel
        have HSTQ := Lib.hid hstq; have HEQ := Lib.hid heq
        clear hstq heq
        by_cases hlt2 : i < ms.length
        · obtain ⟨bm, hA⟩ : ∃ bm, A7 = some ⟨bm, 0, none⟩ := by
            rcases HMO.out.2 with ⟨h, h0⟩ | ⟨g', cap', cur', h, _⟩
            · omega
            · injection h with h1 h2 h3; exact ⟨g', h1⟩
          subst hA
          have hbm := HMO.out.lt bm rfl
          have hcbm := HFR.out.bn
          have hcb3 := HSTQ.out.cb
          have hkey : wr.cell? ⟨bm, i, none⟩ = some (.string ms[i]) := by
            have h1 : w2.cell? ⟨bm, i, none⟩ = some (.string ms[i]) := by
              have h := HMO.out.cells rfl i (.string ms[i]) (by simp [hlt2])
              have e : (⟨bm, 0, none⟩ : Addr).add i = ⟨bm, i, none⟩ := by unfold Addr.add; split <;> simp_all
              rwa [e] at h
            exact (World.cell?_of_block (a := ⟨bm, i, none⟩) (HSTQ.out.block hbm.2 (by show bm ≠ c; omega) (.inr ⟨fun hm => by have h9 : bm < _ := (HGM.out _ hm).2; omega, fun hm => by have h9 : bm < _ := HPM.out _ hm; omega⟩))).trans h1
          obtain ⟨S, hS⟩ : ∃ S, S = ms[i] := ⟨_, rfl⟩
          rw [← hS] at hkey
          have HSUC : Hid (moreFl p (ms.take (i + 1)) = moreFl p (ms.take i) ++ [(p ++ [S], 10)]) := Lib.hid (by rw [hS]; exact moreFl_take p ms i hlt2)
          have HSPL : Hid (moreFl p ms = moreFl p (ms.take (i + 1)) ++ moreFl p (ms.drop (i + 1))) := Lib.hid (moreFl_split p ms (i + 1))
          have hi00 : (0 : Int) ≤ (i : Int) := by omega
          have hi01 : (i : Int) < (ms.length : Int) := by omega
          have hLi : (gath go (gath go l (faultsF t.fields d p)) (moreFl p (ms.take i))).length ≤ 100000 := HLB.out i (by omega)
          have HLi := Lib.hid hLi
          have hbq : base ≤ wr.heap.size := by have := HSTQ.out.size; have := HSTQ.out.bs; omega
          clear hS hLi
          go_wp2_with (at_builtin; refine wpList_path rfl _ _ (by rfl) base p.length 1 pv (p.map Value.string) S ⟨wr.heap.size, 0, none⟩ (by rfl) (by rfl) (HSTQ.out.own.alloc _) (cell_block (heap_alloc_new wr _) 0) (by omega) (by simp; omega) ?_; intro v' w7 ho7 hp7 hg7 hat7; obtain ⟨G7, hst7, hG7, hv7, hback7⟩ := (HSTQ.out.next ((Below.refl _ _).alloc (Nat.le_refl _) _)).kid ho7 hp7 hg7 hat7; have HST7 := Lib.hid hst7; have HBACK7 := Lib.hid hback7; clear ho7 hp7 hg7 hat7 hst7 hG7 hv7 hback7)
          go_at_call 67
          refine (HST7.out.tell (gath_pre HEQ.out (gath_pre HEF.out HPRE.out)) HLi.out (by simp; omega)).mono ?_
          rintro e w8 ⟨rfl, hst8⟩
          have HST8 := Lib.hid (HBACK7.out w8 _ hst8)
          clear hst8
          rw [ends_one]
          by_cases hgo : go = true
          · have HSTN : Hid (LookSt go base c g w2 w8 (gath go (gath go l (faultsF t.fields d p)) (moreFl p (ms.take (i + 1)))) Gm pv p) := Lib.hid (by
              have h := HST8.out
              rw [gath_on _ _ HEQ.out] at h
              rw [HSUC.out]; exact h)
            have HEN : Hid (ends go (moreFl p (ms.take (i + 1))) = true) := Lib.hid (by rw [HSUC.out, ends_on _ HEQ.out, ends_one]; exact hgo)
            rw [hgo]
            clear hgo
            go_wp2_with fail
            go_roundw
            case rel => exact ⟨i + 1, by omega, by go_num, HSTN.out, HEN.out⟩
            case measure => simp [intOf]; omega
          · have hgo' : go = false := by simpa using hgo
            have hoff : ends go (moreFl p (ms.take (i + 1))) = false := by rw [HSUC.out, ends_on _ HEQ.out, ends_one]; exact hgo'
            have HG1 : Hid (ends go (recFl t d p) = false) := Lib.hid (by rw [HREC.out, ends_on _ HEF.out, HSPL.out]; exact ends_off _ hoff)
            have HSTN : Hid (LookSt go base c g w2 w8 (gath go l (recFl t d p)) Gm pv p) := Lib.hid (by
              have h := HST8.out
              rw [gath_on _ _ HEQ.out] at h
              rw [HREC.out, ← gath_on _ _ HEF.out, HSPL.out, gath_off _ _ hoff, HSUC.out]; exact h)
            rw [hgo']
            clear hgo hgo' hoff
            go_wp2_with fail
            go_ret
            exact ⟨ret_bool HG1.out.symm, HBACK.out _ _ (HBACKM.out _ _ HSTN.out)⟩
        · have hkk : ms.take i = ms := List.take_of_length_le (by omega)
          have HG1 : Hid (ends go (recFl t d p) = true) := Lib.hid (by have h := HEQ.out; rw [hkk] at h; rw [HREC.out, ends_on _ HEF.out]; exact h)
          have HSTN : Hid (LookSt go base c g w2 wr (gath go l (recFl t d p)) Gm pv p) := Lib.hid (by
            have h := HSTQ.out
            rw [hkk, gath_on _ _ HEF.out] at h
            rw [HREC.out]; exact h)
          clear hkk
          go_wp2_with fail
          go_ret
          exact ⟨ret_bool HG1.out.symm, HBACK.out _ _ (HBACKM.out _ _ HSTN.out)⟩
end Go.Proofs.YteecdmceleanjaaGreatDoor
namespace Go.Proofs.YteecdmceleanjaaGreatDoor
open Go.RowKit

theorem faults_rec {t : T} {d : D} {p : List ByteArray} (hk : t.kind = 1) (h7 : fitsV t d ≠ 7) : t.faults d p = recFl t d p ∧ d.kind = 1 ∧ fitsV t d = 0 := by
  have hkv : kindV t = 1 := by unfold kindV; rw [if_pos hk]
  have hd : d.kind = 1 := by
    by_cases e : d.kind = kindV t
    · rw [e, hkv]
    · exfalso; unfold fitsV at h7; rw [if_neg e] at h7; exact h7 rfl
  have h0 : fitsV t d = 0 := by unfold fitsV; rw [if_pos (by rw [hd, hkv]), if_pos (ranged_rec hk)]
  refine ⟨?_, hd, h0⟩
  rw [faults_eq, if_pos h0, if_neg h7, if_pos hk]
  rfl
set_option maxHeartbeats 8000000 in
set_option maxRecDepth 100000 in
theorem look_rec {go : Bool} {base c g B m : Nat} (ihf : LookFTo go base c g B (m + 1)) {t : T} {d : D} {tv uv pv : Value} {w : World} {l : List Flt} {G : List Nat} {p : List ByteArray} (hk : t.kind = 1) (hm : t.depth ≤ m + 1) (hall : allT t = true) (hf : t.Fit) (hfd : d.Fit) (hpd : partB d = true) (hpre : go = true ∨ l = []) (hlen : l.length + (t.faults d p).length ≤ 100000) (hpl : p.length + (m + 1) ≤ 10000) (hBc : B ≤ c)
    (ht : TypeV w B t tv) (hd : DocV w B d uv) (hst : LookSt go base c g w w l G pv p) :
    Calls Tryz.prog 68 #[tv, uv, pv, .func (.func 67) #[] #[.pointer (some ⟨g, 0, none⟩)]] w fun e w' => e = .returned (.bool (ends go (t.faults d p))) ∧ LookSt go base c g w w' (gath go l (t.faults d p)) G pv p := by
  obtain ⟨v0, v1, v2, v3, v4, v5, rfl, hti⟩ := ht
  obtain ⟨u0, u1, u2, u3, u4, rfl, hdi⟩ := hd
  have hcb := hst.cb; have hbs := hst.bs
  have hbw : Below w.heap.size w ((w.alloc (.cells #[v0, v1, v2, v3, v4, v5] 26)).alloc (.cells #[u0, u1, u2, u3, u4] 29)) := ((Below.refl _ _).alloc (Nat.le_refl _) _).alloc (by simp) _
  obtain ⟨G1, hst1, hlt, hplt, hback⟩ := hst.enter hbw
  have HFR := Lib.hid (LookFr.start (t := t) (d := d) hBc hbs hcb hti hdi (fun k hk => (hlt k hk).2) hplt)
  have HST1 := Lib.hid hst1; have HBACK := Lib.hid hback
  obtain ⟨A3, c3, A4, c4, A5, c5, rfl, rfl, rfl, rfl, rfl, rfl⟩ := hti.forms
  obtain ⟨B3, d3, B4, d4, rfl, rfl, rfl, rfl, rfl⟩ := hdi.forms
  have HF := Lib.hid hf; have HFD := Lib.hid hfd; have HALL := Lib.hid hall; have HPD := Lib.hid hpd; have HIHF := Lib.hid ihf; have HPRE := Lib.hid hpre; have HLEN := Lib.hid hlen; have HM := Lib.hid hm; have HK := Lib.hid hk
  have hll : l.length ≤ 100000 := by omega
  have hppl : p.length ≤ 10000 := by omega
  have HPL := Lib.hid hpl
  have g1 : (t.kind == 1) = true := by simp [hk]
  clear hst hst1 hlt hplt hback hti hdi hf hfd hall hpd ihf hpre hlen hk hm hbw hpl
  go_enter Tryz.func68, Tryz.ntmps68
  go_wp2_with fail
  generalize (w.alloc (.cells #[.int .i64 t.kind, .int .i64 t.lo, .int .i64 t.hi, .slice A3 t.names.length c3, .slice A4 t.fields.length c4, .slice A5 t.of.length c5] 26)).alloc (.cells #[.int .i64 d.kind, .int .i64 d.num, .string d.str, .slice B3 d.keys.length d3, .slice B4 d.kids.length d4] 29) = w1 at *
  refine (fits_any HF.out HFD.out (HFR.out.le HST1.out) ⟨_, _, _, _, _, _, rfl, HFR.out.tin HST1.out⟩ ⟨_, _, _, _, _, rfl, HFR.out.din HST1.out⟩).mono ?_
  rintro e w2 ⟨rfl, hb2⟩
  have HST2 := Lib.hid (HST1.out.next hb2)
  clear hb2
  by_cases h7 : fitsV t d = 7
  · have EF : Hid (t.faults d p = [(p, 7)]) := Lib.hid (by rw [faults_eq, h7]; simp)
    rw [h7]
    clear h7
    go_wp2_with fail
    go_at_call 67
    refine (HST2.out.tell HPRE.out hll hppl).mono ?_
    rintro e w3 ⟨rfl, hst3⟩
    have HST3 := Lib.hid hst3
    clear hst3
    rw [ends_one]
    by_cases hgo : go = true
    · rw [hgo]
      go_wp2_with fail
      go_ret
      exact ⟨ret_bool (by rw [EF.out, ends_one, hgo]), HBACK.out _ _ (by rw [EF.out]; exact HST3.out)⟩
    · have hgo' : go = false := by simpa using hgo
      rw [hgo']
      go_wp2_with fail
      go_ret
      exact ⟨ret_bool (by rw [EF.out, ends_one, hgo']), HBACK.out _ _ (by rw [EF.out]; exact HST3.out)⟩
  obtain ⟨hfe, hdk, h0⟩ := faults_rec (p := p) HK.out h7
  have EF := Lib.hid hfe; have HDK := Lib.hid hdk
  rw [h0]
  clear h7 hfe hdk h0
  obtain ⟨x0, x1, x2, x3, x4, x5⟩ := (HFR.out.box6 HST2.out).cells
  obtain ⟨y0, y1, y2, y3, y4⟩ := (HFR.out.box5 HST2.out).cells
  go_wp2_with fail
  go_at_call 105
  obtain ⟨G2, hst2, _, _, hback2⟩ := HST2.out.enter (Below.refl _ _)
  refine (HIHF.out t d _ _ pv w2 l G2 p HM.out HDK.out HALL.out HF.out HFD.out HPD.out HPRE.out (by rw [← EF.out]; exact HLEN.out) HPL.out hBc ⟨_, _, _, _, _, _, rfl, HFR.out.tin HST2.out⟩ ⟨_, _, _, _, _, rfl, HFR.out.din HST2.out⟩ hst2).mono ?_
  rintro e w3 ⟨rfl, hst3⟩
  have HST3 := Lib.hid (HBACK.out _ _ (hback2 _ _ hst3))
  clear hst3 hst2 hback2 x0 x1 x2 x3 x4 x5 y0 y1 y2 y3 y4
  go_wp2_with fail
  go_ret
  exact ⟨ret_bool (by rw [EF.out]), by rw [EF.out]; exact HST3.out⟩
theorem look_any (go : Bool) (base c g B : Nat) : ∀ m, LookTo go base c g B m := by
  intro m
  induction m with
  | zero => intro t d tv uv pv w l G p hm; have := T.depth_pos t; omega
  | succ m ih =>
    intro t d tv uv pv w l G p hm hall hf hfd hpd hpre hlen hpl hBc ht hd hst
    by_cases hk : t.kind = 1
    · exact look_rec (look_fields ih) hk hm hall hf hfd hpd hpre hlen hpl hBc ht hd hst
    · exact look_kids ih hk hm hall hf hfd hpd hpre hlen hpl hBc ht hd hst
end Go.Proofs.YteecdmceleanjaaGreatDoor
