/-
  The document's own all: records.
-/
import Derived.Test.YtlemlgllkcgigaaGreatDoorB10
import Derived.Test.YtlemlgllkcgigaaGreatDoorB12
import Derived.Test.YtlemlgllkcgigaaGreatDoorB13
import Derived.Test.YtlemlgllkcgigaaGreatDoorB14
namespace Go.Proofs.YtlemlgllkcgigaaGreatDoor
open Go.RowKit

theorem below_grown {W0 : Nat} {w w6 w7 : World} {v : Value} (hb : Below W0 w w6) (hg : w6.grownBy w7 v.ownBlock) (hv : ∀ k, v.ownBlock = some k → W0 ≤ k) (hW : W0 ≤ w6.heap.size) : Below W0 w w7 :=
  hb.trans ⟨hg.os, hg.tape, hg.output, hg.size, fun k hk => hg.block k (by omega) fun e => by have := hv k e.symm; omega⟩
theorem RowF.lt {W0 : Nat} {S0 : Nat → Prop} {w : World} {l : List Flt} {v : Value} (h : RowF W0 S0 w l v) : ∀ k, v.ownBlock = some k → W0 ≤ k ∧ k < w.heap.size := by
  obtain ⟨cs, h1, _⟩ := h.ex; exact h1.lt
theorem RowF.base {W0 W1 : Nat} {S0 : Nat → Prop} {w : World} {l : List Flt} {v : Value} (h : RowF W0 S0 w l v) (hW : W1 ≤ W0) : RowF W1 S0 w l v := by
  obtain ⟨cs, h1, h2⟩ := h.ex
  exact ⟨cs, ownsRow_base h1 hW, h2.keep (fun k hk => ⟨hk.1.imp id fun h => by omega, hk.2⟩) fun _ _ => rfl⟩
set_option maxHeartbeats 16000000 in
set_option maxRecDepth 100000 in
theorem rall_rec {m : Nat} (ih : RAllTo m) {t : T} {d : D} {tv uv pv : Value} {w : World} {B : Nat} {S0 : Nat → Prop} {p : List ByteArray} (hk : t.kind = 1) (hm : t.depth ≤ m + 1) (hall : allT t = true) (hf : t.Fit) (hfd : d.Fit) (hpd : partB d = true) (hds : d.size ≤ 512) (hlen : (t.faults d p).length ≤ 100000) (hpl : p.length + (m + 1) ≤ 10000) (hB : B ≤ w.heap.size)
    (ht : TypeV w B t tv) (hd : DocV w B d uv) (hp : StrsS w S0 pv p) (hS0 : ∀ k, S0 k → k < w.heap.size) :
    Calls Tryz.prog 43 #[tv, uv, pv] w fun e w' => ∃ v, e = .returned v ∧ RowF w.heap.size S0 w' (t.faults d p) v ∧ Below w.heap.size w w' := by
  obtain ⟨v0, v1, v2, v3, v4, v5, rfl, hti⟩ := ht
  obtain ⟨u0, u1, u2, u3, u4, rfl, hdi⟩ := hd
  have hp2 := hp
  obtain ⟨Ap, cp, rfl, _, _⟩ := hp2
  have hok := leastOk_of (show soundT t = true by rw [allT_eq, Bool.and_eq_true] at hall; exact hall.1)
  have hpd' := hpd
  rw [partB_eq, Bool.and_eq_true] at hpd'
  have hdk := docOk_of hpd'.1
  have ST := Lib.hid (TD.start hB hti hdi)
  have hz : ((w.alloc (.cells #[v0, v1, v2, v3, v4, v5] 26)).alloc (.cells #[u0, u1, u2, u3, u4] 29)).heap.size = w.heap.size + 2 := by simp
  obtain ⟨A3, c3, A4, c4, A5, c5, rfl, rfl, rfl, rfl, rfl, rfl⟩ := hti.forms
  obtain ⟨B3, d3, B4, d4, rfl, rfl, rfl, rfl, rfl⟩ := hdi.forms
  have HF := Lib.hid hf; have HFD := Lib.hid hfd; have HALL := Lib.hid hall; have HPARTS := Lib.hid hpd'.2; have HIH := Lib.hid ih; have HLEN := Lib.hid hlen; have HM := Lib.hid hm; have HOK := Lib.hid hok; have HDK := Lib.hid hdk; have HK := Lib.hid hk; have HDS := Lib.hid hds; have HP := Lib.hid hp; have HS0 := Lib.hid hS0; have HPL := Lib.hid hpl
  have hppl : p.length ≤ 9999 := by omega
  have g1 : (t.kind == 1) = true := by simp [hk]
  have g2 : (t.kind == 2) = false := by simp [hk]
  have g3 : (t.kind == 3) = false := by simp [hk]
  clear hti hdi hf hfd hall hpd hpd' ih hlen hm hok hdk hk hds hp hS0 hpl
  go_enter Tryz.func43, Tryz.ntmps43
  go_wp2_with fail
  generalize (w.alloc (.cells #[.int .i64 t.kind, .int .i64 t.lo, .int .i64 t.hi, .slice A3 t.names.length c3, .slice A4 t.fields.length c4, .slice A5 t.of.length c5] 26)).alloc (.cells #[.int .i64 d.kind, .int .i64 d.num, .string d.str, .slice B3 d.keys.length d3, .slice B4 d.kids.length d4] 29) = w1 at *
  refine (rfits_any HOK.out.kind HF.out HFD.out ST.out.le ST.out.tv ST.out.dv).mono ?_
  rintro e w2 ⟨rfl, hb2⟩
  have HB2 := Lib.hid hb2
  have hz2 := hb2.size
  have HPX : Hid (∀ X, Below w1.heap.size w1 X → StrsS X S0 (.slice Ap p.length cp) p) := Lib.hid (fun X h => HP.out.keep (fun _ h => h) fun q hq => (ST.out.bl.trans (h.mono (by have := ST.out.sz; omega))).cell (p := q) (HS0.out _ hq))
  have HZ : Hid (w1.heap.size = w.heap.size + 2) := Lib.hid hz
  have hzl : w.heap.size + 2 ≤ w1.heap.size := by omega
  have hBw : B ≤ w.heap.size := hB
  clear hb2 hz
  by_cases h7 : fitsV t d = 7
  · have EF : Hid (t.faults d p = [(p, 7)]) := Lib.hid (by rw [faults_eq, h7]; simp)
    rw [h7]
    clear h7
    go_wp2_with (at_builtin; refine wpList_flts (W0 := w1.heap.size) (S0 := S0) (l := []) rfl _ _ (by rfl) (by rfl) (by rfl) (RowF.nil _ _ _) (one_flt ((HPX.out w2 HB2.out).keep (w' := w2.alloc _) (fun _ h => h) fun q hq => World.cell?_alloc_lt w2 _ q (by have := HS0.out _ hq; omega)) (cell_block (heap_alloc_new w2 _) 0) (cell_block (heap_alloc_new w2 _) 1)) (fun k hk => ⟨.inl hk, by have := HS0.out k hk; simp; omega, by simp [Value.ownBlock]⟩) (by simp) (by simp; omega) ?_; intro v' w5 hr5 hg5 hat5)
    go_ret
    exact ⟨_, rfl, by rw [EF.out]; exact hr5.base (by omega), ST.out.bl.trans ((below_grown (HB2.out.alloc hz2 _) hg5 (by simp [Value.ownBlock]) (by simp; omega)).mono (by omega))⟩
  obtain ⟨hfe, hdkk, h0⟩ := faults_rec (p := p) HK.out h7
  have EF := Lib.hid hfe
  have HKK : Hid (d.keys.length = d.kids.length) := Lib.hid (HDK.out.same (.inl hdkk))
  rw [h0]
  clear h7 hfe hdkk h0
  go_wp2_with fail
  go_loopw [7, 9] (fun o i wr => ∃ k : Nat, k ≤ t.fields.length ∧ i = .int .i64 k ∧ RowF w1.heap.size S0 wr (faultsF (t.fields.take k) d p) o ∧ Below w1.heap.size w1 wr) (fun _ i _ => t.fields.length - (intOf i).toNat)
  case atStart => exact ⟨0, Nat.zero_le _, rfl, RowF.nil _ _ _, HB2.out⟩
  case round =>
    obtain ⟨k, hk0, rfl, hrow, hbw⟩ := hrel
    have HROW := Lib.hid hrow; have HBW := Lib.hid hbw
    have hzr := hbw.size
    have hfl10 : t.fields.length ≤ 10000 := HF.out.parts.2.1
    have hkl10 := HFD.out.keys
    have STR := Lib.hid (ST.out.next (hbw.mono (by omega)))
    obtain ⟨t0, t1, t2, t3, t4, t5⟩ := STR.out.bt.cells
    obtain ⟨u0, u1, u2, u3, u4⟩ := STR.out.bd.cells
    clear hrow hbw
    by_cases hlt : k < t.fields.length
    · have keepw : ∀ q : Addr, q.block < w.heap.size → wr.cell? q = w.cell? q := fun q hq => STR.out.bl.cell hq
      have htin := ST.out.tin.keep (w' := wr) (Nat.le_refl B) fun q hq => keepw q (by omega)
      have hdin := ST.out.din.keep (w' := wr) (Nat.le_refl B) fun q hq => keepw q (by omega)
      have HDIN := Lib.hid hdin
      obtain ⟨A', c', e5, _, hfv⟩ := htin.fields_
      injection e5 with e51 e52 e53
      subst e51; subst e53
      obtain ⟨bo, off, rfl, hboB, hfw⟩ := hfv (by omega)
      clear hfv e52 keepw
      obtain ⟨f, hfe⟩ : ∃ f, f = t.fields[k] := ⟨_, rfl⟩
      obtain ⟨g0, g1', z0, z1, z2, z3, z4, z5, g2', g3', g4, g5, g6, g7, hzi⟩ := hfw.at_ k hlt
      rw [← hfe] at g0 g1' hzi
      simp only [Nat.zero_add] at g0 g1' g2' g3' g4 g5 g6 g7
      have HZI := Lib.hid hzi
      obtain ⟨X3, x3, X4, x4, X5, x5, rfl, rfl, rfl, rfl, rfl, rfl⟩ := hzi.forms
      have hdep : f.type.depth ≤ m := by have := T.field_depth (t := t) (i := k) hlt; rw [← hfe] at this; have := HM.out; omega
      have HAX : Hid (allT f.type = true) := Lib.hid (by
        have h := HALL.out
        rw [allT_eq, Bool.and_eq_true] at h
        have h2 := h.2
        rw [T.kids, allL_append, Bool.and_eq_true] at h2
        rw [hfe]; have h3 := allL_at h2.1 (i := k) (by simpa using hlt); simpa using h3)
      have HFX : Hid f.type.Fit := Lib.hid (by rw [hfe]; exact (HF.out.parts.2.2.2.2.1.at_ hlt).type)
      have HSUC : Hid (faultsF (t.fields.take (k + 1)) d p = faultsF (t.fields.take k) d p ++ faultsF1 f d p) := Lib.hid (by rw [faultsF_take _ _ _ _ hlt, hfe])
      have hLN : (faultsF (t.fields.take k) d p).length + (faultsF1 f d p).length ≤ 100000 := by
        have h2 := HLEN.out
        rw [EF.out] at h2
        have h3 := faultsF_len t.fields d p (k + 1)
        rw [HSUC.out, List.length_append] at h3
        simp only [recFl, List.length_append] at h2
        omega
      have HLN := Lib.hid hLN
      have hik0 : (0 : Int) ≤ (k : Int) := by omega
      have hik1 : (k : Int) < (t.fields.length : Int) := by omega
      have hbol : bo < wr.heap.size := by omega
      clear hfe hzi htin hdin hfw hLN
      go_upto_region 11 with fail
      obtain ⟨wz, hwz⟩ : ∃ wz, wz = wr.alloc (.cells #[.string f.name, .bool f.opt, .int .i64 f.type.kind, .int .i64 f.type.lo, .int .i64 f.type.hi, .slice X3 f.type.names.length x3, .slice X4 f.type.fields.length x4, .slice X5 f.type.of.length x5] 48) := ⟨_, rfl⟩
      have HBZ : Hid (Below wr.heap.size wr wz) := by rw [hwz]; exact (Below.refl _ _).alloc (Nat.le_refl _) _
      have HKB : Hid (Box8 wz wr.heap.size f.name f.opt (.int .i64 f.type.kind) (.int .i64 f.type.lo) (.int .i64 f.type.hi) (.slice X3 f.type.names.length x3) (.slice X4 f.type.fields.length x4) (.slice X5 f.type.of.length x5)) := by rw [hwz]; exact heap_alloc_new wr _
      have hzz : wr.heap.size + 1 ≤ wz.heap.size := by rw [hwz]; simp
      rw [← hwz]
      clear hwz
      have mv : ∀ b o, b < wr.heap.size → wr.cell? ⟨b, o, none⟩ = wz.cell? ⟨b, o, none⟩ := fun b o h => (HBZ.out.cell (p := ⟨b, o, none⟩) h).symm
      rw [mv _ _ (by omega)] at u0 u1 u2 u3 u4
      clear t0 t1 t2 t3 t4 t5 mv g0 g1' g2' g3' g4 g5 g6 g7
      obtain ⟨k0, k1, k2, k3, k4, k5, k6, k7⟩ := HKB.out.cells
      have HZZ := Lib.hid (HZI.out.keep (Nat.le_refl B) fun q hq => HBZ.out.cell (p := q) (by omega))
      have HDZ := Lib.hid (HDIN.out.keep (Nat.le_refl B) fun q hq => HBZ.out.cell (p := q) (by omega))
      have hBz : B ≤ wz.heap.size := by omega
      go_wp2_with fail
      go_at_call 71
      refine (rkey_any (w := wz) hBz ⟨_, _, _, _, _, rfl, HDZ.out⟩ hkl10).mono ?_
      rintro e wk ⟨rfl, hbk⟩
      have HBK : Hid (Below wr.heap.size wr wk) := Lib.hid (HBZ.out.trans (hbk.mono (by omega)))
      have hzk := hbk.size
      have HKB2 := Lib.hid (HKB.out.same (hbk.block _ (by omega)))
      have HDK2 := Lib.hid (HDZ.out.keep (w' := wk) (Nat.le_refl B) fun q hq => hbk.cell (p := q) (by omega))
      have HZK2 := Lib.hid (HZZ.out.keep (w' := wk) (Nat.le_refl B) fun q hq => hbk.cell (p := q) (by omega))
      have mv2 : ∀ b o, b < wz.heap.size → wz.cell? ⟨b, o, none⟩ = wk.cell? ⟨b, o, none⟩ := fun b o h => (hbk.cell (p := ⟨b, o, none⟩) h).symm
      rw [mv2 _ _ (by omega)] at u4
      clear k0 k1 k2 k3 k4 k5 k6 k7 u0 u1 u2 u3 mv2 hbk
      obtain ⟨k0, k1, k2, k3, k4, k5, k6, k7⟩ := HKB2.out.cells
      have HB1K : Hid (Below w1.heap.size w1 wk) := Lib.hid (HBW.out.trans (HBK.out.mono hzr))
      have hul := HROW.out.lt
      have HUL := Lib.hid hul
      clear hul
      by_cases hidx : 0 ≤ Lib.idxOfS d.keys f.name
      · obtain ⟨j, hj⟩ : ∃ j : Nat, Lib.idxOfS d.keys f.name = (j : Int) := ⟨(Lib.idxOfS d.keys f.name).toNat, by omega⟩
        have hjl : j < d.keys.length := by have := idxOfS_lt _ _ hidx; rw [hj] at this; simpa using this
        have hjk : j < d.kids.length := by rw [← HKK.out]; exact hjl
        obtain ⟨y, hye⟩ : ∃ y, y = d.kids[j] := ⟨_, rfl⟩
        have HF1 : Hid (faultsF1 f d p = f.type.faults y (p ++ [f.name])) := Lib.hid (by
          rw [faultsF1_eq, if_pos hidx, hj, List.getD_eq_getElem?_getD, Int.toNat_natCast, List.getElem?_eq_getElem hjk, ← hye]; rfl)
        rw [hj]
        obtain ⟨_, _, hkv⟩ := HDK2.out.kids_
        obtain ⟨bk, offk, rfl, hbkB, hkw⟩ := hkv (by omega)
        clear hkv
        obtain ⟨q0, q1, q2, q3, q4, r0, r1, r2, r3, r4, hyi⟩ := hkw.at_ j hjk
        rw [← hye] at hyi
        simp only [Nat.zero_add] at r0 r1 r2 r3 r4
        have HYZ := Lib.hid hyi
        obtain ⟨Y3, y3, Y4, y4, rfl, rfl, rfl, rfl, rfl⟩ := hyi.forms
        have HFY : Hid y.Fit := Lib.hid (by rw [hye]; exact HFD.out.kid hjk)
        have HPY : Hid (partB y = true) := Lib.hid (by rw [hye]; exact partsB_at HPARTS.out hjk)
        have HSY : Hid (y.size ≤ 512) := Lib.hid (by have h1 := D.size_at d.kids j hjk; have h2 := D.size_eq d; have h3 := HDS.out; rw [← hye] at h1; omega)
        have hS : ∀ X : World, (∀ b o, (b = wr.heap.size ∨ b = w.heap.size + 1 ∨ b = bk) → X.cell? ⟨b, o, none⟩ = wk.cell? ⟨b, o, none⟩) → X.cell? ⟨wr.heap.size, 0, none⟩ = some (.string f.name) ∧ X.cell? ⟨wr.heap.size, 2, none⟩ = some (.int .i64 f.type.kind) ∧ X.cell? ⟨wr.heap.size, 3, none⟩ = some (.int .i64 f.type.lo) ∧ X.cell? ⟨wr.heap.size, 4, none⟩ = some (.int .i64 f.type.hi) ∧ X.cell? ⟨wr.heap.size, 5, none⟩ = some (.slice X3 f.type.names.length x3) ∧ X.cell? ⟨wr.heap.size, 6, none⟩ = some (.slice X4 f.type.fields.length x4) ∧ X.cell? ⟨wr.heap.size, 7, none⟩ = some (.slice X5 f.type.of.length x5) ∧ X.cell? ⟨w.heap.size + 1, 4, none⟩ = some (.slice (some ⟨bk, offk, none⟩) d.kids.length d4) ∧ X.cell? ⟨bk, offk + j * 5, none⟩ = some (.int .i64 y.kind) ∧ X.cell? ⟨bk, offk + j * 5 + 1, none⟩ = some (.int .i64 y.num) ∧ X.cell? ⟨bk, offk + j * 5 + 2, none⟩ = some (.string y.str) ∧ X.cell? ⟨bk, offk + j * 5 + 3, none⟩ = some (.slice Y3 y.keys.length y3) ∧ X.cell? ⟨bk, offk + j * 5 + 4, none⟩ = some (.slice Y4 y.kids.length y4) := fun X hX => ⟨(hX _ _ (.inl rfl)).trans k0, (hX _ _ (.inl rfl)).trans k2, (hX _ _ (.inl rfl)).trans k3, (hX _ _ (.inl rfl)).trans k4, (hX _ _ (.inl rfl)).trans k5, (hX _ _ (.inl rfl)).trans k6, (hX _ _ (.inl rfl)).trans k7, (hX _ _ (.inr (.inl rfl))).trans u4, (hX _ _ (.inr (.inr rfl))).trans r0, (hX _ _ (.inr (.inr rfl))).trans r1, (hX _ _ (.inr (.inr rfl))).trans r2, (hX _ _ (.inr (.inr rfl))).trans r3, (hX _ _ (.inr (.inr rfl))).trans r4⟩
        have HS := Lib.hid hS
        have HK4 : Hid (∀ b o, (b = wr.heap.size ∨ b = w.heap.size + 1 ∨ b = bk) → wk.drew.cell? ⟨b, o, none⟩ = wk.cell? ⟨b, o, none⟩) := Lib.hid (fun _ _ _ => rfl)
        have HSB : Hid (∀ b, (b = wr.heap.size ∨ b = w.heap.size + 1 ∨ b = bk) → b < wk.heap.size) := Lib.hid (fun b h => by omega)
        have HPK : Hid (Strs wk.drew wk.heap.size (.slice Ap p.length cp) p) := Lib.hid (((HPX.out wk HB1K.out).keep (w' := wk.drew) (fun _ h => h) fun _ _ => rfl).strs fun k hk => by have := HS0.out k hk; show k < wk.heap.size; omega)
        have hppl2 : p.length ≤ 10000 := by omega
        have hj0 : (0 : Int) ≤ (j : Int) := by omega
        have hj1 : (j : Int) < (d.kids.length : Int) := by omega
        have hpm : p.length + 1 + m ≤ 10000 := by have := HPL.out; omega
        clear hye hkw hyi hidx hj hS k1
        go_wp2_with fail
        go_region_held3 (fun w' => w'.cell? ⟨wr.heap.size, 0, none⟩ = some (.string f.name) ∧ w'.cell? ⟨wr.heap.size, 2, none⟩ = some (.int .i64 f.type.kind) ∧ w'.cell? ⟨wr.heap.size, 3, none⟩ = some (.int .i64 f.type.lo) ∧ w'.cell? ⟨wr.heap.size, 4, none⟩ = some (.int .i64 f.type.hi) ∧ w'.cell? ⟨wr.heap.size, 5, none⟩ = some (.slice X3 f.type.names.length x3) ∧ w'.cell? ⟨wr.heap.size, 6, none⟩ = some (.slice X4 f.type.fields.length x4) ∧ w'.cell? ⟨wr.heap.size, 7, none⟩ = some (.slice X5 f.type.of.length x5) ∧ w'.cell? ⟨w.heap.size + 1, 4, none⟩ = some (.slice (some ⟨bk, offk, none⟩) d.kids.length d4) ∧ w'.cell? ⟨bk, offk + j * 5, none⟩ = some (.int .i64 y.kind) ∧ w'.cell? ⟨bk, offk + j * 5 + 1, none⟩ = some (.int .i64 y.num) ∧ w'.cell? ⟨bk, offk + j * 5 + 2, none⟩ = some (.string y.str) ∧ w'.cell? ⟨bk, offk + j * 5 + 3, none⟩ = some (.slice Y3 y.keys.length y3) ∧ w'.cell? ⟨bk, offk + j * 5 + 4, none⟩ = some (.slice Y4 y.kids.length y4))
          (first | with_reducible exact HS.out _ HK4.out | with_reducible exact HS.out _ HK5.out | with_reducible exact HS.out _ HK6.out | with_reducible exact HS.out _ HK7.out)
          ((first
            | (go_at_call 72
               refine (rbelow_any (w := wk.drew) (B := wk.heap.size) (Nat.le_refl _) HPK.out hppl2).mono ?_
               rintro e w5 ⟨vb, rfl, hbo, hb5⟩
               have hb5' : Below wk.heap.size wk w5 := (Below.refl _ _).drew.trans hb5
               have HBO := Lib.hid hbo; have HB5 := Lib.hid hb5'
               have hz5 : wk.heap.size ≤ w5.heap.size := hb5'.size
               have HK5 : Hid (∀ b o, (b = wr.heap.size ∨ b = w.heap.size + 1 ∨ b = bk) → w5.cell? ⟨b, o, none⟩ = wk.cell? ⟨b, o, none⟩) := Lib.hid (fun b o h => hb5'.cell (p := ⟨b, o, none⟩) (HSB.out b h))
               clear hbo hb5 hb5')
            | (go_at_call 43
               refine (HIH.out f.type y _ _ vb w5 B (fun k => vb.ownBlock = some k) (p ++ [f.name]) hdep HAX.out HFX.out HFY.out HPY.out HSY.out (by rw [← HF1.out]; have := HLN.out; omega) (by simp; omega) (by omega) ⟨_, _, _, _, _, _, rfl, HZK2.out.keep (Nat.le_refl B) fun q hq => HB5.out.cell (p := q) (by omega)⟩ ⟨_, _, _, _, _, rfl, HYZ.out.keep (Nat.le_refl B) fun q hq => HB5.out.cell (p := q) (by omega)⟩ (strsS_own HBO.out) (fun k hk => (HBO.out.lt k hk).2)).mono ?_
               rintro e w6 ⟨v6, rfl, hr6, hb6⟩
               have hz6 : w5.heap.size ≤ w6.heap.size := hb6.size
               have HB6 : Hid (Below wk.heap.size wk w6) := Lib.hid (HB5.out.trans (hb6.mono hz5))
               have HR6 : Hid (RowF w1.heap.size S0 w6 (faultsF (t.fields.take k) d p) u7) := Lib.hid (HROW.out.past (HBK.out.trans (HB6.out.mono (by omega))))
               have HFL6 := Lib.hid hr6.flt
               have HS6 : Hid (∀ k, ((vb.ownBlock = some k ∨ w5.heap.size ≤ k) ∧ k < w6.heap.size ∧ v6.ownBlock ≠ some k) → (S0 k ∨ w1.heap.size ≤ k) ∧ k < w6.heap.size ∧ u7.ownBlock ≠ some k) := Lib.hid (fun k hk => by
                 have hkl : wk.heap.size ≤ k := by
                   rcases hk.1 with h | h
                   · exact (HBO.out.lt k h).1
                   · omega
                 exact ⟨.inr (by omega), hk.2.1, fun e => by have := (HUL.out k e).2; omega⟩)
               have HK6 : Hid (∀ b o, (b = wr.heap.size ∨ b = w.heap.size + 1 ∨ b = bk) → w6.cell? ⟨b, o, none⟩ = wk.cell? ⟨b, o, none⟩) := Lib.hid (fun b o h => HB6.out.cell (p := ⟨b, o, none⟩) (HSB.out b h))
               clear hr6 hb6)
            | (refine step_append_flts (by rfl) _ _ (by rfl) (by rfl) (by rfl) HR6.out HFL6.out HS6.out (by rw [← HF1.out]; exact HLN.out) (by omega) ?_
               intro v' w7 hr7 hg7 hat7
               have HR7 := Lib.hid hr7
               have HB7 : Hid (Below w1.heap.size w1 w7) := Lib.hid (below_grown (HB1K.out.trans (HB6.out.mono (by omega))) hg7 (fun k hk => (HUL.out k hk).1) (by omega))
               have HK7 : Hid (∀ b o, (b = wr.heap.size ∨ b = w.heap.size + 1 ∨ b = bk) → w7.cell? ⟨b, o, none⟩ = wk.cell? ⟨b, o, none⟩) := Lib.hid (fun b o h => (World.cell?_of_block (a := ⟨b, o, none⟩) (hg7.block b (by have := HSB.out b h; omega) (fun e => by have := HUL.out b e.symm; omega))).trans (HK6.out b o h))
               clear hr7 hg7 hat7)))
        clear k0 k2 k3 k4 k5 k6 k7 u4 r0 r1 r2 r3 r4
        go_wp2_with fail
        go_roundw
        case rel => exact ⟨k + 1, by omega, by go_num, by rw [HSUC.out, HF1.out]; exact HR7.out, HB7.out⟩
        case measure => simp [intOf]; omega
      · have hlt0 : decide (0 ≤ Lib.idxOfS d.keys f.name) = false := by simpa using hidx
        have HF0 : Hid (faultsF1 f d p = if f.opt then [] else [(p ++ [f.name], 9)]) := Lib.hid (by rw [faultsF1_eq, if_neg hidx])
        clear hidx
        by_cases hopt : f.opt = true
        · have HRN : Hid (RowF w1.heap.size S0 wk (faultsF (t.fields.take (k + 1)) d p) u7) := Lib.hid (by rw [HSUC.out, HF0.out, if_pos hopt, List.append_nil]; exact HROW.out.past HBK.out)
          rw [hopt] at k1
          clear hopt
          go_wp2_with fail
          go_roundw
          case rel => exact ⟨k + 1, by omega, by go_num, HRN.out, HB1K.out⟩
          case measure => simp [intOf]; omega
        · have hopt' : f.opt = false := by simpa using hopt
          have HF2 : Hid (faultsF1 f d p = [(p ++ [f.name], 9)]) := Lib.hid (by rw [HF0.out, if_neg hopt])
          have HPK : Hid (Strs wk wk.heap.size (.slice Ap p.length cp) p) := Lib.hid ((HPX.out wk HB1K.out).strs fun k hk => by have := HS0.out k hk; omega)
          rw [hopt'] at k1
          clear hopt hopt'
          go_wp2_with fail
          go_at_call 72
          refine (rbelow_any (w := wk) (B := wk.heap.size) (Nat.le_refl _) HPK.out (by omega)).mono ?_
          rintro e w5 ⟨vb, rfl, hbo, hb5⟩
          have hz5 := hb5.size
          have HB5 := Lib.hid hb5
          have HR5 : Hid (RowF w1.heap.size S0 w5 (faultsF (t.fields.take k) d p) u7) := Lib.hid (HROW.out.past (HBK.out.trans (hb5.mono (by omega))))
          obtain ⟨Ab, cb, rfl⟩ := ownsRow_slice hbo
          have hxx := strsS_own hbo
          have hbl := hbo.lt
          obtain ⟨np, hnp⟩ : ∃ np, (p ++ [f.name]).length = np := ⟨_, rfl⟩
          rw [hnp] at hxx hbl
          rw [hnp]
          have HXX := Lib.hid hxx; have HBL := Lib.hid hbl
          clear hbo hb5 hxx hbl hnp
          go_wp2_with (at_builtin; refine wpList_flts (W0 := w1.heap.size) (S0 := S0) rfl _ _ (by rfl) (by rfl) (by rfl) (HR5.out.past ((Below.refl _ _).alloc (Nat.le_refl _) _)) (one_flt (HXX.out.keep (w' := w5.alloc _) (fun _ h => h) fun q hq => World.cell?_alloc_lt w5 _ q (HBL.out _ hq).2) (cell_block (heap_alloc_new w5 _) 0) (cell_block (heap_alloc_new w5 _) 1)) (fun k hk => ⟨.inr (by have := (HBL.out k hk).1; omega), by have := (HBL.out k hk).2; simp; omega, fun e => by have := (HUL.out k e).2; have := (HBL.out k hk).1; omega⟩) (by have h := HLN.out; rw [HF2.out] at h; exact h) (by simp; omega) ?_; intro v' w7 hr7 hg7 hat7; have HR7 := Lib.hid hr7; have HB7 : Hid (Below w1.heap.size w1 w7) := Lib.hid (below_grown ((HB1K.out.trans (HB5.out.mono (by omega))).alloc (by omega) _) hg7 (fun k hk => (HUL.out k hk).1) (by simp; omega)); clear hr7 hg7 hat7)
          go_roundw
          case rel => exact ⟨k + 1, by omega, by go_num, by rw [HSUC.out, HF2.out]; exact HR7.out, HB7.out⟩
          case measure => simp [intOf]; omega
    · have hkk : t.fields.take k = t.fields := List.take_of_length_le (by omega)
      have HROWF : Hid (RowF w1.heap.size S0 wr (faultsF t.fields d p) u7) := Lib.hid (by have h := HROW.out; rw [hkk] at h; exact h)
      clear hkk
      go_wp2_with fail
      clear t0 t1 t2 t3 t4 t5 u0 u1 u2 u3 u4
      go_loopw [7, 12] (fun o i wr => ∃ k : Nat, k ≤ d.keys.length ∧ i = .int .i64 k ∧ RowF w1.heap.size S0 wr (faultsF t.fields d p ++ moreFl p (moreV t (d.keys.take k))) o ∧ Below w1.heap.size w1 wr) (fun _ i _ => d.keys.length - (intOf i).toNat)
      case atStart => exact ⟨0, Nat.zero_le _, rfl, by simpa [moreFl, moreV] using HROWF.out, HBW.out⟩
      case round =>
        obtain ⟨k, hk0, rfl, hrow, hbw⟩ := hrel
        have HROW2 := Lib.hid hrow; have HBW2 := Lib.hid hbw
        have hzr2 := hbw.size
        have STR2 := Lib.hid (ST.out.next (hbw.mono (by omega)))
        obtain ⟨t0, t1, t2, t3, t4, t5⟩ := STR2.out.bt.cells
        obtain ⟨u0, u1, u2, u3, u4⟩ := STR2.out.bd.cells
        have HUL := Lib.hid hrow.lt
        clear hrow hbw
        by_cases hlt2 : k < d.keys.length
        · obtain ⟨bq, offq, rfl, hbq, _, hkey⟩ := STR2.out.strs_at hlt2
          obtain ⟨S, hSe⟩ : ∃ S, S = d.keys[k] := ⟨_, rfl⟩
          have hmt := moreV_take t d.keys k hlt2
          rw [← hSe] at hkey hmt
          obtain ⟨fl, hfl⟩ : ∃ fl, fieldOf t S = fl := ⟨_, rfl⟩
          rw [hfl] at hmt
          have HMT : Hid (faultsF t.fields d p ++ moreFl p (moreV t (d.keys.take (k + 1))) = (faultsF t.fields d p ++ moreFl p (moreV t (d.keys.take k))) ++ moreFl p (if fl < 0 then [S] else [])) := Lib.hid (by rw [hmt, List.append_assoc]; simp [moreFl])
          have HFLE := Lib.hid hfl
          have HLN2 : Hid ((faultsF t.fields d p ++ moreFl p (moreV t (d.keys.take k))).length + 1 ≤ 100000 ∨ fl ≥ 0) := Lib.hid (by
            by_cases hn : fl < 0
            · left
              have h2 := HLEN.out
              rw [EF.out] at h2
              have h3 : (moreV t (d.keys.take (k + 1))).length ≤ (moreV t d.keys).length := by
                unfold moreV
                exact List.Sublist.length_le (List.Sublist.filter _ (List.take_sublist _ _))
              rw [hmt, if_pos hn] at h3
              simp only [recFl, moreFl, List.length_append, List.length_map, List.length_cons, List.length_nil] at h2 h3 ⊢
              omega
            · right; omega)
          have hik0 : (0 : Int) ≤ (k : Int) := by omega
          have hik1 : (k : Int) < (d.keys.length : Int) := by omega
          have hln : w.heap.size < wr.heap.size := by omega
          have hln1 : w.heap.size + 1 < wr.heap.size := by omega
          have hlq : bq < wr.heap.size := by omega
          have hS : ∀ X : World, Below wr.heap.size wr X → X.cell? ⟨w.heap.size, 0, none⟩ = some (.int .i64 t.kind) ∧ X.cell? ⟨w.heap.size, 1, none⟩ = some (.int .i64 t.lo) ∧ X.cell? ⟨w.heap.size, 2, none⟩ = some (.int .i64 t.hi) ∧ X.cell? ⟨w.heap.size, 3, none⟩ = some (.slice A3 t.names.length c3) ∧ X.cell? ⟨w.heap.size, 4, none⟩ = some (.slice A4 t.fields.length c4) ∧ X.cell? ⟨w.heap.size, 5, none⟩ = some (.slice A5 t.of.length c5) ∧ X.cell? ⟨w.heap.size + 1, 3, none⟩ = some (.slice (some ⟨bq, offq, none⟩) d.keys.length d3) ∧ X.cell? ⟨bq, offq + k, none⟩ = some (.string S) := fun X h => by
            have hX : ∀ b o, b < wr.heap.size → X.cell? ⟨b, o, none⟩ = wr.cell? ⟨b, o, none⟩ := fun b o hb => h.cell (p := ⟨b, o, none⟩) hb
            exact ⟨(hX _ _ hln).trans t0, (hX _ _ hln).trans t1, (hX _ _ hln).trans t2, (hX _ _ hln).trans t3, (hX _ _ hln).trans t4, (hX _ _ hln).trans t5, (hX _ _ hln1).trans u3, (hX _ _ hlq).trans hkey⟩
          have HS := Lib.hid hS
          have STX := Lib.hid (STR2.out.next (w' := wr.drew) ((Below.refl wr.heap.size wr).drew.mono (by omega)))
          clear hS hSe hmt hfl
          go_wp2_with fail
          go_region_held3 (fun w' => w'.cell? ⟨w.heap.size, 0, none⟩ = some (.int .i64 t.kind) ∧ w'.cell? ⟨w.heap.size, 1, none⟩ = some (.int .i64 t.lo) ∧ w'.cell? ⟨w.heap.size, 2, none⟩ = some (.int .i64 t.hi) ∧ w'.cell? ⟨w.heap.size, 3, none⟩ = some (.slice A3 t.names.length c3) ∧ w'.cell? ⟨w.heap.size, 4, none⟩ = some (.slice A4 t.fields.length c4) ∧ w'.cell? ⟨w.heap.size, 5, none⟩ = some (.slice A5 t.of.length c5) ∧ w'.cell? ⟨w.heap.size + 1, 3, none⟩ = some (.slice (some ⟨bq, offq, none⟩) d.keys.length d3) ∧ w'.cell? ⟨bq, offq + k, none⟩ = some (.string S))
            (first | with_reducible exact HS.out _ ((Below.refl wr.heap.size wr).drew) | with_reducible exact HS.out _ h5)
            ((go_at_call 73
              refine (rfield_any HF.out STX.out.le STX.out.tv).mono ?_
              rintro e w5 ⟨rfl, hb5⟩
              rw [HFLE.out]
              have h5 : Below wr.heap.size wr w5 := (Below.refl wr.heap.size wr).drew.trans hb5
              clear hb5))
          obtain ⟨s0, s1, s2, s3, s4, s5, s6, s7⟩ := HS.out w5 h5
          have hz5 := h5.size
          have HB15 : Hid (Below w1.heap.size w1 w5) := Lib.hid (HBW2.out.trans (h5.mono hzr2))
          have HR5 : Hid (RowF w1.heap.size S0 w5 (faultsF t.fields d p ++ moreFl p (moreV t (d.keys.take k))) u7) := Lib.hid (HROW2.out.past h5)
          clear t0 t1 t2 t3 t4 t5 u0 u1 u2 u3 u4 hkey h5
          by_cases hneg : fl < 0
          · have HRS : Hid (faultsF t.fields d p ++ moreFl p (moreV t (d.keys.take (k + 1))) = (faultsF t.fields d p ++ moreFl p (moreV t (d.keys.take k))) ++ [(p ++ [S], 10)]) := Lib.hid (by rw [HMT.out, if_pos hneg]; rfl)
            have hlnn : (faultsF t.fields d p ++ moreFl p (moreV t (d.keys.take k))).length + 1 ≤ 100000 := by rcases HLN2.out with h | h <;> omega
            have HLNN := Lib.hid hlnn
            have HPK : Hid (Strs w5 w5.heap.size (.slice Ap p.length cp) p) := Lib.hid ((HPX.out w5 HB15.out).strs fun k hk => by have := HS0.out k hk; omega)
            clear hlnn
            go_wp2_with fail
            go_at_call 72
            refine (rbelow_any (w := w5) (B := w5.heap.size) (Nat.le_refl _) HPK.out (by omega)).mono ?_
            rintro e w6 ⟨vb, rfl, hbo, hb6⟩
            have hz6 := hb6.size
            have HB6 := Lib.hid hb6
            have HR6 := Lib.hid (HR5.out.past hb6)
            obtain ⟨Ab, cb, rfl⟩ := ownsRow_slice hbo
            have hxx := strsS_own hbo
            have hbl := hbo.lt
            obtain ⟨np, hnp⟩ : ∃ np, (p ++ [S]).length = np := ⟨_, rfl⟩
            rw [hnp] at hxx hbl
            rw [hnp]
            have HXX := Lib.hid hxx; have HBL := Lib.hid hbl
            clear hbo hb6 hxx hbl hnp
            go_wp2_with (at_builtin; refine wpList_flts (W0 := w1.heap.size) (S0 := S0) rfl _ _ (by rfl) (by rfl) (by rfl) (HR6.out.past ((Below.refl _ _).alloc (Nat.le_refl _) _)) (one_flt (HXX.out.keep (w' := w6.alloc _) (fun _ h => h) fun q hq => World.cell?_alloc_lt w6 _ q (HBL.out _ hq).2) (cell_block (heap_alloc_new w6 _) 0) (cell_block (heap_alloc_new w6 _) 1)) (fun k hk => ⟨.inr (by have := (HBL.out k hk).1; omega), by have := (HBL.out k hk).2; simp; omega, fun e => by have := (HUL.out k e).2; have := (HBL.out k hk).1; omega⟩) HLNN.out (by simp; omega) ?_; intro v' w7 hr7 hg7 hat7; have HR7 := Lib.hid hr7; have HB7 : Hid (Below w1.heap.size w1 w7) := Lib.hid (below_grown ((HB15.out.trans (HB6.out.mono (by omega))).alloc (by omega) _) hg7 (fun k hk => (HUL.out k hk).1) (by simp; omega)); clear hr7 hg7 hat7)
            go_roundw
            case rel => exact ⟨k + 1, by omega, by go_num, by rw [HRS.out]; exact HR7.out, HB7.out⟩
            case measure => simp [intOf]; omega
          · have HRS : Hid (faultsF t.fields d p ++ moreFl p (moreV t (d.keys.take (k + 1))) = faultsF t.fields d p ++ moreFl p (moreV t (d.keys.take k))) := Lib.hid (by rw [HMT.out, if_neg hneg]; simp [moreFl])
            go_wp2_with fail
            go_roundw
            case rel => exact ⟨k + 1, by omega, by go_num, by rw [HRS.out]; exact HR5.out, HB15.out⟩
            case measure => simp [intOf]; omega
        · have hkk : d.keys.take k = d.keys := List.take_of_length_le (by omega)
          have HROWE : Hid (RowF w1.heap.size S0 wr (t.faults d p) u7) := Lib.hid (by have h := HROW2.out; rw [hkk] at h; rw [EF.out]; exact h)
          clear hkk
          go_wp2_with fail
          refine wp_loop_rounds 1 ?_
          rw [rounds_succ]
          by_cases hkd : 0 < d.kids.length
          · have hkd1 : (0 : Int) < (d.kids.length : Int) := by omega
            go_wp2_with fail
            go_ret
            exact ⟨_, rfl, HROWE.out.base (by omega), STR2.out.bl⟩
          · have hkd0 : d.kids.length = 0 := by omega
            have hkd1 : ¬ ((0 : Int) < (d.kids.length : Int)) := by omega
            go_wp2_with fail
            go_ret
            exact ⟨_, rfl, HROWE.out.base (by omega), STR2.out.bl⟩
end Go.Proofs.YtlemlgllkcgigaaGreatDoor
