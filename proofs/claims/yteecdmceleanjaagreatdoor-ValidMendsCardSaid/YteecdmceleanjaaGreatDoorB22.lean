/-
  valid.mendFields.
-/
import Derived.Test.YteecdmceleanjaaGreatDoorB21
import Derived.Deep.Cut
namespace Go.Proofs.YteecdmceleanjaaGreatDoor
open Go.RowKit

/-- The document that grows, made by a statement that may part its steps. -/
def MendBox (w1 : World) (kd : Int) (n : Nat) (s6 s7 : Value) (wx : World) : Prop :=
  ∃ box, s6 = .pointer (some ⟨box, 0, none⟩) ∧ s7 = .int .i64 n ∧ w1.heap.size ≤ box ∧ Box5 wx box (.int .i64 kd) (.int .i64 0) (.string ⟨#[]⟩) (.slice none 0 0) (.slice none 0 0) ∧ Below w1.heap.size w1 wx
theorem MendBox.late {w1 w5 : World} {kd : Int} {n : Nat} (hB5 : Below w1.heap.size w1 w5) : MendBox w1 kd n (.pointer (some ⟨w5.heap.size, 0, none⟩)) (.int .i64 n) (w5.alloc (.cells #[.int .i64 kd, .int .i64 0, .string ⟨#[]⟩, .slice none 0 0, .slice none 0 0] 29)) :=
  ⟨w5.heap.size, rfl, rfl, hB5.size, Box5.new w5 _ _ _ _ _, hB5.alloc hB5.size _⟩
theorem MendBox.early {w1 w5 : World} {kd : Int} {n b : Nat} (hb5 : Below (w1.alloc (.cells #[.int .i64 0, .int .i64 0, .string ⟨#[]⟩, .slice none 0 0, .slice none 0 0] 29)).drew.heap.size (w1.alloc (.cells #[.int .i64 0, .int .i64 0, .string ⟨#[]⟩, .slice none 0 0, .slice none 0 0] 29)).drew w5) (hz : w1.heap.size = b) :
    MendBox w1 kd n (.pointer (some ⟨b, 0, none⟩)) (.int .i64 n) (((((w5.setCell ⟨b, 0, none⟩ (.int .i64 kd)).setCell ⟨b, 1, none⟩ (.int .i64 0)).setCell ⟨b, 2, none⟩ (.string ⟨#[]⟩)).setCell ⟨b, 3, none⟩ (.slice none 0 0)).setCell ⟨b, 4, none⟩ (.slice none 0 0)) := by
  subst hz
  have hbx : Box5 w5 w1.heap.size (.int .i64 0) (.int .i64 0) (.string ⟨#[]⟩) (.slice none 0 0) (.slice none 0 0) := (Box5.new w1 _ _ _ _ _).same (hb5.block _ (by show _ < (World.alloc _ _).heap.size; simp))
  have hB5 : Below w1.heap.size w1 w5 := (((Below.refl w1.heap.size w1).alloc (Nat.le_refl _) _).drew).trans (hb5.mono (by show _ ≤ (World.alloc _ _).heap.size; simp))
  exact ⟨w1.heap.size, rfl, rfl, Nat.le_refl _, ((((hbx.set0 _).set1 _).set2 _).set3 _).set4 _, ((((hB5.setCell (Nat.le_refl _) _).setCell (Nat.le_refl _) _).setCell (Nat.le_refl _) _).setCell (Nat.le_refl _) _).setCell (Nat.le_refl _) _⟩
set_option maxHeartbeats 16000000 in
set_option maxRecDepth 100000 in
theorem mend_fields {m : Nat} (ih : MendTo m) {t : T} {d : D} {tv uv : Value} {w : World} {B : Nat} (hk : t.kind = 1) (hm : t.depth ≤ m + 1) (hr : rightT t = true) (hf : t.Fit) (hfd : d.Fit) (hdk : d.kind = 1) (hpd : partB d = true) (hds : d.size ≤ 512) (hB : B ≤ w.heap.size) (ht : TypeV w B t tv) (hd : DocV w B d uv) :
    Calls Tryz.prog 83 #[tv, uv] w (MadeDoc2 w.heap.size w (.mk d.kind 0 ⟨#[]⟩ ((mendF t.fields d).map fun x => x.1) ((mendF t.fields d).map fun x => x.2.1)) (.int .i64 ((moreV t d.keys).length + ((mendF t.fields d).map fun x => x.2.2).sum : Nat))) := by
  obtain ⟨v0, v1, v2, v3, v4, v5, rfl, hti⟩ := ht
  obtain ⟨u0, u1, u2, u3, u4, rfl, hdi⟩ := hd
  have hpd' := hpd
  rw [partB_eq, Bool.and_eq_true] at hpd'
  have hkk := (docOk_of hpd'.1).same (.inl hdk)
  have ST := Lib.hid ((TD.start hB hti hdi).next (w' := ((w.alloc (.cells #[v0, v1, v2, v3, v4, v5] 26)).alloc (.cells #[u0, u1, u2, u3, u4] 29)).alloc (.cells #[.int .i64 0, .int .i64 0, .string ⟨#[]⟩, .slice none 0 0, .slice none 0 0] 29)) ((Below.refl _ _).alloc (by simp) _))
  have HR : Hid (Box5 (((w.alloc (.cells #[v0, v1, v2, v3, v4, v5] 26)).alloc (.cells #[u0, u1, u2, u3, u4] 29)).alloc (.cells #[.int .i64 0, .int .i64 0, .string ⟨#[]⟩, .slice none 0 0, .slice none 0 0] 29)) (w.heap.size + 1 + 1) (.int .i64 0) (.int .i64 0) (.string ⟨#[]⟩) (.slice none 0 0) (.slice none 0 0)) := Box5.new' (by simp) _ _ _ _ _
  have hz : (((w.alloc (.cells #[v0, v1, v2, v3, v4, v5] 26)).alloc (.cells #[u0, u1, u2, u3, u4] 29)).alloc (.cells #[.int .i64 0, .int .i64 0, .string ⟨#[]⟩, .slice none 0 0, .slice none 0 0] 29)).heap.size = w.heap.size + 3 := by simp
  obtain ⟨A3, c3, A4, c4, A5, c5, rfl, rfl, rfl, rfl, rfl, rfl⟩ := hti.forms
  obtain ⟨B3, d3, B4, d4, rfl, rfl, rfl, rfl, rfl⟩ := hdi.forms
  have hbd : ((mendF t.fields d).map fun x => x.2.2).sum ≤ 65536 := by
    have h := mend_bound hr hpd hds
    have h0 : fitsV t d = 0 := by
      have hkv : kindV t = 1 := by unfold kindV; rw [if_pos hk]
      unfold fitsV; rw [if_pos (by rw [hdk, hkv]), if_pos (ranged_rec hk)]
    rw [mend_eq, if_pos h0, if_pos hk] at h
    simp only at h
    omega
  have HBD := Lib.hid hbd
  clear hbd
  have HF := Lib.hid hf; have HFD := Lib.hid hfd; have HRT := Lib.hid hr; have HPARTS := Lib.hid hpd'.2; have HIH := Lib.hid ih; have HM := Lib.hid hm; have HKK := Lib.hid hkk; have HDS := Lib.hid hds
  clear hti hdi hf hfd hr hpd hpd' ih hm hk hkk hds hdk
  go_enter Tryz.func83, Tryz.ntmps83
  go_wp2_with fail
  generalize (((w.alloc (.cells #[.int .i64 t.kind, .int .i64 t.lo, .int .i64 t.hi, .slice A3 t.names.length c3, .slice A4 t.fields.length c4, .slice A5 t.of.length c5] 26)).alloc (.cells #[.int .i64 d.kind, .int .i64 d.num, .string d.str, .slice B3 d.keys.length d3, .slice B4 d.kids.length d4] 29)).alloc (.cells #[.int .i64 0, .int .i64 0, .string ⟨#[]⟩, .slice none 0 0, .slice none 0 0] 29)) = w1 at *
  go_cut [6, 7] (fun s6 s7 wx => MendBox w1 d.kind (moreV t d.keys).length s6 s7 wx)
  case first =>
    obtain ⟨x0, x1, x2, x3, x4, x5⟩ := ST.out.bt.cells
    obtain ⟨y0, y1, y2, y3, y4⟩ := ST.out.bd.cells
    have hlt1 : w.heap.size < w1.heap.size := by omega
    have hlt2 : w.heap.size + 1 < w1.heap.size := by omega
    have hS : ∀ X, Below w1.heap.size w1 X → X.cell? ⟨w.heap.size, 0, none⟩ = some (.int .i64 t.kind) ∧ X.cell? ⟨w.heap.size, 1, none⟩ = some (.int .i64 t.lo) ∧ X.cell? ⟨w.heap.size, 2, none⟩ = some (.int .i64 t.hi) ∧ X.cell? ⟨w.heap.size, 3, none⟩ = some (.slice A3 t.names.length c3) ∧ X.cell? ⟨w.heap.size, 4, none⟩ = some (.slice A4 t.fields.length c4) ∧ X.cell? ⟨w.heap.size, 5, none⟩ = some (.slice A5 t.of.length c5) ∧ X.cell? ⟨w.heap.size + 1, 0, none⟩ = some (.int .i64 d.kind) ∧ X.cell? ⟨w.heap.size + 1, 1, none⟩ = some (.int .i64 d.num) ∧ X.cell? ⟨w.heap.size + 1, 2, none⟩ = some (.string d.str) ∧ X.cell? ⟨w.heap.size + 1, 3, none⟩ = some (.slice B3 d.keys.length d3) ∧ X.cell? ⟨w.heap.size + 1, 4, none⟩ = some (.slice B4 d.kids.length d4) := fun X h => by
      have hX : ∀ b o, b < w1.heap.size → X.cell? ⟨b, o, none⟩ = w1.cell? ⟨b, o, none⟩ := fun b o hb => h.cell (p := ⟨b, o, none⟩) hb
      exact ⟨(hX _ _ hlt1).trans x0, (hX _ _ hlt1).trans x1, (hX _ _ hlt1).trans x2, (hX _ _ hlt1).trans x3, (hX _ _ hlt1).trans x4, (hX _ _ hlt1).trans x5, (hX _ _ hlt2).trans y0, (hX _ _ hlt2).trans y1, (hX _ _ hlt2).trans y2, (hX _ _ hlt2).trans y3, (hX _ _ hlt2).trans y4⟩
    have HS := Lib.hid hS
    clear hS
    go_region_held3 (fun w' => w'.cell? ⟨w.heap.size, 0, none⟩ = some (.int .i64 t.kind) ∧ w'.cell? ⟨w.heap.size, 1, none⟩ = some (.int .i64 t.lo) ∧ w'.cell? ⟨w.heap.size, 2, none⟩ = some (.int .i64 t.hi) ∧ w'.cell? ⟨w.heap.size, 3, none⟩ = some (.slice A3 t.names.length c3) ∧ w'.cell? ⟨w.heap.size, 4, none⟩ = some (.slice A4 t.fields.length c4) ∧ w'.cell? ⟨w.heap.size, 5, none⟩ = some (.slice A5 t.of.length c5) ∧ w'.cell? ⟨w.heap.size + 1, 0, none⟩ = some (.int .i64 d.kind) ∧ w'.cell? ⟨w.heap.size + 1, 1, none⟩ = some (.int .i64 d.num) ∧ w'.cell? ⟨w.heap.size + 1, 2, none⟩ = some (.string d.str) ∧ w'.cell? ⟨w.heap.size + 1, 3, none⟩ = some (.slice B3 d.keys.length d3) ∧ w'.cell? ⟨w.heap.size + 1, 4, none⟩ = some (.slice B4 d.kids.length d4))
      ((with_reducible refine HS.out _ ?_; repeat (first | with_reducible exact Below.refl _ _ | with_reducible exact hB5 | with_reducible refine Below.drew ?_ | (with_reducible refine Below.alloc ?_ ?_ _; rotate_left; (focus (first | omega | (simp; done) | (simp; omega)))) | (with_reducible refine Below.setCell ?_ ?_ _; rotate_left; (focus (first | (show w1.heap.size ≤ w1.heap.size; omega) | (show w1.heap.size ≤ w5.heap.size; omega) | (simp; omega)))))))
      ((first
        | (go_at_call 116
           refine (more_any (w := w1.drew) (B := B) HF.out HFD.out ((ST.out.next ((Below.refl w1.heap.size w1).drew.mono (by omega))).le) ((ST.out.next ((Below.refl w1.heap.size w1).drew.mono (by omega))).tv) ((ST.out.next ((Below.refl w1.heap.size w1).drew.mono (by omega))).dv)).mono ?_
           rintro e w5 ⟨vm, rfl, hmo, hb5⟩
           obtain ⟨A7, c7, rfl⟩ := ownsRow_slice hmo
           have hB5 : Below w1.heap.size w1 w5 := by first | exact ((Below.refl w1.heap.size w1).drew).trans (hb5.mono (by show w1.heap.size ≤ w1.heap.size; omega)) | exact ((((Below.refl w1.heap.size w1).alloc (Nat.le_refl _) _).drew).trans (hb5.mono (by simp)))
           obtain ⟨hc5, hf5⟩ := below_add hb5
           have hz5 := hb5.size
           (try simp at hz5)
           clear hmo)
        | (go_at_call 116
           refine (more_any (w := (w1.alloc (.cells #[.int .i64 0, .int .i64 0, .string ⟨#[]⟩, .slice none 0 0, .slice none 0 0] 29)).drew) (B := B) HF.out HFD.out ((ST.out.next ((((Below.refl w1.heap.size w1).alloc (Nat.le_refl _) _).drew).mono (by omega))).le) ((ST.out.next ((((Below.refl w1.heap.size w1).alloc (Nat.le_refl _) _).drew).mono (by omega))).tv) ((ST.out.next ((((Below.refl w1.heap.size w1).alloc (Nat.le_refl _) _).drew).mono (by omega))).dv)).mono ?_
           rintro e w5 ⟨vm, rfl, hmo, hb5⟩
           obtain ⟨A7, c7, rfl⟩ := ownsRow_slice hmo
           have hB5 : Below w1.heap.size w1 w5 := by first | exact ((Below.refl w1.heap.size w1).drew).trans (hb5.mono (by show w1.heap.size ≤ w1.heap.size; omega)) | exact ((((Below.refl w1.heap.size w1).alloc (Nat.le_refl _) _).drew).trans (hb5.mono (by simp)))
           obtain ⟨hc5, hf5⟩ := below_add hb5
           have hz5 := hb5.size
           (try simp at hz5)
           clear hmo)))
    all_goals (go_wp2_with fail)
    all_goals go_meet
    all_goals first
      | with_reducible exact MendBox.late hB5
      | with_reducible exact MendBox.early hb5 hz
  case rest =>
    obtain ⟨box, rfl, rfl, hbox, hbx, hbw⟩ := hcut
    generalize wc = w3 at *
    have hb3 := hbx.lt
    have hz3 := hbw.size
    have HBX := Lib.hid hbx; have HBW := Lib.hid hbw
    have ST3 := Lib.hid (ST.out.next (hbw.mono (by omega)))
    obtain ⟨x0, x1, x2, x3, x4, x5⟩ := ST3.out.bt.cells
    obtain ⟨y0, y1, y2, y3, y4⟩ := ST3.out.bd.cells
    have hml : (moreV t d.keys).length ≤ 10000 := by have := moreV_len t d.keys; have := HFD.out.keys; omega
    clear hbx hbw
    go_wp2_with fail
    clear x0 x1 x2 x3 x4 x5 y0 y1 y2 y3 y4
    go_loopw [7, 23] (fun s7 i wr => ∃ (k : Nat) (v3 v4 : Value) (cs : List Value) (F : List Nat), k ≤ t.fields.length ∧ s7 = .int .i64 (((moreV t d.keys).length + ((mendF (t.fields.take k) d).map fun x => x.2.2).sum : Nat) : Int) ∧ i = .int .i64 k ∧ DocSt w3 wr box d.kind 0 ⟨#[]⟩ ((mendF (t.fields.take k) d).map fun x => x.1) ((mendF (t.fields.take k) d).map fun x => x.2.1) v3 v4 cs F) (fun _ i _ => t.fields.length - (intOf i).toNat)
    case atStart => exact ⟨0, _, _, [], [], Nat.zero_le _, by simp [mendF], rfl, HBX.out, World.ownsRow_nil _ _ _ _, World.ownsRow_nil _ _ _ _, by simp [OwnKids, mendF], by simp [blk, Value.ownBlock], Turned.of_below (Below.refl _ _) _ _⟩
    case round =>
      obtain ⟨k, v3, v4, cs, F, hk0, rfl, rfl, hst⟩ := hrel
      have HST := Lib.hid hst
      have hzr := hst.t.size
      clear hst
      have hfl10 : t.fields.length ≤ 10000 := HF.out.parts.2.1
      have hlow : ∀ j, j < w3.heap.size → j ≠ box → wr.heap[j]? = w3.heap[j]? := fun j hj hne => HST.out.t.block j hj (by simp) hne
      have HLOW := Lib.hid hlow
      clear hlow
      by_cases hlt : k < t.fields.length
      · have keepw : ∀ q : Addr, q.block < w.heap.size → wr.cell? q = w.cell? q := fun q hq => World.cell?_of_block (a := q) ((HLOW.out q.block (by omega) (by omega)).trans (ST3.out.bl.block q.block hq))
        have htin := ST3.out.tin.keep (w' := wr) (Nat.le_refl B) fun q hq => keepw q (by omega)
        have hdin := ST3.out.din.keep (w' := wr) (Nat.le_refl B) fun q hq => keepw q (by omega)
        have HDIN := Lib.hid hdin
        obtain ⟨A', c', e5, _, hfv⟩ := htin.fields_
        injection e5 with e51 e52 e53
        subst e51; subst e53
        obtain ⟨bo, off, rfl, hboB, hfw⟩ := hfv (by omega)
        clear hfv e52 keepw
        obtain ⟨f, hfe⟩ : ∃ f, f = t.fields[k] := ⟨_, rfl⟩
        obtain ⟨g0, g1', z0, z1, z2, z3, z4, z5, g2, g3, g4, g5, g6, g7, hzi⟩ := hfw.at_ k hlt
        rw [← hfe] at g0 g1' hzi
        simp only [Nat.zero_add] at g0 g1' g2 g3 g4 g5 g6 g7
        have HZI := Lib.hid hzi
        obtain ⟨X3, x3, X4, x4, X5, x5, rfl, rfl, rfl, rfl, rfl, rfl⟩ := hzi.forms
        obtain ⟨t0, t1, t2, t3, t4, t5⟩ := (ST3.out.bt.same (HLOW.out _ (by omega) (by omega))).cells
        obtain ⟨u0, u1, u2, u3, u4⟩ := (ST3.out.bd.same (HLOW.out _ (by omega) (by omega))).cells
        have hdep : f.type.depth ≤ m := by have := T.field_depth (t := t) (i := k) hlt; rw [← hfe] at this; have := HM.out; omega
        have HRX : Hid (rightT f.type = true) := Lib.hid (by rw [hfe]; exact rightT_field HRT.out hlt)
        have HFX : Hid f.type.Fit := Lib.hid (by rw [hfe]; exact (HF.out.parts.2.2.2.2.1.at_ hlt).type)
        have HSUC : Hid (mendF (t.fields.take (k + 1)) d = mendF (t.fields.take k) d ++ mendF1 f d) := Lib.hid (by rw [mendF_take _ _ _ hlt, hfe])
        have hik0 : (0 : Int) ≤ (k : Int) := by omega
        have hik1 : (k : Int) < (t.fields.length : Int) := by omega
        have hbol : bo < wr.heap.size := by omega
        clear hfe hzi htin hdin hfw
        go_upto_region 6 with fail
        obtain ⟨wz, hwz⟩ : ∃ wz, wz = (wr.alloc (.cells #[.string f.name, .bool f.opt, .int .i64 f.type.kind, .int .i64 f.type.lo, .int .i64 f.type.hi, .slice X3 f.type.names.length x3, .slice X4 f.type.fields.length x4, .slice X5 f.type.of.length x5] 48)).alloc (.cells #[.int .i64 0, .int .i64 0, .string ⟨#[]⟩, .slice none 0 0, .slice none 0 0] 29) := ⟨_, rfl⟩
        have HBZ : Hid (Below wr.heap.size wr wz) := by rw [hwz]; exact ((Below.refl _ _).alloc (Nat.le_refl _) _).alloc (by simp) _
        have HKB : Hid (Box8 wz wr.heap.size f.name f.opt (.int .i64 f.type.kind) (.int .i64 f.type.lo) (.int .i64 f.type.hi) (.slice X3 f.type.names.length x3) (.slice X4 f.type.fields.length x4) (.slice X5 f.type.of.length x5)) := by rw [hwz]; exact (Below.heap_alloc _ _ _ (by simp)).trans (heap_alloc_new wr _)
        have HZB : Hid (Box5 wz (wr.heap.size + 1) (.int .i64 0) (.int .i64 0) (.string ⟨#[]⟩) (.slice none 0 0) (.slice none 0 0)) := by rw [hwz]; exact Box5.new' (by simp) _ _ _ _ _
        have hzz : wz.heap.size = wr.heap.size + 2 := by rw [hwz]; simp
        rw [← hwz]
        clear hwz
        have mv : ∀ b o, b < wr.heap.size → wr.cell? ⟨b, o, none⟩ = wz.cell? ⟨b, o, none⟩ := fun b o h => (HBZ.out.cell (p := ⟨b, o, none⟩) h).symm
        rw [mv _ _ (by omega)] at u0 u1 u2 u3 u4
        clear t0 t1 t2 t3 t4 t5 mv g0 g1' g2 g3 g4 g5 g6 g7
        obtain ⟨k0, k1, k2, k3, k4, k5, k6, k7⟩ := HKB.out.cells
        have HZZ := Lib.hid (HZI.out.keep (Nat.le_refl B) fun q hq => HBZ.out.cell (p := q) (by omega))
        have HDZ := Lib.hid (HDIN.out.keep (Nat.le_refl B) fun q hq => HBZ.out.cell (p := q) (by omega))
        have hBz : B ≤ wz.heap.size := by omega
        have hkl10 := HFD.out.keys
        have hnx : w.heap.size + 1 < wz.heap.size := by omega
        have hfx : wr.heap.size < wz.heap.size := by omega
        have hzx : wr.heap.size + 1 < wz.heap.size := by omega
        obtain ⟨s0, s1, s2, s3, s4⟩ := HZB.out.cells
        have s5 := HZB.out.frozen
        go_wp2_with fail
        go_at_call 117
        refine (idx_any d.keys _ f.name B wz HDZ.out.keys_ hkl10).mono ?_
        rintro e w' ⟨rfl, hw'⟩
        rw [hw']
        clear hw'
        by_cases hidx : 0 ≤ Lib.idxOfS d.keys f.name
        focus
          obtain ⟨j, hj⟩ : ∃ j : Nat, Lib.idxOfS d.keys f.name = (j : Int) := ⟨(Lib.idxOfS d.keys f.name).toNat, by omega⟩
          have hjl : j < d.keys.length := by have := idxOfS_lt _ _ hidx; rw [hj] at this; simpa using this
          have hjk : j < d.kids.length := by rw [← HKK.out]; exact hjl
          obtain ⟨y, hye⟩ : ∃ y, y = d.kids[j] := ⟨_, rfl⟩
          obtain ⟨x, nx, hmx⟩ : ∃ x nx, f.type.mend y = (x, nx) := ⟨_, _, rfl⟩
          have HM1 : Hid (mendF1 f d = [(f.name, x, nx)]) := Lib.hid (by
            rw [mendF1_eq, if_pos hidx, hj, List.getD_eq_getElem?_getD, Int.toNat_natCast, List.getElem?_eq_getElem hjk, ← hye, Option.getD_some, hmx])
          rw [hj]
          obtain ⟨_, _, hkv⟩ := HDZ.out.kids_
          obtain ⟨bk, offk, rfl, hbkB, hkw⟩ := hkv (by omega)
          clear hkv
          obtain ⟨q0, q1, q2, q3, q4, r0, r1, r2, r3, r4, hyi⟩ := hkw.at_ j hjk
          rw [← hye] at hyi
          simp only [Nat.zero_add] at r0 r1 r2 r3 r4
          have HYZ := Lib.hid hyi
          obtain ⟨Y3, y3, Y4, y4, rfl, rfl, rfl, rfl, rfl⟩ := hyi.forms
          have HFY : Hid y.Fit := Lib.hid (by rw [hye]; exact HFD.out.kid hjk)
          have HPY : Hid (partB y = true) := Lib.hid (by rw [hye]; exact partsB_at HPARTS.out hjk)
          have HSY : Hid (y.size ≤ 512) := Lib.hid (by have h1 := D.size_at d.kids j hjk; have h2 := D.size_eq d; have h3 := HDS.out; rw [← hye] at h1; omega)
          have HNX : Hid (nx ≤ 65536) := Lib.hid (by have h := mend_bound HRX.out HPY.out HSY.out; rw [hmx] at h; exact h)
          have hcall := HIH.out f.type y _ _ wz.drew B hdep HRX.out HFX.out HFY.out HPY.out HSY.out (by show B ≤ wz.heap.size; omega) ⟨_, _, _, _, _, _, rfl, TypeIn.keep (w := wz) (w' := wz.drew) (Nat.le_refl _) (fun _ _ => rfl) HZZ.out⟩ ⟨_, _, _, _, _, rfl, DocIn.keep (w := wz) (w' := wz.drew) (Nat.le_refl _) (fun _ _ => rfl) HYZ.out⟩
          rw [hmx] at hcall
          have HCALL := Lib.hid hcall
          have hS : ∀ X : World, (∀ b o, (b = wr.heap.size ∨ b = w.heap.size + 1 ∨ b = bk) → X.cell? ⟨b, o, none⟩ = wz.cell? ⟨b, o, none⟩) → X.cell? ⟨wr.heap.size, 2, none⟩ = some (.int .i64 f.type.kind) ∧ X.cell? ⟨wr.heap.size, 3, none⟩ = some (.int .i64 f.type.lo) ∧ X.cell? ⟨wr.heap.size, 4, none⟩ = some (.int .i64 f.type.hi) ∧ X.cell? ⟨wr.heap.size, 5, none⟩ = some (.slice X3 f.type.names.length x3) ∧ X.cell? ⟨wr.heap.size, 6, none⟩ = some (.slice X4 f.type.fields.length x4) ∧ X.cell? ⟨wr.heap.size, 7, none⟩ = some (.slice X5 f.type.of.length x5) ∧ X.cell? ⟨w.heap.size + 1, 4, none⟩ = some (.slice (some ⟨bk, offk, none⟩) d.kids.length d4) ∧ X.cell? ⟨bk, offk + j * 5, none⟩ = some (.int .i64 y.kind) ∧ X.cell? ⟨bk, offk + j * 5 + 1, none⟩ = some (.int .i64 y.num) ∧ X.cell? ⟨bk, offk + j * 5 + 2, none⟩ = some (.string y.str) ∧ X.cell? ⟨bk, offk + j * 5 + 3, none⟩ = some (.slice Y3 y.keys.length y3) ∧ X.cell? ⟨bk, offk + j * 5 + 4, none⟩ = some (.slice Y4 y.kids.length y4) := fun X hX => ⟨(hX _ _ (.inl rfl)).trans k2, (hX _ _ (.inl rfl)).trans k3, (hX _ _ (.inl rfl)).trans k4, (hX _ _ (.inl rfl)).trans k5, (hX _ _ (.inl rfl)).trans k6, (hX _ _ (.inl rfl)).trans k7, (hX _ _ (.inr (.inl rfl))).trans u4, (hX _ _ (.inr (.inr rfl))).trans r0, (hX _ _ (.inr (.inr rfl))).trans r1, (hX _ _ (.inr (.inr rfl))).trans r2, (hX _ _ (.inr (.inr rfl))).trans r3, (hX _ _ (.inr (.inr rfl))).trans r4⟩
          have HS := Lib.hid hS
          have HK4 : Hid (∀ b o, (b = wr.heap.size ∨ b = w.heap.size + 1 ∨ b = bk) → wz.drew.cell? ⟨b, o, none⟩ = wz.cell? ⟨b, o, none⟩) := Lib.hid (fun _ _ _ => rfl)
          have hbkl : bk < wr.heap.size := by omega
          have hj0 : (0 : Int) ≤ (j : Int) := by omega
          have hj1 : (j : Int) < (d.kids.length : Int) := by omega
          clear hye hkw hyi hidx hj hmx hcall hS k0 k1 u0 u1 u2 u3
          go_wp2_with fail
          go_region_held3 (fun w' => w'.cell? ⟨wr.heap.size, 2, none⟩ = some (.int .i64 f.type.kind) ∧ w'.cell? ⟨wr.heap.size, 3, none⟩ = some (.int .i64 f.type.lo) ∧ w'.cell? ⟨wr.heap.size, 4, none⟩ = some (.int .i64 f.type.hi) ∧ w'.cell? ⟨wr.heap.size, 5, none⟩ = some (.slice X3 f.type.names.length x3) ∧ w'.cell? ⟨wr.heap.size, 6, none⟩ = some (.slice X4 f.type.fields.length x4) ∧ w'.cell? ⟨wr.heap.size, 7, none⟩ = some (.slice X5 f.type.of.length x5) ∧ w'.cell? ⟨w.heap.size + 1, 4, none⟩ = some (.slice (some ⟨bk, offk, none⟩) d.kids.length d4) ∧ w'.cell? ⟨bk, offk + j * 5, none⟩ = some (.int .i64 y.kind) ∧ w'.cell? ⟨bk, offk + j * 5 + 1, none⟩ = some (.int .i64 y.num) ∧ w'.cell? ⟨bk, offk + j * 5 + 2, none⟩ = some (.string y.str) ∧ w'.cell? ⟨bk, offk + j * 5 + 3, none⟩ = some (.slice Y3 y.keys.length y3) ∧ w'.cell? ⟨bk, offk + j * 5 + 4, none⟩ = some (.slice Y4 y.kids.length y4))
            (first | with_reducible exact HS.out _ HK4.out | with_reducible exact HS.out _ HK8.out | with_reducible exact HS.out _ HK9.out)
            ((go_at_call 51
              refine HCALL.out.mono ?_
              rintro e w8 ⟨y0, y1, y2, y3', y4', G, rfl, hG, hGn, hb8⟩
              obtain ⟨A7, c7, A8, c8, rfl, rfl, rfl, rfl, rfl⟩ := hG.doc.forms
              have hb8' : Below wz.heap.size wz w8 := (Below.refl _ _).drew.trans hb8
              have HG := Lib.hid hG; have HGN := Lib.hid hGn; have HB8 := Lib.hid hb8'
              have HK8 : Hid (∀ b o, (b = wr.heap.size ∨ b = w.heap.size + 1 ∨ b = bk) → w8.cell? ⟨b, o, none⟩ = wz.cell? ⟨b, o, none⟩) := Lib.hid (fun b o h => hb8'.cell (p := ⟨b, o, none⟩) (by show b < _; omega))
              have HK9 : Hid (∀ b o, (b = wr.heap.size ∨ b = w.heap.size + 1 ∨ b = bk) → (((((w8.setCell ⟨wr.heap.size + 1, 0, none⟩ (.int .i64 x.kind)).setCell ⟨wr.heap.size + 1, 1, none⟩ (.int .i64 x.num)).setCell ⟨wr.heap.size + 1, 2, none⟩ (.string x.str)).setCell ⟨wr.heap.size + 1, 3, none⟩ (.slice A7 x.keys.length c7)).setCell ⟨wr.heap.size + 1, 4, none⟩ (.slice A8 x.kids.length c8)).cell? ⟨b, o, none⟩ = wz.cell? ⟨b, o, none⟩) := Lib.hid (fun b o h => (World.cell?_of_block (a := ⟨b, o, none⟩) (by
                have hne : b ≠ wr.heap.size + 1 := by omega
                show (World.setCell _ _ _).heap[b]? = w8.heap[b]?
                rw [Below.heap_setCell _ _ _ b hne, Below.heap_setCell _ _ _ b hne, Below.heap_setCell _ _ _ b hne, Below.heap_setCell _ _ _ b hne, Below.heap_setCell _ _ _ b hne])).trans (HK8.out b o h))
              have m0 : ∀ o, w8.cell? ⟨wr.heap.size + 1, o, none⟩ = wz.cell? ⟨wr.heap.size + 1, o, none⟩ := fun o => hb8'.cell (p := ⟨wr.heap.size + 1, o, none⟩) hzx
              have m5 : ∀ o, w8.frozen? ⟨wr.heap.size + 1, o, none⟩ = false := fun o => (hb8'.frozen (p := ⟨wr.heap.size + 1, o, none⟩) hzx).trans (s5 o)
              have n0 := (m0 0).trans s0; have n1 := (m0 1).trans s1; have n2 := (m0 2).trans s2; have n3 := (m0 3).trans s3; have n4 := (m0 4).trans s4
              clear hG hGn hb8 hb8' m0))
          clear r0 r1 r2 r3 r4 k2 k3 k4 k5 k6 k7 u4 HK8 HK9 HK4 HS
          have hnx9 : nx ≤ 65536 := HNX.out
          have HX9 : Hid (OwnIn (((((w8.setCell ⟨wr.heap.size + 1, 0, none⟩ (.int .i64 x.kind)).setCell ⟨wr.heap.size + 1, 1, none⟩ (.int .i64 x.num)).setCell ⟨wr.heap.size + 1, 2, none⟩ (.string x.str)).setCell ⟨wr.heap.size + 1, 3, none⟩ (.slice A7 x.keys.length c7)).setCell ⟨wr.heap.size + 1, 4, none⟩ (.slice A8 x.kids.length c8)) wz.heap.size x (.int .i64 x.kind) (.int .i64 x.num) (.string x.str) (.slice A7 x.keys.length c7) (.slice A8 x.kids.length c8) G) := Lib.hid (HG.out.same (by show wz.heap.size ≤ wz.heap.size; omega) fun b hb => by
            have hne : b ≠ wr.heap.size + 1 := by have h9 : wz.heap.size ≤ b := (HG.out.lt b hb).1; omega
            rw [Below.heap_setCell _ _ _ b hne, Below.heap_setCell _ _ _ b hne, Below.heap_setCell _ _ _ b hne, Below.heap_setCell _ _ _ b hne, Below.heap_setCell _ _ _ b hne])
          have HKB9 : Hid (Box5 (((((w8.setCell ⟨wr.heap.size + 1, 0, none⟩ (.int .i64 x.kind)).setCell ⟨wr.heap.size + 1, 1, none⟩ (.int .i64 x.num)).setCell ⟨wr.heap.size + 1, 2, none⟩ (.string x.str)).setCell ⟨wr.heap.size + 1, 3, none⟩ (.slice A7 x.keys.length c7)).setCell ⟨wr.heap.size + 1, 4, none⟩ (.slice A8 x.kids.length c8)) (wr.heap.size + 1) (.int .i64 x.kind) (.int .i64 x.num) (.string x.str) (.slice A7 x.keys.length c7) (.slice A8 x.kids.length c8)) := Lib.hid ((((((HZB.out.same (HB8.out.block _ hzx)).set0 _).set1 _).set2 _).set3 _).set4 _)
          have HBW9 : Hid (Below wr.heap.size wr (((((w8.setCell ⟨wr.heap.size + 1, 0, none⟩ (.int .i64 x.kind)).setCell ⟨wr.heap.size + 1, 1, none⟩ (.int .i64 x.num)).setCell ⟨wr.heap.size + 1, 2, none⟩ (.string x.str)).setCell ⟨wr.heap.size + 1, 3, none⟩ (.slice A7 x.keys.length c7)).setCell ⟨wr.heap.size + 1, 4, none⟩ (.slice A8 x.kids.length c8))) := Lib.hid ((((((HBZ.out.trans (HB8.out.mono (by omega))).setCell (by show wr.heap.size ≤ wr.heap.size + 1; omega) _).setCell (by show wr.heap.size ≤ wr.heap.size + 1; omega) _).setCell (by show wr.heap.size ≤ wr.heap.size + 1; omega) _).setCell (by show wr.heap.size ≤ wr.heap.size + 1; omega) _).setCell (by show wr.heap.size ≤ wr.heap.size + 1; omega) _)
          have HFB9 : Hid (Box8 (((((w8.setCell ⟨wr.heap.size + 1, 0, none⟩ (.int .i64 x.kind)).setCell ⟨wr.heap.size + 1, 1, none⟩ (.int .i64 x.num)).setCell ⟨wr.heap.size + 1, 2, none⟩ (.string x.str)).setCell ⟨wr.heap.size + 1, 3, none⟩ (.slice A7 x.keys.length c7)).setCell ⟨wr.heap.size + 1, 4, none⟩ (.slice A8 x.kids.length c8)) wr.heap.size f.name f.opt (.int .i64 f.type.kind) (.int .i64 f.type.lo) (.int .i64 f.type.hi) (.slice X3 f.type.names.length x3) (.slice X4 f.type.fields.length x4) (.slice X5 f.type.of.length x5)) := Lib.hid (HKB.out.same (by
            have hne : wr.heap.size ≠ wr.heap.size + 1 := by omega
            rw [Below.heap_setCell _ _ _ _ hne, Below.heap_setCell _ _ _ _ hne, Below.heap_setCell _ _ _ _ hne, Below.heap_setCell _ _ _ _ hne, Below.heap_setCell _ _ _ _ hne]
            exact HB8.out.block _ hfx))
          have hz9 : wz.heap.size ≤ (((((w8.setCell ⟨wr.heap.size + 1, 0, none⟩ (.int .i64 x.kind)).setCell ⟨wr.heap.size + 1, 1, none⟩ (.int .i64 x.num)).setCell ⟨wr.heap.size + 1, 2, none⟩ (.string x.str)).setCell ⟨wr.heap.size + 1, 3, none⟩ (.slice A7 x.keys.length c7)).setCell ⟨wr.heap.size + 1, 4, none⟩ (.slice A8 x.kids.length c8)).heap.size := by simp only [size_setCell]; exact HB8.out.size
          have hG9 : ∀ b ∈ G, wz.heap.size ≤ b ∧ b < (((((w8.setCell ⟨wr.heap.size + 1, 0, none⟩ (.int .i64 x.kind)).setCell ⟨wr.heap.size + 1, 1, none⟩ (.int .i64 x.num)).setCell ⟨wr.heap.size + 1, 2, none⟩ (.string x.str)).setCell ⟨wr.heap.size + 1, 3, none⟩ (.slice A7 x.keys.length c7)).setCell ⟨wr.heap.size + 1, 4, none⟩ (.slice A8 x.kids.length c8)).heap.size := fun b hb => HX9.out.lt b hb
          have HG9 := Lib.hid hG9
          clear hG9
          generalize ((((w8.setCell ⟨wr.heap.size + 1, 0, none⟩ (.int .i64 x.kind)).setCell ⟨wr.heap.size + 1, 1, none⟩ (.int .i64 x.num)).setCell ⟨wr.heap.size + 1, 2, none⟩ (.string x.str)).setCell ⟨wr.heap.size + 1, 3, none⟩ (.slice A7 x.keys.length c7)).setCell ⟨wr.heap.size + 1, 4, none⟩ (.slice A8 x.kids.length c8) = w9 at *
          clear s0 s1 s2 s3 s4 s5 n0 n1 n2 n3 n4 m5
          go_upto_region 11 with fail
        rotate_left
        focus
          have hlt0 : decide (0 ≤ Lib.idxOfS d.keys f.name) = false := by simpa using hidx
          have HM0 : Hid (mendF1 f d = if f.opt then [] else [(f.name, f.type.least, 1)]) := Lib.hid (by rw [mendF1_eq, if_neg hidx])
          clear hidx
          by_cases hopt : f.opt = true
          · have HSTN : Hid (DocSt w3 wz box d.kind 0 ⟨#[]⟩ ((mendF (t.fields.take (k + 1)) d).map fun x => x.1) ((mendF (t.fields.take (k + 1)) d).map fun x => x.2.1) v3 v4 cs F) := Lib.hid (by
              rw [HSUC.out, HM0.out, if_pos hopt, List.append_nil]; exact HST.out.past HBZ.out)
            have HNS : Hid ((mendF (t.fields.take (k + 1)) d) = (mendF (t.fields.take k) d)) := Lib.hid (by rw [HSUC.out, HM0.out, if_pos hopt, List.append_nil])
            rw [hopt] at k1
            clear hopt
            go_wp2_with fail
            refine ⟨⟨k + 1, v3, v4, cs, F, by omega, by rw [HNS.out]; simp, by go_num, HSTN.out⟩, by simp [intOf]; omega⟩
          have hopt' : f.opt = false := by simpa using hopt
          obtain ⟨x, hx⟩ : ∃ x, x = f.type.least := ⟨_, rfl⟩
          have HM1 : Hid (mendF1 f d = [(f.name, x, 1)]) := Lib.hid (by rw [HM0.out, if_neg hopt, hx])
          have hcall := least_v (B := B) (w := wz) (by have := (rightT_small HRX.out).1; omega) (by have := (rightT_small HRX.out).2.1; omega) HFX.out hBz ⟨_, _, _, _, _, _, rfl, HZZ.out⟩
          rw [leastV_right HRX.out, ← hx] at hcall
          have HCALL := Lib.hid hcall
          rw [hopt'] at k1
          clear hopt hopt' hcall hx
          go_wp2_with fail
          go_at_call 26
          refine HCALL.out.mono ?_
          rintro e w8 ⟨y0, y1, y2, y3', y4', G, rfl, hG, hGn, hb8⟩
          obtain ⟨A7, c7, A8, c8, rfl, rfl, rfl, rfl, rfl⟩ := hG.doc.forms
          have HG := Lib.hid hG; have HGN := Lib.hid hGn; have HB8 := Lib.hid hb8
          have m0 : ∀ o, w8.cell? ⟨wr.heap.size + 1, o, none⟩ = wz.cell? ⟨wr.heap.size + 1, o, none⟩ := fun o => hb8.cell (p := ⟨wr.heap.size + 1, o, none⟩) hzx
          have m5 : ∀ o, w8.frozen? ⟨wr.heap.size + 1, o, none⟩ = false := fun o => (hb8.frozen (p := ⟨wr.heap.size + 1, o, none⟩) hzx).trans (s5 o)
          have n0 := (m0 0).trans s0; have n1 := (m0 1).trans s1; have n2 := (m0 2).trans s2; have n3 := (m0 3).trans s3; have n4 := (m0 4).trans s4
          clear hG hGn hb8 m0
          go_upto_region 11 with fail
          have HX9 : Hid (OwnIn (((((w8.setCell ⟨wr.heap.size + 1, 0, none⟩ (.int .i64 x.kind)).setCell ⟨wr.heap.size + 1, 1, none⟩ (.int .i64 x.num)).setCell ⟨wr.heap.size + 1, 2, none⟩ (.string x.str)).setCell ⟨wr.heap.size + 1, 3, none⟩ (.slice A7 x.keys.length c7)).setCell ⟨wr.heap.size + 1, 4, none⟩ (.slice A8 x.kids.length c8)) wz.heap.size x (.int .i64 x.kind) (.int .i64 x.num) (.string x.str) (.slice A7 x.keys.length c7) (.slice A8 x.kids.length c8) G) := Lib.hid (HG.out.same (by show wz.heap.size ≤ wz.heap.size; omega) fun b hb => by
            have hne : b ≠ wr.heap.size + 1 := by have h9 : wz.heap.size ≤ b := (HG.out.lt b hb).1; omega
            rw [Below.heap_setCell _ _ _ b hne, Below.heap_setCell _ _ _ b hne, Below.heap_setCell _ _ _ b hne, Below.heap_setCell _ _ _ b hne, Below.heap_setCell _ _ _ b hne])
          have HKB9 : Hid (Box5 (((((w8.setCell ⟨wr.heap.size + 1, 0, none⟩ (.int .i64 x.kind)).setCell ⟨wr.heap.size + 1, 1, none⟩ (.int .i64 x.num)).setCell ⟨wr.heap.size + 1, 2, none⟩ (.string x.str)).setCell ⟨wr.heap.size + 1, 3, none⟩ (.slice A7 x.keys.length c7)).setCell ⟨wr.heap.size + 1, 4, none⟩ (.slice A8 x.kids.length c8)) (wr.heap.size + 1) (.int .i64 x.kind) (.int .i64 x.num) (.string x.str) (.slice A7 x.keys.length c7) (.slice A8 x.kids.length c8)) := Lib.hid ((((((HZB.out.same (HB8.out.block _ hzx)).set0 _).set1 _).set2 _).set3 _).set4 _)
          have HBW9 : Hid (Below wr.heap.size wr (((((w8.setCell ⟨wr.heap.size + 1, 0, none⟩ (.int .i64 x.kind)).setCell ⟨wr.heap.size + 1, 1, none⟩ (.int .i64 x.num)).setCell ⟨wr.heap.size + 1, 2, none⟩ (.string x.str)).setCell ⟨wr.heap.size + 1, 3, none⟩ (.slice A7 x.keys.length c7)).setCell ⟨wr.heap.size + 1, 4, none⟩ (.slice A8 x.kids.length c8))) := Lib.hid ((((((HBZ.out.trans (HB8.out.mono (by omega))).setCell (by show wr.heap.size ≤ wr.heap.size + 1; omega) _).setCell (by show wr.heap.size ≤ wr.heap.size + 1; omega) _).setCell (by show wr.heap.size ≤ wr.heap.size + 1; omega) _).setCell (by show wr.heap.size ≤ wr.heap.size + 1; omega) _).setCell (by show wr.heap.size ≤ wr.heap.size + 1; omega) _)
          have HFB9 : Hid (Box8 (((((w8.setCell ⟨wr.heap.size + 1, 0, none⟩ (.int .i64 x.kind)).setCell ⟨wr.heap.size + 1, 1, none⟩ (.int .i64 x.num)).setCell ⟨wr.heap.size + 1, 2, none⟩ (.string x.str)).setCell ⟨wr.heap.size + 1, 3, none⟩ (.slice A7 x.keys.length c7)).setCell ⟨wr.heap.size + 1, 4, none⟩ (.slice A8 x.kids.length c8)) wr.heap.size f.name f.opt (.int .i64 f.type.kind) (.int .i64 f.type.lo) (.int .i64 f.type.hi) (.slice X3 f.type.names.length x3) (.slice X4 f.type.fields.length x4) (.slice X5 f.type.of.length x5)) := Lib.hid (HKB.out.same (by
            have hne : wr.heap.size ≠ wr.heap.size + 1 := by omega
            rw [Below.heap_setCell _ _ _ _ hne, Below.heap_setCell _ _ _ _ hne, Below.heap_setCell _ _ _ _ hne, Below.heap_setCell _ _ _ _ hne, Below.heap_setCell _ _ _ _ hne]
            exact HB8.out.block _ hfx))
          have hz9 : wz.heap.size ≤ (((((w8.setCell ⟨wr.heap.size + 1, 0, none⟩ (.int .i64 x.kind)).setCell ⟨wr.heap.size + 1, 1, none⟩ (.int .i64 x.num)).setCell ⟨wr.heap.size + 1, 2, none⟩ (.string x.str)).setCell ⟨wr.heap.size + 1, 3, none⟩ (.slice A7 x.keys.length c7)).setCell ⟨wr.heap.size + 1, 4, none⟩ (.slice A8 x.kids.length c8)).heap.size := by simp only [size_setCell]; exact HB8.out.size
          have hG9 : ∀ b ∈ G, wz.heap.size ≤ b ∧ b < (((((w8.setCell ⟨wr.heap.size + 1, 0, none⟩ (.int .i64 x.kind)).setCell ⟨wr.heap.size + 1, 1, none⟩ (.int .i64 x.num)).setCell ⟨wr.heap.size + 1, 2, none⟩ (.string x.str)).setCell ⟨wr.heap.size + 1, 3, none⟩ (.slice A7 x.keys.length c7)).setCell ⟨wr.heap.size + 1, 4, none⟩ (.slice A8 x.kids.length c8)).heap.size := fun b hb => HX9.out.lt b hb
          have HG9 := Lib.hid hG9
          clear hG9
          clear s0 s1 s2 s3 s4 s5 n0 n1 n2 n3 n4 m5 k0 k1 k2 k3 k4 k5 k6 k7 u0 u1 u2 u3 u4
          generalize ((((w8.setCell ⟨wr.heap.size + 1, 0, none⟩ (.int .i64 x.kind)).setCell ⟨wr.heap.size + 1, 1, none⟩ (.int .i64 x.num)).setCell ⟨wr.heap.size + 1, 2, none⟩ (.string x.str)).setCell ⟨wr.heap.size + 1, 3, none⟩ (.slice A7 x.keys.length c7)).setCell ⟨wr.heap.size + 1, 4, none⟩ (.slice A8 x.kids.length c8) = w9 at *
        all_goals (
          have HST9 := Lib.hid (HST.out.past HBW9.out)
          have hl3 := HST.out.o3.lt; have hl4 := HST.out.o4.lt; have hlk := HST.out.ok.lt
          have hrz : wr.heap.size + 2 ≤ w9.heap.size := by omega
          have hbxl : box < w9.heap.size := by omega
          obtain ⟨q0, q1, q2, q3, q4⟩ := HST9.out.bx.cells
          have q5 := HST9.out.bx.frozen
          have kn := HFB9.out.cells.1
          have ag : v3.ownBlock ≠ some box := fun h => by have := (hl3 _ h).1; omega
          have ag4 : v4.ownBlock ≠ some box := fun h => by have := (hl4 _ h).1; omega
          have HXS : Hid (∃ XS, XS = (mendF (t.fields.take k) d).map fun x => x.1) := Lib.hid ⟨_, rfl⟩
          have hxl : ((mendF (t.fields.take k) d).map fun x => x.1).length ≤ 10000 := by have := mendF_len d (t.fields.take k); have := List.length_take_le k t.fields; simp only [List.length_map]; omega
          have hll : ((mendF (t.fields.take k) d).map fun x => x.2.1).length ≤ 10000 := by have := mendF_len d (t.fields.take k); have := List.length_take_le k t.fields; simp only [List.length_map]; omega
          have hsum : ((mendF (t.fields.take k) d).map fun x => x.2.2).sum ≤ 65536 := Nat.le_trans (mendF_sum t.fields d k) HBD.out
          have HS1 : Hid ((mendF (t.fields.take (k + 1)) d).map (fun x => x.1) = (mendF (t.fields.take k) d).map (fun x => x.1) ++ [f.name]) := Lib.hid (by rw [HSUC.out, HM1.out, List.map_append]; rfl)
          have HS2 : Hid ((mendF (t.fields.take (k + 1)) d).map (fun x => x.2.1) = (mendF (t.fields.take k) d).map (fun x => x.2.1) ++ [x]) := Lib.hid (by rw [HSUC.out, HM1.out, List.map_append]; rfl)
          generalize (mendF (t.fields.take k) d).map (fun x => x.1) = XS at *
          generalize (mendF (t.fields.take k) d).map (fun x => x.2.1) = LS at *
          obtain ⟨i0, hi, hz0, hz1', hz2⟩ := info_parts infoS
          have HI := Lib.hid hi; have HZ0 := Lib.hid hz0; have HZ1 := Lib.hid hz1'; have HZ2 := Lib.hid hz2
          obtain ⟨j0, hj9, hy0, hy1, hy2⟩ := info_parts infoD
          have HJ := Lib.hid hj9; have HJ0 := Lib.hid hy0; have HJ1 := Lib.hid hy1; have HJ2 := Lib.hid hy2
          clear hi hz0 hz1' hz2 hj9 hy0 hy1 hy2
          go_upto_region 12 with (at_builtin; refine wpList_append_lies _ rfl _ _ 22 rfl w3.heap.size 9 i0 (.string ByteArray.empty) 1 16 Tryz.underlying22 HI.out HZ0.out HZ1.out HZ2.out (by rfl) (by omega) v3 XS.length _ rfl (HST9.out.o3.alloc _) ⟨w9.heap.size, 0, none⟩ 1 _ [.string f.name] rfl rfl (World.news_of_block (heap_alloc_new w9 _)) (by simp [Value.oneCell']) (by omega) (by unfold maxLen; omega) (by omega) (by simp; omega) (w9.heap.size + 1) (by simp) ?_; intro g5 cap5 w5 hown5 hgrow5 hat5 hlt5; have mf5 : w5.frozen? ⟨box, 3, none⟩ = false := ((hgrow5.frozen_far ⟨box, 3, none⟩ (by simp; omega) (Ne.symm ag)).trans ((frozen_alloc_lt hbxl _ 3).trans (q5 3))); have m45 := (hgrow5.cell_far ⟨box, 3, none⟩ (by simp; omega) (Ne.symm ag)).trans ((cell_alloc_lt' hbxl _ 3).trans q3))
          have hst10 := HST9.out.key0 (by omega) hown5 _ hgrow5 hat5
          have hgs := hgrow5.size
          rw [World.size_alloc] at hgs
          have hkeep : ∀ j, j < w9.heap.size → j ≠ box → v3.ownBlock ≠ some j → (w5.setCell ⟨box, 3, none⟩ (.slice (some ⟨g5, 0, none⟩) (XS.length + 1) cap5)).heap[j]? = w9.heap[j]? := fun j hj hne hno =>
            (Below.heap_setCell _ _ _ j hne).trans ((hgrow5.block j (by simp; omega) (Ne.symm hno)).trans (Below.heap_alloc w9 _ j hj))
          have hz10 : w9.heap.size ≤ (w5.setCell ⟨box, 3, none⟩ (.slice (some ⟨g5, 0, none⟩) (XS.length + 1) cap5)).heap.size := by simp only [size_setCell]; omega
          have hg5 : g5 < wr.heap.size ∨ w9.heap.size ≤ g5 := by
            rcases hat5 with h | h
            · exact .inl (hl3 _ h).2
            · exact .inr (by omega)
          generalize w5.setCell ⟨box, 3, none⟩ (.slice (some ⟨g5, 0, none⟩) (XS.length + 1) cap5) = w10 at *
          have HST10 := Lib.hid hst10
          have hbx10 : box < w10.heap.size := by omega
          have HKB10 : Hid (Box5 w10 (wr.heap.size + 1) (.int .i64 x.kind) (.int .i64 x.num) (.string x.str) (.slice A7 x.keys.length c7) (.slice A8 x.kids.length c8)) := Lib.hid (HKB9.out.same (hkeep _ (by omega) (by omega) fun h => by have := (hl3 _ h).2; omega))
          have HX10 : Hid (OwnIn w10 wz.heap.size x (.int .i64 x.kind) (.int .i64 x.num) (.string x.str) (.slice A7 x.keys.length c7) (.slice A8 x.kids.length c8) G) := Lib.hid (HX9.out.same (Nat.le_refl _) fun b hb => hkeep b (HG9.out b hb).2 (by have := (HG9.out b hb).1; omega) fun h => by have := (hl3 _ h).2; have := (HG9.out b hb).1; omega)
          have HGD : Hid (∀ b ∈ G, w3.heap.size ≤ b ∧ b ∉ blk (.slice (some ⟨g5, 0, none⟩) (XS.length + 1) cap5) ∧ b ∉ blk v4 ∧ b ∉ F) := Lib.hid (fun b hb => by
            have h1 := HG9.out b hb
            refine ⟨by omega, fun h => ?_, fun h => by have := (hl4 _ (blk_mem.1 h)).2; omega, fun h => by have := (hlk _ h).2; omega⟩
            have : b = g5 := by simpa [blk, Value.ownBlock] using h
            omega)
          have HCSL : Hid (w10.ownsRow w3.heap.size 29 5 v4 LS.length cs) := Lib.hid hst10.o4
          clear q0 q1 q2 q3 q4 q5 kn hown5 hgrow5 hat5 hlt5 mf5 m45 hkeep hgs
          obtain ⟨q0, q1, q2, q3, q4⟩ := hst10.bx.cells
          have q5 := hst10.bx.frozen
          obtain ⟨n0, n1, n2, n3, n4⟩ := HKB10.out.cells
          have hw3 : w3.heap.size ≤ w10.heap.size := by omega
          clear hst10
          go_wp2_with (at_builtin; refine wpList_append_lies _ rfl _ _ 27 rfl w3.heap.size 29 j0 (.agg #[.int .i64 0, .int .i64 0, .string ByteArray.empty, .slice none 0 0, .slice none 0 0]) 5 80 Tryz.underlying27 HJ.out HJ0.out HJ1.out HJ2.out (by rfl) (by omega) v4 LS.length cs rfl (HCSL.out.alloc _) ⟨w10.heap.size, 0, none⟩ 1 _ [.int .i64 x.kind, .int .i64 x.num, .string x.str, .slice A7 x.keys.length c7, .slice A8 x.kids.length c8] rfl rfl (World.news_of_block (cs := #[.int .i64 x.kind, .int .i64 x.num, .string x.str, .slice A7 x.keys.length c7, .slice A8 x.kids.length c8]) (t := 29) (fr := (0, 0)) (heap_alloc_new w10 _)) (by simp [Value.oneCell']) (by omega) (by unfold maxLen; omega) (by omega) (by simp; omega) (w10.heap.size + 1) (by simp) ?_; intro g8 cap8 w8' hown8 hgrow8 hat8 hlt8; have mf8 : w8'.frozen? ⟨box, 4, none⟩ = false := ((hgrow8.frozen_far ⟨box, 4, none⟩ (by simp; omega) (Ne.symm ag4)).trans ((frozen_alloc_lt hbx10 _ 4).trans (q5 4))); have m48 := (hgrow8.cell_far ⟨box, 4, none⟩ (by simp; omega) (Ne.symm ag4)).trans ((cell_alloc_lt' hbx10 _ 4).trans q4))
          refine ⟨⟨k + 1, _, _, _, _, by omega, ?_, by go_num, by rw [HS1.out, HS2.out]; exact HST10.out.kid2 (by omega) HX10.out HGN.out HGD.out (by omega) hown8 _ hgrow8 hat8⟩, by simp [intOf]; omega⟩
          first
            | (have h3 : ((mendF (t.fields.take (k + 1)) d).map fun x => x.2.2).sum = ((mendF (t.fields.take k) d).map fun x => x.2.2).sum + nx := by rw [HSUC.out, HM1.out]; simp
               rw [h3]; go_num)
            | (have h3 : ((mendF (t.fields.take (k + 1)) d).map fun x => x.2.2).sum = ((mendF (t.fields.take k) d).map fun x => x.2.2).sum + 1 := by rw [HSUC.out, HM1.out]; simp
               rw [h3]; go_num))
      · have hkl : k = t.fields.length := by omega
        subst hkl
        have hst2 := HST.out
        rw [List.take_length] at hst2
        have HST2 := Lib.hid hst2
        have hsum : ((mendF t.fields d).map fun x => x.2.2).sum ≤ 65536 := HBD.out
        have HRR := Lib.hid (HR.out.same (HST.out.t.block (w.heap.size + 1 + 1) (by omega) (by simp) (by omega) |>.trans (HBW.out.block _ (by omega))))
        clear hst2
        obtain ⟨q0, q1, q2, q3, q4⟩ := HST2.out.bx.cells
        obtain ⟨r0, r1, r2, r3, r4⟩ := HRR.out.cells
        have r5 := HRR.out.frozen
        obtain ⟨A6, c6, rfl⟩ := ownsRow_slice HST2.out.o3
        obtain ⟨A7, c7, rfl⟩ := ownsRow_slice HST2.out.o4
        rw [List.take_length]
        obtain ⟨XS, hxs⟩ : ∃ XS, (mendF t.fields d).map (fun x => x.1) = XS := ⟨_, rfl⟩
        obtain ⟨LS, hls⟩ : ∃ LS, (mendF t.fields d).map (fun x => x.2.1) = LS := ⟨_, rfl⟩
        rw [hxs] at HST2 q3
        rw [hls] at HST2 q4
        have HXS := Lib.hid hxs; have HLS := Lib.hid hls
        clear hxs hls
        go_wp2_with fail
        have hfin := ((((HRR.out.set0 (.int .i64 d.kind)).set1 (.int .i64 0)).set2 (.string ⟨#[]⟩)).set3 (.slice A6 XS.length c6)).set4 (.slice A7 LS.length c7)
        clear q0 q1 q2 q3 q4 r0 r1 r2 r3 r4 r5
        refine ret_cell5_2 rfl rfl rfl hfin.load rfl ?_
        have hmd := doc_out (w := w) HST2.out rfl (r := w.heap.size + 1 + 1) (by omega) (by omega) (by omega) (ST3.out.bl)
        rw [HXS.out, HLS.out, Int.natCast_add]
        exact hmd.two _
end Go.Proofs.YteecdmceleanjaaGreatDoor
