/-
  The document's own all: dictionaries, lists, and what has no kids.
-/
import Derived.Test.YtlemlgllkcgigaaGreatDoorB15
import Derived.Test.YtlemlgllkcgigaaGreatDoorB10
import Derived.Deep.CutRange
import Derived.Deep.CutBlock
import Derived.Deep.DeepCutAuto
namespace Go.Proofs.YtlemlgllkcgigaaGreatDoor
open Go.RowKit

set_option maxHeartbeats 16000000 in
set_option maxRecDepth 100000 in
theorem rall_kids {m : Nat} (ih : RAllTo m) {t : T} {d : D} {tv uv pv : Value} {w : World} {B : Nat} {S0 : Nat → Prop} {p : List ByteArray} (hk : t.kind ≠ 1) (hm : t.depth ≤ m + 1) (hall : allT t = true) (hf : t.Fit) (hfd : d.Fit) (hpd : partB d = true) (hds : d.size ≤ 512) (hlen : (t.faults d p).length ≤ 100000) (hpl : p.length + (m + 1) ≤ 10000) (hB : B ≤ w.heap.size)
    (ht : TypeV w B t tv) (hd : DocV w B d uv) (hp : StrsS w S0 pv p) (hS0 : ∀ k, S0 k → k < w.heap.size) :
    Calls Tryz.prog 43 #[tv, uv, pv] w fun e w' => ∃ v, e = .returned v ∧ RowF w.heap.size S0 w' (t.faults d p) v ∧ Below w.heap.size w w' := by
  obtain ⟨v0, v1, v2, v3, v4, v5, rfl, hti⟩ := ht
  obtain ⟨ue0, ue1, ue2, ue3, ue4, rfl, hdi⟩ := hd
  have hp2 := hp
  obtain ⟨Ap, cp, rfl, _, _⟩ := hp2
  have hok := leastOk_of (show soundT t = true by rw [allT_eq, Bool.and_eq_true] at hall; exact hall.1)
  have hpd' := hpd
  rw [partB_eq, Bool.and_eq_true] at hpd'
  have hdk := docOk_of hpd'.1
  have ST := Lib.hid (TD.start hB hti hdi)
  have hz : ((w.alloc (.cells #[v0, v1, v2, v3, v4, v5] 26)).alloc (.cells #[ue0, ue1, ue2, ue3, ue4] 29)).heap.size = w.heap.size + 2 := by simp
  have hfs := hok.fs hk
  have hxo := look_of hok hdk hk
  obtain ⟨x, hx⟩ : ∃ x : T, t.of = [x] ∨ (t.of = [] ∧ (fitsV t d ≠ 7 → d.kids = [])) := by
    rcases hxo with ⟨x, h⟩ | h
    · exact ⟨x, .inl h⟩
    · exact ⟨t, .inr h⟩
  obtain ⟨A3, c3, A4, c4, A5, c5, rfl, rfl, rfl, rfl, e4, e5⟩ := hti.forms
  rw [hfs, List.length_nil] at e4
  obtain ⟨no, hno⟩ : ∃ no, t.of.length = no := ⟨_, rfl⟩
  rw [hno] at e5
  subst e4; subst e5
  have HX := Lib.hid hx; have HNO := Lib.hid hno
  clear hfs hxo hx hno
  obtain ⟨B3, d3, B4, d4, rfl, rfl, rfl, rfl, rfl⟩ := hdi.forms
  have HF := Lib.hid hf; have HFD := Lib.hid hfd; have HALL := Lib.hid hall; have HPARTS := Lib.hid hpd'.2; have HIH := Lib.hid ih; have HLEN := Lib.hid hlen; have HM := Lib.hid hm; have HOK := Lib.hid hok; have HDK := Lib.hid hdk; have HK := Lib.hid hk; have HDS := Lib.hid hds; have HP := Lib.hid hp; have HS0 := Lib.hid hS0; have HPL := Lib.hid hpl
  have hppl : p.length ≤ 9999 := by omega
  have g1 : (t.kind == 1) = false := by simp [hk]
  clear hti hdi hf hfd hall hpd hpd' ih hlen hm hok hdk hk hds hp hS0 hpl
  go_enter Tryz.func43, Tryz.ntmps43
  go_wp2_with fail
  generalize (w.alloc (.cells #[.int .i64 t.kind, .int .i64 t.lo, .int .i64 t.hi, .slice A3 t.names.length c3, .slice A4 0 c4, .slice A5 no c5] 26)).alloc (.cells #[.int .i64 d.kind, .int .i64 d.num, .string d.str, .slice B3 d.keys.length d3, .slice B4 d.kids.length d4] 29) = w1 at *
  refine (rfits_any HOK.out.kind HF.out HFD.out ST.out.le ST.out.tv ST.out.dv).mono ?_
  rintro e w2 ⟨rfl, hb2⟩
  have HB2 := Lib.hid hb2
  have hz2 := hb2.size
  have HPX : Hid (∀ X, Below w1.heap.size w1 X → StrsS X S0 (.slice Ap p.length cp) p) := Lib.hid (fun X h => HP.out.keep (fun _ h => h) fun q hq => (ST.out.bl.trans (h.mono (by have := ST.out.sz; omega))).cell (p := q) (HS0.out _ hq))
  have HZ : Hid (w1.heap.size = w.heap.size + 2) := Lib.hid hz
  have hzl : w.heap.size + 2 ≤ w1.heap.size := by omega
  have hBw : B ≤ w.heap.size := hB
  clear hb2 hz
  by_cases h7 : fitsV t d = 7
  · have EF : Hid (t.faults d p = [(p, 7)]) := Lib.hid (by rw [faults_eq, h7]; simp)
    rw [h7]
    clear h7
    go_wp2_with (at_builtin; refine wpList_flts (W0 := w1.heap.size) (S0 := S0) (l := []) rfl _ _ (by rfl) (by rfl) (by rfl) (RowF.nil _ _ _) (one_flt ((HPX.out w2 HB2.out).keep (w' := w2.alloc _) (fun _ h => h) fun q hq => World.cell?_alloc_lt w2 _ q (by have := HS0.out _ hq; omega)) (cell_block (heap_alloc_new w2 _) 0) (cell_block (heap_alloc_new w2 _) 1)) (fun k hk => ⟨.inl hk, by have := HS0.out k hk; simp; omega, by simp [Value.ownBlock]⟩) (by simp) (by simp; omega) ?_; intro v' w5 hr5 hg5 hat5)
    go_ret
    exact ⟨_, rfl, by rw [EF.out]; exact hr5.base (by omega), ST.out.bl.trans ((below_grown (HB2.out.alloc hz2 _) hg5 (by simp [Value.ownBlock]) (by simp; omega)).mono (by omega))⟩
  have h08 : fitsV t d = 0 ∨ fitsV t d = 8 := by have := fitsV_is t d; omega
  have hx' : t.of = [x] ∨ (t.of = [] ∧ d.kids = []) := HX.out.imp id fun h => ⟨h.1, h.2 h7⟩
  have HX' := Lib.hid hx'
  obtain ⟨ev, hev⟩ : ∃ ev, ev = fitsV t d := ⟨_, rfl⟩
  obtain ⟨fe, hfe⟩ : ∃ fe : List Flt, fe = (if ev = 0 then [] else [(p, ev)]) := ⟨_, rfl⟩
  have HEF : Hid (t.faults d p = fe ++ kidsFl x d p d.kids.length) := Lib.hid (by rw [hfe, hev]; exact faults_kids (p := p) HK.out h7 hx')
  have HKD : Hid (d.kind = kindV t) := Lib.hid (by by_cases e : d.kind = kindV t; · exact e
                                                   · exfalso; unfold fitsV at h7; rw [if_neg e] at h7; exact h7 rfl)
  rw [← hev] at h08 h7
  rw [← hev]
  have HFE := Lib.hid hfe
  have H08 := Lib.hid h08
  have g7 : (ev == 7) = false := by simpa using h7
  have g7' : decide (ev = 7) = false := by simpa using h7
  clear hx' HX hev hfe h08
  go_upto_if 19 with fail
  go_cut [7] (fun o wx => RowF w1.heap.size S0 wx fe o ∧ Below w1.heap.size w1 wx)
  case first =>
    by_cases h0 : ev = 0
    · have gz : (ev != 0) = false := by simpa using h0
      have hfe0 : Hid (fe = []) := Lib.hid (by rw [HFE.out, if_pos h0])
      clear h0 h7
      go_wp2_with fail
      go_meet
      case rel => exact ⟨by rw [hfe0.out]; exact RowF.nil _ _ _, HB2.out⟩
    · have gz : (ev != 0) = true := by simpa using h0
      have h8 : ev = 8 := by have := H08.out; omega
      have hfe0 : Hid (fe = [(p, 8)]) := Lib.hid (by rw [HFE.out, if_neg h0, h8])
      clear h0 h7 g7 g7'
      subst h8
      go_wp2_with (at_builtin; refine wpList_flts (W0 := w1.heap.size) (S0 := S0) (l := []) rfl _ _ (by rfl) (by rfl) (by rfl) (RowF.nil _ _ _) (one_flt ((HPX.out w2 HB2.out).keep (w' := w2.alloc _) (fun _ h => h) fun q hq => World.cell?_alloc_lt w2 _ q (by have := HS0.out _ hq; omega)) (cell_block (heap_alloc_new w2 _) 0) (cell_block (heap_alloc_new w2 _) 1)) (fun k hk => ⟨.inl hk, by have := HS0.out k hk; simp; omega, by simp [Value.ownBlock]⟩) (by simp) (by simp; omega) ?_; intro v' w5 hr5 hg5 hat5)
      go_meet
      case rel => exact ⟨by rw [hfe0.out]; exact hr5, below_grown (HB2.out.alloc hz2 _) hg5 (by simp [Value.ownBlock]) (by simp; omega)⟩
  case rest =>
    obtain ⟨hrow3, hbw3⟩ := hcut
    generalize wc = w3 at *
    generalize u7 = r7 at *
    have HROW3 := Lib.hid hrow3; have HBW3 := Lib.hid hbw3
    have hz3 := hbw3.size
    clear hrow3 hbw3 h7 HB2 hz2
    have STR := Lib.hid (ST.out.next (HBW3.out.mono (by omega)))
    obtain ⟨t0, t1, t2, t3, t4, t5⟩ := STR.out.bt.cells
    obtain ⟨ue0, ue1, ue2, ue3, ue4⟩ := STR.out.bd.cells
    go_wp2_with fail
    refine wp_loop_rounds 1 ?_
    rw [rounds_succ]
    go_upto_block 2 with fail
    go_cut [7, 12] (fun s7 _ wx => s7 = r7 ∧ wx = w3)
    case first =>
      clear HPX HEF HFE HX' HKD STR HDK HPARTS
      generalize d.keys.length = nk at *
      cases nk with
      | zero =>
        go_wp2_with fail
        refine wp_loop_rounds 1 ?_
        rw [rounds_succ]
        go_wp2_with fail
        go_meet
        case rel => exact ⟨rfl, rfl⟩
      | succ nk =>
        have hkn1 : (0 : Int) < ((nk + 1 : Nat) : Int) := by omega
        go_wp2_with fail
        refine wp_loop_rounds 1 ?_
        rw [rounds_succ]
        go_wp2_with fail
        go_meet
        case rel => exact ⟨rfl, rfl⟩
    case rest =>
      obtain ⟨hr7, hwc⟩ := hcut
      rw [hr7, hwc]
      clear hr7 hwc
      clear t0 t1 t2 t3 t4 t5 ue0 ue1 ue2 ue3 ue4
      go_wp2_with fail
      go_loopw [7, 13] (fun o i wr => ∃ k : Nat, k ≤ d.kids.length ∧ i = .int .i64 k ∧ RowF w1.heap.size S0 wr (fe ++ kidsFl x d p k) o ∧ Below w1.heap.size w1 wr) (fun _ i _ => d.kids.length - (intOf i).toNat)
      case atStart =>
        exact ⟨0, Nat.zero_le _, rfl, by rw [kidsFl_zero, List.append_nil]; exact HROW3.out, HBW3.out⟩
      case round =>
        obtain ⟨k, hk0, rfl, hrow, hbw⟩ := hrel
        have HROW := Lib.hid hrow; have HBW := Lib.hid hbw
        have hzr := hbw.size
        have STR2 := Lib.hid (ST.out.next (hbw.mono (by omega)))
        have HUL := Lib.hid hrow.lt
        clear hrow hbw
        by_cases hlt : k < d.kids.length
        · have hne : d.kids ≠ [] := fun e => by rw [e] at hlt; simp at hlt
          have hof : t.of = [x] := by
            rcases HX'.out with h | h
            · exact h
            · exact absurd h.2 hne
          have h23 : t.kind = 2 ∨ t.kind = 3 := by
            by_cases h2 : t.kind = 2
            · exact .inl h2
            by_cases h3 : t.kind = 3
            · exact .inr h3
            have := HOK.out.of0 h2 h3
            rw [this] at hof; cases hof
          have hno1 : no = 1 := by rw [← HNO.out, hof]; rfl
          have keepw : ∀ q : Addr, q.block < w.heap.size → wr.cell? q = w.cell? q := fun q hq => STR2.out.bl.cell hq
          have htin := ST.out.tin.keep (w' := wr) (Nat.le_refl B) fun q hq => keepw q (by omega)
          have hdin := ST.out.din.keep (w' := wr) (Nat.le_refl B) fun q hq => keepw q (by omega)
          obtain ⟨A5', c5q, e5, _, hofv⟩ := htin.of_
          injection e5 with e51 e52 e53
          subst e51; subst e53
          have hno : t.of.length = no := HNO.out
          obtain ⟨bo, off, rfl, hboB, hofw⟩ := hofv (by omega)
          clear hofv keepw
          obtain ⟨z0, z1, z2, z3, z4, z5, c0, c1, c2, c3', c4', c5', hzi⟩ := hofw.at_ 0 (by omega)
          have hx0 : t.of[0]'(by omega) = x := by simp only [hof, List.getElem_cons_zero]
          rw [hx0] at hzi
          simp only [Nat.zero_mul, Nat.add_zero] at c0 c1 c2 c3' c4' c5'
          have HZI := Lib.hid hzi
          obtain ⟨X3, x3, X4, x4, X5, x5, rfl, rfl, rfl, rfl, rfl, rfl⟩ := hzi.forms
          obtain ⟨_, _, hkv⟩ := hdin.kids_
          obtain ⟨bk, offk, rfl, hbkB, hkw⟩ := hkv (by omega)
          clear hkv
          obtain ⟨q0, q1, q2, q3, q4, r0, r1, r2, r3, r4, hyi⟩ := hkw.at_ k hlt
          obtain ⟨y, hye⟩ : ∃ y, y = d.kids[k] := ⟨_, rfl⟩
          rw [← hye] at hyi
          simp only [Nat.zero_add] at r0 r1 r2 r3 r4
          have HYI := Lib.hid hyi
          obtain ⟨Y3, y3, Y4, y4, rfl, rfl, rfl, rfl, rfl⟩ := hyi.forms
          obtain ⟨t0, t1, t2, t3, t4, t5⟩ := STR2.out.bt.cells
          obtain ⟨ue0, ue1, ue2, ue3, ue4⟩ := STR2.out.bd.cells
          have hdep : x.depth ≤ m := by have := T.of_depth (t := t) (i := 0) (by omega); rw [hx0] at this; have := HM.out; omega
          have HAX : Hid (allT x = true) := Lib.hid (by
            have h := HALL.out
            rw [allT_eq, Bool.and_eq_true] at h
            have h2 := h.2
            rw [T.kids, allL_append, Bool.and_eq_true, hof] at h2
            simpa [allL] using h2.2)
          have HFX : Hid x.Fit := Lib.hid (by
            have h := HF.out.parts.2.2.2.2.2
            rw [hof] at h
            exact h.at_ (i := 0) (by simp))
          have HFY : Hid y.Fit := Lib.hid (by rw [hye]; exact HFD.out.kid hlt)
          have HPY : Hid (partB y = true) := Lib.hid (by rw [hye]; exact partsB_at HPARTS.out hlt)
          have HSY : Hid (y.size ≤ 512) := Lib.hid (by have h1 := D.size_at d.kids k hlt; have h2 := D.size_eq d; have h3 := HDS.out; rw [← hye] at h1; omega)
          have hk999 : k ≤ 999 := by have h1 := D.len_le_sizes d.kids; have h2 := D.size_eq d; have h3 := HDS.out; omega
          obtain ⟨s, hs⟩ : ∃ s, s = partV d k := ⟨_, rfl⟩
          have HSUC : Hid (kidsFl x d p (k + 1) = kidsFl x d p k ++ x.faults y (p ++ [s])) := Lib.hid (by rw [kidsFl_succ x d p k hlt, hs, hye])
          have hLN : (fe ++ kidsFl x d p k).length + (x.faults y (p ++ [s])).length ≤ 100000 := by
            have h2 := HLEN.out
            rw [HEF.out] at h2
            have h3 := kidsFl_mono x d p (k + 1) _ (by omega) (Nat.le_refl _)
            rw [HSUC.out] at h3
            simp only [List.length_append] at h2 h3 ⊢
            omega
          have HLN := Lib.hid hLN
          have hik0 : (0 : Int) ≤ (k : Int) := by omega
          have hik1 : (k : Int) < (d.kids.length : Int) := by omega
          have ho1 : (0 : Int) < (no : Int) := by omega
          have ho2 : 0 < no := by omega
          have ho3 : decide ((0 : Int) < (no : Int)) = true := by simpa using ho2
          have ho4 : ¬ (no = 0) := by omega
          have hbol : bo < wr.heap.size := by omega
          have hbkl : bk < wr.heap.size := by omega
          have hS : ∀ X : World, (∀ b o, (b = w.heap.size ∨ b = bo ∨ b = w.heap.size + 1 ∨ b = bk) → X.cell? ⟨b, o, none⟩ = wr.cell? ⟨b, o, none⟩) → X.cell? ⟨w.heap.size, 5, none⟩ = some (.slice (some ⟨bo, off, none⟩) no c5) ∧ X.cell? ⟨bo, off, none⟩ = some (.int .i64 x.kind) ∧ X.cell? ⟨bo, off + 1, none⟩ = some (.int .i64 x.lo) ∧ X.cell? ⟨bo, off + 2, none⟩ = some (.int .i64 x.hi) ∧ X.cell? ⟨bo, off + 3, none⟩ = some (.slice X3 x.names.length x3) ∧ X.cell? ⟨bo, off + 4, none⟩ = some (.slice X4 x.fields.length x4) ∧ X.cell? ⟨bo, off + 5, none⟩ = some (.slice X5 x.of.length x5) ∧ X.cell? ⟨w.heap.size + 1, 4, none⟩ = some (.slice (some ⟨bk, offk, none⟩) d.kids.length d4) ∧ X.cell? ⟨bk, offk + k * 5, none⟩ = some (.int .i64 y.kind) ∧ X.cell? ⟨bk, offk + k * 5 + 1, none⟩ = some (.int .i64 y.num) ∧ X.cell? ⟨bk, offk + k * 5 + 2, none⟩ = some (.string y.str) ∧ X.cell? ⟨bk, offk + k * 5 + 3, none⟩ = some (.slice Y3 y.keys.length y3) ∧ X.cell? ⟨bk, offk + k * 5 + 4, none⟩ = some (.slice Y4 y.kids.length y4) := fun X hX => ⟨(hX _ _ (.inl rfl)).trans t5, (hX _ _ (.inr (.inl rfl))).trans c0, (hX _ _ (.inr (.inl rfl))).trans c1, (hX _ _ (.inr (.inl rfl))).trans c2, (hX _ _ (.inr (.inl rfl))).trans c3', (hX _ _ (.inr (.inl rfl))).trans c4', (hX _ _ (.inr (.inl rfl))).trans c5', (hX _ _ (.inr (.inr (.inl rfl)))).trans ue4, (hX _ _ (.inr (.inr (.inr rfl)))).trans r0, (hX _ _ (.inr (.inr (.inr rfl)))).trans r1, (hX _ _ (.inr (.inr (.inr rfl)))).trans r2, (hX _ _ (.inr (.inr (.inr rfl)))).trans r3, (hX _ _ (.inr (.inr (.inr rfl)))).trans r4⟩
          have HS := Lib.hid hS
          have HPART := Lib.hid hs
          have hkl10 : d.kids.length ≤ 10000 := HFD.out.kids
          clear hne hye hzi hyi htin hdin hofw hkw hx0 hof hno hno1 hs hLN hS e52
          have hnl : w.heap.size < wr.heap.size := by omega
          have hnl1 : w.heap.size + 1 < wr.heap.size := by omega
          have H23 := Lib.hid h23
          clear h23
          go_upto_region 22 with fail
          go_cut [117] from 103 to 144 (fun s117 wx => s117 = .bool true ∧ wx = wr)
          case first =>
            rcases H23.out with h2 | h3
            · have g2 : (t.kind == 2) = true := by simp [h2]
              clear h2
              go_wp2_with fail
              go_meet
              case rel => exact ⟨rfl, rfl⟩
            · have g2 : (t.kind == 2) = false := by simp [h3]
              have g3 : (t.kind == 3) = true := by simp [h3]
              clear h3
              go_wp2_with fail
              go_meet
              case rel => exact ⟨rfl, rfl⟩
          case rest =>
            obtain ⟨h117, hwc⟩ := hcut
            rw [h117, hwc]
            clear h117 hwc
            go_wp2_with fail
            go_at_call 74
            refine (rdecimals_any hk999).mono ?_
            rintro e w4 ⟨rfl, hb4⟩
            have mv : ∀ b o, b < wr.heap.size → wr.cell? ⟨b, o, none⟩ = w4.cell? ⟨b, o, none⟩ := fun b o h => (hb4.cell (p := ⟨b, o, none⟩) h).symm
            rw [mv _ _ hnl] at t0
            rw [mv _ _ hnl1] at ue3
            go_upto_if 124 with fail
            go_cut [14] from 103 to 144 (fun s14 wx => s14 = .string s ∧ wx = w4)
            case first =>
              rcases H23.out with h2 | h3
              · have g2 : (t.kind == 2) = true := by simp [h2]
                have hdk2 : d.kind = 2 := by rw [HKD.out]; unfold kindV; rw [if_neg HK.out, if_pos h2]
                have hkl : k < d.keys.length := by rw [HDK.out.same (.inr hdk2)]; exact hlt
                obtain ⟨bq, offq, hA, hbq, _, hkey⟩ := STR2.out.strs_at hkl
                subst hA
                have hks : d.keys[k] = s := by rw [HPART.out]; unfold partV; rw [if_neg (by omega), List.getD_eq_getElem?_getD, List.getElem?_eq_getElem hkl]; rfl
                rw [hks] at hkey
                have hik2 : (k : Int) < (d.keys.length : Int) := by omega
                have hbqr : bq < wr.heap.size := by omega
                rw [mv _ _ hbqr] at hkey
                clear h2 hdk2 hks mv
                go_wp2_with fail
                go_meet
                case rel => exact ⟨rfl, rfl⟩
              · have g2 : (t.kind == 2) = false := by simp [h3]
                have hdk3 : d.kind = 3 := by rw [HKD.out]; unfold kindV; rw [if_neg HK.out, if_neg (by omega), if_pos h3]
                have hds : decV k = s := by rw [HPART.out, decV_itoa hk999]; unfold partV; rw [if_pos hdk3]
                clear h3 hdk3 mv
                go_wp2_with fail
                go_meet
                case rel => exact ⟨by rw [hds], rfl⟩
            case rest =>
              obtain ⟨h14, hwc⟩ := hcut
              rw [h14, hwc]
              clear h14 hwc
              clear mv
              go_upto_region 27 with fail
              have HB4 := Lib.hid hb4
              have hz4 := hb4.size
              have HB14 : Hid (Below w1.heap.size w1 w4) := Lib.hid (HBW.out.trans (hb4.mono hzr))
              have HK4 : Hid (∀ b o, (b = w.heap.size ∨ b = bo ∨ b = w.heap.size + 1 ∨ b = bk) → w4.drew.cell? ⟨b, o, none⟩ = wr.cell? ⟨b, o, none⟩) := Lib.hid (fun b o h => hb4.cell (p := ⟨b, o, none⟩) (by show b < _; omega))
              have HSB : Hid (∀ b, (b = w.heap.size ∨ b = bo ∨ b = w.heap.size + 1 ∨ b = bk) → b < wr.heap.size) := Lib.hid (fun b h => by omega)
              have HPK : Hid (Strs w4.drew w4.heap.size (.slice Ap p.length cp) p) := Lib.hid (((HPX.out w4 HB14.out).keep (w' := w4.drew) (fun _ h => h) fun _ _ => rfl).strs fun k hk => by have := HS0.out k hk; show k < w4.heap.size; omega)
              have hppl2 : p.length ≤ 10000 := by omega
              have hpm : p.length + 1 + m ≤ 10000 := by have := HPL.out; omega
              clear t0 t1 t2 t3 t4 t5 ue0 ue1 ue2 ue3 ue4 c0 c1 c2 c3' c4' c5' r0 r1 r2 r3 r4 hb4
              go_region_held3 (fun w' => w'.cell? ⟨w.heap.size, 5, none⟩ = some (.slice (some ⟨bo, off, none⟩) no c5) ∧ w'.cell? ⟨bo, off, none⟩ = some (.int .i64 x.kind) ∧ w'.cell? ⟨bo, off + 1, none⟩ = some (.int .i64 x.lo) ∧ w'.cell? ⟨bo, off + 2, none⟩ = some (.int .i64 x.hi) ∧ w'.cell? ⟨bo, off + 3, none⟩ = some (.slice X3 x.names.length x3) ∧ w'.cell? ⟨bo, off + 4, none⟩ = some (.slice X4 x.fields.length x4) ∧ w'.cell? ⟨bo, off + 5, none⟩ = some (.slice X5 x.of.length x5) ∧ w'.cell? ⟨w.heap.size + 1, 4, none⟩ = some (.slice (some ⟨bk, offk, none⟩) d.kids.length d4) ∧ w'.cell? ⟨bk, offk + k * 5, none⟩ = some (.int .i64 y.kind) ∧ w'.cell? ⟨bk, offk + k * 5 + 1, none⟩ = some (.int .i64 y.num) ∧ w'.cell? ⟨bk, offk + k * 5 + 2, none⟩ = some (.string y.str) ∧ w'.cell? ⟨bk, offk + k * 5 + 3, none⟩ = some (.slice Y3 y.keys.length y3) ∧ w'.cell? ⟨bk, offk + k * 5 + 4, none⟩ = some (.slice Y4 y.kids.length y4))
                (first | with_reducible exact HS.out _ HK4.out | with_reducible exact HS.out _ HK5.out | with_reducible exact HS.out _ HK6.out | with_reducible exact HS.out _ HK7.out)
                ((first
                  | (go_at_call 72
                     refine (rbelow_any (w := w4.drew) (B := w4.heap.size) (Nat.le_refl _) HPK.out hppl2).mono ?_
                     rintro e w5 ⟨vb, rfl, hbo, hb5⟩
                     have hb5' : Below w4.heap.size w4 w5 := (Below.refl _ _).drew.trans hb5
                     have HBO := Lib.hid hbo
                     have HB5 : Hid (Below wr.heap.size wr w5) := Lib.hid (HB4.out.trans (hb5'.mono hz4))
                     have hz5 : w4.heap.size ≤ w5.heap.size := hb5'.size
                     have HK5 : Hid (∀ b o, (b = w.heap.size ∨ b = bo ∨ b = w.heap.size + 1 ∨ b = bk) → w5.cell? ⟨b, o, none⟩ = wr.cell? ⟨b, o, none⟩) := Lib.hid (fun b o h => HB5.out.cell (p := ⟨b, o, none⟩) (HSB.out b h))
                     clear hbo hb5 hb5')
                  | (go_at_call 43
                     refine (HIH.out x y _ _ vb w5 B (fun k => vb.ownBlock = some k) (p ++ [s]) hdep HAX.out HFX.out HFY.out HPY.out HSY.out (by have := HLN.out; omega) (by simp; omega) (by omega) ⟨_, _, _, _, _, _, rfl, HZI.out.keep (Nat.le_refl B) fun q hq => HB5.out.cell (p := q) (by omega)⟩ ⟨_, _, _, _, _, rfl, HYI.out.keep (Nat.le_refl B) fun q hq => HB5.out.cell (p := q) (by omega)⟩ (strsS_own HBO.out) (fun k hk => (HBO.out.lt k hk).2)).mono ?_
                     rintro e w6 ⟨v6, rfl, hr6, hb6⟩
                     have hz6 : w5.heap.size ≤ w6.heap.size := hb6.size
                     have HB6 : Hid (Below wr.heap.size wr w6) := Lib.hid (HB5.out.trans (hb6.mono (by omega)))
                     have HR6 : Hid (RowF w1.heap.size S0 w6 (fe ++ kidsFl x d p k) u7) := Lib.hid (HROW.out.past HB6.out)
                     have HFL6 := Lib.hid hr6.flt
                     have HS6 : Hid (∀ k, ((vb.ownBlock = some k ∨ w5.heap.size ≤ k) ∧ k < w6.heap.size ∧ v6.ownBlock ≠ some k) → (S0 k ∨ w1.heap.size ≤ k) ∧ k < w6.heap.size ∧ u7.ownBlock ≠ some k) := Lib.hid (fun k hk => by
                       have hkl : w4.heap.size ≤ k := by
                         rcases hk.1 with h | h
                         · exact (HBO.out.lt k h).1
                         · omega
                       exact ⟨.inr (by omega), hk.2.1, fun e => by have := (HUL.out k e).2; omega⟩)
                     have HK6 : Hid (∀ b o, (b = w.heap.size ∨ b = bo ∨ b = w.heap.size + 1 ∨ b = bk) → w6.cell? ⟨b, o, none⟩ = wr.cell? ⟨b, o, none⟩) := Lib.hid (fun b o h => HB6.out.cell (p := ⟨b, o, none⟩) (HSB.out b h))
                     clear hr6 hb6)
                  | (refine step_append_flts (by rfl) _ _ (by rfl) (by rfl) (by rfl) HR6.out HFL6.out HS6.out HLN.out (by omega) ?_
                     intro v' w7 hr7 hg7 hat7
                     have HR7 := Lib.hid hr7
                     have HB7 : Hid (Below w1.heap.size w1 w7) := Lib.hid (below_grown (HBW.out.trans (HB6.out.mono hzr)) hg7 (fun k hk => (HUL.out k hk).1) (by omega))
                     have HK7 : Hid (∀ b o, (b = w.heap.size ∨ b = bo ∨ b = w.heap.size + 1 ∨ b = bk) → w7.cell? ⟨b, o, none⟩ = wr.cell? ⟨b, o, none⟩) := Lib.hid (fun b o h => (World.cell?_of_block (a := ⟨b, o, none⟩) (hg7.block b (by have := HSB.out b h; omega) (fun e => by have := HUL.out b e.symm; omega))).trans (HK6.out b o h))
                     clear hr7 hg7 hat7)))
              go_wp2_with fail
              go_roundw
              case rel => exact ⟨k + 1, by omega, by go_num, by rw [HSUC.out, ← List.append_assoc]; exact HR7.out, HB7.out⟩
              case measure => simp [intOf]; omega
        · obtain ⟨t0, t1, t2, t3, t4, t5⟩ := STR2.out.bt.cells
          obtain ⟨ue0, ue1, ue2, ue3, ue4⟩ := STR2.out.bd.cells
          have hkk : k = d.kids.length := by omega
          have HROWE : Hid (RowF w1.heap.size S0 wr (t.faults d p) u7) := Lib.hid (by have h := HROW.out; rw [hkk] at h; rw [HEF.out]; exact h)
          have hik1 : ¬ ((k : Int) < (d.kids.length : Int)) := by omega
          clear hkk
          go_wp2_with fail
          go_ret
          exact ⟨_, rfl, HROWE.out.base (by omega), STR2.out.bl⟩
end Go.Proofs.YtlemlgllkcgigaaGreatDoor
