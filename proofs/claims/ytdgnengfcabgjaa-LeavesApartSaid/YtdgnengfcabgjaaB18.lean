/-
  leaves.visit at a record or a dictionary.
-/
import Derived.Test.YtdgnengfcabgjaaB17
import Derived.Test.YtdgnengfcabgjaaB09
import Derived.Deep.AppendLies
import Derived.Deep.RegionLaw
import Derived.Sort.QuietIn
namespace Go.Proofs.Ytdgnengfcabgjaa
open Go.RowKit Go.Shelf
attribute [local go_sem] Oper.semAt_some

theorem visK_le (p : List ByteArray) : ∀ (ds : List D) (ks : List ByteArray) (j : Nat), (visK p (ds.take j) (ks.take j)).length ≤ (visK p ds ks).length
  | [], ks, j => by simp [visK]
  | d :: ds, [], j => by cases j <;> simp [visK]
  | d :: ds, k :: ks, 0 => by simp [visK]
  | d :: ds, k :: ks, j + 1 => by
    have := visK_le p ds ks j
    simp only [List.take_succ_cons, visK, List.length_append]; omega
theorem visK_next (p : List ByteArray) {ds : List D} {ks : List ByteArray} {i : Nat} (h1 : i < ds.length) (h2 : i < ks.length) : visK p (ds.take (i + 1)) (ks.take (i + 1)) = visK p (ds.take i) (ks.take i) ++ vis (p ++ [ks[i]]) ds[i] := by
  rw [visK_take p h1 h2]; simp [h1, h2]
theorem visK_all (p : List ByteArray) {ds : List D} {ks : List ByteArray} {n : Nat} (h : ds.length ≤ n ∨ ks.length ≤ n) : visK p (ds.take n) (ks.take n) = visK p ds ks := by
  induction n generalizing ds ks with
  | zero => rcases h with h | h
            · rw [List.eq_nil_of_length_eq_zero (by omega : ds.length = 0)]; simp [visK]
            · rw [List.eq_nil_of_length_eq_zero (by omega : ks.length = 0)]; cases ds <;> simp [visK]
  | succ n ih =>
    cases ds with
    | nil => simp [visK]
    | cons d ds =>
      cases ks with
      | nil => simp [visK]
      | cons k ks => simp only [List.take_succ_cons, visK]; rw [ih (by simpa using h)]
theorem step_append_path {ops : Array Oper} {o : Oper} {a : Act} {K : Act → World → Prop} {Q : Exit → Act → World → Prop} {E : Prop} (hgd : o.guard = none) (s x : Operand) (ho : o.op = .call { callee := .builtin .append, args := #[s, x], argTypes := #[22, 22] }) {w : World} {m : Nat} (v : Value) (p : List ByteArray) (key : ByteArray) (ad : Addr) (c : Nat) (hs : a.eval s = v) (hx : a.eval x = .slice (some ad) 1 c)
    (hm : m ≤ w.heap.size) (hown : w.ownsRow m 9 1 v p.length (p.map Value.string)) (hco : CapOkE v p.length) (hnews : ∀ j u, [Value.string key][j]? = some u → w.cell? (ad.add j) = some u) (hc : 1 ≤ c) (hpl : p.length + 1 ≤ 10000)
    (h : ∀ v' w', w'.ownsRow m 9 1 v' (p ++ [key]).length ((p ++ [key]).map Value.string) → CapOkE v' (p ++ [key]).length → w'.ownsRow m 9 1 v p.length (p.map Value.string) → w.grownBy w' v.ownBlock → (v'.ownBlock = v.ownBlock ∨ v'.ownBlock = some w.heap.size) → K (a.put o.dst v') w') :
    if Region.wanted o (yielded ops a.tmps) = true then Oper.wp Try.prog o a w K Q else E := by
  have hw : Region.wanted o (yielded ops a.tmps) = true := by simp [Region.wanted, hgd]
  rw [if_pos hw]
  obtain ⟨v', w', hr, h1, h2, h3, h4, h5⟩ := run_append_path (ty := o.type) hm hown hco hnews hc hpl
  exact op_appendE s x 22 ho hs hx hr (h v' w' h1 h2 h3 h4 h5)
theorem kid_depth {l : List D} {i : Nat} (h : i < l.length) : (l[i]).depth ≤ D.depths l := by
  have h1 := D.depths_take_succ l i h
  have h2 := D.depths_take_le l (i + 1)
  omega
theorem fit_len {d : D} (h : d.Fit) : d.keys.length ≤ 10000 ∧ d.kids.length ≤ 10000 := by
  obtain ⟨_, _, _, _, _⟩ := d
  simp only [D.Fit] at h
  exact ⟨h.2.1, h.2.2.1⟩
theorem keys_v {w : World} {B : Nat} {d : D} {v0 v1 v2 v3 v4 : Value} (h : DocIn w B d v0 v1 v2 v3 v4) : Strs w B v3 d.keys := by
  obtain ⟨_, _, _, _, _⟩ := d; simp only [DocIn] at h; exact h.2.2.2.1
def VisAt (l m N : Nat) (J : List Mk → World → Prop) (k : Nat) : Prop := ∀ (d : D) (p : List ByteArray) (v dv : Value) (pre : List Mk) (W : World) (B : Nat), d.depth ≤ k → VisSt J m p v pre W → CapOkE v p.length → B ≤ m → DocV W B d dv → d.Fit → p.length + d.depth ≤ 9000 → pre.length + (vis p d).length ≤ N →
  Calls Try.prog 67 #[v, dv, .func (.yield l) #[] #[]] W (VisTo J m p v pre (vis p d) W)
set_option maxRecDepth 100000 in
set_option maxHeartbeats 40000000 in
theorem visit_kids {l m M N k : Nat} {J : List Mk → World → Prop} (C : YieldC l J m M N) (ih : VisAt l m N J k) {d : D} {p : List ByteArray} {v dv : Value} {pre : List Mk} {W : World} {B : Nat} (hdk : d.depth ≤ k + 1) (hst : VisSt J m p v pre W) (hco : CapOkE v p.length) (hB : B ≤ m) (hd : DocV W B d dv) (hf : d.Fit) (hk : d.kind = 1 ∨ d.kind = 2)
    (hpl : p.length + d.depth ≤ 9000) (hlen : pre.length + (vis p d).length ≤ N) : Calls Try.prog 67 #[v, dv, .func (.yield l) #[] #[]] W (VisTo J m p v pre (vis p d) W) := by
  have hmW := hst.hm
  obtain ⟨hfl1, hfl2⟩ := fit_len hf
  obtain ⟨v0, v1, v2, v3, v4, rfl, hdi⟩ := hd
  have hb1 : Below W.heap.size W (W.alloc (.cells #[v0, v1, v2, v3, v4] 25)) := (Below.refl _ W).alloc (Nat.le_refl _) _
  have hdi1 : DocIn (W.alloc (.cells #[v0, v1, v2, v3, v4] 25)) B d v0 v1 v2 v3 v4 := hdi.keep (Nat.le_refl _) fun _ h => hb1.cell (by omega)
  have hkey := lkeyed_any hdi1
  rw [decide_eq_true hk] at hkey
  obtain ⟨A, c, rfl⟩ := ownsRow_slice hst.row
  obtain ⟨A3, c3, A4, c4, rfl, rfl, rfl, rfl, rfl⟩ := hdi.forms
  have hlay : ∀ w2, Below (W.alloc (.cells #[.int .i64 d.kind, .int .i64 d.num, .string d.str, .slice A3 d.keys.length c3, .slice A4 d.kids.length c4] 25)).heap.size (W.alloc (.cells #[.int .i64 d.kind, .int .i64 d.num, .string d.str, .slice A3 d.keys.length c3, .slice A4 d.kids.length c4] 25)) w2 →
      Below W.heap.size W w2 ∧ Box5 w2 W.heap.size (.int .i64 d.kind) (.int .i64 d.num) (.string d.str) (.slice A3 d.keys.length c3) (.slice A4 d.kids.length c4) := fun w2 h2 => ⟨hb1.trans (h2.mono (by simp)), (h2.block _ (by simp)).trans (Box5.new W _ _ _ _ _)⟩
  have HLAY := Lib.hid hlay; have HKEY := Lib.hid hkey; have HDI := Lib.hid hdi
  have HST := Lib.hid hst; have HIH := Lib.hid ih; have HCO := Lib.hid hco
  obtain ⟨b0, b1, b2, b3, b4⟩ := (Box5.new W (.int .i64 d.kind) (.int .i64 d.num) (.string d.str) (.slice A3 d.keys.length c3) (.slice A4 d.kids.length c4)).cells
  clear hlay hkey hdi hdi1 hb1 hst ih hco
  refine (callsIn_wide (n := 0)).1 ?_
  refine callsIn_of_wp Try.func67 rfl trivial ?_ rfl
  simp only [Try.ntmps67, List.size_toArray, List.length_cons, List.length_nil, Nat.reduceAdd, Nat.reduceSub, Array.replicate_succ, Array.replicate_zero, List.push_toArray, List.append_toArray, List.nil_append, List.cons_append]
  have mixed : Try.prog.follows .mixedOrders = true := by kernel_rfl
  gi_wp2_with (refine ⟨trivial, rfl, ?_⟩; gi_at_call 83; refine (callsIn_wide.2 HKEY.out).mono ?_; rintro e w2 ⟨rfl, h2⟩; have HL := Lib.hid (HLAY.out w2 h2); clear h2 HLAY HKEY b0 b1 b2 b3 b4)
  obtain ⟨k0, k1, k2, k3, k4⟩ := HL.out.2.cells
  have kf := HL.out.2.frozen
  gi_quiet (fail)
  gi_wp2
  have hd2 : Below W.heap.size W (w2.drewN nq) := HL.out.1.trans ((below_drewN w2 nq).mono HL.out.1.size)
  have hb3 : Below W.heap.size W (((w2.drewN nq).setCell ⟨W.heap.size, 3, none⟩ (.slice none 0 0)).setCell ⟨W.heap.size, 4, none⟩ (.slice none 0 0)) := (hd2.setCell (p := ⟨W.heap.size, 3, none⟩) (Nat.le_refl _) _).setCell (p := ⟨W.heap.size, 4, none⟩) (Nat.le_refl _) _
  have hx3 : Box5 (((w2.drewN nq).setCell ⟨W.heap.size, 3, none⟩ (.slice none 0 0)).setCell ⟨W.heap.size, 4, none⟩ (.slice none 0 0)) W.heap.size (.int .i64 d.kind) (.int .i64 d.num) (.string d.str) (.slice none 0 0) (.slice none 0 0) :=
    Box5.set4 (Box5.set3 (show Box5 (w2.drewN nq) W.heap.size _ _ _ _ _ from HL.out.2) _) _
  generalize (((w2.drewN nq).setCell ⟨W.heap.size, 3, none⟩ (.slice none 0 0)).setCell ⟨W.heap.size, 4, none⟩ (.slice none 0 0)) = w3 at *
  have hs3 : W.heap.size < w3.heap.size := hx3.lt
  have hb3d : Below W.heap.size W w3.drew := hb3.trans ((below_drewN w3 1).mono (Nat.le_of_lt hs3))
  have HJO := Lib.hid (joined_one p (.slice A p.length c) W.heap.size w3.drew (Nat.le_of_lt hs3) ((Strs_of_own HST.out.row).keep fun q hq => hb3d.cell hq) (by omega))
  have hvl : 1 ≤ (vis p d).length := by rw [vis_keyed p hk]; simp
  have HMK : Hid (∀ w4 r, w4.ownsRow w3.drew.heap.size 9 1 r p.length (p.map Value.string) → Below w3.drew.heap.size w3.drew w4 → YieldAt Fence.wide 0 Try.prog l #[.agg #[r, .int .i64 d.kind, .int .i64 d.num, .string d.str, .slice none 0 0, .slice none 0 0]] w4
      fun e W5 => e = .returned (.bool true) ∧ ∃ x : Mk, x.lf = ⟨p, bare d⟩ ∧ W.heap.size ≤ x.lo ∧ VisSt J m p (.slice A p.length c) (pre ++ [x]) W5 ∧ KeepsI (VisK (.slice A p.length c)) m W W5) := Lib.hid fun w4 r h3 h4 => by
    have hown : OwnIn w4 w4.heap.size (bare d) (.int .i64 d.kind) (.int .i64 d.num) (.string d.str) (.slice none 0 0) (.slice none 0 0) [] := by
      unfold bare OwnIn
      exact ⟨rfl, rfl, rfl, World.ownsRow_nil _ _ _ _, [], [], World.ownsRow_nil _ _ _ _, by simp [OwnKids], rfl⟩
    have hx := made_leaf (lf := ⟨p, bare d⟩) hb3d h3 h4 hown (by simp) (Below.refl _ _)
    refine YieldAt.mono (C.hY pre _ W w4 HST.out.j (KeepsI.new hx.2 HST.out.hm) ⟨hx.1, Nat.le_refl _, Nat.le_refl _⟩ (by omega)) ?_
    rintro e W5 ⟨rfl, hJ5, hk5⟩
    have hst5 := HST.out.leaf hx.2 hx.1 rfl rfl hJ5 hk5
    exact ⟨rfl, _, rfl, Nat.le_refl _, hst5.1, hst5.2⟩
  obtain ⟨k0, k1, k2, k3, k4⟩ := (show Box5 w3.drew W.heap.size _ _ _ _ _ from hx3).cells
  have HX3 := Lib.hid hx3
  clear hd2 hb3 hx3 kf HL hb3d
  gi_region_with_o (first
    | (refine ⟨trivial, rfl, ?_⟩; gi_at_call 70; refine (callsIn_wide.2 HJO.out).mono ?_; rintro e w4 ⟨r, rfl, h3, hb4⟩
       obtain ⟨j0, j1, j2, j3, j4⟩ := (show Box5 w4 W.heap.size _ _ _ _ _ from (hb4.block W.heap.size hs3).trans HX3.out).cells
       obtain ⟨fn, tmps, assign, body, hy, hR⟩ := HMK.out w4 r h3 hb4
       obtain ⟨Ar, nr, rfl⟩ := ownsRow_slice h3
       clear h3 hb4 k0 k1 k2 k3 k4 HJO HMK)
    | ((first | refine ⟨rfl, ?_⟩ | refine ⟨trivial, rfl, ?_⟩ | skip); refine hR.mono ?_; rintro e W5 ⟨rfl, x, hxl, hxlo, hxs, hxk⟩; have HXL := Lib.hid hxl; have HXLO := Lib.hid hxlo; have HXS := Lib.hid hxs; have HXK := Lib.hid hxk; clear hxl hxlo hxs hxk hR hy j0 j1 j2 j3 j4))
  all_goals
    rcases Nat.lt_or_ge d.kids.length d.keys.length with hc | hc
    · have hc1 : (d.kids.length : Int) < (d.keys.length : Int) := by omega
      have hc2 : ¬ (d.keys.length : Int) < (d.kids.length : Int) := by omega
      have hc3 : ¬ (d.keys.length : Int) ≤ (d.kids.length : Int) := by omega
      have hc4 : (d.kids.length : Int) ≤ (d.keys.length : Int) := by omega
      gi_wp2
      gi_loopw [38] (fun iv wr => ∃ (i : Nat) (ys : List Mk), iv = .int .i64 i ∧ i ≤ d.kids.length ∧ Hid (ys.map (·.lf) = ⟨p, bare d⟩ :: visK p (d.kids.take i) (d.keys.take i)) ∧ Hid (∀ y ∈ ys, W.heap.size ≤ y.lo) ∧ Hid (VisSt J m p (.slice A p.length c) (pre ++ ys) wr) ∧ Hid (KeepsI (VisK (.slice A p.length c)) m W wr)) (fun iv _ => d.kids.length - (intOf iv).toNat)
      case atStart => exact ⟨0, [x], rfl, Nat.zero_le _, Lib.hid (by simp [HXL.out, visK]), Lib.hid (by simpa using HXLO.out), HXS, HXK⟩
      case round =>
        obtain ⟨i, ys, rfl, hi, HMAP, HLO, HS, HK⟩ := hrel
        by_cases hlt : i < d.kids.length
        · have hik : i < d.keys.length := by omega
          have hid' : i < d.kids.length := by omega
          have hbw : Below m W wr := HK.out.below
          obtain ⟨_, _, e3, _, hk3⟩ := keys_v HDI.out
          injection e3 with e31 e32 e33
          subst e31; subst e33
          obtain ⟨b, off, rfl, hbB, hkc⟩ := hk3 (by omega)
          have gk : wr.cell? ⟨b, off + i, none⟩ = some (.string d.keys[i]) := (hbw.cell (p := ⟨b, off + i, none⟩) (show b < m by omega)).trans (hkc i hik)
          obtain ⟨_, _, e4, _, hk4⟩ := kids_v HDI.out
          injection e4 with e41 e42 e43
          subst e41; subst e43
          obtain ⟨b', off', rfl, hbB', hkk⟩ := hk4 (by omega)
          obtain ⟨u0, u1, u2, u3, u4, q0, q1, q2, q3, q4, hdk⟩ := KidsIn.at_ hkk i hid'
          rw [Nat.zero_add] at q0 q1 q2 q3 q4
          rw [← hbw.cell (p := ⟨b', _, none⟩) (show b' < m by omega)] at q0 q1 q2 q3 q4
          have hlti : (i : Int) < (d.kids.length : Int) := by omega
          have hiki : (i : Int) < (d.keys.length : Int) := by omega
          have hidi : (i : Int) < (d.kids.length : Int) := by omega
          clear hkc hkk hk3 hk4
          gi_wp2
          refine wpIn_wide.2 ?_
          have hkd := kid_depth hid'
          have hdd := D.depth_eq d
          have hlenv : (vis p d).length = 1 + (visK p d.kids d.keys).length := by rw [vis_keyed p hk]; simp; omega
          have hleny : ys.length = 1 + (visK p (d.kids.take i) (d.keys.take i)).length := by have := congrArg List.length HMAP.out; simp at this; simp [this]; omega
          have hlenn := visK_le p d.kids d.keys (i + 1)
          rw [visK_next p hid' hik, List.length_append] at hlenn
          have hszw : m ≤ wr.heap.size := HS.out.hm
          have hfk : (d.kids[i]).Fit := D.Fits.at_ hf.kids_ hid'
          have HDV := Lib.hid (show DocV W B d.kids[i] (.agg #[u0, u1, u2, u3, u4]) from ⟨_, _, _, _, _, rfl, hdk⟩)
          have hbd : Below wr.heap.size wr ((wr.alloc (.cells #[.string d.keys[i]] 9)).drew) := ((Below.refl _ wr).alloc (Nat.le_refl _) _).drew
          have HBD := Lib.hid hbd; have HBW := Lib.hid hbw
          have s0 := (hbd.cell (p := ⟨b', off' + i * 5, none⟩) (show b' < wr.heap.size by omega)).trans q0
          have s1 := (hbd.cell (p := ⟨b', off' + i * 5 + 1, none⟩) (show b' < wr.heap.size by omega)).trans q1
          have s2 := (hbd.cell (p := ⟨b', off' + i * 5 + 2, none⟩) (show b' < wr.heap.size by omega)).trans q2
          have s3 := (hbd.cell (p := ⟨b', off' + i * 5 + 3, none⟩) (show b' < wr.heap.size by omega)).trans q3
          have s4 := (hbd.cell (p := ⟨b', off' + i * 5 + 4, none⟩) (show b' < wr.heap.size by omega)).trans q4
          clear hbd hbw hdk
          go_region_law (first
            | (refine step_append_path (by rfl) _ _ (by rfl) (m := m) (.slice A p.length c) p d.keys[i] ⟨wr.heap.size, 0, none⟩ 1 (by rfl) (by rfl) (by simp; omega) ((HS.out.row.alloc _).drew) HCO.out (World.news_of_block (cs := #[.string d.keys[i]]) (t := 9) (fr := (0, 0)) (heap_alloc_new wr _)) (Nat.le_refl _) (by omega) ?_
               intro v' w6 ho6 hc6 hold6 hg6 hat6
               have hl6 := HS.out.longer C HBD.out hg6 hold6 ho6 hat6
               have hw6 : Below m W w6 := HBW.out.trans hl6.2.2.below
               have r0 := (hl6.2.2.below.cell (p := ⟨b', off' + i * 5, none⟩) (show b' < m by omega)).trans q0
               have r1 := (hl6.2.2.below.cell (p := ⟨b', off' + i * 5 + 1, none⟩) (show b' < m by omega)).trans q1
               have r2 := (hl6.2.2.below.cell (p := ⟨b', off' + i * 5 + 2, none⟩) (show b' < m by omega)).trans q2
               have r3 := (hl6.2.2.below.cell (p := ⟨b', off' + i * 5 + 3, none⟩) (show b' < m by omega)).trans q3
               have r4 := (hl6.2.2.below.cell (p := ⟨b', off' + i * 5 + 4, none⟩) (show b' < m by omega)).trans q4
               have HIH6 := Lib.hid (HIH.out d.kids[i] (p ++ [d.keys[i]]) v' _ (pre ++ ys) w6 B (by omega) hl6.2.1 hc6 hB (HDV.out.below (hw6.mono hB)) hfk (by simp; omega) (by simp; omega))
               have HL6 := Lib.hid hl6; have HO6 := Lib.hid ho6; have HAT6 := Lib.hid hat6
               clear hl6 hw6 ho6 hc6 hold6 hg6 hat6)
            | (go_wp2_with fail
               go_at_call 67
               refine HIH6.out.mono ?_
               rintro e w7 ⟨rfl, zs, hz1, hz2, hz3, hz4⟩
               have hbk := HL6.out.1.back HO6.out HBD.out.size (fun k hk => (HS.out.row.lt k hk).2) HAT6.out HL6.out.2.2 hz2 hz3 hz4
               have HBK := Lib.hid hbk; have HZ1 := Lib.hid hz1
               have HZ2 := Lib.hid (fun y hy => Nat.le_trans HK.out.below.size (Nat.le_trans HL6.out.2.2.below.size (hz2 y hy)))
               clear hbk hz1 hz2 hz3 hz4 HIH6))
          all_goals
            clear s0 s1 s2 s3 s4 q0 q1 q2 q3 q4 HIH
            gi_wp2
            go_roundw
            case rel => exact ⟨i + 1, ys ++ zs, by first | rfl | go_num, by omega, Lib.hid (by rw [List.map_append, HMAP.out, HZ1.out, visK_next p hid' hik]; rfl), Lib.hid (fun y hy => (List.mem_append.1 hy).elim (HLO.out y) (HZ2.out y)), Lib.hid (by rw [← List.append_assoc]; exact HBK.out.1), Lib.hid (HK.out.trans HBK.out.2)⟩
            case measure => simp [intOf]; omega
        · have hnlt : ¬ (i : Int) < (d.kids.length : Int) := by omega
          have hend : visK p (d.kids.take i) (d.keys.take i) = visK p d.kids d.keys := visK_all p (by omega)
          have HEND := Lib.hid (show VisTo J m p (.slice A p.length c) pre (vis p d) W (.returned (.bool true)) wr from ⟨rfl, ys, by rw [HMAP.out, hend, vis_keyed p hk], HLO.out, HS.out, HK.out⟩)
          clear HS HK HLO HMAP HIH
          gi_wp2
          go_ret
          exact HEND.out
    · have hc1 : ¬ (d.kids.length : Int) < (d.keys.length : Int) := by omega
      have hc3 : (d.keys.length : Int) ≤ (d.kids.length : Int) := by omega
      gi_wp2
      gi_loopw [38] (fun iv wr => ∃ (i : Nat) (ys : List Mk), iv = .int .i64 i ∧ i ≤ d.keys.length ∧ Hid (ys.map (·.lf) = ⟨p, bare d⟩ :: visK p (d.kids.take i) (d.keys.take i)) ∧ Hid (∀ y ∈ ys, W.heap.size ≤ y.lo) ∧ Hid (VisSt J m p (.slice A p.length c) (pre ++ ys) wr) ∧ Hid (KeepsI (VisK (.slice A p.length c)) m W wr)) (fun iv _ => d.keys.length - (intOf iv).toNat)
      case atStart => exact ⟨0, [x], rfl, Nat.zero_le _, Lib.hid (by simp [HXL.out, visK]), Lib.hid (by simpa using HXLO.out), HXS, HXK⟩
      case round =>
        obtain ⟨i, ys, rfl, hi, HMAP, HLO, HS, HK⟩ := hrel
        by_cases hlt : i < d.keys.length
        · have hik : i < d.keys.length := by omega
          have hid' : i < d.kids.length := by omega
          have hbw : Below m W wr := HK.out.below
          obtain ⟨_, _, e3, _, hk3⟩ := keys_v HDI.out
          injection e3 with e31 e32 e33
          subst e31; subst e33
          obtain ⟨b, off, rfl, hbB, hkc⟩ := hk3 (by omega)
          have gk : wr.cell? ⟨b, off + i, none⟩ = some (.string d.keys[i]) := (hbw.cell (p := ⟨b, off + i, none⟩) (show b < m by omega)).trans (hkc i hik)
          obtain ⟨_, _, e4, _, hk4⟩ := kids_v HDI.out
          injection e4 with e41 e42 e43
          subst e41; subst e43
          obtain ⟨b', off', rfl, hbB', hkk⟩ := hk4 (by omega)
          obtain ⟨u0, u1, u2, u3, u4, q0, q1, q2, q3, q4, hdk⟩ := KidsIn.at_ hkk i hid'
          rw [Nat.zero_add] at q0 q1 q2 q3 q4
          rw [← hbw.cell (p := ⟨b', _, none⟩) (show b' < m by omega)] at q0 q1 q2 q3 q4
          have hlti : (i : Int) < (d.keys.length : Int) := by omega
          have hiki : (i : Int) < (d.keys.length : Int) := by omega
          have hidi : (i : Int) < (d.kids.length : Int) := by omega
          clear hkc hkk hk3 hk4
          gi_wp2
          refine wpIn_wide.2 ?_
          have hkd := kid_depth hid'
          have hdd := D.depth_eq d
          have hlenv : (vis p d).length = 1 + (visK p d.kids d.keys).length := by rw [vis_keyed p hk]; simp; omega
          have hleny : ys.length = 1 + (visK p (d.kids.take i) (d.keys.take i)).length := by have := congrArg List.length HMAP.out; simp at this; simp [this]; omega
          have hlenn := visK_le p d.kids d.keys (i + 1)
          rw [visK_next p hid' hik, List.length_append] at hlenn
          have hszw : m ≤ wr.heap.size := HS.out.hm
          have hfk : (d.kids[i]).Fit := D.Fits.at_ hf.kids_ hid'
          have HDV := Lib.hid (show DocV W B d.kids[i] (.agg #[u0, u1, u2, u3, u4]) from ⟨_, _, _, _, _, rfl, hdk⟩)
          have hbd : Below wr.heap.size wr ((wr.alloc (.cells #[.string d.keys[i]] 9)).drew) := ((Below.refl _ wr).alloc (Nat.le_refl _) _).drew
          have HBD := Lib.hid hbd; have HBW := Lib.hid hbw
          have s0 := (hbd.cell (p := ⟨b', off' + i * 5, none⟩) (show b' < wr.heap.size by omega)).trans q0
          have s1 := (hbd.cell (p := ⟨b', off' + i * 5 + 1, none⟩) (show b' < wr.heap.size by omega)).trans q1
          have s2 := (hbd.cell (p := ⟨b', off' + i * 5 + 2, none⟩) (show b' < wr.heap.size by omega)).trans q2
          have s3 := (hbd.cell (p := ⟨b', off' + i * 5 + 3, none⟩) (show b' < wr.heap.size by omega)).trans q3
          have s4 := (hbd.cell (p := ⟨b', off' + i * 5 + 4, none⟩) (show b' < wr.heap.size by omega)).trans q4
          clear hbd hbw hdk
          go_region_law (first
            | (refine step_append_path (by rfl) _ _ (by rfl) (m := m) (.slice A p.length c) p d.keys[i] ⟨wr.heap.size, 0, none⟩ 1 (by rfl) (by rfl) (by simp; omega) ((HS.out.row.alloc _).drew) HCO.out (World.news_of_block (cs := #[.string d.keys[i]]) (t := 9) (fr := (0, 0)) (heap_alloc_new wr _)) (Nat.le_refl _) (by omega) ?_
               intro v' w6 ho6 hc6 hold6 hg6 hat6
               have hl6 := HS.out.longer C HBD.out hg6 hold6 ho6 hat6
               have hw6 : Below m W w6 := HBW.out.trans hl6.2.2.below
               have r0 := (hl6.2.2.below.cell (p := ⟨b', off' + i * 5, none⟩) (show b' < m by omega)).trans q0
               have r1 := (hl6.2.2.below.cell (p := ⟨b', off' + i * 5 + 1, none⟩) (show b' < m by omega)).trans q1
               have r2 := (hl6.2.2.below.cell (p := ⟨b', off' + i * 5 + 2, none⟩) (show b' < m by omega)).trans q2
               have r3 := (hl6.2.2.below.cell (p := ⟨b', off' + i * 5 + 3, none⟩) (show b' < m by omega)).trans q3
               have r4 := (hl6.2.2.below.cell (p := ⟨b', off' + i * 5 + 4, none⟩) (show b' < m by omega)).trans q4
               have HIH6 := Lib.hid (HIH.out d.kids[i] (p ++ [d.keys[i]]) v' _ (pre ++ ys) w6 B (by omega) hl6.2.1 hc6 hB (HDV.out.below (hw6.mono hB)) hfk (by simp; omega) (by simp; omega))
               have HL6 := Lib.hid hl6; have HO6 := Lib.hid ho6; have HAT6 := Lib.hid hat6
               clear hl6 hw6 ho6 hc6 hold6 hg6 hat6)
            | (go_wp2_with fail
               go_at_call 67
               refine HIH6.out.mono ?_
               rintro e w7 ⟨rfl, zs, hz1, hz2, hz3, hz4⟩
               have hbk := HL6.out.1.back HO6.out HBD.out.size (fun k hk => (HS.out.row.lt k hk).2) HAT6.out HL6.out.2.2 hz2 hz3 hz4
               have HBK := Lib.hid hbk; have HZ1 := Lib.hid hz1
               have HZ2 := Lib.hid (fun y hy => Nat.le_trans HK.out.below.size (Nat.le_trans HL6.out.2.2.below.size (hz2 y hy)))
               clear hbk hz1 hz2 hz3 hz4 HIH6))
          all_goals
            clear s0 s1 s2 s3 s4 q0 q1 q2 q3 q4 HIH
            gi_wp2
            go_roundw
            case rel => exact ⟨i + 1, ys ++ zs, by first | rfl | go_num, by omega, Lib.hid (by rw [List.map_append, HMAP.out, HZ1.out, visK_next p hid' hik]; rfl), Lib.hid (fun y hy => (List.mem_append.1 hy).elim (HLO.out y) (HZ2.out y)), Lib.hid (by rw [← List.append_assoc]; exact HBK.out.1), Lib.hid (HK.out.trans HBK.out.2)⟩
            case measure => simp [intOf]; omega
        · have hnlt : ¬ (i : Int) < (d.keys.length : Int) := by omega
          have hend : visK p (d.kids.take i) (d.keys.take i) = visK p d.kids d.keys := visK_all p (by omega)
          have HEND := Lib.hid (show VisTo J m p (.slice A p.length c) pre (vis p d) W (.returned (.bool true)) wr from ⟨rfl, ys, by rw [HMAP.out, hend, vis_keyed p hk], HLO.out, HS.out, HK.out⟩)
          clear HS HK HLO HMAP HIH
          gi_wp2
          go_ret
          exact HEND.out
end Go.Proofs.Ytdgnengfcabgjaa
