/-
  doc.Copy: a document of its own.
  What a call tells that makes a document, and something beside it.
  What doc.Int and List make.
-/
import Derived.Test.YtdgnengfcabgjaaB02
namespace Go.Proofs.Ytdgnengfcabgjaa
open Go.RowKit

set_option maxHeartbeats 4000000 in
set_option maxRecDepth 100000 in
theorem copies_of (m : Nat) (ih : ∀ (d : D) (v0 v1 v2 v3 v4 : Value) (w : World) (B : Nat), d.depth ≤ m → d.Fit → B ≤ w.heap.size → DocIn w B d v0 v1 v2 v3 v4 →
      Calls Try.prog 56 #[.agg #[v0, v1, v2, v3, v4]] w (MadeDoc w.heap.size w d))
    (l : List D) (v : Value) (w : World) (B : Nat) (hm : D.depths l ≤ m) (hlen : l.length ≤ 10000) (hf : D.Fits l) (hB : B ≤ w.heap.size) (hv : KidsV w B l v) :
    Calls Try.prog 57 #[v] w (MadeRow w.heap.size w l) := by
  obtain ⟨A, c, rfl, hlc, hkids⟩ := hv
  have HK := Lib.hid hkids
  have HF := Lib.hid hf
  have IH := Lib.hid ih
  clear hkids hf ih
  obtain ⟨i0, hi, hz0, hz1, hz2⟩ := info_parts infoD
  have HI := Lib.hid hi; have HZ0 := Lib.hid hz0; have HZ1 := Lib.hid hz1; have HZ2 := Lib.hid hz2
  clear hi hz0 hz1 hz2
  go_enter Try.func57, Try.ntmps57
  go_wp2_with fail
  go_loopw [3, 8] (fun v i wr => ∃ (k : Nat) (cs : List Value) (F : List Nat), k ≤ l.length ∧ i = .int .i64 k ∧ wr.ownsRow w.heap.size 25 5 v k cs ∧ OwnKids wr w.heap.size (l.take k) cs F ∧ (blk v ++ F).Nodup ∧ Below w.heap.size w wr) (fun _ i _ => l.length - (intOf i).toNat)
  case atStart => exact ⟨0, [], [], Nat.zero_le _, rfl, World.ownsRow_nil _ _ _ _, by simp [OwnKids], by simp [blk, Value.ownBlock], Below.refl _ _⟩
  case round =>
    obtain ⟨k, cs, F, hk, rfl, hown, hokids, hnd, hb⟩ := hrel
    have HO := Lib.hid hown; have HOK := Lib.hid hokids; have HND := Lib.hid hnd
    clear hown hokids hnd
    have hz := hb.size
    by_cases hlt : k < l.length
    · obtain ⟨b, off, rfl, hab, hki⟩ := HK.out (by omega)
      have hcells := KidsIn.at_ hki k hlt
      rw [Nat.zero_add] at hcells
      obtain ⟨u0, u1, u2, u3, u4, g0, g1, g2, g3, g4, hdk⟩ := hcells
      have bc : ∀ n, wr.cell? ⟨b, n, none⟩ = w.cell? ⟨b, n, none⟩ := fun n => hb.cell (p := ⟨b, n, none⟩) (by show b < _; omega)
      rw [← bc] at g0 g1 g2 g3 g4
      clear bc hki
      obtain ⟨A5, c5, A6, c6, rfl, rfl, rfl, rfl, rfl⟩ := hdk.forms
      have HD := Lib.hid hdk; clear hdk
      go_wp2_with fail
      refine (IH.out l[k] _ _ _ _ _ _ B (by have := D.depth_le_depths l l[k] (List.getElem_mem hlt); omega) (HF.out.at_ hlt) (by simp; omega) (HD.out.keep (Nat.le_refl _) fun p hp => (World.cell?_alloc_lt wr _ p (by omega)).trans (hb.cell (by omega)))).mono ?_
      rintro e w2 ⟨y0, y1, y2, y3, y4, G, rfl, hG, hGn, hb2⟩
      simp only [World.size_alloc] at hG hb2
      obtain ⟨A7, c7, A8, c8, rfl, rfl, rfl, rfl, rfl⟩ := hG.doc.forms
      have HG := Lib.hid hG; have HGN := Lib.hid hGn
      clear hG hGn
      have hz2 := hb2.size
      simp only [World.size_alloc] at hz2
      have hb3 : Below wr.heap.size wr w2 := ((Below.refl _ _).alloc (Nat.le_refl _) _).trans (hb2.mono (by omega))
      have hO2 : Hid (w2.ownsRow w.heap.size 25 5 u3 k cs) := ownsRow_same HO.out fun j hj => hb3.block j (HO.out.lt j (blk_mem.1 hj)).2
      have hOK2 : Hid (OwnKids w2 w.heap.size (l.take k) cs F) := HOK.out.below hb3 (Nat.le_refl _)
      go_wp2_with (at_builtin; refine wpList_append_lies _ rfl _ _ 23 rfl w.heap.size 25 i0 (.agg #[.int .i64 0, .int .i64 0, .string ByteArray.empty, .slice none 0 0, .slice none 0 0]) 5 80 Try.underlying23 HI.out HZ0.out HZ1.out HZ2.out (by rfl) (by omega) _ k cs rfl (hO2.out.alloc _) ⟨w2.heap.size, 0, none⟩ 1 _ [.int .i64 (l[k]).kind, .int .i64 (l[k]).num, .string (l[k]).str, .slice A7 (l[k]).keys.length c7, .slice A8 (l[k]).kids.length c8] rfl rfl (World.news_of_block (heap_alloc_new w2 _)) (oneCell_agg HG.out.doc) (by omega) (by unfold maxLen; omega) (by omega) (by simp; omega) (w2.heap.size + 1) (by simp) ?_; intro g cap w3 hown3 hgrow3 hat3 hlt3)
      go_roundw
      case rel =>
        obtain ⟨r1, r2, r3⟩ := push_rel (n := k + 1) (cap := cap) hlt HND.out HO.out HOK.out hb (by omega) hb3 HG.out HGN.out _ hgrow3 hat3
        exact ⟨k + 1, _, _, by omega, by go_num, hown3, r1, r2, r3⟩
      case measure => simp [intOf]; omega
    · have htk : l.take k = l := List.take_of_length_le (by omega)
      have hkl : k = l.length := by omega
      have HR : Hid (wr.ownsRow w.heap.size 25 5 u3 l.length cs ∧ OwnKids wr w.heap.size l cs F) := ⟨by rw [← hkl]; exact HO.out, by have := HOK.out; rw [htk] at this; exact this⟩
      clear htk hkl
      go_wp2_with fail
      go_ret
      exact ⟨_, cs, F, rfl, HR.out.1, HR.out.2, HND.out, hb⟩

theorem kids_v {w : World} {B : Nat} {d : D} {v0 v1 v2 v3 v4 : Value} (h : DocIn w B d v0 v1 v2 v3 v4) : KidsV w B d.kids v4 := by
  obtain ⟨_, _, _, _, l⟩ := d
  simp only [DocIn] at h
  obtain ⟨_, _, _, _, A', c', rfl, k1, k2⟩ := h
  exact ⟨A', c', rfl, k1, k2⟩
theorem KidsV.keep {w w' : World} {B B' : Nat} {l : List D} {v : Value} (hB : B ≤ B') (h : ∀ p : Addr, p.block < B → w'.cell? p = w.cell? p) (hv : KidsV w B l v) : KidsV w' B' l v := by
  obtain ⟨A, c, rfl, k1, k2⟩ := hv
  refine ⟨A, c, rfl, k1, fun hl => ?_⟩
  obtain ⟨b, off, ea, hb, hk⟩ := k2 hl
  exact ⟨b, off, ea, by omega, KidsIn.keep hB h hb hk⟩
theorem D.Fit.kids_ {d : D} (h : d.Fit) : D.Fits d.kids := by obtain ⟨_, _, _, _, _⟩ := d; simp only [D.Fit] at h; exact h.2.2.2.2

set_option maxHeartbeats 4000000 in
set_option maxRecDepth 100000 in
theorem copy_any (m : Nat) : ∀ (d : D) (v0 v1 v2 v3 v4 : Value) (w : World) (B : Nat), d.depth ≤ m → d.Fit → B ≤ w.heap.size → DocIn w B d v0 v1 v2 v3 v4 →
    Calls Try.prog 56 #[.agg #[v0, v1, v2, v3, v4]] w (MadeDoc w.heap.size w d) := by
  induction m with
  | zero => intro d; obtain ⟨_, _, _, _, _⟩ := d; intro _ _ _ _ _ _ _ h; simp [D.depth] at h
  | succ m ih =>
    intro d v0 v1 v2 v3 v4 w B hm hf hB hd
    have hcop := copies_of m ih
    have HC := Lib.hid hcop; clear hcop ih
    have hkl := hf.keys; have hdl := hf.kids
    have HF := Lib.hid hf; clear hf
    have HKV := Lib.hid (kids_v hd)
    have HK3 := Lib.hid hd.keys_
    have hde := D.depth_eq d
    have hdm : D.depths d.kids ≤ m := by omega
    clear hde
    obtain ⟨A3, c3, A4, c4, rfl, rfl, rfl, rfl, rfl⟩ := hd.forms
    clear hd
    obtain ⟨i0, hi, hz0, hz1, hz2⟩ := info_parts infoS
    have HI := Lib.hid hi; have HZ0 := Lib.hid hz0; have HZ1 := Lib.hid hz1; have HZ2 := Lib.hid hz2
    clear hi hz0 hz1 hz2
    go_enter Try.func56, Try.ntmps56
    go_wp2_with (at_builtin; refine hold ?_)
    unfold Hold
    refine wpList_append_strs rfl _ _ rfl (w.heap.size + 2) B 0 (.slice none 0 0) _ [] d.keys rfl rfl (World.ownsRow_nil _ _ _ _) (HK3.out.keep fun p hp => (World.cell?_alloc_lt (w.alloc _) _ p (by simp; omega)).trans (World.cell?_alloc_lt w _ p (by omega))) (by omega) (by simp) ?_
    intro v' w1 hown1 hgrow1 _
    have hb1 : Below (w.heap.size + 2) ((w.alloc _).alloc _) w1 := ⟨hgrow1.os, hgrow1.tape, hgrow1.output, hgrow1.size, fun j hj => hgrow1.block j (by simp; omega) (by simp [Value.ownBlock])⟩
    have hz1 := hb1.size
    simp only [World.size_alloc] at hz1
    have hx1 : Box5 w1 w.heap.size (.int .i64 d.kind) (.int .i64 d.num) (.string d.str) (.slice A3 d.keys.length c3) (.slice A4 d.kids.length c4) := ((Box5.new w _ _ _ _ _).alloc _).same (hb1.block _ (by omega))
    have hr1 : Box5 w1 (w.heap.size + 1) (.int .i64 0) (.int .i64 0) (.string ⟨#[]⟩) (.slice none 0 0) (.slice none 0 0) := (Box5.new' (World.size_alloc _ _) _ _ _ _ _).same (hb1.block _ (by omega))
    rw [Nat.zero_add, List.nil_append] at hown1
    obtain ⟨A', c', rfl⟩ := ownsRow_slice hown1
    have HB1 := Lib.hid hb1
    have HO1 := Lib.hid hown1
    have HX1 := Lib.hid hx1; have HR1 := Lib.hid hr1
    obtain ⟨q0, q1, q2, q3, q4⟩ := hx1.cells
    have q5 := hx1.frozen
    clear hown1 hgrow1 hb1 hx1 hr1
    go_wp2_with fail
    have keep : ∀ p : Addr, p.block < B → (w1.setCell ⟨w.heap.size, 3, none⟩ (.slice A' d.keys.length c')).cell? p = w.cell? p := fun p hp =>
      (World.cell?_setCell_other _ _ _ _ (by rintro rfl; exact absurd hp (by show ¬ w.heap.size < B; omega))).trans ((HB1.out.cell (by omega)).trans ((World.cell?_alloc_lt (w.alloc _) _ p (by simp; omega)).trans (World.cell?_alloc_lt w _ p (by omega))))
    refine (HC.out d.kids _ _ B hdm hdl HF.out.kids_ (by simp [World.setCell]; omega) (HKV.out.keep (Nat.le_refl _) keep)).mono ?_
    rintro e w2 ⟨v4', cs, F, rfl, hown2, hkids2, hnd2, hb2⟩
    have hsc : (w1.setCell ⟨w.heap.size, 3, none⟩ (.slice A' d.keys.length c')).heap.size = w1.heap.size := by simp [World.setCell]
    rw [hsc] at hown2 hkids2 hb2
    obtain ⟨A'', c'', rfl⟩ := ownsRow_slice hown2
    have hz2 := hb2.size
    rw [hsc] at hz2
    have hx2 := (HX1.out.set3 (.slice A' d.keys.length c')).same (hb2.block _ (by omega))
    have hr2 := (HR1.out.far (p := ⟨w.heap.size, 3, none⟩) (by show w.heap.size + 1 ≠ w.heap.size; omega) (.slice A' d.keys.length c')).same (hb2.block _ (by omega))
    have hX3 := hx2.set4 (.slice A'' d.kids.length c'')
    have hR3 := hr2.far (p := ⟨w.heap.size, 4, none⟩) (by show w.heap.size + 1 ≠ w.heap.size; omega) (.slice A'' d.kids.length c'')
    have HO2 := Lib.hid hown2; have HK2 := Lib.hid hkids2; have HN2 := Lib.hid hnd2; have HB2 := Lib.hid hb2
    have HX3 := Lib.hid hX3; have HR3 := Lib.hid hR3
    obtain ⟨s0, s1, s2, s3, s4⟩ := hx2.cells
    have s5 := hx2.frozen
    obtain ⟨r0, r1, r2, r3, r4⟩ := hr2.cells
    have r5 := hr2.frozen
    clear hown2 hkids2 hnd2 hb2 hX3 hR3 hx2 hr2 q0 q1 q2 q3 q4 q5 keep
    go_wp2_with fail
    have hfin := ((((HR3.out.set0 (.int .i64 d.kind)).set1 (.int .i64 d.num)).set2 (.string d.str)).set3 (.slice A' d.keys.length c')).set4 (.slice A'' d.kids.length c'')
    clear r0 r1 r2 r3 r4 r5 s0 s1 s2 s3 s4 s5
    refine ret_cell5 rfl rfl hfin.load rfl ?_
    have hb1 := HB1.out
    have hsame : ∀ k, w.heap.size + 2 ≤ k → ((((((w2.setCell ⟨w.heap.size, 4, none⟩ (.slice A'' d.kids.length c'')).setCell ⟨w.heap.size + 1, 0, none⟩ (.int .i64 d.kind)).setCell ⟨w.heap.size + 1, 1, none⟩ (.int .i64 d.num)).setCell ⟨w.heap.size + 1, 2, none⟩ (.string d.str)).setCell ⟨w.heap.size + 1, 3, none⟩ (.slice A' d.keys.length c')).setCell
        ⟨w.heap.size + 1, 4, none⟩ (.slice A'' d.kids.length c'')).heap[k]? = w2.heap[k]? := fun k hk => by
      rw [Below.heap_setCell _ _ _ k (by show k ≠ w.heap.size + 1; omega), Below.heap_setCell _ _ _ k (by show k ≠ w.heap.size + 1; omega), Below.heap_setCell _ _ _ k (by show k ≠ w.heap.size + 1; omega), Below.heap_setCell _ _ _ k (by show k ≠ w.heap.size + 1; omega),
        Below.heap_setCell _ _ _ k (by show k ≠ w.heap.size + 1; omega), Below.heap_setCell _ _ _ k (by show k ≠ w.heap.size; omega)]
    have hsame1 : ∀ k, w.heap.size + 2 ≤ k → k < w1.heap.size → w2.heap[k]? = w1.heap[k]? := fun k hk hk2 =>
      (HB2.out.block k hk2).trans (Below.heap_setCell _ _ _ k (by show k ≠ w.heap.size; omega))
    have l1 := HO1.out.lt
    have l2 := HO2.out.lt
    have l3 := HK2.out.lt
    refine ⟨_, _, _, _, _, _, rfl, OwnIn.make (ownsRow_base (ownsRow_same HO1.out fun k hk => (hsame k (by have := l1 k (blk_mem.1 hk); omega)).trans (hsame1 k (by have := l1 k (blk_mem.1 hk); omega) (by have := l1 k (blk_mem.1 hk); omega))) (by omega))
      (ownsRow_base (ownsRow_same HO2.out fun k hk => hsame k (by have := l2 k (blk_mem.1 hk); omega)) (by omega)) (HK2.out.same (by omega) fun k hk => hsame k (by have := l3 k hk; omega)), ?_, ?_⟩
    · rw [List.nodup_append]
      refine ⟨blk_nodup _, HN2.out, fun a ha b hb hab => ?_⟩
      subst hab
      have h1 := l1 a (blk_mem.1 ha)
      rcases List.mem_append.1 hb with hb | hb
      · have := l2 a (blk_mem.1 hb); omega
      · have := l3 a hb; omega
    · refine (((((((((Below.refl w.heap.size w).alloc (Nat.le_refl _) _).alloc (by simp) _).trans (hb1.mono (by omega))).setCell (by show w.heap.size ≤ w.heap.size; omega) _).trans (HB2.out.mono (by omega))).setCell (by show w.heap.size ≤ w.heap.size; omega) _).setCell (by show w.heap.size ≤ w.heap.size + 1; omega) _).setCell (by show w.heap.size ≤ w.heap.size + 1; omega) _).setCell (by show w.heap.size ≤ w.heap.size + 1; omega) _ |>.setCell (by show w.heap.size ≤ w.heap.size + 1; omega) _ |>.setCell (by show w.heap.size ≤ w.heap.size + 1; omega) _

/-- Copy, at whatever document. -/
theorem copy_v {d : D} {v : Value} {w : World} {B : Nat} (hf : d.Fit) (hB : B ≤ w.heap.size) (hd : DocV w B d v) : Calls Try.prog 56 #[v] w (MadeDoc w.heap.size w d) := by
  obtain ⟨v0, v1, v2, v3, v4, rfl, hd⟩ := hd
  exact copy_any d.depth d v0 v1 v2 v3 v4 w B (Nat.le_refl _) hf hB hd
theorem copies_v {l : List D} {v : Value} {w : World} {B : Nat} (hlen : l.length ≤ 10000) (hf : D.Fits l) (hB : B ≤ w.heap.size) (hv : KidsV w B l v) : Calls Try.prog 57 #[v] w (MadeRow w.heap.size w l) :=
  copies_of (D.depths l) (copy_any (D.depths l)) l v w B (Nat.le_refl _) hlen hf hB hv
end Go.Proofs.Ytdgnengfcabgjaa
namespace Go.Proofs.Ytdgnengfcabgjaa
open Go.RowKit

theorem ret_cell5_2 {P : Program} {fn : Func} {R : Ending → World → Prop} {a : Act} {w : World} {b : Nat} {t t' : Tmp} {v0 v1 v2 v3 v4 u : Value} {T : TypeId} (hres : fn.results = #[.cell t T, .tmp t']) (hslot : a.tmps.getD t undef = .pointer (some ⟨b, 0, none⟩)) (hslot' : a.tmps.getD t' undef = u)
    (hload : (loadVar T ⟨b, 0, none⟩).run P w = .ok (.agg #[v0, v1, v2, v3, v4]) w) (hd : a.defers = []) (hR : R (.returned (.tuple #[.agg #[v0, v1, v2, v3, v4], u])) w) : bodyPost P fn R .ret a w :=
  bodyPost_ret (v := .tuple #[.agg #[v0, v1, v2, v3, v4], u]) (by rw [Array.getD_eq_getD_getElem?] at hslot hslot'; simp [results, hres, hslot, hslot', asAddr, hload]) hd hR

/-- What a call tells that makes a document, and something beside it. -/
def MadeDoc2 (W0 : Nat) (w : World) (d : D) (u : Value) (e : Ending) (w' : World) : Prop :=
  ∃ (v0 v1 v2 v3 v4 : Value) (F : List Nat), e = .returned (.tuple #[.agg #[v0, v1, v2, v3, v4], u]) ∧ OwnIn w' W0 d v0 v1 v2 v3 v4 F ∧ F.Nodup ∧ Below W0 w w'
def D.zero : D := .mk 0 0 ⟨#[]⟩ [] []
theorem OwnIn.zero (w : World) (base : Nat) : OwnIn w base D.zero (.int .i64 0) (.int .i64 0) (.string ⟨#[]⟩) (.slice none 0 0) (.slice none 0 0) [] := by
  simp only [D.zero, OwnIn]
  exact ⟨trivial, trivial, trivial, World.ownsRow_nil _ _ _ _, [], [], World.ownsRow_nil _ _ _ _, by simp [OwnKids], rfl⟩
end Go.Proofs.Ytdgnengfcabgjaa
namespace Go.Proofs.Ytdgnengfcabgjaa
open Go.RowKit

theorem own_nokids {w : World} {W0 : Nat} (kind num : Int) (str : ByteArray) : OwnIn w W0 (.mk kind num str [] []) (.int .i64 kind) (.int .i64 num) (.string str) (.slice none 0 0) (.slice none 0 0) [] := by
  simp only [OwnIn]
  exact ⟨trivial, trivial, trivial, World.ownsRow_nil _ _ _ _, [], [], World.ownsRow_nil _ _ _ _, by simp [OwnKids], by simp [blk, Value.ownBlock]⟩
theorem made_nokids {W0 : Nat} {w w' : World} (kind num : Int) (str : ByteArray) (hb : Below W0 w w') : MadeDoc W0 w (.mk kind num str [] []) (.returned (.agg #[.int .i64 kind, .int .i64 num, .string str, .slice none 0 0, .slice none 0 0])) w' :=
  ⟨_, _, _, _, _, [], rfl, own_nokids kind num str, by simp, hb⟩

set_option maxRecDepth 100000 in
theorem int_v (n : Int) (w : World) : Calls Try.prog 30 #[.int .i64 n] w (MadeDoc w.heap.size w (.mk 4 n ⟨#[]⟩ [] [])) := by
  go_enter Try.func30, Try.ntmps30
  go_wp2_with fail
  exact ret_cell5 rfl rfl (Box5.new w _ _ _ _ _).load rfl (made_nokids _ _ _ ((Below.refl _ _).alloc (Nat.le_refl _) _))
set_option maxHeartbeats 1000000 in
set_option maxRecDepth 100000 in
theorem list_v (l : List D) (v : Value) (w : World) (B : Nat) (hlen : l.length ≤ 10000) (hf : D.Fits l) (hB : B ≤ w.heap.size) (hv : KidsV w B l v) : Calls Try.prog 29 #[v] w (MadeDoc w.heap.size w (.mk 3 0 ⟨#[]⟩ [] l)) := by
  have hs : ∃ A n c, v = .slice A n c := by obtain ⟨A, c, e, _⟩ := hv; exact ⟨A, _, c, e⟩
  have HV := Lib.hid hv; clear hv
  obtain ⟨A, n, c, rfl⟩ := hs
  have HF := Lib.hid hf; clear hf
  go_enter Try.func29, Try.ntmps29
  go_wp2_with fail
  refine (copies_v hlen HF.out (by simp; omega) (HV.out.keep (Nat.le_refl _) fun p hp => World.cell?_alloc_lt w _ p (by omega))).mono ?_
  rintro e w2 ⟨v4', cs, F, rfl, hown2, hkids2, hnd2, hb2⟩
  simp only [World.size_alloc] at hown2 hkids2 hb2
  obtain ⟨A'', c'', rfl⟩ := ownsRow_slice hown2
  have hz2 := hb2.size
  simp only [World.size_alloc] at hz2
  have hx2 : Box5 w2 w.heap.size (.int .i64 0) (.int .i64 0) (.string ⟨#[]⟩) (.slice none 0 0) (.slice none 0 0) := (Box5.new w _ _ _ _ _).same (hb2.block _ (by omega))
  have HO2 := Lib.hid hown2; have HK2 := Lib.hid hkids2; have HN2 := Lib.hid hnd2; have HB2 := Lib.hid hb2
  have HX2 := Lib.hid hx2
  obtain ⟨s0, s1, s2, s3, s4⟩ := hx2.cells
  have s5 := hx2.frozen
  clear hown2 hkids2 hnd2 hb2 hx2
  go_wp2_with fail
  have hfin := ((((HX2.out.set0 (.int .i64 3)).set1 (.int .i64 0)).set2 (.string ⟨#[]⟩)).set3 (.slice none 0 0)).set4 (.slice A'' l.length c'')
  clear s0 s1 s2 s3 s4 s5
  refine ret_cell5 rfl rfl hfin.load rfl ?_
  have hsame : ∀ k, w.heap.size + 1 ≤ k → (((((w2.setCell ⟨w.heap.size, 0, none⟩ (.int .i64 3)).setCell ⟨w.heap.size, 1, none⟩ (.int .i64 0)).setCell ⟨w.heap.size, 2, none⟩ (.string ⟨#[]⟩)).setCell ⟨w.heap.size, 3, none⟩ (.slice none 0 0)).setCell
      ⟨w.heap.size, 4, none⟩ (.slice A'' l.length c'')).heap[k]? = w2.heap[k]? := fun k hk => by
    rw [Below.heap_setCell _ _ _ k (by show k ≠ w.heap.size; omega), Below.heap_setCell _ _ _ k (by show k ≠ w.heap.size; omega), Below.heap_setCell _ _ _ k (by show k ≠ w.heap.size; omega), Below.heap_setCell _ _ _ k (by show k ≠ w.heap.size; omega), Below.heap_setCell _ _ _ k (by show k ≠ w.heap.size; omega)]
  have l2 := HO2.out.lt
  have l3 := HK2.out.lt
  have le0 : w.heap.size ≤ w.heap.size := Nat.le_refl _
  refine ⟨_, _, _, _, _, _, rfl, OwnIn.make (d := .mk 3 0 ⟨#[]⟩ [] l) (World.ownsRow_nil _ _ _ _)
    (ownsRow_base (ownsRow_same HO2.out fun k hk => hsame k (by have := l2 k (blk_mem.1 hk); omega)) (by omega)) (HK2.out.same (by omega) fun k hk => hsame k (by have := l3 k hk; omega)), ?_, ?_⟩
  · simpa [blk, Value.ownBlock] using HN2.out
  · exact (((((((Below.refl w.heap.size w).alloc le0 _).trans (HB2.out.mono (by omega))).setCell (by exact le0) _).setCell (by exact le0) _).setCell (by exact le0) _).setCell (by exact le0) _).setCell (by exact le0) _
end Go.Proofs.Ytdgnengfcabgjaa
