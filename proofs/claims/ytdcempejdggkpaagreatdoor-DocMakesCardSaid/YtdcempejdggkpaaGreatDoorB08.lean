/-
  
  What a call tells that makes a document, and something beside it.
-/
import Derived.Test.YtdcempejdggkpaaGreatDoorB07
import Derived.OwnWalk
namespace Go.Proofs.YtdcempejdggkpaaGreatDoor
open Go.RowKit

theorem infoS : (Tryz.prog.info? 9).map (fun i => (i.zero, i.size, i.bytes)) = some (some (.string ByteArray.empty), 1, 16) := by kernel_rfl
theorem infoD : (Tryz.prog.info? 27).map (fun i => (i.zero, i.size, i.bytes)) = some (some (.agg #[.int .i64 0, .int .i64 0, .string ByteArray.empty, .slice none 0 0, .slice none 0 0]), 5, 80) := by kernel_rfl

theorem strs_one (xs : List ByteArray) : ∀ u ∈ xs.map Value.string, u.oneCell' = true := by
  intro u hu
  obtain ⟨x, _, rfl⟩ := List.mem_map.1 hu
  rfl
theorem ownsRow_slice {w : World} {base : Nat} {e : TypeId} {size n : Nat} {v : Value} {xs : List Value} (h : w.ownsRow base e size v n xs) : ∃ A c, v = .slice A n c := by
  rcases h.2 with ⟨rfl, rfl⟩ | ⟨g, cap, cur, rfl, _⟩
  · exact ⟨none, 0, rfl⟩
  · exact ⟨_, _, rfl⟩
/-- 'append(v, nil...)', v the call's own: v. -/
theorem run_append_nils {P : Program} (w : World) (t ty e : TypeId) (i : TypeInfo) (base size c : Nat) (ht : P.underlying t = some (.slice e)) (hi : P.info? e = some i) (v : Value) (n : Nat) (xs : List Value) (hown : w.ownsRow base e size v n xs) :
    (Builtin.append_ #[t, t] ty #[v, .slice none 0 c]).run P w = .ok v w := by
  rcases hown.2 with ⟨rfl, rfl⟩ | ⟨g, cap, cur, rfl, _, _, hnc, _⟩
  · simp [Builtin.append_, run_underlying ht, sizeOf, typeInfo, hi, Builtin.lenOf, Builtin.firstCells]
  · simp [Builtin.append_, run_underlying ht, sizeOf, typeInfo, hi, Builtin.lenOf, Builtin.firstCells, hnc, storeCells]
theorem wpList_append_nilsrc {P : Program} {w : World} {ops : Array Oper} {rest : List Oper} {o : Oper} {a : Act} {Q : Exit → Act → World → Prop} (hgd : o.guard = none) (s x : Operand) (t e : TypeId) (i : TypeInfo) (base size c : Nat)
    (ho : o.op = .call { callee := .builtin .append, args := #[s, x], argTypes := #[t, t] }) (ht : P.underlying t = some (.slice e)) (hi : P.info? e = some i) (v : Value) (n : Nat) (xs : List Value) (hs : a.eval s = v) (hown : w.ownsRow base e size v n xs) (hx : a.eval x = .slice none 0 c)
    (h : wpList P ops Q rest (a.put o.dst v) w) : wpList P ops Q (o :: rest) a w := by
  refine wpList_plain hgd fun K hK => ?_
  have hrun := run_append_nils (P := P) w t o.type e i base size c ht hi v n xs hown
  unfold Oper.wp execOp
  simp only [ho, resolve, invoke, builtin, Sem.run_bind, Sem.run_pure, Result.andThen_ok, List.map_toArray, List.map_cons, List.map_nil, hs, hx, hrun]
  exact hK _ _ h
/-- 'append(v, xs...)' of strings that can be read, v the call's own. -/
theorem wpList_append_strs {w : World} {ops : Array Oper} {rest : List Oper} {o : Oper} {a : Act} {Q : Exit → Act → World → Prop} (hgd : o.guard = none) (s x : Operand)
    (ho : o.op = .call { callee := .builtin .append, args := #[s, x], argTypes := #[22, 22] })
    (base B n : Nat) (v u : Value) (olds : List Value) (xs : List ByteArray) (hs : a.eval s = v) (hx : a.eval x = u) (hown : w.ownsRow base 9 1 v n olds) (hu : Strs w B u xs) (hn : n + xs.length ≤ 100000) (hbase : base ≤ w.heap.size)
    (h : ∀ v' w', w'.ownsRow base 9 1 v' (n + xs.length) (olds ++ xs.map Value.string) → w.grownBy w' v.ownBlock → (v'.ownBlock = v.ownBlock ∨ v'.ownBlock = some w.heap.size) → wpList Tryz.prog ops Q rest (a.put o.dst v') w') :
    wpList Tryz.prog ops Q (o :: rest) a w := by
  obtain ⟨i0, hi, hz0, hz1, hz2⟩ := info_parts infoS
  obtain ⟨A, c, rfl, hc1, hc2⟩ := hu
  cases A with
  | none =>
    have h0 : xs.length = 0 := by
      rcases Nat.eq_zero_or_pos xs.length with h0 | h0
      · exact h0
      · obtain ⟨b, off, e, _⟩ := hc2 h0; cases e
    obtain rfl : xs = [] := List.eq_nil_of_length_eq_zero h0
    exact wpList_append_nilsrc hgd s x 22 9 i0 base 1 c ho Tryz.underlying22 hi v n olds hs hown hx (h v w (by simpa using hown) (World.grownBy.refl w _) (.inl rfl))
  | some ad =>
    refine wpList_append_own_at _ hgd s x 22 ho base 9 i0 (.string ByteArray.empty) 1 16 Tryz.underlying22 hi hz0 hz1 hz2 (by rfl) (by omega) v n olds hs hown ad xs.length c (xs.map Value.string) hx (by simp) ?_ (strs_one _) (by unfold maxLen; omega) (by omega) hbase fun v' w' h1 h2 _ h4 => h v' w' h1 h2 h4
    intro j u hj
    rw [List.getElem?_map] at hj
    cases hxj : xs[j]? with
    | none => rw [hxj] at hj; cases hj
    | some y =>
      rw [hxj] at hj
      obtain ⟨hlt, rfl⟩ := List.getElem?_eq_some_iff.1 hxj
      obtain ⟨b, off, e, _, hc⟩ := hc2 (by omega)
      obtain rfl := Option.some.inj e
      have : (⟨b, off, none⟩ : Addr).add j = ⟨b, off + j, none⟩ := by unfold Addr.add; split <;> simp_all
      rw [this, hc j hlt]
      exact hj

theorem below_drewN (w : World) (n : Nat) : Below w.heap.size w (w.drewN n) := ⟨rfl, rfl, rfl, Nat.le_refl _, fun _ _ => rfl⟩
def Hold (p : Prop) : Prop := p
theorem hold {p : Prop} (h : Hold p) : p := h
/-- What a call that makes a document tells. -/
def MadeDoc (W0 : Nat) (w : World) (d : D) (e : Ending) (w' : World) : Prop :=
  ∃ (v0 v1 v2 v3 v4 : Value) (F : List Nat), e = .returned (.agg #[v0, v1, v2, v3, v4]) ∧ OwnIn w' W0 d v0 v1 v2 v3 v4 F ∧ F.Nodup ∧ Below W0 w w'
/-- .. a row of documents. -/
def MadeRow (W0 : Nat) (w : World) (l : List D) (e : Ending) (w' : World) : Prop :=
  ∃ (v : Value) (cs : List Value) (F : List Nat), e = .returned v ∧ w'.ownsRow W0 27 5 v l.length cs ∧ OwnKids w' W0 l cs F ∧ (blk v ++ F).Nodup ∧ Below W0 w w'

/-- A slice of documents that can be read. -/
def KidsV (w : World) (B : Nat) (l : List D) (v : Value) : Prop :=
  ∃ (A : Option Addr) (c : Nat), v = .slice A l.length c ∧ l.length ≤ c ∧ (0 < l.length → ∃ b off, A = some ⟨b, off, none⟩ ∧ b < B ∧ KidsIn w B b off 0 l)

theorem oneCell_agg {u0 u1 u2 u3 u4 : Value} {w : World} {B : Nat} {d : D} (h : DocIn w B d u0 u1 u2 u3 u4) : ∀ u ∈ [u0, u1, u2, u3, u4], u.oneCell' = true := by
  obtain ⟨A3, c3, A4, c4, rfl, rfl, rfl, rfl, rfl⟩ := h.forms
  intro u hu
  simp only [List.mem_cons, List.not_mem_nil, or_false] at hu
  rcases hu with rfl | rfl | rfl | rfl | rfl <;> rfl

theorem blk_nodup (v : Value) : (blk v).Nodup := by unfold blk; cases v.ownBlock <;> simp
theorem push_rel {W0 k n cap g : Nat} {w wr w2 w3 : World} {u y0 y1 y2 y3 y4 : Value} {l : List D} (hlt : k < l.length) {cs : List Value} {F G : List Nat} (HND : (blk u ++ F).Nodup) (HO : wr.ownsRow W0 27 5 u k cs)
    (HOK : OwnKids wr W0 (l.take k) cs F) (hb : Below W0 w wr) (hW : W0 ≤ wr.heap.size) (hb3 : Below wr.heap.size wr w2) (HG : OwnIn w2 (wr.heap.size + 1) l[k] y0 y1 y2 y3 y4 G) (HGN : G.Nodup) (o : Obj)
    (hgrow : (w2.alloc o).grownBy w3 u.ownBlock) (hat : u.ownBlock = some g ∨ g = w2.heap.size + 1) :
    OwnKids w3 W0 (l.take (k + 1)) (cs ++ [y0, y1, y2, y3, y4]) (F ++ G) ∧ (blk (.slice (some ⟨g, 0, none⟩) n cap) ++ (F ++ G)).Nodup ∧ Below W0 w w3 := by
  have hs := hb3.size
  have hu : ∀ j, u.ownBlock = some j → W0 ≤ j ∧ j < wr.heap.size := HO.lt
  have hF := HOK.lt
  have hG := HG.lt
  rw [List.nodup_append] at HND
  obtain ⟨_, hFn, hdis⟩ := HND
  have huF : ∀ j ∈ F, u.ownBlock ≠ some j := fun j hj h => hdis j (blk_mem.2 h) j hj rfl
  have keep : ∀ j, j < w2.heap.size → u.ownBlock ≠ some j → w3.heap[j]? = w2.heap[j]? := fun j hj hne =>
    (hgrow.block j (by simp; omega) (fun e => hne e.symm)).trans (Below.heap_alloc w2 o j hj)
  refine ⟨?_, ?_, ?_⟩
  · rw [List.take_succ_eq_append_getElem hlt]
    exact OwnKids.push (HG.same (by omega) fun j hj => keep j (hG j hj).2 fun h => by have := (hu j h).2; have := (hG j hj).1; omega)
      (HOK.same (Nat.le_refl _) fun j hj => (keep j (by have := (hF j hj).2; omega) (huF j hj)).trans (hb3.block j (hF j hj).2))
  · have hb : blk (.slice (some ⟨g, 0, none⟩) n cap) = [g] := rfl
    rw [hb, List.nodup_append]
    refine ⟨by simp, ?_, fun a ha b hbm hab => ?_⟩
    · rw [List.nodup_append]
      exact ⟨hFn, HGN, fun a ha b hb hab => by subst hab; have := (hF a ha).2; have := (hG a hb).1; omega⟩
    · simp only [List.mem_singleton] at ha
      subst ha; subst hab
      rcases List.mem_append.1 hbm with hm | hm
      · rcases hat with h | h
        · exact huF a hm h
        · have := (hF a hm).2; omega
      · rcases hat with h | h
        · have := (hu a h).2; have := (hG a hm).1; omega
        · have := (hG a hm).2; omega
  · refine hb.trans ?_
    refine (hb3.mono hW).trans ?_
    refine ((Below.refl W0 w2).alloc (by omega) o).trans ⟨hgrow.os, hgrow.tape, hgrow.output, hgrow.size, fun j hj => hgrow.block j (by simp; omega) fun e => by have := (hu j e.symm).1; omega⟩

set_option maxHeartbeats 4000000 in
set_option maxRecDepth 100000 in
theorem copies_of (m : Nat) (ih : ∀ (d : D) (v0 v1 v2 v3 v4 : Value) (w : World) (B : Nat), d.depth ≤ m → d.Fit → B ≤ w.heap.size → DocIn w B d v0 v1 v2 v3 v4 →
      Calls Tryz.prog 21 #[.agg #[v0, v1, v2, v3, v4]] w (MadeDoc w.heap.size w d))
    (l : List D) (v : Value) (w : World) (B : Nat) (hm : D.depths l ≤ m) (hlen : l.length ≤ 10000) (hf : D.Fits l) (hB : B ≤ w.heap.size) (hv : KidsV w B l v) :
    Calls Tryz.prog 25 #[v] w (MadeRow w.heap.size w l) := by
  obtain ⟨A, c, rfl, hlc, hkids⟩ := hv
  have HK := Lib.hid hkids
  have HF := Lib.hid hf
  have IH := Lib.hid ih
  clear hkids hf ih
  obtain ⟨i0, hi, hz0, hz1, hz2⟩ := info_parts infoD
  have HI := Lib.hid hi; have HZ0 := Lib.hid hz0; have HZ1 := Lib.hid hz1; have HZ2 := Lib.hid hz2
  clear hi hz0 hz1 hz2
  go_enter Tryz.func25, Tryz.ntmps25
  go_wp2_with fail
  go_loopw [3, 8] (fun v i wr => ∃ (k : Nat) (cs : List Value) (F : List Nat), k ≤ l.length ∧ i = .int .i64 k ∧ wr.ownsRow w.heap.size 27 5 v k cs ∧ OwnKids wr w.heap.size (l.take k) cs F ∧ (blk v ++ F).Nodup ∧ Below w.heap.size w wr) (fun _ i _ => l.length - (intOf i).toNat)
  case atStart => exact ⟨0, [], [], Nat.zero_le _, rfl, World.ownsRow_nil _ _ _ _, by simp [OwnKids], by simp [blk, Value.ownBlock], Below.refl _ _⟩
  case round =>
    obtain ⟨k, cs, F, hk, rfl, hown, hokids, hnd, hb⟩ := hrel
    have HO := Lib.hid hown; have HOK := Lib.hid hokids; have HND := Lib.hid hnd
    clear hown hokids hnd
    have hz := hb.size
    by_cases hlt : k < l.length
    · obtain ⟨b, off, rfl, hab, hki⟩ := HK.out (by omega)
      have hcells := KidsIn.at_ hki k hlt
      rw [Nat.zero_add] at hcells
      obtain ⟨u0, u1, u2, u3, u4, g0, g1, g2, g3, g4, hdk⟩ := hcells
      have bc : ∀ n, wr.cell? ⟨b, n, none⟩ = w.cell? ⟨b, n, none⟩ := fun n => hb.cell (p := ⟨b, n, none⟩) (by show b < _; omega)
      rw [← bc] at g0 g1 g2 g3 g4
      clear bc hki
      obtain ⟨A5, c5, A6, c6, rfl, rfl, rfl, rfl, rfl⟩ := hdk.forms
      have HD := Lib.hid hdk; clear hdk
      go_wp2_with fail
      refine (IH.out l[k] _ _ _ _ _ _ B (by have := D.depth_le_depths l l[k] (List.getElem_mem hlt); omega) (HF.out.at_ hlt) (by simp; omega) (HD.out.keep (Nat.le_refl _) fun p hp => (World.cell?_alloc_lt wr _ p (by omega)).trans (hb.cell (by omega)))).mono ?_
      rintro e w2 ⟨y0, y1, y2, y3, y4, G, rfl, hG, hGn, hb2⟩
      simp only [World.size_alloc] at hG hb2
      obtain ⟨A7, c7, A8, c8, rfl, rfl, rfl, rfl, rfl⟩ := hG.doc.forms
      have HG := Lib.hid hG; have HGN := Lib.hid hGn
      clear hG hGn
      have hz2 := hb2.size
      simp only [World.size_alloc] at hz2
      have hb3 : Below wr.heap.size wr w2 := ((Below.refl _ _).alloc (Nat.le_refl _) _).trans (hb2.mono (by omega))
      have hO2 : Hid (w2.ownsRow w.heap.size 27 5 u3 k cs) := ownsRow_same HO.out fun j hj => hb3.block j (HO.out.lt j (blk_mem.1 hj)).2
      have hOK2 : Hid (OwnKids w2 w.heap.size (l.take k) cs F) := HOK.out.below hb3 (Nat.le_refl _)
      go_wp2_with (at_builtin; refine wpList_append_lies _ rfl _ _ 23 rfl w.heap.size 27 i0 (.agg #[.int .i64 0, .int .i64 0, .string ByteArray.empty, .slice none 0 0, .slice none 0 0]) 5 80 Tryz.underlying23 HI.out HZ0.out HZ1.out HZ2.out (by rfl) (by omega) _ k cs rfl (hO2.out.alloc _) ⟨w2.heap.size, 0, none⟩ 1 _ [.int .i64 (l[k]).kind, .int .i64 (l[k]).num, .string (l[k]).str, .slice A7 (l[k]).keys.length c7, .slice A8 (l[k]).kids.length c8] rfl rfl (World.news_of_block (heap_alloc_new w2 _)) (oneCell_agg HG.out.doc) (by omega) (by unfold maxLen; omega) (by omega) (by simp; omega) (w2.heap.size + 1) (by simp) ?_; intro g cap w3 hown3 hgrow3 hat3 hlt3)
      go_roundw
      case rel =>
        obtain ⟨r1, r2, r3⟩ := push_rel (n := k + 1) (cap := cap) hlt HND.out HO.out HOK.out hb (by omega) hb3 HG.out HGN.out _ hgrow3 hat3
        exact ⟨k + 1, _, _, by omega, by go_num, hown3, r1, r2, r3⟩
      case measure => simp [intOf]; omega
    · have htk : l.take k = l := List.take_of_length_le (by omega)
      have hkl : k = l.length := by omega
      have HR : Hid (wr.ownsRow w.heap.size 27 5 u3 l.length cs ∧ OwnKids wr w.heap.size l cs F) := ⟨by rw [← hkl]; exact HO.out, by have := HOK.out; rw [htk] at this; exact this⟩
      clear htk hkl
      go_wp2_with fail
      go_ret
      exact ⟨_, cs, F, rfl, HR.out.1, HR.out.2, HND.out, hb⟩

theorem kids_v {w : World} {B : Nat} {d : D} {v0 v1 v2 v3 v4 : Value} (h : DocIn w B d v0 v1 v2 v3 v4) : KidsV w B d.kids v4 := by
  obtain ⟨_, _, _, _, l⟩ := d
  simp only [DocIn] at h
  obtain ⟨_, _, _, _, A', c', rfl, k1, k2⟩ := h
  exact ⟨A', c', rfl, k1, k2⟩
theorem KidsV.keep {w w' : World} {B B' : Nat} {l : List D} {v : Value} (hB : B ≤ B') (h : ∀ p : Addr, p.block < B → w'.cell? p = w.cell? p) (hv : KidsV w B l v) : KidsV w' B' l v := by
  obtain ⟨A, c, rfl, k1, k2⟩ := hv
  refine ⟨A, c, rfl, k1, fun hl => ?_⟩
  obtain ⟨b, off, ea, hb, hk⟩ := k2 hl
  exact ⟨b, off, ea, by omega, KidsIn.keep hB h hb hk⟩
theorem D.Fit.kids_ {d : D} (h : d.Fit) : D.Fits d.kids := by obtain ⟨_, _, _, _, _⟩ := d; simp only [D.Fit] at h; exact h.2.2.2.2

set_option maxHeartbeats 4000000 in
set_option maxRecDepth 100000 in
theorem copy_any (m : Nat) : ∀ (d : D) (v0 v1 v2 v3 v4 : Value) (w : World) (B : Nat), d.depth ≤ m → d.Fit → B ≤ w.heap.size → DocIn w B d v0 v1 v2 v3 v4 →
    Calls Tryz.prog 21 #[.agg #[v0, v1, v2, v3, v4]] w (MadeDoc w.heap.size w d) := by
  induction m with
  | zero => intro d; obtain ⟨_, _, _, _, _⟩ := d; intro _ _ _ _ _ _ _ h; simp [D.depth] at h
  | succ m ih =>
    intro d v0 v1 v2 v3 v4 w B hm hf hB hd
    have hcop := copies_of m ih
    have HC := Lib.hid hcop; clear hcop ih
    have hkl := hf.keys; have hdl := hf.kids
    have HF := Lib.hid hf; clear hf
    have HKV := Lib.hid (kids_v hd)
    have HK3 := Lib.hid hd.keys_
    have hde := D.depth_eq d
    have hdm : D.depths d.kids ≤ m := by omega
    clear hde
    obtain ⟨A3, c3, A4, c4, rfl, rfl, rfl, rfl, rfl⟩ := hd.forms
    clear hd
    obtain ⟨i0, hi, hz0, hz1, hz2⟩ := info_parts infoS
    have HI := Lib.hid hi; have HZ0 := Lib.hid hz0; have HZ1 := Lib.hid hz1; have HZ2 := Lib.hid hz2
    clear hi hz0 hz1 hz2
    go_enter Tryz.func21, Tryz.ntmps21
    go_wp2_with (at_builtin; refine hold ?_)
    unfold Hold
    refine wpList_append_strs rfl _ _ rfl (w.heap.size + 2) B 0 (.slice none 0 0) _ [] d.keys rfl rfl (World.ownsRow_nil _ _ _ _) (HK3.out.keep fun p hp => (World.cell?_alloc_lt (w.alloc _) _ p (by simp; omega)).trans (World.cell?_alloc_lt w _ p (by omega))) (by omega) (by simp) ?_
    intro v' w1 hown1 hgrow1 _
    have hb1 : Below (w.heap.size + 2) ((w.alloc _).alloc _) w1 := ⟨hgrow1.os, hgrow1.tape, hgrow1.output, hgrow1.size, fun j hj => hgrow1.block j (by simp; omega) (by simp [Value.ownBlock])⟩
    have hz1 := hb1.size
    simp only [World.size_alloc] at hz1
    have hx1 : Box5 w1 w.heap.size (.int .i64 d.kind) (.int .i64 d.num) (.string d.str) (.slice A3 d.keys.length c3) (.slice A4 d.kids.length c4) := ((Box5.new w _ _ _ _ _).alloc _).same (hb1.block _ (by omega))
    have hr1 : Box5 w1 (w.heap.size + 1) (.int .i64 0) (.int .i64 0) (.string ⟨#[]⟩) (.slice none 0 0) (.slice none 0 0) := (Box5.new' (World.size_alloc _ _) _ _ _ _ _).same (hb1.block _ (by omega))
    rw [Nat.zero_add, List.nil_append] at hown1
    obtain ⟨A', c', rfl⟩ := ownsRow_slice hown1
    have HB1 := Lib.hid hb1
    have HO1 := Lib.hid hown1
    have HX1 := Lib.hid hx1; have HR1 := Lib.hid hr1
    obtain ⟨q0, q1, q2, q3, q4⟩ := hx1.cells
    have q5 := hx1.frozen
    clear hown1 hgrow1 hb1 hx1 hr1
    go_wp2_with fail
    have keep : ∀ p : Addr, p.block < B → (w1.setCell ⟨w.heap.size, 3, none⟩ (.slice A' d.keys.length c')).cell? p = w.cell? p := fun p hp =>
      (World.cell?_setCell_other _ _ _ _ (by rintro rfl; exact absurd hp (by show ¬ w.heap.size < B; omega))).trans ((HB1.out.cell (by omega)).trans ((World.cell?_alloc_lt (w.alloc _) _ p (by simp; omega)).trans (World.cell?_alloc_lt w _ p (by omega))))
    refine (HC.out d.kids _ _ B hdm hdl HF.out.kids_ (by simp [World.setCell]; omega) (HKV.out.keep (Nat.le_refl _) keep)).mono ?_
    rintro e w2 ⟨v4', cs, F, rfl, hown2, hkids2, hnd2, hb2⟩
    have hsc : (w1.setCell ⟨w.heap.size, 3, none⟩ (.slice A' d.keys.length c')).heap.size = w1.heap.size := by simp [World.setCell]
    rw [hsc] at hown2 hkids2 hb2
    obtain ⟨A'', c'', rfl⟩ := ownsRow_slice hown2
    have hz2 := hb2.size
    rw [hsc] at hz2
    have hx2 := (HX1.out.set3 (.slice A' d.keys.length c')).same (hb2.block _ (by omega))
    have hr2 := (HR1.out.far (p := ⟨w.heap.size, 3, none⟩) (by show w.heap.size + 1 ≠ w.heap.size; omega) (.slice A' d.keys.length c')).same (hb2.block _ (by omega))
    have hX3 := hx2.set4 (.slice A'' d.kids.length c'')
    have hR3 := hr2.far (p := ⟨w.heap.size, 4, none⟩) (by show w.heap.size + 1 ≠ w.heap.size; omega) (.slice A'' d.kids.length c'')
    have HO2 := Lib.hid hown2; have HK2 := Lib.hid hkids2; have HN2 := Lib.hid hnd2; have HB2 := Lib.hid hb2
    have HX3 := Lib.hid hX3; have HR3 := Lib.hid hR3
    obtain ⟨s0, s1, s2, s3, s4⟩ := hx2.cells
    have s5 := hx2.frozen
    obtain ⟨r0, r1, r2, r3, r4⟩ := hr2.cells
    have r5 := hr2.frozen
    clear hown2 hkids2 hnd2 hb2 hX3 hR3 hx2 hr2 q0 q1 q2 q3 q4 q5 keep
    go_wp2_with fail
    have hfin := ((((HR3.out.set0 (.int .i64 d.kind)).set1 (.int .i64 d.num)).set2 (.string d.str)).set3 (.slice A' d.keys.length c')).set4 (.slice A'' d.kids.length c'')
    clear r0 r1 r2 r3 r4 r5 s0 s1 s2 s3 s4 s5
    refine ret_cell5 rfl rfl hfin.load rfl ?_
    have hb1 := HB1.out
    have hsame : ∀ k, w.heap.size + 2 ≤ k → ((((((w2.setCell ⟨w.heap.size, 4, none⟩ (.slice A'' d.kids.length c'')).setCell ⟨w.heap.size + 1, 0, none⟩ (.int .i64 d.kind)).setCell ⟨w.heap.size + 1, 1, none⟩ (.int .i64 d.num)).setCell ⟨w.heap.size + 1, 2, none⟩ (.string d.str)).setCell ⟨w.heap.size + 1, 3, none⟩ (.slice A' d.keys.length c')).setCell
        ⟨w.heap.size + 1, 4, none⟩ (.slice A'' d.kids.length c'')).heap[k]? = w2.heap[k]? := fun k hk => by
      rw [Below.heap_setCell _ _ _ k (by show k ≠ w.heap.size + 1; omega), Below.heap_setCell _ _ _ k (by show k ≠ w.heap.size + 1; omega), Below.heap_setCell _ _ _ k (by show k ≠ w.heap.size + 1; omega), Below.heap_setCell _ _ _ k (by show k ≠ w.heap.size + 1; omega),
        Below.heap_setCell _ _ _ k (by show k ≠ w.heap.size + 1; omega), Below.heap_setCell _ _ _ k (by show k ≠ w.heap.size; omega)]
    have hsame1 : ∀ k, w.heap.size + 2 ≤ k → k < w1.heap.size → w2.heap[k]? = w1.heap[k]? := fun k hk hk2 =>
      (HB2.out.block k hk2).trans (Below.heap_setCell _ _ _ k (by show k ≠ w.heap.size; omega))
    have l1 := HO1.out.lt
    have l2 := HO2.out.lt
    have l3 := HK2.out.lt
    refine ⟨_, _, _, _, _, _, rfl, OwnIn.make (ownsRow_base (ownsRow_same HO1.out fun k hk => (hsame k (by have := l1 k (blk_mem.1 hk); omega)).trans (hsame1 k (by have := l1 k (blk_mem.1 hk); omega) (by have := l1 k (blk_mem.1 hk); omega))) (by omega))
      (ownsRow_base (ownsRow_same HO2.out fun k hk => hsame k (by have := l2 k (blk_mem.1 hk); omega)) (by omega)) (HK2.out.same (by omega) fun k hk => hsame k (by have := l3 k hk; omega)), ?_, ?_⟩
    · rw [List.nodup_append]
      refine ⟨blk_nodup _, HN2.out, fun a ha b hb hab => ?_⟩
      subst hab
      have h1 := l1 a (blk_mem.1 ha)
      rcases List.mem_append.1 hb with hb | hb
      · have := l2 a (blk_mem.1 hb); omega
      · have := l3 a hb; omega
    · refine (((((((((Below.refl w.heap.size w).alloc (Nat.le_refl _) _).alloc (by simp) _).trans (hb1.mono (by omega))).setCell (by show w.heap.size ≤ w.heap.size; omega) _).trans (HB2.out.mono (by omega))).setCell (by show w.heap.size ≤ w.heap.size; omega) _).setCell (by show w.heap.size ≤ w.heap.size + 1; omega) _).setCell (by show w.heap.size ≤ w.heap.size + 1; omega) _).setCell (by show w.heap.size ≤ w.heap.size + 1; omega) _ |>.setCell (by show w.heap.size ≤ w.heap.size + 1; omega) _ |>.setCell (by show w.heap.size ≤ w.heap.size + 1; omega) _

/-- Copy, at whatever document. -/
theorem copy_v {d : D} {v : Value} {w : World} {B : Nat} (hf : d.Fit) (hB : B ≤ w.heap.size) (hd : DocV w B d v) : Calls Tryz.prog 21 #[v] w (MadeDoc w.heap.size w d) := by
  obtain ⟨v0, v1, v2, v3, v4, rfl, hd⟩ := hd
  exact copy_any d.depth d v0 v1 v2 v3 v4 w B (Nat.le_refl _) hf hB hd
theorem copies_v {l : List D} {v : Value} {w : World} {B : Nat} (hlen : l.length ≤ 10000) (hf : D.Fits l) (hB : B ≤ w.heap.size) (hv : KidsV w B l v) : Calls Tryz.prog 25 #[v] w (MadeRow w.heap.size w l) :=
  copies_of (D.depths l) (copy_any (D.depths l)) l v w B (Nat.le_refl _) hlen hf hB hv
end Go.Proofs.YtdcempejdggkpaaGreatDoor
namespace Go.Proofs.YtdcempejdggkpaaGreatDoor
open Go.RowKit

theorem ret_cell5_2 {P : Program} {fn : Func} {R : Ending → World → Prop} {a : Act} {w : World} {b : Nat} {t t' : Tmp} {v0 v1 v2 v3 v4 u : Value} {T : TypeId} (hres : fn.results = #[.cell t T, .tmp t']) (hslot : a.tmps.getD t undef = .pointer (some ⟨b, 0, none⟩)) (hslot' : a.tmps.getD t' undef = u)
    (hload : (loadVar T ⟨b, 0, none⟩).run P w = .ok (.agg #[v0, v1, v2, v3, v4]) w) (hd : a.defers = []) (hR : R (.returned (.tuple #[.agg #[v0, v1, v2, v3, v4], u])) w) : bodyPost P fn R .ret a w :=
  bodyPost_ret (v := .tuple #[.agg #[v0, v1, v2, v3, v4], u]) (by rw [Array.getD_eq_getD_getElem?] at hslot hslot'; simp [results, hres, hslot, hslot', asAddr, hload]) hd hR

/-- What a call tells that makes a document, and something beside it. -/
def MadeDoc2 (W0 : Nat) (w : World) (d : D) (u : Value) (e : Ending) (w' : World) : Prop :=
  ∃ (v0 v1 v2 v3 v4 : Value) (F : List Nat), e = .returned (.tuple #[.agg #[v0, v1, v2, v3, v4], u]) ∧ OwnIn w' W0 d v0 v1 v2 v3 v4 F ∧ F.Nodup ∧ Below W0 w w'
def D.zero : D := .mk 0 0 ⟨#[]⟩ [] []
theorem OwnIn.zero (w : World) (base : Nat) : OwnIn w base D.zero (.int .i64 0) (.int .i64 0) (.string ⟨#[]⟩) (.slice none 0 0) (.slice none 0 0) [] := by
  simp only [D.zero, OwnIn]
  exact ⟨trivial, trivial, trivial, World.ownsRow_nil _ _ _ _, [], [], World.ownsRow_nil _ _ _ _, by simp [OwnKids], rfl⟩
end Go.Proofs.YtdcempejdggkpaaGreatDoor
