/-
  A path that grows by one part: the path ahead of it stays.
  valid.part: what a path calls a kid.
  The document's own way with paths: the place of a key, and a path and a part more.
  valid: the faults told one by one, to a gatherer that takes all, or the first alone: plain lemmas, and what such a gatherer holds.
  valid.look: what stands at each of its steps: the gatherer, the path, and what has turned.
-/
import Derived.Test.YteecdmceleanjaaGreatDoorB11
import Derived.Test.YteecdmceleanjaaGreatDoorB07
import Derived.Lib.AppendIntMem
import Derived.Laws.OwnMore
import Derived.Test.YteecdmceleanjaaGreatDoorB10
import Derived.Test.YteecdmceleanjaaGreatDoorB12
namespace Go.Proofs.YteecdmceleanjaaGreatDoor
open Go.RowKit

/-- A row of one more is a row of one less. -/
theorem own_prefix {w : World} {base g n cap : Nat} {xs : List Value} {x : Value} (h : w.ownsRow base 9 1 (.slice (some ⟨g, 0, none⟩) (n + 1) cap) (n + 1) (xs ++ [x])) (hl : xs.length = n) :
    w.ownsRow base 9 1 (.slice (some ⟨g, 0, none⟩) n cap) n xs := by
  obtain ⟨h1, h2⟩ := h
  refine ⟨by omega, .inr ?_⟩
  rcases h2 with ⟨e, _⟩ | ⟨g', cap', cur, e, hb, hg, hnc, hcm, hcs, ht⟩
  · cases e
  · injection e with e1 _ e3
    injection e1 with e1
    injection e1 with e1 _ _
    subst e1; subst e3
    refine ⟨g, cap, cur, rfl, hb, hg, by omega, hcm, hcs, ?_⟩
    have : (cur.toList.take ((n + 1) * 1)).take (n * 1) = cur.toList.take (n * 1) := by rw [List.take_take]; congr 1; omega
    rw [← this, ht, List.take_left' (by omega)]
theorem path_more {w : World} {base n c : Nat} {v : Value} {xs : List Value} {S : ByteArray} {ad : Addr} (ty : TypeId) (hown : w.ownsRow base 9 1 v n xs) (hnew : w.cell? ad = some (.string S)) (hn : n ≤ 10000) (hb : base ≤ w.heap.size) :
    ∃ v' w', (Builtin.append_ #[22, 22] ty #[v, .slice (some ad) 1 c]).run Tryz.prog w = .ok v' w' ∧ w'.ownsRow base 9 1 v' (n + 1) (xs ++ [.string S]) ∧ w'.ownsRow base 9 1 v n xs ∧ w.grownBy w' v.ownBlock ∧ (v'.ownBlock = v.ownBlock ∨ (v'.ownBlock = some w.heap.size ∧ Below w.heap.size w w')) := by
  obtain ⟨i0, hi, hz0, hz1, hz2⟩ := info_parts infoS
  have hnews : ∀ j u, [Value.string S][j]? = some u → w.cell? (ad.add j) = some u := by
    intro j u hj
    match j, hj with
    | 0, hj =>
      simp at hj
      subst hj
      simpa [Addr.add] using hnew
  have h1 : ∀ u ∈ [Value.string S], u.oneCell' = true := by simp [Value.oneCell']
  obtain ⟨v', w', hr, h2, h3, h4, h5⟩ := run_append_own_at (P := Tryz.prog) w base 22 ty 9 i0 (.string ByteArray.empty) 1 16 Tryz.underlying22 hi hz0 hz1 hz2 (by rfl) (by omega) v n xs hown ad 1 c [.string S] (by simp) hnews h1 (by unfold maxLen; omega) (by omega) hb
  refine ⟨v', w', hr, h2, ?_, h3, ?_⟩
  all_goals rcases hown.2 with ⟨rfl, h0⟩ | ⟨g, cap, cur, rfl, hbg, hg, hnc, hcm, hcs, htake⟩
  · subst h0
    obtain rfl : xs = [] := List.eq_nil_of_length_eq_zero (by simpa using hown.1)
    exact World.ownsRow_nil _ _ _ _
  · by_cases hroom : n + 1 ≤ cap
    · have hr2 := run_append_room (P := Tryz.prog) w 22 ty 9 i0 Tryz.underlying22 hi g n cap cur hg ad 1 c [.string S] (by simp [hz1]) hnews h1 hroom (by rw [hz1]; simp; omega)
      rw [hr] at hr2
      injection hr2 with e1 e2
      subst e1
      exact own_prefix h2 (by have := hown.1; omega)
    · have holds : ∀ j u, xs[j]? = some u → w.cell? ((⟨g, 0, none⟩ : Addr).add j) = some u := hown.cells (g := g) rfl
      have hr2 := run_append_grow (P := Tryz.prog) w 22 ty 9 i0 (.string ByteArray.empty) Tryz.underlying22 hi hz0 ⟨g, 0, none⟩ n cap xs (by rw [hz1]; exact hown.1) holds ad 1 c [.string S] (by simp [hz1]) hnews (by omega) (by omega) (growslice_fits (by omega) (by rw [hz2]; omega))
      rw [hr] at hr2
      injection hr2 with e1 e2
      have hbl : Below w.heap.size w w' := by rw [e2]; exact (Below.refl _ _).drew.alloc (Nat.le_refl _) _
      exact ownsRow_same hown fun k hk => hbl.block k (hown.lt k (blk_mem.1 hk)).2
  · rcases h5 with h5 | h5
    · exact .inl h5
    · exact .inr ⟨h5, ⟨h3.os, h3.tape, h3.output, h3.size, fun k hk => h3.block k hk (by simp [Value.ownBlock])⟩⟩
  · by_cases hroom : n + 1 ≤ cap
    · have hr2 := run_append_room (P := Tryz.prog) w 22 ty 9 i0 Tryz.underlying22 hi g n cap cur hg ad 1 c [.string S] (by simp [hz1]) hnews h1 hroom (by rw [hz1]; simp; omega)
      rw [hr] at hr2
      injection hr2 with e1 e2
      subst e1
      exact .inl rfl
    · have holds : ∀ j u, xs[j]? = some u → w.cell? ((⟨g, 0, none⟩ : Addr).add j) = some u := hown.cells (g := g) rfl
      have hr2 := run_append_grow (P := Tryz.prog) w 22 ty 9 i0 (.string ByteArray.empty) Tryz.underlying22 hi hz0 ⟨g, 0, none⟩ n cap xs (by rw [hz1]; exact hown.1) holds ad 1 c [.string S] (by simp [hz1]) hnews (by omega) (by omega) (growslice_fits (by omega) (by rw [hz2]; omega))
      rw [hr] at hr2
      injection hr2 with e1 e2
      refine .inr ⟨by rw [e1]; rfl, ?_⟩
      rw [e2]; exact (Below.refl _ _).drew.alloc (Nat.le_refl _) _
/-- .. as a step of a region that draws its order. -/
theorem step_path {w : World} {ops : Array Oper} {o : Oper} {a : Act} {K : Act → World → Prop} {Q : Exit → Act → World → Prop} {E : Prop} (hgd : o.guard = none) (s x : Operand)
    (ho : o.op = .call { callee := .builtin .append, args := #[s, x], argTypes := #[22, 22] })
    (base n c : Nat) (v : Value) (xs : List Value) (S : ByteArray) (ad : Addr) (hs : a.eval s = v) (hx : a.eval x = .slice (some ad) 1 c) (hown : w.ownsRow base 9 1 v n xs) (hnew : w.cell? ad = some (.string S)) (hn : n ≤ 10000) (hb : base ≤ w.heap.size)
    (h : ∀ v' w', w'.ownsRow base 9 1 v' (n + 1) (xs ++ [.string S]) → w'.ownsRow base 9 1 v n xs → w.grownBy w' v.ownBlock → (v'.ownBlock = v.ownBlock ∨ (v'.ownBlock = some w.heap.size ∧ Below w.heap.size w w')) → K (a.put o.dst v') w') :
    if Region.wanted o (yielded ops a.tmps) = true then Oper.wp Tryz.prog o a w K Q else E := by
  have hw : Region.wanted o (yielded ops a.tmps) = true := by simp [Region.wanted, hgd]
  rw [if_pos hw]
  obtain ⟨v', w', hr, h2, h3, h4, h5⟩ := path_more (c := c) o.type hown hnew hn hb
  unfold Oper.wp execOp
  simp only [ho, resolve, invoke, builtin, Sem.run_bind, Sem.run_pure, Result.andThen_ok, List.map_toArray, List.map_cons, List.map_nil, hs, hx, hr]
  exact h v' w' h2 h3 h4 h5
/-- .. in a region of a known order. -/
theorem wpList_path {w : World} {ops : Array Oper} {rest : List Oper} {o : Oper} {a : Act} {Q : Exit → Act → World → Prop} (hgd : o.guard = none) (s x : Operand)
    (ho : o.op = .call { callee := .builtin .append, args := #[s, x], argTypes := #[22, 22] })
    (base n c : Nat) (v : Value) (xs : List Value) (S : ByteArray) (ad : Addr) (hs : a.eval s = v) (hx : a.eval x = .slice (some ad) 1 c) (hown : w.ownsRow base 9 1 v n xs) (hnew : w.cell? ad = some (.string S)) (hn : n ≤ 10000) (hb : base ≤ w.heap.size)
    (h : ∀ v' w', w'.ownsRow base 9 1 v' (n + 1) (xs ++ [.string S]) → w'.ownsRow base 9 1 v n xs → w.grownBy w' v.ownBlock → (v'.ownBlock = v.ownBlock ∨ (v'.ownBlock = some w.heap.size ∧ Below w.heap.size w w')) → wpList Tryz.prog ops Q rest (a.put o.dst v') w') :
    wpList Tryz.prog ops Q (o :: rest) a w := by
  refine wpList_plain hgd fun K hK => ?_
  obtain ⟨v', w', hr, h2, h3, h4, h5⟩ := path_more (c := c) o.type hown hnew hn hb
  unfold Oper.wp execOp
  simp only [ho, resolve, invoke, builtin, Sem.run_bind, Sem.run_pure, Result.andThen_ok, List.map_toArray, List.map_cons, List.map_nil, hs, hx, hr]
  exact hK _ _ (h v' w' h2 h3 h4 h5)

/-- The name of a kid's place. -/
def partV (d : D) (i : Nat) : ByteArray := if d.kind = 3 then ⟨(Lib.itoa (i : Int)).toArray⟩ else d.keys.getD i ⟨#[]⟩
mutual
/-- The faults of what is right, below the path p. -/
def T.faults : T → D → List ByteArray → List Flt
  | .mk k lo hi ns fs of, d, p =>
    (if fitsV (.mk k lo hi ns fs of) d = 0 then [] else [(p, fitsV (.mk k lo hi ns fs of) d)]) ++
      (if fitsV (.mk k lo hi ns fs of) d = 7 then [] else if k = 1 then faultsF fs d p ++ (moreV (.mk k lo hi ns fs of) d.keys).map (fun s => (p ++ [s], 10)) else faultsO of d p)
def faultsF : List F → D → List ByteArray → List Flt
  | [], _, _ => []
  | f :: r, d, p => faultsF1 f d p ++ faultsF r d p
def faultsF1 : F → D → List ByteArray → List Flt
  | .mk s o t, d, p => if 0 ≤ Lib.idxOfS d.keys s then t.faults (d.kids.getD (Lib.idxOfS d.keys s).toNat (.mk 0 0 ⟨#[]⟩ [] [])) (p ++ [s]) else if o then [] else [(p ++ [s], 9)]
def faultsO : List T → D → List ByteArray → List Flt
  | [], _, _ => []
  | x :: _, d, p => (d.kids.zipIdx.map fun ki => x.faults ki.1 (p ++ [partV d ki.2])).flatten
end
end Go.Proofs.YteecdmceleanjaaGreatDoor
namespace Go.Proofs.YteecdmceleanjaaGreatDoor
open Go.RowKit

theorem tab_named : Tryz.prog.globalNamed "internal/strconv.uint64pow10" = some 1 := by kernel_rfl
theorem tab_same {w w' : World} (h : Lib.TabIs Tryz.prog w "internal/strconv.uint64pow10" .u64 Lib.pow10Tab) (hs : w'.heap[1]? = w.heap[1]?) : Lib.TabIs Tryz.prog w' "internal/strconv.uint64pow10" .u64 Lib.pow10Tab := by
  have e : w'.var? Tryz.prog "internal/strconv.uint64pow10" = w.var? Tryz.prog "internal/strconv.uint64pow10" := by simp [World.var?, tab_named, hs]
  unfold Lib.TabIs at *
  rw [e]; exact h
set_option maxHeartbeats 4000000 in
set_option maxRecDepth 100000 in
theorem part_any_v {d : D} {v : Value} {w : World} {B i : Nat} (hB : B ≤ w.heap.size) (hd : DocV w B d v) (hi : i ≤ 10000) (hk : d.kind ≠ 3 → i < d.keys.length)
    (htab : Lib.TabIs Tryz.prog w "internal/strconv.uint64pow10" .u64 Lib.pow10Tab) (hsz : 1 < w.heap.size) :
    Calls Tryz.prog 106 #[v, .int .i64 i] w fun e w' => e = .returned (.string (partV d i)) ∧ Below w.heap.size w w' := by
  obtain ⟨v0, v1, v2, v3, v4, rfl, hd⟩ := hd
  obtain ⟨A3, c3, A4, c4, rfl, rfl, rfl, rfl, rfl⟩ := hd.forms
  have hs := hd.keys_
  by_cases h3 : d.kind = 3
  · have E2 : Hid (partV d i = ⟨(Lib.itoa (i : Int)).toArray⟩) := Lib.hid (by unfold partV; rw [if_pos h3])
    have g3 : (d.kind == 3) = true := by simp [h3]
    have ht : Hid (Lib.TabIs Tryz.prog (w.alloc (.cells #[.int .i64 d.kind, .int .i64 d.num, .string d.str, .slice A3 d.keys.length c3, .slice A4 d.kids.length c4] 29)) "internal/strconv.uint64pow10" .u64 Lib.pow10Tab) := Lib.hid (tab_same htab (Below.heap_alloc w _ _ hsz))
    clear htab hk h3 hd hs
    go_enter Tryz.func106, Tryz.ntmps106
    go_wp2_with (go_at_call 56; refine (Tryz.strconv_Itoa (i : Int) (by omega) (by omega) _ ht.out).mono ?_; rintro e w1 ⟨rfl, k, os, rfl⟩)
    go_ret
    exact ⟨congrArg (fun s => Ending.returned (.string s)) E2.out.symm, ((Below.refl _ _).alloc (Nat.le_refl _) _).trans (Lib.below_grow _ _ (by simp) _ _)⟩
  · have hik := hk h3
    obtain ⟨A', c', e, _, hc⟩ := hs
    injection e with e1 e2 e3
    subst e1
    obtain ⟨b, off, rfl, hb, hc⟩ := hc (by omega)
    have hc := hc i hik
    have E2 : Hid (partV d i = d.keys[i]) := Lib.hid (by unfold partV; rw [if_neg h3, List.getD_eq_getElem?_getD, List.getElem?_eq_getElem hik]; rfl)
    have g3 : (d.kind == 3) = false := by simp [h3]
    have hbl : b < w.heap.size := by omega
    have i0 : (0 : Int) ≤ (i : Int) := by omega
    have i1 : (i : Int) < (d.keys.length : Int) := by omega
    clear htab hd hk
    go_enter Tryz.func106, Tryz.ntmps106
    go_wp2_with fail
    go_ret
    exact ⟨congrArg (fun s => Ending.returned (.string s)) E2.out.symm, (Below.refl _ _).alloc (Nat.le_refl _) _⟩
end Go.Proofs.YteecdmceleanjaaGreatDoor
namespace Go.Proofs.YteecdmceleanjaaGreatDoor
open Go.RowKit

theorem idx_hit {zs : List ByteArray} {x : ByteArray} {k : Nat} (hk : k < zs.length) (h : zs[k] = x) (hne : ∀ j (h : j < zs.length), j < k → zs[j] ≠ x) : Lib.idxOfS zs x = k := by
  have e := Lib.idxOfS_hit zs zs.length k x hk (Nat.le_refl _) (by rw [List.getD_eq_getElem?_getD, List.getElem?_eq_getElem hk]; exact h) (fun j hj => by
    rw [List.getD_eq_getElem?_getD, List.getElem?_eq_getElem (by omega)]; exact hne j (by omega) hj)
  rwa [List.take_length] at e
theorem idx_miss {zs : List ByteArray} {x : ByteArray} (hne : ∀ j (h : j < zs.length), zs[j] ≠ x) : Lib.idxOfS zs x = -1 := by
  have e := Lib.idxOfS_miss zs zs.length x (fun j hj => by
    rw [List.getD_eq_getElem?_getD, List.getElem?_eq_getElem hj]; exact hne j hj)
  rwa [List.take_length] at e
set_option maxHeartbeats 4000000 in
set_option maxRecDepth 100000 in
theorem rkey_any {d : D} {v : Value} {s : ByteArray} {w : World} {B : Nat} (hB : B ≤ w.heap.size) (hd : DocV w B d v) (hl : d.keys.length ≤ 10000) :
    Calls Tryz.prog 71 #[v, .string s] w fun e w' => e = .returned (.int .i64 (Lib.idxOfS d.keys s)) ∧ Below w.heap.size w w' := by
  obtain ⟨v0, v1, v2, v3, v4, rfl, hin⟩ := hd
  obtain ⟨A3, d3, A4, d4, rfl, rfl, rfl, rfl, rfl⟩ := hin.forms
  have HS := Lib.hid hin.keys_
  clear hin
  go_enter Tryz.func71, Tryz.ntmps71
  go_wp2_with fail
  obtain ⟨W2, hW2⟩ : ∃ W2, W2 = w.alloc (.cells #[.int .i64 d.kind, .int .i64 d.num, .string d.str, .slice A3 d.keys.length d3, .slice A4 d.kids.length d4] 29) := ⟨_, rfl⟩
  have HBX : Hid (Box5 W2 w.heap.size (.int .i64 d.kind) (.int .i64 d.num) (.string d.str) (.slice A3 d.keys.length d3) (.slice A4 d.kids.length d4)) := by rw [hW2]; exact Box5.new w _ _ _ _ _
  have HBL : Hid (Below w.heap.size w W2) := by rw [hW2]; exact (Below.refl _ _).alloc (Nat.le_refl _) _
  rw [← hW2]
  clear hW2
  obtain ⟨q0, q1, q2, q3, q4⟩ := HBX.out.cells
  go_loop [5] (fun i => ∃ k : Nat, k ≤ d.keys.length ∧ i = .int .i64 k ∧ ∀ (j : Nat) (h : j < d.keys.length), j < k → d.keys[j] ≠ s) (fun i => d.keys.length - (intOf i).toNat)
  case atStart => exact ⟨0, Nat.zero_le _, rfl, fun j _ hj => absurd hj (by omega)⟩
  case round =>
    obtain ⟨k, hk, rfl, hall⟩ := hrel
    have HALL := Lib.hid hall
    clear hall
    by_cases hlt : k < d.keys.length
    · have hk0 : (0 : Int) ≤ (k : Int) := by omega
      have hk1 : (k : Int) < (d.keys.length : Int) := by omega
      obtain ⟨A', c', e, _, hc⟩ := HS.out
      injection e with e1 e2 e3
      subst e1
      obtain ⟨b, off, rfl, hb, hc⟩ := hc (by omega)
      have s6 := (HBL.out.cell (p := ⟨b, off + k, none⟩) (by show b < _; omega)).trans (hc k hlt)
      clear hc
      by_cases he : d.keys[k] = s
      · have E : Hid (Lib.idxOfS d.keys s = k) := Lib.hid (idx_hit hlt he fun j h hj => HALL.out j h hj)
        have ge : ((d.keys[k]).toList == s.toList) = true := by rw [beq_iff]; exact decide_eq_true he
        clear he
        go_wp2_with fail
        go_ret
        exact ⟨ret_int E.out.symm, HBL.out⟩
      · have HE : Hid (d.keys[k] ≠ s) := Lib.hid he
        have ge : ((d.keys[k]).toList == s.toList) = false := by rw [beq_iff]; exact decide_eq_false he
        clear he
        go_wp2_with fail
        go_round
        case rel => exact ⟨k + 1, by omega, by go_num, fun j h hj => by
          rcases Nat.lt_or_ge j k with h1 | h1
          · exact HALL.out j h h1
          · obtain rfl : j = k := by omega
            exact HE.out⟩
        case measure => simp [intOf]; omega
    · have E : Hid (Lib.idxOfS d.keys s = -1) := Lib.hid (idx_miss fun i h => HALL.out i h (by omega))
      go_wp2_with fail
      go_ret
      exact ⟨ret_int E.out.symm, HBL.out⟩
end Go.Proofs.YteecdmceleanjaaGreatDoor
namespace Go.Proofs.YteecdmceleanjaaGreatDoor
open Go.RowKit

theorem faults_eq (t : T) (d : D) (p : List ByteArray) : t.faults d p = (if fitsV t d = 0 then [] else [(p, fitsV t d)]) ++
    (if fitsV t d = 7 then [] else if t.kind = 1 then faultsF t.fields d p ++ (moreV t d.keys).map (fun s => (p ++ [s], 10)) else faultsO t.of d p) := by
  obtain ⟨_, _, _, _, _, _⟩ := t; simp only [T.faults, T.kind, T.fields, T.of]; rfl
theorem faultsF1_eq (f : F) (d : D) (p : List ByteArray) : faultsF1 f d p = if 0 ≤ Lib.idxOfS d.keys f.name then f.type.faults (d.kids.getD (Lib.idxOfS d.keys f.name).toNat (.mk 0 0 ⟨#[]⟩ [] [])) (p ++ [f.name]) else if f.opt then [] else [(p ++ [f.name], 9)] := by
  obtain ⟨_, _, _⟩ := f; simp only [faultsF1, F.name, F.opt, F.type]; rfl
theorem faultsF_append (d : D) (p : List ByteArray) : ∀ a b : List F, faultsF (a ++ b) d p = faultsF a d p ++ faultsF b d p
  | [], b => by simp [faultsF]
  | f :: r, b => by simp only [List.cons_append, faultsF, faultsF_append d p r b, List.append_assoc]
theorem faultsF_take (l : List F) (d : D) (p : List ByteArray) (k : Nat) (h : k < l.length) : faultsF (l.take (k + 1)) d p = faultsF (l.take k) d p ++ faultsF1 l[k] d p := by
  rw [List.take_succ_eq_append_getElem h, faultsF_append]; simp [faultsF]
/-- The faults of the kids ahead of the k-th. -/
def kidsFl (x : T) (d : D) (p : List ByteArray) (k : Nat) : List Flt := ((d.kids.take k).zipIdx.map fun ki => x.faults ki.1 (p ++ [partV d ki.2])).flatten
theorem kidsFl_zero (x : T) (d : D) (p : List ByteArray) : kidsFl x d p 0 = [] := by simp [kidsFl]
theorem kidsFl_succ (x : T) (d : D) (p : List ByteArray) (k : Nat) (h : k < d.kids.length) : kidsFl x d p (k + 1) = kidsFl x d p k ++ x.faults d.kids[k] (p ++ [partV d k]) := by
  unfold kidsFl
  rw [List.take_succ_eq_append_getElem h, List.zipIdx_append]
  simp [Nat.min_eq_left (Nat.le_of_lt h)]
theorem kidsFl_all (x : T) (r : List T) (d : D) (p : List ByteArray) : faultsO (x :: r) d p = kidsFl x d p d.kids.length := by
  simp [faultsO, kidsFl]
theorem kidsFl_mono (x : T) (d : D) (p : List ByteArray) (k : Nat) : ∀ n, k ≤ n → n ≤ d.kids.length → (kidsFl x d p k).length ≤ (kidsFl x d p n).length := by
  intro n
  induction n with
  | zero => intro h _; obtain rfl : k = 0 := by omega
            exact Nat.le_refl _
  | succ n ih =>
    intro h hn
    rcases Nat.lt_or_ge k (n + 1) with h1 | h1
    · rw [kidsFl_succ x d p n (by omega), List.length_append]
      have := ih (by omega) (by omega); omega
    · obtain rfl : k = n + 1 := by omega
      exact Nat.le_refl _
/-- How many faults there are at the most. -/
theorem kidsFl_len (x : T) (d : D) (p : List ByteArray) (hx : ∀ (i : Nat) (h : i < d.kids.length) (q : List ByteArray), (x.faults d.kids[i] q).length ≤ x.size * (d.kids[i]).size) : ∀ k, k ≤ d.kids.length → (kidsFl x d p k).length ≤ x.size * D.sizes (d.kids.take k)
  | 0, _ => by simp [kidsFl]
  | k + 1, h => by
    rw [kidsFl_succ x d p k (by omega), List.length_append, D.sizes_take_succ _ _ (by omega), Nat.mul_add]
    have := kidsFl_len x d p hx k (by omega)
    have := hx k (by omega) (p ++ [partV d k])
    omega
theorem D.size_at (l : List D) (i : Nat) (h : i < l.length) : (l[i]).size ≤ D.sizes l := by
  have h1 := D.sizes_take_succ l i h
  have h2 := D.sizes_take_le l (i + 1)
  omega
theorem idxOfS_lt (zs : List ByteArray) (x : ByteArray) (h : 0 ≤ Lib.idxOfS zs x) : (Lib.idxOfS zs x).toNat < zs.length := by
  by_cases hx : ∃ j, ∃ h : j < zs.length, zs[j] = x
  · have : ∃ k, ∃ h : k < zs.length, zs[k] = x ∧ ∀ j (h : j < zs.length), j < k → zs[j] ≠ x := by
      obtain ⟨j, hj, e⟩ := hx
      induction j using Nat.strongRecOn with
      | ind j ih =>
        by_cases hz : ∃ i, ∃ h : i < zs.length, i < j ∧ zs[i] = x
        · obtain ⟨i, hi, hij, e'⟩ := hz
          exact ih i hij hi e'
        · exact ⟨j, hj, e, fun i hi hij e' => hz ⟨i, hi, hij, e'⟩⟩
    obtain ⟨k, hk, e, hne⟩ := this
    rw [idx_hit hk e hne]; simpa using hk
  · rw [idx_miss fun j hj e => hx ⟨j, hj, e⟩] at h
    omega
/-- How right parts of a document lie. -/
structure DocOk (d : D) : Prop where
  keys : d.keys.length ≤ d.kids.length
  same : d.kind = 1 ∨ d.kind = 2 → d.keys.length = d.kids.length
  leaf : d.kind = 4 ∨ d.kind = 5 ∨ d.kind = 6 → d.kids = []
  kind : 1 ≤ d.kind ∧ d.kind ≤ 6
theorem docOk_of {d : D} (h : soundB d = true) : DocOk d := by
  simp only [soundB, Bool.and_eq_true] at h
  have h3 := h.2.2
  unfold formB at h3
  by_cases k1 : d.kind = 1
  · rw [if_pos k1] at h3
    simp only [keyedB, Bool.and_eq_true, decide_eq_true_eq] at h3
    exact ⟨by omega, fun _ => h3.1, fun h => by omega, by omega⟩
  rw [if_neg k1] at h3
  by_cases k2 : d.kind = 2
  · rw [if_pos k2] at h3
    simp only [keyedB, Bool.and_eq_true, decide_eq_true_eq] at h3
    exact ⟨by omega, fun _ => h3.1, fun h => by omega, by omega⟩
  rw [if_neg k2] at h3
  by_cases k3 : d.kind = 3
  · rw [if_pos k3] at h3
    simp only [decide_eq_true_eq] at h3
    exact ⟨by omega, fun h => by omega, fun h => by omega, by omega⟩
  rw [if_neg k3] at h3
  by_cases k4 : d.kind = 4 ∨ d.kind = 5 ∨ d.kind = 6
  · rw [if_pos k4] at h3
    simp only [Bool.and_eq_true, decide_eq_true_eq] at h3
    exact ⟨by omega, fun h => by omega, fun _ => List.eq_nil_of_length_eq_zero h3.2, by omega⟩
  · rw [if_neg k4] at h3; cases h3
theorem ranged_rec {t : T} {d : D} (h : t.kind = 1) : rangedV t d = true := by simp [rangedV, h]
theorem faults_le (m : Nat) : ∀ (t : T) (d : D) (p : List ByteArray), t.depth ≤ m → partB d = true → (t.faults d p).length ≤ t.size * d.size := by
  induction m with
  | zero => intro t _ _ h; have := T.depth_pos t; omega
  | succ m ih =>
    intro t d p hm hd
    have hsz := D.size_eq d
    have htz := T.size_eq t
    rw [partB_eq, Bool.and_eq_true] at hd
    have hkk : d.keys.length ≤ d.kids.length := (docOk_of hd.1).keys
    have hsl := D.len_le_sizes d.kids
    rw [faults_eq, List.length_append]
    have h1 : (if fitsV t d = 0 then [] else [(p, fitsV t d)] : List Flt).length ≤ 1 := by split <;> simp
    have hpos : 1 ≤ t.size * d.size := Nat.mul_pos (T.size_pos t) (D.size_pos d)
    by_cases h7 : fitsV t d = 7
    · rw [if_pos h7]; simp only [List.length_nil]; omega
    rw [if_neg h7]
    by_cases hk : t.kind = 1
    · rw [if_pos hk, List.length_append, List.length_map]
      have hfit : fitsV t d = 0 := by
        unfold fitsV at h7 ⊢
        by_cases e : d.kind = kindV t
        · rw [if_pos e]
          have : rangedV t d = true := ranged_rec hk
          rw [if_pos this]
        · rw [if_neg e] at h7; exact absurd rfl h7
      rw [if_pos hfit]
      have hmore := moreV_len t d.keys
      have hF : ∀ l : List F, (∀ f ∈ l, f.type.depth ≤ m) → (faultsF l d p).length ≤ T.sizes (l.map F.type) * d.size := by
        intro l
        induction l with
        | nil => intro _; simp [faultsF]
        | cons f r ihl =>
          intro hl
          simp only [faultsF, List.length_append, List.map_cons, T.sizes, Nat.add_mul]
          have h2 := ihl fun g hg => hl g (by simp [hg])
          have h3 : (faultsF1 f d p).length ≤ f.type.size * d.size := by
            rw [faultsF1_eq]
            have hp1 : 1 ≤ f.type.size * d.size := Nat.mul_pos (T.size_pos _) (D.size_pos d)
            split
            · rename_i h0
              have hlt := idxOfS_lt _ _ h0
              have hlt2 : (Lib.idxOfS d.keys f.name).toNat < d.kids.length := by omega
              rw [List.getD_eq_getElem?_getD, List.getElem?_eq_getElem hlt2]
              simp only [Option.getD_some]
              have h4 := ih f.type _ (p ++ [f.name]) (hl f (by simp)) (partsB_at hd.2 hlt2)
              have h5 := D.size_at d.kids _ hlt2
              exact Nat.le_trans h4 (Nat.mul_le_mul_left _ (by omega))
            · split
              · simp
              · simpa using hp1
          omega
      have h2 := hF t.fields fun f hf => by
        obtain ⟨i, hi, e⟩ := List.getElem_of_mem hf
        have := T.field_depth (t := t) (i := i) hi
        rw [e] at this; omega
      have h3 : t.size * d.size = T.sizes (t.fields.map F.type) * d.size + T.sizes t.of * d.size + d.size := by rw [htz]; simp only [Nat.add_mul, Nat.one_mul]
      simp only [List.length_nil]
      omega
    · rw [if_neg hk]
      cases ho : t.of with
      | nil => simp only [faultsO, List.length_nil]; omega
      | cons x r =>
        rw [kidsFl_all]
        have hxd : x.depth ≤ m := by have := T.of_depth (t := t) (i := 0) (by rw [ho]; simp); simp only [ho, List.getElem_cons_zero] at this; omega
        have h2 := kidsFl_len x d p (fun i h q => ih x _ q hxd (partsB_at hd.2 h)) d.kids.length (Nat.le_refl _)
        rw [List.take_length] at h2
        have h3 : x.size + 1 ≤ t.size := by rw [htz, ho]; simp only [T.sizes]; omega
        have h4 : x.size * D.sizes d.kids + 1 ≤ t.size * d.size := by
          have h5 : (x.size + 1) * (D.sizes d.kids + 1) ≤ t.size * d.size := Nat.mul_le_mul h3 (by omega)
          rw [Nat.add_mul, Nat.mul_add] at h5
          omega
        omega

/-- What is gathered: all, or the first alone. -/
def gath (go : Bool) (l fs : List Flt) : List Flt := if go then l ++ fs else l ++ fs.take 1
/-- Whether it went on to the end. -/
def ends (go : Bool) (fs : List Flt) : Bool := go || fs.isEmpty
theorem gath_nil (go : Bool) (l : List Flt) : gath go l [] = l := by cases go <;> simp [gath]
theorem ends_nil (go : Bool) : ends go [] = true := by cases go <;> rfl
theorem ends_one (go : Bool) (x : Flt) : ends go [x] = go := by cases go <;> rfl
theorem gath_on {go : Bool} {a : List Flt} (l b : List Flt) (h : ends go a = true) : gath go (gath go l a) b = gath go l (a ++ b) := by
  cases go
  · simp [ends] at h; simp [gath, h]
  · simp [gath]
theorem ends_on {go : Bool} {a : List Flt} (b : List Flt) (h : ends go a = true) : ends go (a ++ b) = ends go b := by
  cases go
  · simp [ends] at h; simp [ends, h]
  · simp [ends]
theorem gath_off {go : Bool} {a : List Flt} (l b : List Flt) (h : ends go a = false) : gath go l (a ++ b) = gath go l a := by
  cases go
  · cases a with
    | nil => simp [ends] at h
    | cons x r => simp [gath]
  · simp [ends] at h
theorem ends_off {go : Bool} {a : List Flt} (b : List Flt) (h : ends go a = false) : ends go (a ++ b) = false := by
  cases go
  · cases a with
    | nil => simp [ends] at h
    | cons x r => simp [ends]
  · simp [ends] at h
theorem gath_pre {go : Bool} {a l : List Flt} (h : ends go a = true) (hl : go = true ∨ l = []) : go = true ∨ gath go l a = [] := by
  cases go
  · simp [ends] at h; simpa [gath, h] using hl
  · exact .inl rfl
theorem gath_len (go : Bool) (l a : List Flt) : (gath go l a).length ≤ l.length + a.length := by
  cases go
  · simp [gath]; omega
  · simp [gath]
/-- The gatherer's variable, as it stands. -/
def Gat (go : Bool) (base : Nat) (w : World) (c : Nat) (l : List Flt) (G : List Nat) : Prop := if go then AllSt base w c l G else ChkSt base w c (l.headD ([], 0)) G
theorem Gat.lt {go : Bool} {base : Nat} {w : World} {c : Nat} {l : List Flt} {G : List Nat} (h : Gat go base w c l G) : ∀ k ∈ G, base ≤ k ∧ k < w.heap.size := by
  cases go
  · exact ChkSt.lt h
  · exact AllSt.lt h
theorem Gat.same {go : Bool} {base : Nat} {w w' : World} {c : Nat} {l : List Flt} {G : List Nat} (h : Gat go base w c l G) (hc : w'.heap[c]? = w.heap[c]?) (hs : ∀ k ∈ G, w'.heap[k]? = w.heap[k]?) : Gat go base w' c l G := by
  cases go
  · exact ChkSt.same h hc hs
  · exact AllSt.same h hc hs
def gatFn (go : Bool) (c : Nat) : Value := .func (.func (if go then 41 else 40)) #[] #[.pointer (some ⟨c, 0, none⟩)]
theorem tellG_any {go : Bool} {base c g : Nat} {w : World} {l : List Flt} {G : List Nat} {p : List ByteArray} {n : Int} {pv : Value} (hs : Gat go base w c l G) (hpre : go = true ∨ l = []) (hl : l.length ≤ 100000) (hcb : c < base) (hb : base ≤ w.heap.size) (hgb : g < base)
    (hg : w.cell? ⟨g, 0, none⟩ = some (gatFn go c)) (hp : Strs w w.heap.size pv p) (hpl : p.length ≤ 10000) :
    Calls Tryz.prog 67 #[pv, .int .i64 n, .pointer (some ⟨g, 0, none⟩)] w fun e w' => e = .returned (.bool (ends go [(p, n)])) ∧ ∃ G', Gat go base w' c (gath go l [(p, n)]) G' ∧ (∀ k ∈ G', k ∈ G ∨ w.heap.size ≤ k) ∧ Turned w w' G c := by
  cases go
  · rcases hpre with h | rfl
    · cases h
    · refine (tellC_any (f := ([], 0)) hs hcb hb hgb hg hp hpl).mono ?_
      rintro e w' ⟨rfl, G', h1, h2, h3⟩
      exact ⟨rfl, G', h1, fun k hk => .inr (h2 k hk), ⟨h3.os, h3.tape, h3.output, h3.size, fun k hk hg' hkc => h3.block k hk (by simp) hkc⟩⟩
  · exact (tell_any hs hl hcb hb hgb hg hp hpl).mono fun e w' h => h
end Go.Proofs.YteecdmceleanjaaGreatDoor
namespace Go.Proofs.YteecdmceleanjaaGreatDoor
open Go.RowKit

/-- Behind the world w0, with the path p in pv, l gathered. -/
structure LookSt (go : Bool) (base c g : Nat) (w0 w : World) (l : List Flt) (G0 : List Nat) (pv : Value) (p : List ByteArray) : Prop where
  ex : ∃ G, Gat go base w c l G ∧ (∀ k ∈ G, k ∈ G0 ∨ w0.heap.size ≤ k) ∧ (∀ k ∈ blk pv, k ∉ G)
  own : w.ownsRow base 9 1 pv p.length (p.map Value.string)
  t : Turned w0 w (G0 ++ blk pv) c
  low : ∀ k ∈ G0, base ≤ k
  bs : base ≤ w0.heap.size
  cb : c < base
  gb : g < base
  gc : g ≠ c
  tc : 1 < c
  fn : w.cell? ⟨g, 0, none⟩ = some (gatFn go c)
  tab : Lib.TabIs Tryz.prog w "internal/strconv.uint64pow10" .u64 Lib.pow10Tab
section
variable {go : Bool} {base c g : Nat} {w0 w : World} {l : List Flt} {G0 : List Nat} {pv : Value} {p : List ByteArray}
theorem LookSt.size (h : LookSt go base c g w0 w l G0 pv p) : w0.heap.size ≤ w.heap.size := h.t.size
theorem LookSt.ob (h : LookSt go base c g w0 w l G0 pv p) : ∀ k ∈ blk pv, base ≤ k ∧ k < w.heap.size := fun k hk => h.own.lt k (blk_mem.1 hk)
/-- What lies below c, or behind the boxes, stays. -/
theorem LookSt.block (h : LookSt go base c g w0 w l G0 pv p) {k : Nat} (hk : k < w0.heap.size) (hc : k ≠ c) (hg : k < base ∨ (k ∉ G0 ∧ k ∉ blk pv)) : w.heap[k]? = w0.heap[k]? := by
  refine h.t.block k hk (fun hm => ?_) hc
  rcases List.mem_append.1 hm with hm | hm
  · rcases hg with hg | hg
    · have := h.low k hm; omega
    · exact hg.1 hm
  · rcases hg with hg | hg
    · have := (h.ob k hm).1; omega
    · exact hg.2 hm
theorem LookSt.cell (h : LookSt go base c g w0 w l G0 pv p) {B : Nat} (hB : B ≤ c) (q : Addr) (hq : q.block < B) : w.cell? q = w0.cell? q :=
  World.cell?_of_block (a := q) (h.block (by have := h.cb; have := h.bs; omega) (by omega) (.inl (by have := h.cb; omega)))
theorem LookSt.next {w' : World} (h : LookSt go base c g w0 w l G0 pv p) (hb : Below w.heap.size w w') : LookSt go base c g w0 w' l G0 pv p := by
  obtain ⟨G, h1, h2, h3⟩ := h.ex
  have hs := h.size; have hbs := h.bs; have hcb := h.cb; have hgb := h.gb; have htc := h.tc
  exact ⟨⟨G, h1.same (hb.block c (by omega)) fun k hk => hb.block k (h1.lt k hk).2, h2, h3⟩, ownsRow_same h.own fun k hk => hb.block k (h.ob k hk).2, h.t.trans (Turned.of_below hb _ _), h.low, h.bs, h.cb, h.gb, h.gc, h.tc,
    (hb.cell (p := ⟨g, 0, none⟩) (by show g < _; omega)).trans h.fn, tab_same h.tab (hb.block _ (by omega))⟩
/-- A fault at the path is told. -/
theorem LookSt.tell {n : Int} (h : LookSt go base c g w0 w l G0 pv p) (hpre : go = true ∨ l = []) (hl : l.length ≤ 100000) (hp : p.length ≤ 10000) :
    Calls Tryz.prog 67 #[pv, .int .i64 n, .pointer (some ⟨g, 0, none⟩)] w fun e w' => e = .returned (.bool (ends go [(p, n)])) ∧ LookSt go base c g w0 w' (gath go l [(p, n)]) G0 pv p := by
  obtain ⟨G, h1, h2, h3⟩ := h.ex
  have hs := h.size; have hbs := h.bs; have hcb := h.cb; have hgb := h.gb; have htc := h.tc; have hgc := h.gc
  refine (tellG_any h1 hpre hl h.cb (by omega) h.gb h.fn (Strs_of_own h.own) hp).mono ?_
  rintro e w' ⟨rfl, G', g1, g2, g3⟩
  have hGl := h1.lt
  have far : ∀ k, k < w.heap.size → k < base → k ≠ c → w'.heap[k]? = w.heap[k]? := fun k hk hkb hkc => g3.block k hk (fun hm => by have := (hGl k hm).1; omega) hkc
  have hob := h.ob
  refine ⟨rfl, ⟨G', g1, fun k hk => ?_, fun k hk hk' => ?_⟩, ownsRow_same h.own fun k hk => g3.block k (hob k hk).2 (h3 k hk) (by have := (hob k hk).1; omega), ⟨g3.os.trans h.t.os, g3.tape.trans h.t.tape, g3.output.trans h.t.output, by have := g3.size; omega, fun k hk hkG hkc => ?_⟩, h.low, h.bs, h.cb, h.gb, h.gc, h.tc,
    (World.cell?_of_block (a := ⟨g, 0, none⟩) (far g (by omega) h.gb h.gc)).trans h.fn, tab_same h.tab (far _ (by omega) (by omega) (by omega))⟩
  · rcases g2 k hk with h4 | h4
    · exact h2 k h4
    · exact .inr (by omega)
  · rcases g2 k hk' with h4 | h4
    · exact h3 k hk h4
    · have := (hob k hk).2; omega
  · refine (g3.block k (by omega) (fun hm => ?_) hkc).trans (h.t.block k hk hkG hkc)
    rcases h2 k hm with h4 | h4
    · exact hkG (List.mem_append.2 (.inl h4))
    · omega
theorem own_caps {w : World} {base g n m cap cap' : Nat} {xs ys : List Value} (h : w.ownsRow base 9 1 (.slice (some ⟨g, 0, none⟩) n cap) n xs) (k : w.ownsRow base 9 1 (.slice (some ⟨g, 0, none⟩) m cap') m ys) : cap = cap' := by
  obtain ⟨_, h2⟩ := h
  obtain ⟨_, k2⟩ := k
  rcases h2 with ⟨e, _⟩ | ⟨g1, c1, u1, e1, _, a1, _, _, b1, _⟩
  · cases e
  rcases k2 with ⟨e, _⟩ | ⟨g2, c2, u2, e2, _, a2, _, _, b2, _⟩
  · cases e
  injection e1 with e1 _ e3
  injection e1 with e1
  injection e1 with e1 _ _
  injection e2 with e2 _ e4
  injection e2 with e2
  injection e2 with e2 _ _
  subst e1; subst e2; subst e3; subst e4
  rw [a1] at a2
  injection a2 with a2
  injection a2 with a2 _ _
  subst a2
  omega
/-- A path of one part more, and the way back. -/
theorem LookSt.kid {w5 : World} {pv' : Value} {s : ByteArray} (h : LookSt go base c g w0 w l G0 pv p)
    (ho' : w5.ownsRow base 9 1 pv' (p.length + 1) (p.map Value.string ++ [.string s])) (ho : w5.ownsRow base 9 1 pv p.length (p.map Value.string)) (hg : w.grownBy w5 pv.ownBlock) (hat : pv'.ownBlock = pv.ownBlock ∨ (pv'.ownBlock = some w.heap.size ∧ Below w.heap.size w w5)) :
    ∃ G, LookSt go base c g w5 w5 l G pv' (p ++ [s]) ∧ (∀ k ∈ G, (k ∈ G0 ∨ w0.heap.size ≤ k) ∧ k < w.heap.size) ∧ (∀ k ∈ blk pv', k ∈ blk pv ∨ w.heap.size ≤ k) ∧ ∀ w6 l', LookSt go base c g w5 w6 l' G pv' (p ++ [s]) → LookSt go base c g w0 w6 l' G0 pv p := by
  obtain ⟨G, h1, h2, h3⟩ := h.ex
  have hs := h.size; have hbs := h.bs; have hcb := h.cb; have hgb := h.gb; have htc := h.tc; have hgc := h.gc
  have hob := h.ob
  have hGl := h1.lt
  have hgs := hg.size
  have far : ∀ k, k < w.heap.size → k ∉ blk pv → w5.heap[k]? = w.heap[k]? := fun k hk hkp => hg.block k hk fun e => hkp (blk_mem.2 e.symm)
  have farb : ∀ k, k < base → w5.heap[k]? = w.heap[k]? := fun k hk => far k (by omega) fun hm => by have := (hob k hm).1; omega
  have hbl' : ∀ k ∈ blk pv', k ∈ blk pv ∨ w.heap.size ≤ k := fun k hk => by
    rcases hat with e | ⟨e, _⟩
    · exact .inl (blk_mem.2 (e ▸ blk_mem.1 hk))
    · rw [blk_mem.1 hk] at e; injection e with e; exact .inr (by omega)
  have hlen : (p ++ [s]).length = p.length + 1 := by simp
  have hmap : (p ++ [s]).map Value.string = p.map Value.string ++ [.string s] := by simp
  refine ⟨G, ⟨⟨G, h1.same (farb c hcb) fun k hk => far k (hGl k hk).2 fun hm => h3 k hm hk, fun k hk => .inl hk, fun k hk hkG => ?_⟩, by rw [hlen, hmap]; exact ho', ⟨rfl, rfl, rfl, Nat.le_refl _, fun _ _ _ _ => rfl⟩, fun k hk => (hGl k hk).1, by omega, hcb, hgb, hgc, htc,
    (World.cell?_of_block (a := ⟨g, 0, none⟩) (farb g hgb)).trans h.fn, tab_same h.tab (farb _ (by omega))⟩, fun k hk => ⟨h2 k hk, (hGl k hk).2⟩, hbl', fun w6 l' k6 => ?_⟩
  · rcases hbl' k hk with h4 | h4
    · exact h3 k h4 hkG
    · have := (hGl k hkG).2; omega
  obtain ⟨G', g1, g2, g3⟩ := k6.ex
  have ks := k6.size
  have kown := k6.own
  rw [hlen, hmap] at kown
  have hpv : w6.ownsRow base 9 1 pv p.length (p.map Value.string) := by
    rcases hat with e | ⟨e, _⟩
    · rcases ho'.2 with ⟨e1, e2⟩ | ⟨g', cap', cur', rfl, _⟩
      · have := ho'.1; omega
      · rcases ho.2 with ⟨rfl, _⟩ | ⟨g1', cap1, cur1, rfl, _⟩
        · simp [Value.ownBlock] at e
        · have e1 : g' = g1' := by simpa [Value.ownBlock] using e
          subst e1
          obtain rfl := own_caps ho' ho
          exact own_prefix kown (by simp)
    · refine ownsRow_same ho fun k hk => k6.t.block k (by have := (hob k hk).2; omega) (fun hm => ?_) (by have := (hob k hk).1; omega)
      rcases List.mem_append.1 hm with hm | hm
      · exact h3 k hk hm
      · rw [blk_mem.1 hm] at e; injection e with e; have := (hob k hk).2; omega
  refine ⟨⟨G', g1, fun k hk => ?_, fun k hk hkG => ?_⟩, hpv, ⟨k6.t.os.trans (hg.os.trans h.t.os), k6.t.tape.trans (hg.tape.trans h.t.tape), k6.t.output.trans (hg.output.trans h.t.output), by omega, fun k hk hkG hkc => ?_⟩, h.low, h.bs, h.cb, h.gb, h.gc, h.tc, k6.fn, k6.tab⟩
  · rcases g2 k hk with h4 | h4
    · exact h2 k h4
    · exact .inr (by omega)
  · rcases g2 k hkG with h4 | h4
    · exact h3 k hk h4
    · have := (hob k hk).2; omega
  · have hkp : k ∉ blk pv := fun hm => hkG (List.mem_append.2 (.inr hm))
    refine (k6.t.block k (by omega) (fun hm => ?_) hkc).trans ((far k (by omega) hkp).trans (h.t.block k hk hkG hkc))
    rcases List.mem_append.1 hm with hm | hm
    · rcases h2 k hm with h4 | h4
      · exact hkG (List.mem_append.2 (.inl h4))
      · omega
    · rcases hbl' k hm with h4 | h4
      · exact hkp h4
      · omega
end
/-- What look is asked for. -/
def LookTo (go : Bool) (base c g B m : Nat) : Prop := ∀ (t : T) (d : D) (tv uv pv : Value) (w : World) (l : List Flt) (G : List Nat) (p : List ByteArray), t.depth ≤ m → allT t = true → t.Fit → d.Fit → partB d = true → (go = true ∨ l = []) → l.length + (t.faults d p).length ≤ 100000 → p.length + m ≤ 10000 → B ≤ c →
  TypeV w B t tv → DocV w B d uv → LookSt go base c g w w l G pv p →
  Calls Tryz.prog 68 #[tv, uv, pv, .func (.func 67) #[] #[.pointer (some ⟨g, 0, none⟩)]] w fun e w' => e = .returned (.bool (ends go (t.faults d p))) ∧ LookSt go base c g w w' (gath go l (t.faults d p)) G pv p
end Go.Proofs.YteecdmceleanjaaGreatDoor
