/-
  What the laws of layer 5 share: what is small, the table of tens, where a law stands; a document is of a type just where it has no faults.
  Records whose keys are some fields' names, in their order: plain lemmas.
  Least has no faults, what is mended has none, and what has none is mended to itself: of types whose dictionaries and lists need not have more than one.
  narrow, and that Least is right where the type is narrow.
  narrow: the walk.
  ValidLeast: what the law tells of, as plain lemmas.
  What the cards of layer 5 share: what the row's list gives of the table of tens, and documents and types as the row reads them.
-/
import Derived.Test.YteecdmceleanjaaGreatDoorB41
import Derived.Test.YteecdmceleanjaaGreatDoorB06
import Derived.Test.YteecdmceleanjaaGreatDoorB25
import Derived.Test.YteecdmceleanjaaGreatDoorB24
import Derived.Test.YteecdmceleanjaaGreatDoorB20
import Derived.Deep.CutRange
import Derived.Deep.CutBlock
import Derived.Deep.DeepCutAuto
import Derived.Test.YteecdmceleanjaaGreatDoorProg
import Derived.Deep.Slices
import Derived.Test.YteecdmceleanjaaGreatDoorB01
import Derived.ChangeMaps5
import Derived.Test.YteecdmceleanjaaGreatDoorB07
import Derived.LaidMore
import Derived.Deep.DeepHandedRow
import Derived.Test.YteecdmceleanjaaGreatDoorRows
import Derived.Stop.LaidErr
import Derived.MakeChecks
import Derived.Lib.LaidTab
namespace Go.Proofs.YteecdmceleanjaaGreatDoor
open Go.RowKit

/-- The table of tens stands. -/
def Tab (w : World) : Prop := Lib.TabIs Tryz.prog w "internal/strconv.uint64pow10" .u64 Lib.pow10Tab ∧ 1 < w.heap.size
theorem Tab.next {w w' : World} (h : Tab w) (hb : Below w.heap.size w w') : Tab w' := ⟨tab_same h.1 (hb.block _ h.2), Nat.lt_of_lt_of_le h.2 hb.size⟩
noncomputable def fewV2 (t : T) (d : D) : Bool := t_fewB t && fewB d
set_option maxHeartbeats 4000000 in
set_option maxRecDepth 100000 in
theorem vfew_any {t : T} {d : D} {v u : Value} {w : World} {B : Nat} (hB : B ≤ w.heap.size) (ht : TypeV w B t v) (hd : DocV w B d u) :
    Calls Tryz.prog 10 #[v, u] w fun e w' => e = .returned (.bool (fewV2 t d)) ∧ Below w.heap.size w w' := by
  obtain ⟨v0, v1, v2, v3, v4, v5, rfl, ht⟩ := ht
  obtain ⟨u0, u1, u2, u3, u4, rfl, hd⟩ := hd
  have ST := Lib.hid (TD.start hB ht hd)
  have E : Hid (fewV2 t d = (t_fewB t && fewB d)) := Lib.hid rfl
  clear ht hd
  go_enter Tryz.func10, Tryz.ntmps10
  go_wp2_with fail
  generalize (w.alloc (.cells #[v0, v1, v2, v3, v4, v5] 26)).alloc (.cells #[u0, u1, u2, u3, u4] 29) = w1 at *
  refine (t_few_v ST.out.le ST.out.tv).mono ?_
  rintro e w2 ⟨rfl, hb2⟩
  have ST2 := Lib.hid (ST.out.next (hb2.mono ST.out.sz))
  clear hb2
  obtain ⟨x0, x1, x2, x3, x4, x5⟩ := ST2.out.bt.cells
  obtain ⟨y0, y1, y2, y3, y4⟩ := ST2.out.bd.cells
  have sz2 := ST2.out.sz
  generalize t_fewB t = p at *
  go_wp2_with fail
  refine (few_v ST2.out.le ST2.out.dv).mono ?_
  rintro e w3 ⟨rfl, hb3⟩
  have HB3 : Hid (Below w.heap.size w w3) := Lib.hid (ST2.out.bl.trans (hb3.mono ST2.out.bl.size))
  clear hb3
  generalize fewB d = q at *
  cases p
  · go_wp2_with fail
    go_ret
    exact ⟨ret_bool (by rw [E.out]; rfl), HB3.out⟩
  · go_wp2_with fail
    go_ret
    exact ⟨ret_bool (by rw [E.out]; rfl), HB3.out⟩
/-- What is small. -/
structure Small5 (t : T) (d : D) : Prop where
  tf : t.Fit
  ts : t.size ≤ 199
  td : t.depth ≤ 20
  df : d.Fit
  ds : d.size ≤ 699
  dd : d.depth ≤ 20
  d6 : d.Fit6
theorem small5_of {t : T} {d : D} (h : fewV2 t d = true) : Small5 t d := by
  unfold fewV2 at h
  rw [Bool.and_eq_true] at h
  have ho : okFew t 20 := by simpa [t_fewB] using h.1
  have hd : FewP d 20 := by simpa [fewB] using h.2
  exact ⟨fit_of_allP t ho.2.2, ho.2.1, ho.1, hd.fit.fit, hd.size, hd.depth, hd.fit⟩
/-- Where the law stands. -/
structure LawSt (w0 w : World) (t : T) (d : D) (v0 v1 v2 v3 v4 v5 u0 u1 u2 u3 u4 : Value) : Prop where
  td : TD w0 w w0.heap.size t d v0 v1 v2 v3 v4 v5 u0 u1 u2 u3 u4
  tab : Tab w
theorem LawSt.next {w0 w w' : World} {t : T} {d : D} {v0 v1 v2 v3 v4 v5 u0 u1 u2 u3 u4 : Value} (h : LawSt w0 w t d v0 v1 v2 v3 v4 v5 u0 u1 u2 u3 u4) (hb : Below w.heap.size w w') : LawSt w0 w' t d v0 v1 v2 v3 v4 v5 u0 u1 u2 u3 u4 :=
  ⟨h.td.next (hb.mono h.td.sz), h.tab.next hb⟩
theorem LawSt.start {w : World} {t : T} {d : D} {v0 v1 v2 v3 v4 v5 u0 u1 u2 u3 u4 : Value} (ht : TypeIn w w.heap.size t v0 v1 v2 v3 v4 v5) (hd : DocIn w w.heap.size d u0 u1 u2 u3 u4) (htab : Tab w) :
    LawSt w ((w.alloc (.cells #[v0, v1, v2, v3, v4, v5] 26)).alloc (.cells #[u0, u1, u2, u3, u4] 29)) t d v0 v1 v2 v3 v4 v5 u0 u1 u2 u3 u4 :=
  ⟨TD.start (Nat.le_refl _) ht hd, (htab.next ((Below.refl _ _).alloc (Nat.le_refl _) _)).next ((Below.refl _ _).alloc (Nat.le_refl _) _)⟩
end Go.Proofs.YteecdmceleanjaaGreatDoor
namespace Go.Proofs.YteecdmceleanjaaGreatDoor
open Go.RowKit

theorem scmp_refl (a : ByteArray) : scmp a a = 0 := scmp_ordered.refl a trivial
/-- Rising keys. -/
def Up (l : List ByteArray) : Prop := l.Pairwise fun a b => scmp a b = -1
theorem Up.at_ {l : List ByteArray} (h : Up l) {i j : Nat} (hi : i < l.length) (hj : j < l.length) (hij : i < j) : scmp l[i] l[j] = -1 := List.pairwise_iff_getElem.1 h i j hi hj hij
theorem Up.ne {a b : ByteArray} (h : scmp a b = -1) : a ≠ b := fun e => by rw [e, scmp_refl] at h; cases h
/-- The keys and the kids of a record that has these parts for its fields. -/
def rowK (g : F → Option D) (l : List F) : List ByteArray := (l.filter fun f => (g f).isSome).map F.name
def rowV (g : F → Option D) (l : List F) : List D := l.filterMap g
theorem rowK_cons (g : F → Option D) (f : F) (l : List F) : rowK g (f :: l) = (if (g f).isSome then [f.name] else []) ++ rowK g l := by
  unfold rowK; rw [List.filter_cons]; split <;> simp
theorem rowV_cons (g : F → Option D) (f : F) (l : List F) : rowV g (f :: l) = (g f).toList ++ rowV g l := by
  unfold rowV; rw [List.filterMap_cons]; cases g f <;> simp
theorem rowK_len (g : F → Option D) : ∀ l : List F, (rowK g l).length = (rowV g l).length
  | [] => rfl
  | f :: l => by rw [rowK_cons, rowV_cons, List.length_append, List.length_append, rowK_len g l]; cases g f <;> simp
theorem rowK_mem {g : F → Option D} {l : List F} {k : ByteArray} (h : k ∈ rowK g l) : ∃ f ∈ l, f.name = k ∧ (g f).isSome = true := by
  obtain ⟨f, hf, e⟩ := List.mem_map.1 h
  rw [List.mem_filter] at hf
  exact ⟨f, hf.1, e, hf.2⟩
end Go.Proofs.YteecdmceleanjaaGreatDoor
namespace Go.Proofs.YteecdmceleanjaaGreatDoor
open Go.RowKit

mutual
/-- Need no dictionary, and no list, have more than one? -/
def narrowB : T → Bool
  | .mk k lo _ _ fs of => !((decide (k = 2) || decide (k = 3)) && decide (1 < lo)) && (narrowF fs && narrowL of)
def narrowF : List F → Bool
  | [] => true
  | f :: r => narrowF1 f && narrowF r
def narrowF1 : F → Bool
  | .mk _ _ t => narrowB t
def narrowL : List T → Bool
  | [] => true
  | t :: r => narrowB t && narrowL r
end
theorem narrowF1_eq (f : F) : narrowF1 f = narrowB f.type := by obtain ⟨_, _, _⟩ := f; rfl
theorem narrowB_eq (t : T) : narrowB t = (!((decide (t.kind = 2) || decide (t.kind = 3)) && decide (1 < t.lo)) && (narrowF t.fields && narrowL t.of)) := by obtain ⟨_, _, _, _, _, _⟩ := t; simp only [narrowB, T.kind, T.lo, T.fields, T.of]; rfl
theorem narrowF_mem : ∀ {l : List F}, narrowF l = true → ∀ f ∈ l, narrowB f.type = true
  | [], _, _, h => by cases h
  | g :: r, hn, f, h => by
    simp only [narrowF, Bool.and_eq_true] at hn
    rcases List.mem_cons.1 h with rfl | h
    · rw [← narrowF1_eq]; exact hn.1
    · exact narrowF_mem hn.2 f h
theorem narrowL_mem : ∀ {l : List T}, narrowL l = true → ∀ t ∈ l, narrowB t = true
  | [], _, _, h => by cases h
  | g :: r, hn, f, h => by
    simp only [narrowL, Bool.and_eq_true] at hn
    rcases List.mem_cons.1 h with rfl | h
    · exact hn.1
    · exact narrowL_mem hn.2 f h
theorem allT_sound {t : T} (h : allT t = true) : soundT t = true := by rw [allT_eq, Bool.and_eq_true] at h; exact h.1
theorem allT_field {t : T} (h : allT t = true) {f : F} (hf : f ∈ t.fields) : allT f.type = true := by
  rw [allT_eq, Bool.and_eq_true] at h
  exact allL_mem h.2 (by simp only [T.kids, List.mem_append, List.mem_map]; exact .inl ⟨f, hf, rfl⟩)
theorem allT_of {t : T} (h : allT t = true) {x : T} (hx : x ∈ t.of) : allT x = true := by
  rw [allT_eq, Bool.and_eq_true] at h
  exact allL_mem h.2 (by simp only [T.kids, List.mem_append]; exact .inr hx)
theorem field_depth_mem {t : T} {f : F} (hf : f ∈ t.fields) : f.type.depth + 1 ≤ t.depth := by
  obtain ⟨i, hi, rfl⟩ := List.mem_iff_getElem.1 hf
  have := T.field_depth (t := t) hi; omega
theorem of_depth_mem {t x : T} (hx : x ∈ t.of) : x.depth + 1 ≤ t.depth := by
  obtain ⟨i, hi, rfl⟩ := List.mem_iff_getElem.1 hx
  have := T.of_depth (t := t) hi; omega
/-- What each field of a record has, in the least one. -/
def leastG (f : F) : Option D := if f.opt then none else some f.type.least
theorem keysF_row : ∀ l : List F, keysF l = rowK leastG l
  | [] => rfl
  | f :: r => by rw [rowK_cons, keysF, keysF_row r]; cases h : f.opt <;> simp [leastG, h]
/-- What each field of a record has, mended. -/
def mendG (d : D) (f : F) : Option D := if 0 ≤ Lib.idxOfS d.keys f.name then some (f.type.mend (d.kids.getD (Lib.idxOfS d.keys f.name).toNat (.mk 0 0 ⟨#[]⟩ [] []))).1 else if f.opt then none else some f.type.least
theorem mendF_keys (d : D) : ∀ l : List F, ((mendF l d).map fun x => x.1) = rowK (mendG d) l
  | [] => rfl
  | f :: r => by
    rw [rowK_cons, mendF, List.map_append, mendF_keys d r, mendF1_eq]
    by_cases h : 0 ≤ Lib.idxOfS d.keys f.name
    · simp [mendG, h]
    · cases ho : f.opt <;> simp [mendG, h, ho]
theorem mendF_kids (d : D) : ∀ l : List F, ((mendF l d).map fun x => x.2.1) = rowV (mendG d) l
  | [] => rfl
  | f :: r => by
    rw [rowV_cons, mendF, List.map_append, mendF_kids d r, mendF1_eq]
    by_cases h : 0 ≤ Lib.idxOfS d.keys f.name
    · simp [mendG, h]
    · cases ho : f.opt <;> simp [mendG, h, ho]
theorem mend_rec {t : T} {d : D} (hk : t.kind = 1) (h0 : fitsV t d = 0) : (t.mend d).1 = .mk d.kind 0 ⟨#[]⟩ (rowK (mendG d) t.fields) (rowV (mendG d) t.fields) := by
  rw [mend_eq, if_pos h0, if_pos hk]; simp only [mendF_keys, mendF_kids]
theorem mend_many {t x : T} {d : D} (hk : t.kind = 2 ∨ t.kind = 3) (h0 : fitsV t d = 0) (hx : t.of = [x]) : t.mend d = (.mk d.kind 0 ⟨#[]⟩ d.keys (d.kids.map fun y => (x.mend y).1), (d.kids.map fun y => (x.mend y).2).sum) := by
  rw [mend_eq, if_pos h0, if_neg (by omega), if_pos hk, hx]; simp [mendO, List.map_map, Function.comp_def]
theorem mend_lone {t : T} {d : D} (hk : 4 ≤ t.kind) (h0 : fitsV t d = 0) : t.mend d = (d, 0) := by
  rw [mend_eq, if_pos h0, if_neg (by omega), if_neg (by omega)]
theorem mend_bad {t : T} {d : D} (h0 : fitsV t d ≠ 0) : t.mend d = (t.least, 1) := by rw [mend_eq, if_neg h0]
theorem kid_in {d : D} (hd : partB d = true) {i : Nat} (hi : i < d.kids.length) : partB d.kids[i] = true := by
  rw [partB_eq, Bool.and_eq_true] at hd; exact partsB_at hd.2 hi
theorem part_sound {d : D} (hd : partB d = true) : soundB d = true := by rw [partB_eq, Bool.and_eq_true] at hd; exact hd.1
theorem idx_kid {d : D} (hd : partB d = true) {k : ByteArray} (h : 0 ≤ Lib.idxOfS d.keys k) (dd : D) : ∃ (i : Nat) (hi : i < d.kids.length), (Lib.idxOfS d.keys k).toNat = i ∧ d.kids.getD (Lib.idxOfS d.keys k).toNat dd = d.kids[i] := by
  have h1 := idxOfS_lt _ _ h
  have h2 := (docOk_of (part_sound hd)).keys
  have h3 : (Lib.idxOfS d.keys k).toNat < d.kids.length := by omega
  exact ⟨_, h3, rfl, by rw [List.getD_eq_getElem?_getD, List.getElem?_eq_getElem h3]; rfl⟩
end Go.Proofs.YteecdmceleanjaaGreatDoor
namespace Go.Proofs.YteecdmceleanjaaGreatDoor
open Go.RowKit

theorem rowV_mem {g : F → Option D} {l : List F} {x : D} (h : x ∈ rowV g l) : ∃ f ∈ l, g f = some x := by
  obtain ⟨f, hf, e⟩ := List.mem_filterMap.1 h; exact ⟨f, hf, e⟩
end Go.Proofs.YteecdmceleanjaaGreatDoor
namespace Go.Proofs.YteecdmceleanjaaGreatDoor
open Go.RowKit

theorem narrowF_bad {l : List F} {f : F} (h : f ∈ l) (hf : narrowB f.type = false) : narrowF l = false := by
  rw [← Bool.not_eq_true]; intro e; rw [narrowF_mem e f h] at hf; cases hf
theorem narrowL_bad {l : List T} {t : T} (h : t ∈ l) (hf : narrowB t = false) : narrowL l = false := by
  rw [← Bool.not_eq_true]; intro e; rw [narrowL_mem e t h] at hf; cases hf
theorem narrowF_all : ∀ {l : List F}, (∀ (i : Nat) (h : i < l.length), narrowB (l[i]).type = true) → narrowF l = true
  | [], _ => rfl
  | f :: r, h => by
    rw [narrowF, narrowF1_eq, show narrowB f.type = true from h 0 (by simp), narrowF_all (l := r) fun i hi => h (i + 1) (by simpa using hi)]; rfl
theorem narrowL_all : ∀ {l : List T}, (∀ (i : Nat) (h : i < l.length), narrowB (l[i]) = true) → narrowL l = true
  | [], _ => rfl
  | f :: r, h => by
    rw [narrowL, show narrowB f = true from h 0 (by simp), narrowL_all (l := r) fun i hi => h (i + 1) (by simpa using hi)]; rfl
/-- The first test. -/
def wideB (t : T) : Bool := (decide (t.kind = 2) || decide (t.kind = 3)) && decide (1 < t.lo)
set_option maxHeartbeats 8000000 in
set_option maxRecDepth 100000 in
theorem narrow_any (m : Nat) : ∀ (t : T) (v : Value) (w : World) (B : Nat), t.depth ≤ m → t.Fit → B ≤ w.heap.size → TypeV w B t v →
    Calls Tryz.prog 21 #[v] w fun e w' => e = .returned (.bool (narrowB t)) ∧ Below w.heap.size w w' := by
  induction m with
  | zero => intro t _ _ _ h; have := T.depth_pos t; omega
  | succ m ih =>
    intro t v w B hm hf hB ht
    obtain ⟨v0, v1, v2, v3, v4, v5, rfl, hti⟩ := ht
    have HBX : Hid (Box6 (w.alloc (.cells #[v0, v1, v2, v3, v4, v5] 26)) w.heap.size v0 v1 v2 v3 v4 v5) := Lib.hid (Box6.new w _ _ _ _ _ _)
    have HB1 : Hid (Below w.heap.size w (w.alloc (.cells #[v0, v1, v2, v3, v4, v5] 26))) := Lib.hid ((Below.refl _ _).alloc (Nat.le_refl _) _)
    have hz1 : w.heap.size + 1 ≤ (w.alloc (.cells #[v0, v1, v2, v3, v4, v5] 26)).heap.size := by simp
    have hti2 := hti
    obtain ⟨A3, c3, A4, c4, A5, c5, rfl, rfl, rfl, rfl, rfl, rfl⟩ := hti2.forms
    have HT := Lib.hid hti; have HF := Lib.hid hf; have HM := Lib.hid hm; have HIH := Lib.hid ih
    have E : Hid (narrowB t = (!(wideB t) && (narrowF t.fields && narrowL t.of))) := Lib.hid (narrowB_eq t)
    have hfl10 : t.fields.length ≤ 10000 := hf.parts.2.1
    have hol10 : t.of.length ≤ 10000 := hf.parts.2.2.1
    clear hti hti2 hf hm ih
    go_enter Tryz.func21, Tryz.ntmps21
    go_upto_region 1 with fail
    generalize w.alloc (.cells #[.int .i64 t.kind, .int .i64 t.lo, .int .i64 t.hi, .slice A3 t.names.length c3, .slice A4 t.fields.length c4, .slice A5 t.of.length c5] 26) = w1 at *
    obtain ⟨x0, x1, x2, x3, x4, x5⟩ := HBX.out.cells
    go_cut [17] (fun s wx => s = .bool (wideB t) ∧ wx = w1)
    case first =>
      have EW : Hid (wideB t = ((decide (t.kind = 2) || decide (t.kind = 3)) && decide (1 < t.lo))) := Lib.hid rfl
      by_cases h2 : t.kind = 2
      · have g2 : (t.kind == 2) = true := by simp [h2]
        have e2 : decide (t.kind = 2) = true := by simpa using h2
        rw [e2] at EW
        clear h2 e2
        by_cases hl : 1 < t.lo
        · go_wp2_with fail
          go_meet
          case rel => exact ⟨by rw [EW.out]; simp [hl], rfl⟩
        · go_wp2_with fail
          go_meet
          case rel => exact ⟨by rw [EW.out]; simp [hl], rfl⟩
      · have g2 : (t.kind == 2) = false := by simp [h2]
        have e2 : decide (t.kind = 2) = false := by simpa using h2
        rw [e2] at EW
        clear h2 e2
        by_cases h3 : t.kind = 3
        · have g3 : (t.kind == 3) = true := by simp [h3]
          have e3 : decide (t.kind = 3) = true := by simpa using h3
          rw [e3] at EW
          clear h3 e3
          by_cases hl : 1 < t.lo
          · go_wp2_with fail
            go_meet
            case rel => exact ⟨by rw [EW.out]; simp [hl], rfl⟩
          · go_wp2_with fail
            go_meet
            case rel => exact ⟨by rw [EW.out]; simp [hl], rfl⟩
        · have g3 : (t.kind == 3) = false := by simp [h3]
          have e3 : decide (t.kind = 3) = false := by simpa using h3
          rw [e3] at EW
          clear h3 e3
          go_wp2_with fail
          go_meet
          case rel => exact ⟨by rw [EW.out]; simp, rfl⟩
    case rest =>
      obtain ⟨h17, hwc⟩ := hcut
      rw [h17, hwc]
      clear h17 hwc
      generalize wideB t = wb at *
      cases wb
      case true =>
        go_wp2_with fail
        go_ret
        exact ⟨ret_bool (by rw [E.out]; rfl), HB1.out⟩
      clear x0 x1 x2 x3 x4 x5
      have hBw := hB
      go_wp2_with fail
      go_loopw [3] (fun i wr => ∃ k : Nat, k ≤ t.fields.length ∧ i = .int .i64 k ∧ (∀ (j : Nat) (h : j < t.fields.length), j < k → narrowB (t.fields[j]).type = true) ∧ Below w1.heap.size w1 wr) (fun i _ => t.fields.length - (intOf i).toNat)
      case atStart => exact ⟨0, Nat.zero_le _, rfl, fun j _ hj => absurd hj (by omega), Below.refl _ _⟩
      case round =>
        obtain ⟨k, hk, rfl, hall, hb⟩ := hrel
        have HALL := Lib.hid hall; have HBL := Lib.hid hb
        have hzr := hb.size
        clear hall hb
        obtain ⟨x0, x1, x2, x3, x4, x5⟩ := (HBX.out.same (HBL.out.block _ (by omega))).cells
        by_cases hlt : k < t.fields.length
        · have htin := HT.out.keep (w' := wr) (Nat.le_refl B) fun q hq => (HBL.out.cell (p := q) (by omega)).trans (HB1.out.cell (p := q) (by omega))
          obtain ⟨A', c', e5, _, hfv⟩ := htin.fields_
          injection e5 with e51 e52 e53
          subst e51; subst e53
          obtain ⟨bo, off, rfl, hboB, hfw⟩ := hfv (by omega)
          clear hfv e52
          obtain ⟨g0, g1', z0, z1, z2, z3, z4, z5, g2', g3', g4, g5, g6, g7, hzi⟩ := hfw.at_ k hlt
          simp only [Nat.zero_add] at g0 g1' g2' g3' g4 g5 g6 g7
          have HZ := Lib.hid hzi
          obtain ⟨X3, y3, X4, y4, X5, y5, rfl, rfl, rfl, rfl, rfl, rfl⟩ := hzi.forms
          have hfm : t.fields[k] ∈ t.fields := List.getElem_mem hlt
          have hdep : (t.fields[k]).type.depth ≤ m := by have := field_depth_mem hfm; have := HM.out; omega
          have HFX : Hid (t.fields[k]).type.Fit := Lib.hid ((HF.out.parts.2.2.2.2.1.at_ hlt).type)
          have HFM := Lib.hid hfm
          generalize hfe : t.fields[k] = f at *
          have hik0 : (0 : Int) ≤ (k : Int) := by omega
          have hik1 : (k : Int) < (t.fields.length : Int) := by omega
          have HFE := Lib.hid hfe
          clear hzi htin hfw hfe hfm
          go_wp2_with fail
          refine (HIH.out f.type _ wr B hdep HFX.out (by omega) ⟨_, _, _, _, _, _, rfl, HZ.out⟩).mono ?_
          rintro e w3 ⟨rfl, hb3⟩
          have HB3 : Hid (Below w1.heap.size w1 w3) := Lib.hid (HBL.out.trans (hb3.mono hzr))
          clear hb3
          cases hnb : narrowB f.type
          · have EF : Hid (narrowF t.fields = false) := Lib.hid (narrowF_bad HFM.out hnb)
            clear hnb
            go_wp2_with fail
            go_ret
            exact ⟨ret_bool (by rw [E.out, EF.out]; rfl), HB1.out.trans (HB3.out.mono (by omega))⟩
          · have HNB := Lib.hid hnb
            clear hnb
            go_wp2_with fail
            go_roundw
            case rel => exact ⟨k + 1, by omega, by go_num, fun j h hj => by
              rcases Nat.lt_or_ge j k with h1 | h1
              · exact HALL.out j h h1
              · obtain rfl : j = k := by omega
                rw [HFE.out]; exact HNB.out, HB3.out⟩
            case measure => simp [intOf]; omega
        · have EF : Hid (narrowF t.fields = true) := Lib.hid (narrowF_all fun i hi => HALL.out i hi (by omega))
          clear HALL
          generalize hwr : wr = wq at *
          clear hwr
          have hik1 : ¬ ((k : Int) < (t.fields.length : Int)) := by omega
          go_wp2_with fail
          go_loopw [4] (fun i wr => ∃ k : Nat, k ≤ t.of.length ∧ i = .int .i64 k ∧ (∀ (j : Nat) (h : j < t.of.length), j < k → narrowB (t.of[j]) = true) ∧ Below wq.heap.size wq wr) (fun i _ => t.of.length - (intOf i).toNat)
          case atStart => exact ⟨0, Nat.zero_le _, rfl, fun j _ hj => absurd hj (by omega), Below.refl _ _⟩
          case round =>
            clear x0 x1 x2 x3 x4 x5
            obtain ⟨k, hk, rfl, hall, hb⟩ := hrel
            have HALL := Lib.hid hall; have HBM : Hid (Below w1.heap.size w1 wr) := Lib.hid (HBL.out.trans (hb.mono hzr))
            have hzr2 := hb.size
            have HBN := Lib.hid hb
            clear hall hb
            obtain ⟨x0, x1, x2, x3, x4, x5⟩ := (HBX.out.same (HBM.out.block _ (by omega))).cells
            by_cases hlt : k < t.of.length
            · have htin := HT.out.keep (w' := wr) (Nat.le_refl B) fun q hq => (HBM.out.cell (p := q) (by omega)).trans (HB1.out.cell (p := q) (by omega))
              obtain ⟨A', c', e5, _, hfv⟩ := htin.of_
              injection e5 with e51 e52 e53
              subst e51; subst e53
              obtain ⟨bo, off, rfl, hboB, hfw⟩ := hfv (by omega)
              clear hfv e52
              obtain ⟨z0, z1, z2, z3, z4, z5, g0, g1', g2', g3', g4, g5, hzi⟩ := hfw.at_ k hlt
              simp only [Nat.zero_add] at g0 g1' g2' g3' g4 g5
              have HZ := Lib.hid hzi
              obtain ⟨X3, y3, X4, y4, X5, y5, rfl, rfl, rfl, rfl, rfl, rfl⟩ := hzi.forms
              have hfm : t.of[k] ∈ t.of := List.getElem_mem hlt
              have hdep : (t.of[k]).depth ≤ m := by have := of_depth_mem hfm; have := HM.out; omega
              have HFX : Hid (t.of[k]).Fit := Lib.hid (HF.out.parts.2.2.2.2.2.at_ hlt)
              have HFM := Lib.hid hfm
              generalize hfe : t.of[k] = f at *
              have hik2 : (k : Int) < (t.of.length : Int) := by omega
              have HFE := Lib.hid hfe
              clear hzi htin hfw hfe hfm
              go_wp2_with fail
              refine (HIH.out f _ wr B hdep HFX.out (by omega) ⟨_, _, _, _, _, _, rfl, HZ.out⟩).mono ?_
              rintro e w3 ⟨rfl, hb3⟩
              have HB3 : Hid (Below w1.heap.size w1 w3) := Lib.hid (HBM.out.trans (hb3.mono (by omega)))
              have HB4 : Hid (Below wq.heap.size wq w3) := Lib.hid (HBN.out.trans (hb3.mono hzr2))
              clear hb3
              cases hnb : narrowB f
              · have EG : Hid (narrowL t.of = false) := Lib.hid (narrowL_bad HFM.out hnb)
                clear hnb
                go_wp2_with fail
                go_ret
                exact ⟨ret_bool (by rw [E.out, EF.out, EG.out]; rfl), HB1.out.trans (HB3.out.mono (by omega))⟩
              · have HNB := Lib.hid hnb
                clear hnb
                go_wp2_with fail
                go_roundw
                case rel => exact ⟨k + 1, by omega, by go_num, fun j h hj => by
                  rcases Nat.lt_or_ge j k with h1 | h1
                  · exact HALL.out j h h1
                  · obtain rfl : j = k := by omega
                    rw [HFE.out]; exact HNB.out, HB4.out⟩
                case measure => simp [intOf]; omega
            · have EG : Hid (narrowL t.of = true) := Lib.hid (narrowL_all fun i hi => HALL.out i hi (by omega))
              have hik2 : ¬ ((k : Int) < (t.of.length : Int)) := by omega
              go_wp2_with fail
              go_ret
              exact ⟨ret_bool (by rw [E.out, EF.out, EG.out]; rfl), HB1.out.trans (HBM.out.mono (by omega))⟩
end Go.Proofs.YteecdmceleanjaaGreatDoor
namespace Go.Proofs.YteecdmceleanjaaGreatDoor
open Go.RowKit

theorem rowK_le (g : F → Option D) (l : List F) : (rowK g l).length ≤ l.length := by
  unfold rowK; rw [List.length_map]; exact List.length_filter_le _ _
theorem mend_fit (m : Nat) : ∀ (t : T) (d : D), t.depth ≤ m → allT t = true → t.Fit → d.Fit → partB d = true → (t.mend d).1.Fit := by
  induction m with
  | zero => intro t _ h; have := T.depth_pos t; omega
  | succ m ih =>
    intro t d hm hall hf hfd hd
    by_cases h0 : fitsV t d = 0
    case neg => rw [mend_bad h0]; exact least_fit (m + 1) t hm hall hf
    have hs := allT_sound hall
    have hok := leastOk_of hs
    have hk := hok.kind
    obtain ⟨p1, p2, p3, p4, p5, p6⟩ := hf.parts
    by_cases h1 : t.kind = 1
    · rw [mend_rec h1 h0]
      simp only [D.Fit]
      have hkl := rowK_le (mendG d) t.fields
      have hvl := rowK_len (mendG d) t.fields
      refine ⟨by simp [ByteArray.size], by omega, by omega, fun k hkk => ?_, fits_of fun x hx => ?_⟩
      · obtain ⟨f, hff, rfl, _⟩ := rowK_mem hkk
        obtain ⟨i, hi, rfl⟩ := List.mem_iff_getElem.1 hff
        exact (p5.at_ hi).name
      · obtain ⟨f, hff, e⟩ := rowV_mem hx
        have hff2 := hff
        obtain ⟨i, hi, rfl⟩ := List.mem_iff_getElem.1 hff
        have hft := (p5.at_ hi).type
        unfold mendG at e
        by_cases hix : 0 ≤ Lib.idxOfS d.keys (t.fields[i]).name
        · rw [if_pos hix] at e; injection e with e; subst e
          obtain ⟨j, hj, _, e⟩ := idx_kid hd hix (.mk 0 0 ⟨#[]⟩ [] [])
          rw [e]
          exact ih _ _ (by have := field_depth_mem hff2; omega) (allT_field hall hff2) hft (hfd.kid hj) (kid_in hd hj)
        · rw [if_neg hix] at e
          by_cases ho : (t.fields[i]).opt = true
          · rw [if_pos ho] at e; cases e
          · rw [if_neg ho] at e; injection e with e; subst e
            exact least_fit m _ (by have := field_depth_mem hff2; omega) (allT_field hall hff2) hft
    by_cases h23 : t.kind = 2 ∨ t.kind = 3
    · obtain ⟨x, hx⟩ := hok.of1 h23
      have hxm : x ∈ t.of := by rw [hx]; simp
      have hxf : x.Fit := by have h := p6; rw [hx] at h; exact h.at_ (i := 0) (by simp)
      rw [mend_many h23 h0 hx]
      simp only [D.Fit]
      refine ⟨by simp [ByteArray.size], hfd.keys, by simpa using hfd.kids, ?_, fits_of fun y hy => ?_⟩
      · obtain ⟨_, _, _, _, _⟩ := d; simp only [D.Fit] at hfd; exact hfd.2.2.2.1
      · obtain ⟨z, hz, rfl⟩ := List.mem_map.1 hy
        obtain ⟨j, hj, rfl⟩ := List.mem_iff_getElem.1 hz
        exact ih _ _ (by have := of_depth_mem hxm; omega) (allT_of hall hxm) hxf (hfd.kid hj) (kid_in hd hj)
    · rw [mend_lone (by omega) h0]; exact hfd
/-- What the law asks of a right narrow type, a right document, and what is mended. -/
structure MendLaw (t : T) (d m : D) (n : Nat) : Prop where
  is : isV t m = true
  isd : isV t d = decide (n = 0)
  same : n = 0 → m = d
  again : mendV t m = (m, 0)
theorem mendV_fit {t : T} {d : D} (hf : t.Fit) (hfd : d.Fit) : (mendV t d).1.Fit := by
  unfold mendV
  by_cases h : bothB t d = true
  · rw [if_pos h]
    obtain ⟨_, _, h3, _, _, h6⟩ := bothB_parts h
    exact mend_fit t.depth t d (Nat.le_refl _) h3 hf hfd h6
  · rw [if_neg h]; exact hfd
theorem dsame_refl (a : D) : D.same a a = true := by simp [D.same, D.cmp_ordered.refl a trivial]
end Go.Proofs.YteecdmceleanjaaGreatDoor
namespace Go.Proofs.YteecdmceleanjaaGreatDoor
open Go.RowKit Go.Deep

theorem cType : Tryz.prog.cellsOf 26 = 6 := by kernel_rfl
theorem cField : Tryz.prog.cellsOf 48 = 8 := by kernel_rfl
theorem t_cInt : Tryz.prog.cellsOf 3 = 1 := by kernel_rfl
theorem cBool : Tryz.prog.cellsOf 4 = 1 := by kernel_rfl
theorem t_cStr : Tryz.prog.cellsOf 9 = 1 := by kernel_rfl
theorem t_cStrs : Tryz.prog.cellsOf 22 = 1 := by kernel_rfl
theorem cTypes : Tryz.prog.cellsOf 24 = 1 := by kernel_rfl
theorem cFields : Tryz.prog.cellsOf 23 = 1 := by kernel_rfl

theorem t_cell_spot {w : World} {a : Addr} {v : Value} (h : w.cell? a = some v) : a = ⟨a.block, a.off, none⟩ ∧ a.block < w.heap.size := by
  obtain ⟨b, o, s⟩ := a
  unfold World.cell? at h
  split at h
  · rename_i hb
    cases s with
    | none => exact ⟨rfl, (Array.getElem?_eq_some_iff.1 hb).1⟩
    | some _ => simp at h
  · cases h
theorem t_add_none (b o i : Nat) : (Addr.mk b o none).add i = ⟨b, o + i, none⟩ := by
  unfold Addr.add
  split
  · rename_i h; subst h; rfl
  · rfl
theorem t_pick_list {α : Type} {p : Nat → α → Prop} : ∀ (n : Nat), (∀ i, i < n → ∃ x, p i x) → ∃ l : List α, l.length = n ∧ ∀ (i : Nat) (h : i < l.length), p i l[i]
  | 0, _ => ⟨[], rfl, fun i h => by simp at h⟩
  | n + 1, h => by
    obtain ⟨l, hl, hp⟩ := t_pick_list n fun i hi => h i (by omega)
    obtain ⟨x, hx⟩ := h n (by omega)
    refine ⟨l ++ [x], by simp [hl], fun i hi => ?_⟩
    rcases Nat.lt_or_ge i l.length with h' | h'
    · rw [List.getElem_append_left h']; exact hp i h'
    · have e : i = l.length := by simp at hi; omega
      subst e
      simpa [hl] using hx
theorem TypesIn.of_at {w : World} {B b off : Nat} : ∀ {l : List T} {i : Nat}, (∀ (k : Nat) (h : k < l.length),
    ∃ v0 v1 v2 v3 v4 v5 : Value, w.cell? ⟨b, off + (i + k) * 6, none⟩ = some v0 ∧ w.cell? ⟨b, off + (i + k) * 6 + 1, none⟩ = some v1 ∧ w.cell? ⟨b, off + (i + k) * 6 + 2, none⟩ = some v2 ∧ w.cell? ⟨b, off + (i + k) * 6 + 3, none⟩ = some v3 ∧ w.cell? ⟨b, off + (i + k) * 6 + 4, none⟩ = some v4 ∧ w.cell? ⟨b, off + (i + k) * 6 + 5, none⟩ = some v5 ∧ TypeIn w B (l[k]) v0 v1 v2 v3 v4 v5) → TypesIn w B b off i l
  | [], _, _ => by simp [TypesIn]
  | d :: r, i, h => by
    simp only [TypesIn]
    refine ⟨h 0 (by simp), TypesIn.of_at fun k hk => ?_⟩
    have := h (k + 1) (by simpa using hk)
    rw [show i + (k + 1) = i + 1 + k from by omega] at this
    simpa using this
theorem FieldsIn.of_at {w : World} {B b off : Nat} : ∀ {l : List F} {i : Nat}, (∀ (k : Nat) (h : k < l.length), FieldIn w B b (off + (i + k) * 8) (l[k])) → FieldsIn w B b off i l
  | [], _, _ => by simp [FieldsIn]
  | d :: r, i, h => by
    simp only [FieldsIn]
    refine ⟨h 0 (by simp), FieldsIn.of_at fun k hk => ?_⟩
    have := h (k + 1) (by simpa using hk)
    rw [show i + (k + 1) = i + 1 + k from by omega] at this
    simpa using this

section
variable {H : Type} {enc : TypeId × Value → H} {W : World} {base : Nat} {sp : Nat → Bool} {held : Bool}
theorem t_mapM_cells {a : Addr} {cs : List Value} {n : Nat} (h : W.cells? base a n = some cs) : cs.length = n ∧ ∀ i, i < n → W.cell? (a.add i) = cs[i]? := by
  unfold World.cells? at h
  split at h
  · have hl := mapM_some_length h
    refine ⟨by simpa using hl, fun i hi => ?_⟩
    have := mapM_some_get h i i (by simp [hi])
    exact this
  · cases h
theorem t_open_strs {fuel : Nat} {cs : List Value} {x : DataW H × List MemPlace} (h : DataW.trod enc Tryz.prog W base sp held fuel 22 cs = some x) :
    ∃ (v : Value) (xs : List ByteArray), cs = [v] ∧ Strs W W.heap.size v xs ∧ xs.length ≤ maxLen ∧ ∀ s ∈ xs, s.size ≤ maxLen := by
  rcases open_slice1 Tryz.underlying22 t_cStr h with ⟨rfl, _⟩ | ⟨a, len, cap, m, n, V, D, Pl, rfl, _, hl, hc, hm, _, hx⟩
  · exact ⟨_, [], rfl, ⟨none, 0, rfl, by simp, fun h => by simp at h⟩, by simp, by simp⟩
  · have hlm : len ≤ m := by rw [hm]; split <;> omega
    obtain ⟨xs, hxl, hxp⟩ := t_pick_list (p := fun i (s : ByteArray) => V i = .string s ∧ s.size ≤ maxLen) len fun i hi => by
      obtain ⟨s, e, _, hs⟩ := DataW.trod_string Tryz.underlying9 (hx i (by omega)).2
      exact ⟨s, by simpa using e, hs⟩
    refine ⟨_, xs, rfl, ⟨some a, cap, by rw [hxl], by omega, fun h0 => ?_⟩, by omega, fun s hs => ?_⟩
    · obtain ⟨h1, h2⟩ := t_cell_spot (hx 0 (by omega)).1
      rw [show a.add 0 = a from by simp [Addr.add]] at h1 h2
      refine ⟨a.block, a.off, by rw [← h1], h2, fun i hi => ?_⟩
      have h3 := (hx i (by omega)).1
      rw [h1, t_add_none] at h3
      rw [h3, (hxp i hi).1]
    · obtain ⟨i, hi, rfl⟩ := List.mem_iff_getElem.1 hs
      exact (hxp i hi).2
/-- What is read as a type. -/
def OkType (W : World) (cs : List Value) : Prop := ∃ (d : T) (v0 v1 v2 v3 v4 v5 : Value), cs = [v0, v1, v2, v3, v4, v5] ∧ TypeIn W W.heap.size d v0 v1 v2 v3 v4 v5
def OkField (W : World) (cs : List Value) : Prop := ∃ (d : T) (s : ByteArray) (o : Bool) (v0 v1 v2 v3 v4 v5 : Value), cs = [.string s, .bool o, v0, v1, v2, v3, v4, v5] ∧ TypeIn W W.heap.size d v0 v1 v2 v3 v4 v5
set_option maxRecDepth 100000 in
theorem open_field_step {fuel : Nat} (ih : ∀ n, n < fuel → ∀ (cs : List Value) (x : DataW H × List MemPlace), DataW.trod enc Tryz.prog W base sp held n 26 cs = some x → OkType W cs) {cs : List Value} {x : DataW H × List MemPlace} (h : DataW.trod enc Tryz.prog W base sp held fuel 48 cs = some x) : OkField W cs := by
  obtain ⟨xs, n, hn, _, hcl, hxl, hfd⟩ := DataW.trod_struct Tryz.underlying48 h
  rw [cField] at hcl
  match cs, hcl with
  | [u0, u1, v0, v1, v2, v3, v4, v5], _ =>
    match xs, hxl with
    | [y0, y1, y2], _ =>
      have h0 : DataW.trod enc Tryz.prog W base sp held n 9 [u0] = some y0 := by simpa [t_cStr] using hfd 0 _ rfl
      have h1 : DataW.trod enc Tryz.prog W base sp held n 4 [u1] = some y1 := by simpa [cBool] using hfd 1 _ rfl
      have h2 : DataW.trod enc Tryz.prog W base sp held n 26 [v0, v1, v2, v3, v4, v5] = some y2 := by simpa [cType] using hfd 2 _ rfl
      obtain ⟨s, e0, _, _⟩ := DataW.trod_string Tryz.underlying9 h0
      obtain ⟨o, e1, _⟩ := DataW.trod_bool Tryz.underlying4 h1
      simp only [List.cons.injEq, and_true] at e0 e1
      subst e0; subst e1
      obtain ⟨d, w0, w1, w2, w3, w4, w5, e, hd⟩ := ih n (by omega) _ _ h2
      simp only [List.cons.injEq, and_true] at e
      obtain ⟨rfl, rfl, rfl, rfl, rfl, rfl⟩ := e
      exact ⟨d, s, o, _, _, _, _, _, _, rfl, hd⟩
set_option maxRecDepth 100000 in
theorem open_types (N : Nat) : ∀ (fuel : Nat), fuel ≤ N → ∀ (cs : List Value) (x : DataW H × List MemPlace), DataW.trod enc Tryz.prog W base sp held fuel 26 cs = some x → OkType W cs := by
  induction N with
  | zero =>
    intro fuel hf cs x h
    obtain rfl : fuel = 0 := by omega
    simp [DataW.trod] at h
  | succ N ih =>
    intro fuel hf cs x h
    obtain ⟨xs, n, hn, _, hcl, hxl, hfd⟩ := DataW.trod_struct Tryz.underlying26 h
    rw [cType] at hcl
    match cs, hcl with
    | [v0, v1, v2, v3, v4, v5], _ =>
      match xs, hxl with
      | [y0, y1, y2, y3, y4, y5], _ =>
        have h0 : DataW.trod enc Tryz.prog W base sp held n 3 [v0] = some y0 := by simpa [t_cInt] using hfd 0 _ rfl
        have h1 : DataW.trod enc Tryz.prog W base sp held n 3 [v1] = some y1 := by simpa [t_cInt] using hfd 1 _ rfl
        have h2 : DataW.trod enc Tryz.prog W base sp held n 3 [v2] = some y2 := by simpa [t_cInt] using hfd 2 _ rfl
        have h3 : DataW.trod enc Tryz.prog W base sp held n 22 [v3] = some y3 := by simpa [t_cStrs] using hfd 3 _ rfl
        have h4 : DataW.trod enc Tryz.prog W base sp held n 23 [v4] = some y4 := by simpa [cFields] using hfd 4 _ rfl
        have h5 : DataW.trod enc Tryz.prog W base sp held n 24 [v5] = some y5 := by simpa [cTypes] using hfd 5 _ rfl
        obtain ⟨k, e0, _, _⟩ := DataW.trod_int Tryz.underlying3 h0
        obtain ⟨m, e1, _, _⟩ := DataW.trod_int Tryz.underlying3 h1
        obtain ⟨z, e2, _, _⟩ := DataW.trod_int Tryz.underlying3 h2
        obtain ⟨u3, ks, e3, hks, _, _⟩ := t_open_strs h3
        simp only [List.cons.injEq, and_true] at e0 e1 e2 e3
        subst e0; subst e1; subst e2; subst e3
        have hF : ∃ l : List F, FieldsV W W.heap.size v4 l := by
          rcases DataW.trod_slice Tryz.underlying23 h4 with ⟨e4, _⟩ | ⟨a, len, cap, elems, rest, n', hn', e4, _, _, hl, _, hlen, hel, _, _⟩
          · simp only [List.cons.injEq, and_true] at e4
            exact ⟨[], none, 0, by rw [e4]; rfl, by simp, fun h => absurd h (by simp)⟩
          · simp only [List.cons.injEq, and_true] at e4
            rw [cField] at hel
            have hget : ∀ i, i < len → ∃ (f : F), W.cell? ((a.add (i * 8)).add 0) = some (.string f.name) ∧ W.cell? ((a.add (i * 8)).add 1) = some (.bool f.opt) ∧ ∃ v0 v1 v2 v3 v4 v5 : Value, W.cell? ((a.add (i * 8)).add 2) = some v0 ∧ W.cell? ((a.add (i * 8)).add 3) = some v1 ∧ W.cell? ((a.add (i * 8)).add 4) = some v2 ∧ W.cell? ((a.add (i * 8)).add 5) = some v3 ∧ W.cell? ((a.add (i * 8)).add 6) = some v4 ∧ W.cell? ((a.add (i * 8)).add 7) = some v5 ∧ TypeIn W W.heap.size f.type v0 v1 v2 v3 v4 v5 := by
              intro i hi
              have h' := hel i hi
              rw [List.getElem?_eq_getElem (by omega)] at h'
              obtain ⟨cs', hc1, hc2⟩ := Option.bind_eq_some_iff.1 h'
              obtain ⟨d, s, o, w0, w1, w2, w3, w4, w5, rfl, hd⟩ := open_field_step (fun q hq => ih q (by omega)) hc2
              have hc := (t_mapM_cells hc1).2
              exact ⟨.mk s o d, hc 0 (by omega), hc 1 (by omega), w0, w1, w2, w3, w4, w5, hc 2 (by omega), hc 3 (by omega), hc 4 (by omega), hc 5 (by omega), hc 6 (by omega), hc 7 (by omega), hd⟩
            obtain ⟨l, hll, hlp⟩ := t_pick_list len hget
            refine ⟨l, some a, cap, by rw [e4, hll], by omega, fun h0 => ?_⟩
            obtain ⟨hz, _⟩ := hlp 0 h0
            obtain ⟨q1, q2⟩ := t_cell_spot hz
            rw [show (a.add (0 * 8)).add 0 = a from by simp [Addr.add]] at q1 q2
            refine ⟨a.block, a.off, by rw [← q1], q2, FieldsIn.of_at fun i hi => ?_⟩
            obtain ⟨c0, c1, w0, w1, w2, w3, w4, w5, c2, c3, c4, c5, c6, c7, hd⟩ := hlp i hi
            rw [q1, t_add_none, t_add_none] at c0 c1 c2 c3 c4 c5 c6 c7
            rw [Nat.zero_add]
            generalize hf : l[i] = f at c0 c1 hd ⊢
            obtain ⟨s, o, d⟩ := f
            simp only [FieldIn]
            exact ⟨c0, c1, w0, w1, w2, w3, w4, w5, c2, c3, c4, c5, c6, c7, hd⟩
        have hO : ∃ l : List T, TypesV W W.heap.size v5 l := by
          rcases DataW.trod_slice Tryz.underlying24 h5 with ⟨e4, _⟩ | ⟨a, len, cap, elems, rest, n', hn', e4, _, _, hl, _, hlen, hel, _, _⟩
          · simp only [List.cons.injEq, and_true] at e4
            exact ⟨[], none, 0, by rw [e4]; rfl, by simp, fun h => absurd h (by simp)⟩
          · simp only [List.cons.injEq, and_true] at e4
            rw [cType] at hel
            have hget : ∀ i, i < len → ∃ (d : T), ∃ v0 v1 v2 v3 v4 v5 : Value, W.cell? ((a.add (i * 6)).add 0) = some v0 ∧ W.cell? ((a.add (i * 6)).add 1) = some v1 ∧ W.cell? ((a.add (i * 6)).add 2) = some v2 ∧ W.cell? ((a.add (i * 6)).add 3) = some v3 ∧ W.cell? ((a.add (i * 6)).add 4) = some v4 ∧ W.cell? ((a.add (i * 6)).add 5) = some v5 ∧ TypeIn W W.heap.size d v0 v1 v2 v3 v4 v5 := by
              intro i hi
              have h' := hel i hi
              rw [List.getElem?_eq_getElem (by omega)] at h'
              obtain ⟨cs', hc1, hc2⟩ := Option.bind_eq_some_iff.1 h'
              obtain ⟨d, w0, w1, w2, w3, w4, w5, rfl, hd⟩ := ih n' (by omega) cs' _ hc2
              have hc := (t_mapM_cells hc1).2
              exact ⟨d, w0, w1, w2, w3, w4, w5, hc 0 (by omega), hc 1 (by omega), hc 2 (by omega), hc 3 (by omega), hc 4 (by omega), hc 5 (by omega), hd⟩
            obtain ⟨l, hll, hlp⟩ := t_pick_list len hget
            refine ⟨l, some a, cap, by rw [e4, hll], by omega, fun h0 => ?_⟩
            obtain ⟨_, _, _, _, _, _, hz, _⟩ := hlp 0 h0
            obtain ⟨q1, q2⟩ := t_cell_spot hz
            rw [show (a.add (0 * 6)).add 0 = a from by simp [Addr.add]] at q1 q2
            refine ⟨a.block, a.off, by rw [← q1], q2, TypesIn.of_at fun i hi => ?_⟩
            obtain ⟨w0, w1, w2, w3, w4, w5, c0, c1, c2, c3, c4, c5, hd⟩ := hlp i hi
            rw [q1, t_add_none, t_add_none] at c0 c1 c2 c3 c4 c5
            rw [Nat.zero_add]
            exact ⟨w0, w1, w2, w3, w4, w5, c0, c1, c2, c3, c4, c5, hd⟩
        obtain ⟨lf, hlf⟩ := hF
        obtain ⟨lo, hlo⟩ := hO
        exact ⟨.mk k m z ks lf lo, _, _, _, _, _, _, rfl, TypeIn.mk_ (d := .mk k m z ks lf lo) hks hlf hlo⟩
theorem open_type {v : Value} {d : DataW H} {p : List MemPlace} (h : DataW.Trod enc Tryz.prog W base sp held 26 v d p) (hv : ∃ cs, v = .agg cs) :
    ∃ (t : T), TypeV W W.heap.size t v := by
  obtain ⟨fuel, hx⟩ := h
  obtain ⟨cs, rfl⟩ := hv
  obtain ⟨d, v0, v1, v2, v3, v4, v5, e, hd⟩ := open_types fuel fuel (Nat.le_refl _) _ _ hx
  refine ⟨d, v0, v1, v2, v3, v4, v5, ?_, hd⟩
  have : cs.toList = [v0, v1, v2, v3, v4, v5] := e
  obtain ⟨l⟩ := cs
  simp only at this
  rw [this]
end
end Go.Proofs.YteecdmceleanjaaGreatDoor

namespace Go.Proofs.YteecdmceleanjaaGreatDoor
open Go.RowKit Go.Deep

theorem cDoc : Tryz.prog.cellsOf 29 = 5 := by kernel_rfl
theorem cInt : Tryz.prog.cellsOf 3 = 1 := by kernel_rfl
theorem cStr : Tryz.prog.cellsOf 9 = 1 := by kernel_rfl
theorem cStrs : Tryz.prog.cellsOf 22 = 1 := by kernel_rfl
theorem cDocs : Tryz.prog.cellsOf 27 = 1 := by kernel_rfl

theorem cell_spot {w : World} {a : Addr} {v : Value} (h : w.cell? a = some v) : a = ⟨a.block, a.off, none⟩ ∧ a.block < w.heap.size := by
  obtain ⟨b, o, s⟩ := a
  unfold World.cell? at h
  split at h
  · rename_i hb
    cases s with
    | none => exact ⟨rfl, (Array.getElem?_eq_some_iff.1 hb).1⟩
    | some _ => simp at h
  · cases h
theorem add_none (b o i : Nat) : (Addr.mk b o none).add i = ⟨b, o + i, none⟩ := by
  unfold Addr.add
  split
  · rename_i h; subst h; rfl
  · rfl
theorem pick_list {α : Type} {p : Nat → α → Prop} : ∀ (n : Nat), (∀ i, i < n → ∃ x, p i x) → ∃ l : List α, l.length = n ∧ ∀ (i : Nat) (h : i < l.length), p i l[i]
  | 0, _ => ⟨[], rfl, fun i h => by simp at h⟩
  | n + 1, h => by
    obtain ⟨l, hl, hp⟩ := pick_list n fun i hi => h i (by omega)
    obtain ⟨x, hx⟩ := h n (by omega)
    refine ⟨l ++ [x], by simp [hl], fun i hi => ?_⟩
    rcases Nat.lt_or_ge i l.length with h' | h'
    · rw [List.getElem_append_left h']; exact hp i h'
    · have e : i = l.length := by simp at hi; omega
      subst e
      simpa [hl] using hx
theorem KidsIn.of_at {w : World} {B b off : Nat} : ∀ {l : List D} {i : Nat}, (∀ (k : Nat) (h : k < l.length),
    ∃ v0 v1 v2 v3 v4 : Value, w.cell? ⟨b, off + (i + k) * 5, none⟩ = some v0 ∧ w.cell? ⟨b, off + (i + k) * 5 + 1, none⟩ = some v1 ∧ w.cell? ⟨b, off + (i + k) * 5 + 2, none⟩ = some v2 ∧ w.cell? ⟨b, off + (i + k) * 5 + 3, none⟩ = some v3 ∧ w.cell? ⟨b, off + (i + k) * 5 + 4, none⟩ = some v4 ∧ DocIn w B (l[k]) v0 v1 v2 v3 v4) → KidsIn w B b off i l
  | [], _, _ => by simp [KidsIn]
  | d :: r, i, h => by
    simp only [KidsIn]
    refine ⟨h 0 (by simp), KidsIn.of_at fun k hk => ?_⟩
    have := h (k + 1) (by simpa using hk)
    rw [show i + (k + 1) = i + 1 + k from by omega] at this
    simpa using this

section
variable {H : Type} {enc : TypeId × Value → H} {W : World} {base : Nat} {sp : Nat → Bool} {held : Bool}
theorem mapM_cells {a : Addr} {cs : List Value} {n : Nat} (h : W.cells? base a n = some cs) : cs.length = n ∧ ∀ i, i < n → W.cell? (a.add i) = cs[i]? := by
  unfold World.cells? at h
  split at h
  · have hl := mapM_some_length h
    refine ⟨by simpa using hl, fun i hi => ?_⟩
    have := mapM_some_get h i i (by simp [hi])
    exact this
  · cases h
theorem open_strs {fuel : Nat} {cs : List Value} {x : DataW H × List MemPlace} (h : DataW.trod enc Tryz.prog W base sp held fuel 22 cs = some x) :
    ∃ (v : Value) (xs : List ByteArray), cs = [v] ∧ Strs W W.heap.size v xs ∧ xs.length ≤ maxLen ∧ ∀ s ∈ xs, s.size ≤ maxLen := by
  rcases open_slice1 Tryz.underlying22 cStr h with ⟨rfl, _⟩ | ⟨a, len, cap, m, n, V, D, Pl, rfl, _, hl, hc, hm, _, hx⟩
  · exact ⟨_, [], rfl, ⟨none, 0, rfl, by simp, fun h => by simp at h⟩, by simp, by simp⟩
  · have hlm : len ≤ m := by rw [hm]; split <;> omega
    obtain ⟨xs, hxl, hxp⟩ := pick_list (p := fun i (s : ByteArray) => V i = .string s ∧ s.size ≤ maxLen) len fun i hi => by
      obtain ⟨s, e, _, hs⟩ := DataW.trod_string Tryz.underlying9 (hx i (by omega)).2
      exact ⟨s, by simpa using e, hs⟩
    refine ⟨_, xs, rfl, ⟨some a, cap, by rw [hxl], by omega, fun h0 => ?_⟩, by omega, fun s hs => ?_⟩
    · obtain ⟨h1, h2⟩ := cell_spot (hx 0 (by omega)).1
      rw [show a.add 0 = a from by simp [Addr.add]] at h1 h2
      refine ⟨a.block, a.off, by rw [← h1], h2, fun i hi => ?_⟩
      have h3 := (hx i (by omega)).1
      rw [h1, add_none] at h3
      rw [h3, (hxp i hi).1]
    · obtain ⟨i, hi, rfl⟩ := List.mem_iff_getElem.1 hs
      exact (hxp i hi).2
set_option maxRecDepth 100000 in
theorem open_docs (N : Nat) : ∀ (fuel : Nat), fuel ≤ N → ∀ (cs : List Value) (x : DataW H × List MemPlace), DataW.trod enc Tryz.prog W base sp held fuel 29 cs = some x →
    ∃ (d : D) (v0 v1 v2 v3 v4 : Value), cs = [v0, v1, v2, v3, v4] ∧ DocIn W W.heap.size d v0 v1 v2 v3 v4 := by
  induction N with
  | zero =>
    intro fuel hf cs x h
    obtain rfl : fuel = 0 := by omega
    simp [DataW.trod] at h
  | succ N ih =>
    intro fuel hf cs x h
    obtain ⟨xs, n, hn, _, hcl, hxl, hfd⟩ := DataW.trod_struct Tryz.underlying29 h
    rw [cDoc] at hcl
    match cs, hcl with
    | [v0, v1, v2, v3, v4], _ =>
      match xs, hxl with
      | [y0, y1, y2, y3, y4], _ =>
        have h0 : DataW.trod enc Tryz.prog W base sp held n 3 [v0] = some y0 := by simpa [cInt] using hfd 0 _ rfl
        have h1 : DataW.trod enc Tryz.prog W base sp held n 3 [v1] = some y1 := by simpa [cInt] using hfd 1 _ rfl
        have h2 : DataW.trod enc Tryz.prog W base sp held n 9 [v2] = some y2 := by simpa [cStr] using hfd 2 _ rfl
        have h3 : DataW.trod enc Tryz.prog W base sp held n 22 [v3] = some y3 := by simpa [cStrs] using hfd 3 _ rfl
        have h4 : DataW.trod enc Tryz.prog W base sp held n 27 [v4] = some y4 := by simpa [cDocs] using hfd 4 _ rfl
        obtain ⟨k, e0, _, _⟩ := DataW.trod_int Tryz.underlying3 h0
        obtain ⟨m, e1, _, _⟩ := DataW.trod_int Tryz.underlying3 h1
        obtain ⟨s, e2, _, _⟩ := DataW.trod_string Tryz.underlying9 h2
        obtain ⟨u3, ks, e3, hks, _, _⟩ := open_strs h3
        simp only [List.cons.injEq, and_true] at e0 e1 e2 e3
        subst e0; subst e1; subst e2; subst e3
        rcases DataW.trod_slice Tryz.underlying27 h4 with ⟨e4, _⟩ | ⟨a, len, cap, elems, rest, n', hn', e4, _, _, hl, _, hlen, hel, _, _⟩
        · simp only [List.cons.injEq, and_true] at e4
          subst e4
          refine ⟨.mk k m s ks [], _, _, _, _, _, rfl, ?_⟩
          simp only [DocIn]
          exact ⟨trivial, trivial, trivial, hks, none, 0, rfl, by simp, fun h => by simp at h⟩
        · simp only [List.cons.injEq, and_true] at e4
          subst e4
          rw [cDoc] at hel
          have hget : ∀ i, i < len → ∃ (d : D), ∃ v0 v1 v2 v3 v4 : Value, W.cell? ((a.add (i * 5)).add 0) = some v0 ∧ W.cell? ((a.add (i * 5)).add 1) = some v1 ∧ W.cell? ((a.add (i * 5)).add 2) = some v2 ∧ W.cell? ((a.add (i * 5)).add 3) = some v3 ∧ W.cell? ((a.add (i * 5)).add 4) = some v4 ∧ DocIn W W.heap.size d v0 v1 v2 v3 v4 := by
            intro i hi
            have h' := hel i hi
            rw [List.getElem?_eq_getElem (by omega)] at h'
            obtain ⟨cs', hc1, hc2⟩ := Option.bind_eq_some_iff.1 h'
            obtain ⟨d, w0, w1, w2, w3, w4, rfl, hd⟩ := ih n' (by omega) cs' _ hc2
            have hc := (mapM_cells hc1).2
            exact ⟨d, w0, w1, w2, w3, w4, hc 0 (by omega), hc 1 (by omega), hc 2 (by omega), hc 3 (by omega), hc 4 (by omega), hd⟩
          obtain ⟨l, hll, hlp⟩ := pick_list len hget
          refine ⟨.mk k m s ks l, _, _, _, _, _, rfl, ?_⟩
          simp only [DocIn]
          refine ⟨trivial, trivial, trivial, hks, some a, cap, by rw [hll], by omega, fun h0 => ?_⟩
          obtain ⟨_, _, _, _, _, hz, _⟩ := hlp 0 h0
          obtain ⟨q1, q2⟩ := cell_spot hz
          rw [show (a.add (0 * 5)).add 0 = a from by simp [Addr.add]] at q1 q2
          refine ⟨a.block, a.off, by rw [← q1], q2, KidsIn.of_at fun i hi => ?_⟩
          obtain ⟨w0, w1, w2, w3, w4, c0, c1, c2, c3, c4, hd⟩ := hlp i hi
          rw [q1, add_none, add_none] at c0 c1 c2 c3 c4
          rw [Nat.zero_add]
          exact ⟨w0, w1, w2, w3, w4, c0, c1, c2, c3, c4, hd⟩
theorem open_doc {v : Value} {d : DataW H} {p : List MemPlace} (h : DataW.Trod enc Tryz.prog W base sp held 29 v d p) (hv : ∃ cs, v = .agg cs) :
    ∃ (d : D) (v0 v1 v2 v3 v4 : Value), v = .agg #[v0, v1, v2, v3, v4] ∧ DocIn W W.heap.size d v0 v1 v2 v3 v4 := by
  obtain ⟨fuel, hx⟩ := h
  obtain ⟨cs, rfl⟩ := hv
  obtain ⟨d, v0, v1, v2, v3, v4, e, hd⟩ := open_docs fuel fuel (Nat.le_refl _) _ _ hx
  refine ⟨d, v0, v1, v2, v3, v4, ?_, hd⟩
  have : cs.toList = [v0, v1, v2, v3, v4] := e
  obtain ⟨l⟩ := cs
  simp only at this
  rw [this]
end
end Go.Proofs.YteecdmceleanjaaGreatDoor

namespace Go.Proofs.YteecdmceleanjaaGreatDoor
open Go.ChangeShapes Go.WideShapes Go.ChangeAt Go.RowKit
set_option maxRecDepth 100000 in
theorem agg_of_type {W : World} {b0 : Nat} {v : Value} (h : Value.okWide Tryz.prog W .any b0 26 v) : ∃ cs, v = .agg cs := by
  unfold Value.okWide at h
  rw [Tryz.underlying26] at h
  obtain ⟨cs, h, _⟩ := h
  exact ⟨cs, h⟩
section
variable {H : Type} {enc : TypeId × Value → H} {W : World} {base : Nat} {sp : Nat → Bool} {held : Bool}
end
end Go.Proofs.YteecdmceleanjaaGreatDoor

namespace Go.Proofs.YteecdmceleanjaaGreatDoor
open Go.RowKit Go.ChangeShapes Go.WideShapes Go.ChangeAt
def laid5 : List (String × DataW Unit) := [("math/bits.deBruijn32tab", Rows.laid_math_bits_deBruijn32tab), ("math/bits.deBruijn64tab", Rows.laid_math_bits_deBruijn64tab), ("internal/strconv.uint64pow10", Rows.laid_internal_strconv_uint64pow10), ("strconv.ErrRange", Rows.laid_strconv_ErrRange), ("strconv.ErrSyntax", Rows.laid_strconv_ErrSyntax)]
theorem gTab5 : Tryz.prog.globalNamed "internal/strconv.uint64pow10" = some 1 := by kernel_rfl
def laid3 : List (String × DataW Unit) := [("math/bits.deBruijn32tab", Rows.laid_math_bits_deBruijn32tab), ("math/bits.deBruijn64tab", Rows.laid_math_bits_deBruijn64tab), ("internal/strconv.uint64pow10", Rows.laid_internal_strconv_uint64pow10)]
theorem tab_of_laid3 {W : World} (h : laidMetH Tryz.prog laid3 W) : Tab W := by
  rw [MakeChecks.laidMetH_plain _ _ _ (by kernel_rfl)] at h
  refine ⟨Lib.tabIs_of_head (n := 20) (t := 155) (e := 139) gTab5 (by kernel_rfl) Tryz.underlying155 Tryz.underlying139 (by kernel_rfl) (by kernel_rfl) h.tail.tail, ?_⟩
  obtain ⟨ps, ⟨g', t', cs, fuel, p, q, hg', ht', hvar, hd, _, _⟩, _⟩ := h.tail.tail
  obtain rfl := Option.some.inj (gTab5.symm.trans hg')
  rcases Nat.lt_or_ge 1 W.heap.size with h' | h'
  · exact h'
  · exfalso
    have e := hvar
    simp only [World.var?, gTab5, Option.bind_some, Array.getElem?_eq_none h'] at e
    cases e
set_option maxRecDepth 100000 in
theorem agg_of_doc {W : World} {b0 : Nat} {v : Value} (h : Value.okWide Tryz.prog W .any b0 29 v) : ∃ cs, v = .agg cs := by
  unfold Value.okWide at h
  rw [Tryz.underlying29] at h
  obtain ⟨cs, h, _⟩ := h
  exact ⟨cs, h⟩
end Go.Proofs.YteecdmceleanjaaGreatDoor
