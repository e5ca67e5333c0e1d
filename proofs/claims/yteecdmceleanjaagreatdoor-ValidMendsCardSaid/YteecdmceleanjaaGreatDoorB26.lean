/-
  
  
  
  What is changed at a place within a document of the call's own: the whole is the document with that part changed.
  
  
-/
import Derived.Test.YteecdmceleanjaaGreatDoorB01
import Derived.Test.YteecdmceleanjaaGreatDoorB25
import Derived.Lib.AppendIntMem
import Derived.Deep.RegionHeld3
import Derived.Deep.RegionLaw
import Derived.Deep.DrawnRows
import Derived.BigRegion
namespace Go.Proofs.YteecdmceleanjaaGreatDoor
open Go.RowKit

/-- The library's variables that a walk reads: what they hold. -/
structure Glob (w : World) : Prop where
  syn : ∃ (tp : TypeId) (p : Value), w.var? Tryz.prog "strconv.ErrSyntax" = some #[.iface tp p]
  rng : ∃ (tp : TypeId) (p : Value), w.var? Tryz.prog "strconv.ErrRange" = some #[.iface tp p]
  tab : Lib.TabIs Tryz.prog w "internal/strconv.uint64pow10" .u64 Lib.pow10Tab
  size : 5 < w.heap.size
theorem var_same {P : Program} {w w' : World} {n : String} {g : Nat} (hg : P.globalNamed n = some g) (hs : w'.heap[g]? = w.heap[g]?) : w'.var? P n = w.var? P n := by
  simp [World.var?, hg, hs]
theorem gSyn : Tryz.prog.globalNamed "strconv.ErrSyntax" = some 2 := by kernel_rfl
theorem gRng : Tryz.prog.globalNamed "strconv.ErrRange" = some 3 := by kernel_rfl
theorem gTab : Tryz.prog.globalNamed "internal/strconv.uint64pow10" = some 1 := by kernel_rfl
theorem Glob.below {w w' : World} {B : Nat} (h : Glob w) (hb : Below B w w') (hB : 5 < B) : Glob w' where
  syn := by obtain ⟨tp, p, e⟩ := h.syn; exact ⟨tp, p, (var_same gSyn (hb.block _ (by omega))).trans e⟩
  rng := by obtain ⟨tp, p, e⟩ := h.rng; exact ⟨tp, p, (var_same gRng (hb.block _ (by omega))).trans e⟩
  tab := by have := h.tab; unfold Lib.TabIs at *; rw [var_same gTab (hb.block _ (by omega))]; exact this
  size := by have := h.size; have := hb.size; omega
theorem Glob.alloc {w : World} (h : Glob w) (o : Obj) : Glob (w.alloc o) := h.below ((Below.refl w.heap.size w).alloc (Nat.le_refl _) o) h.size

def Short (s : ByteArray) : Prop := s.size ≤ 140737488355328
theorem Short.of {s : ByteArray} (h : s.size ≤ 10000) : Short s := by unfold Short; omega
def placeI (s : ByteArray) : Int :=
  match Lib.atoiAll s.data.toList with
  | .ok n => if n < 0 then -1 else if Lib.itoa n = s.data.toList then n else -1
  | _ => -1
theorem idx_any (xs : List ByteArray) (v : Value) (x : ByteArray) (B : Nat) (w : World) (hv : Strs w B v xs) (hl : xs.length ≤ 10000) :
    Calls Tryz.prog 117 #[v, .string x] w fun e w' => e = .returned (.int .i64 (Lib.idxOfS xs x)) ∧ w' = w := by
  obtain ⟨A, c, rfl, hc1, hc2⟩ := hv
  rcases Nat.eq_zero_or_pos xs.length with h0 | h0
  · obtain rfl : xs = [] := List.eq_nil_of_length_eq_zero h0
    exact Tryz.slices_Index_string_empty A c x w
  · obtain ⟨b, off, rfl, _, hc⟩ := hc2 h0
    have := Tryz.slices_Index_string b off xs.length c xs x w (Nat.le_refl _) (by omega) (fun j hj => by rw [hc j hj]; simp [List.getD, hj])
    rwa [List.take_length] at this
/-- The place that a part tells, whether or not there is a kid. -/
def find0 (d : D) (s : ByteArray) : Int := if d.kind = 1 ∨ d.kind = 2 then Lib.idxOfS d.keys s else if d.kind = 3 then placeI s else -1
def findI (d : D) (s : ByteArray) : Int := if (d.kids.length : Int) ≤ find0 d s then -1 else find0 d s
end Go.Proofs.YteecdmceleanjaaGreatDoor
namespace Go.Proofs.YteecdmceleanjaaGreatDoor
open Go.RowKit

/-- The place of the kid that a part tells. -/
def stepD (d : D) (s : ByteArray) : Option Nat := if 0 ≤ findI d s then some (findI d s).toNat else none
/-- Where a path leads: the places of the kids on its way. -/
def D.locate : D → List ByteArray → Option (List Nat)
  | _, [] => some []
  | d, s :: ps =>
    match stepD d s with
    | none => none
    | some i => match d.kids[i]? with
      | none => none
      | some k => (D.locate k ps).map (i :: ·)
def D.subAt : D → List Nat → Option D
  | d, [] => some d
  | d, i :: is => match d.kids[i]? with
    | none => none
    | some k => D.subAt k is
def Leads (w : World) : Nat → Nat → List Nat → Nat → Nat → Prop
  | b, off, [], b', off' => b = b' ∧ off = off'
  | b, off, i :: is, b', off' => ∃ g o n c, w.cell? ⟨b, off + 4, none⟩ = some (.slice (some ⟨g, o, none⟩) n c) ∧ Leads w g (o + i * 5) is b' off'
theorem Leads.snoc {w : World} : ∀ {is : List Nat} {b off b1 o1 g o n c i : Nat}, Leads w b off is b1 o1 → w.cell? ⟨b1, o1 + 4, none⟩ = some (.slice (some ⟨g, o, none⟩) n c) → Leads w b off (is ++ [i]) g (o + i * 5)
  | [], b, off, b1, o1, g, o, n, c, i, h, hc => by
    obtain ⟨rfl, rfl⟩ := h
    exact ⟨g, o, n, c, hc, rfl, rfl⟩
  | j :: is, b, off, b1, o1, g, o, n, c, i, h, hc => by
    obtain ⟨g', o', n', c', h1, h2⟩ := h
    exact ⟨g', o', n', c', h1, Leads.snoc h2 hc⟩
theorem Leads.keep {w w' : World} (hk : ∀ p : Addr, p.block < w.heap.size → w'.cell? p = w.cell? p) : ∀ {is : List Nat} {b off b' off' : Nat}, Leads w b off is b' off' → Leads w' b off is b' off'
  | [], _, _, _, _, h => h
  | i :: is, b, off, b', off', h => by
    obtain ⟨g, o, n, c, h1, h2⟩ := h
    exact ⟨g, o, n, c, (hk _ (World.block_lt_of_cell? _ _ h1)).trans h1, Leads.keep hk h2⟩

/-- Five cells. -/
structure Cells5 (w : World) (b off : Nat) (v0 v1 v2 v3 v4 : Value) : Prop where
  c0 : w.cell? ⟨b, off, none⟩ = some v0
  c1 : w.cell? ⟨b, off + 1, none⟩ = some v1
  c2 : w.cell? ⟨b, off + 2, none⟩ = some v2
  c3 : w.cell? ⟨b, off + 3, none⟩ = some v3
  c4 : w.cell? ⟨b, off + 4, none⟩ = some v4
theorem Cells5.keep {w w' : World} {b off : Nat} {v0 v1 v2 v3 v4 : Value} (h : Cells5 w b off v0 v1 v2 v3 v4) (hk : ∀ o, w'.cell? ⟨b, o, none⟩ = w.cell? ⟨b, o, none⟩) : Cells5 w' b off v0 v1 v2 v3 v4 :=
  ⟨(hk _).trans h.c0, (hk _).trans h.c1, (hk _).trans h.c2, (hk _).trans h.c3, (hk _).trans h.c4⟩
theorem Cells5.lt {w : World} {b off : Nat} {v0 v1 v2 v3 v4 : Value} (h : Cells5 w b off v0 v1 v2 v3 v4) : b < w.heap.size := World.block_lt_of_cell? _ _ h.c0

/-- What doc.at tells: where the path leads, and what stands there. -/
def AtTold (w : World) (B b off : Nat) (d : D) (ps : List ByteArray) (e : Ending) : Prop :=
  (D.locate d ps = none ∧ e = .returned (.pointer none)) ∨
  ∃ (is : List Nat) (b' off' : Nat) (x : D) (u0 u1 u2 u3 u4 : Value), D.locate d ps = some is ∧ e = .returned (.pointer (some ⟨b', off', none⟩)) ∧ Leads w b off is b' off' ∧ D.subAt d is = some x ∧ Cells5 w b' off' u0 u1 u2 u3 u4 ∧ DocIn w B x u0 u1 u2 u3 u4 ∧ x.Fit

end Go.Proofs.YteecdmceleanjaaGreatDoor
namespace Go.Proofs.YteecdmceleanjaaGreatDoor
open Go.RowKit

def D.get (d : D) (ps : List ByteArray) : Option D := (D.locate d ps).bind (D.subAt d)
def getV (d : D) (ps : List ByteArray) : D × Bool := match D.get d ps with
  | none => (D.zero, false)
  | some x => (x, true)

end Go.Proofs.YteecdmceleanjaaGreatDoor
namespace Go.Proofs.YteecdmceleanjaaGreatDoor
open Go.RowKit

def D.setKid (d : D) (i : Nat) (x : D) : D := .mk d.kind d.num d.str d.keys (d.kids.set i x)
def D.repl : D → List Nat → D → D
  | _, [], x => x
  | d, i :: is, x => match d.kids[i]? with
    | none => d
    | some k => d.setKid i (D.repl k is x)

/-- Block b is as it was but for the five cells from off on. -/
def UpdBlk (w w' : World) (b off : Nat) : Prop :=
  ∃ (cur cur' : Array Value), w.heap[b]? = some (.cells cur 29 (0, 0)) ∧ w'.heap[b]? = some (.cells cur' 29 (0, 0)) ∧ cur'.size = cur.size ∧ ∀ j, (j < off ∨ off + 5 ≤ j) → cur'[j]? = cur[j]?
theorem UpdBlk.refl {w : World} {b : Nat} (off : Nat) {cur : Array Value} (h : w.heap[b]? = some (.cells cur 29 (0, 0))) : UpdBlk w w b off := ⟨cur, cur, h, h, rfl, fun _ _ => rfl⟩
theorem UpdBlk.same {w w' w'' : World} {b off : Nat} (h : UpdBlk w w' b off) (hs : w''.heap[b]? = w'.heap[b]?) : UpdBlk w w'' b off := by
  obtain ⟨cur, cur', h1, h2, h3, h4⟩ := h
  exact ⟨cur, cur', h1, hs.trans h2, h3, h4⟩
theorem UpdBlk.setCell {w w' : World} {b off : Nat} (h : UpdBlk w w' b off) {o : Nat} (h1 : off ≤ o) (h2 : o < off + 5) (u : Value) : UpdBlk w (w'.setCell ⟨b, o, none⟩ u) b off := by
  obtain ⟨cur, cur', g1, g2, g3, g4⟩ := h
  refine ⟨cur, cur'.setIfInBounds o u, g1, by simp [World.setCell, Array.getElem?_modify, g2], by simpa using g3, fun j hj => ?_⟩
  rw [Array.getElem?_setIfInBounds_ne (by omega)]
  exact g4 j hj
theorem UpdBlk.cell {w w' : World} {b off : Nat} (h : UpdBlk w w' b off) {j : Nat} (hj : j < off ∨ off + 5 ≤ j) : w'.cell? ⟨b, j, none⟩ = w.cell? ⟨b, j, none⟩ := by
  obtain ⟨cur, cur', g1, g2, g3, g4⟩ := h
  rw [cell_of_row w' b j _ _ _ g2, cell_of_row w b j _ _ _ g1, g4 j hj]

theorem OwnIn.parts {w : World} {base : Nat} {d : D} {v0 v1 v2 v3 v4 : Value} {F : List Nat} (h : OwnIn w base d v0 v1 v2 v3 v4 F) :
    v0 = .int .i64 d.kind ∧ v1 = .int .i64 d.num ∧ v2 = .string d.str ∧ w.ownsRow base 9 1 v3 d.keys.length (d.keys.map Value.string) ∧
      ∃ (cs : List Value) (Fs : List Nat), w.ownsRow base 29 5 v4 d.kids.length cs ∧ OwnKids w base d.kids cs Fs ∧ F = blk v3 ++ (blk v4 ++ Fs) := by
  obtain ⟨_, _, _, _, _⟩ := d
  simpa only [OwnIn, D.kind, D.num, D.str, D.keys, D.kids] using h

/-- The row of block g, with five cells of it changed. -/
theorem ownsRow_upd {w w' : World} {base g cap n i : Nat} {c1 c2 : List Value} {v0 v1 v2 v3 v4 y0 y1 y2 y3 y4 : Value} (h : w.ownsRow base 29 5 (.slice (some ⟨g, 0, none⟩) n cap) n (c1 ++ (v0 :: v1 :: v2 :: v3 :: v4 :: c2))) (hl : c1.length = i * 5)
    (hu : UpdBlk w w' g (i * 5)) (hy : Cells5 w' g (i * 5) y0 y1 y2 y3 y4) : w'.ownsRow base 29 5 (.slice (some ⟨g, 0, none⟩) n cap) n (c1 ++ (y0 :: y1 :: y2 :: y3 :: y4 :: c2)) := by
  obtain ⟨h1, h2⟩ := h
  refine ⟨by simpa using h1, ?_⟩
  rcases h2 with ⟨e, _⟩ | ⟨g', cap', cur0, e, hg, hh, r1, r2, r3, r4⟩
  · cases e
  · injection e with e1 e2 e3
    injection e1 with e1
    injection e1 with e1
    subst e1; subst e3
    obtain ⟨cur, cur', g1, g2, g3, g4⟩ := hu
    rw [hh] at g1
    injection g1 with g1
    injection g1 with g1
    subst g1
    refine .inr ⟨g, cap, cur', rfl, hg, g2, r1, r2, by omega, ?_⟩
    have hlen : (c1 ++ (v0 :: v1 :: v2 :: v3 :: v4 :: c2)).length = n * 5 := h1
    have hsz : n * 5 ≤ cur0.size := by rw [r3]; exact Nat.mul_le_mul_right 5 r1
    have hcell : ∀ t, w'.cell? ⟨g, t, none⟩ = cur'[t]? := fun t => cell_of_row w' g t _ _ _ g2
    apply List.ext_getElem?
    intro j
    rw [List.getElem?_take]
    by_cases hj : j < n * 5
    · rw [if_pos hj, Array.getElem?_toList]
      rcases Nat.lt_or_ge j (i * 5) with h3 | h3
      · rw [g4 j (.inl h3), List.getElem?_append_left (by omega)]
        have := congrArg (fun l : List Value => l[j]?) r4
        simp only [List.getElem?_take, if_pos hj, Array.getElem?_toList] at this
        rw [this, List.getElem?_append_left (by omega)]
      · rcases Nat.lt_or_ge j (i * 5 + 5) with h4 | h4
        · rw [← hcell, List.getElem?_append_right (by omega)]
          obtain ⟨t, rfl⟩ : ∃ t, j = i * 5 + t := ⟨j - i * 5, by omega⟩
          rw [show i * 5 + t - c1.length = t from by omega]
          match t, h4 with
          | 0, _ => exact hy.c0
          | 1, _ => exact hy.c1
          | 2, _ => exact hy.c2
          | 3, _ => exact hy.c3
          | 4, _ => exact hy.c4
          | t + 5, h => omega
        · rw [g4 j (.inr h4), List.getElem?_append_right (by omega)]
          have := congrArg (fun l : List Value => l[j]?) r4
          simp only [List.getElem?_take, if_pos hj, Array.getElem?_toList] at this
          rw [this, List.getElem?_append_right (by omega)]
          obtain ⟨t, ht⟩ : ∃ t, j - c1.length = t + 5 := ⟨j - c1.length - 5, by omega⟩
          rw [ht]
          simp
    · rw [if_neg hj, List.getElem?_eq_none (by simp at hlen ⊢; omega)]

structure Focus (w : World) (base : Nat) (d : D) (is : List Nat) (x : D) (b0 off0 : Nat) (v0 v1 v2 v3 v4 : Value) (F : List Nat) (b off : Nat) (u0 u1 u2 u3 u4 : Value) (G : List Nat) : Prop where
  cells : Cells5 w b off u0 u1 u2 u3 u4
  own : OwnIn w base x u0 u1 u2 u3 u4 G
  sub : ∀ k ∈ G, k ∈ F
  out : b ∉ G
  nodup : G.Nodup
  place : (is = [] ∧ b = b0 ∧ off = off0) ∨ b ∈ F
  blkc : ∃ cur : Array Value, w.heap[b]? = some (.cells cur 29 (0, 0))
  back : ∀ (w' : World) (x' : D) (y0 y1 y2 y3 y4 : Value) (G' : List Nat), (∀ k ∈ F, k ∉ G → k ≠ b → w'.heap[k]? = w.heap[k]?) → (b0 ≠ b → w'.heap[b0]? = w.heap[b0]?) → UpdBlk w w' b off → Cells5 w' b off y0 y1 y2 y3 y4 →
    OwnIn w' base x' y0 y1 y2 y3 y4 G' → G'.Nodup → (∀ k ∈ G', k ∈ G ∨ (k ∉ F ∧ k ≠ b0)) → b ∉ G' →
    ∃ (z0 z1 z2 z3 z4 : Value) (F' : List Nat), Cells5 w' b0 off0 z0 z1 z2 z3 z4 ∧ OwnIn w' base (D.repl d is x') z0 z1 z2 z3 z4 F' ∧ F'.Nodup ∧ b0 ∉ F' ∧ ∀ k ∈ F', k ∈ F ∨ k ∈ G'

theorem focus {w : World} {base : Nat} : ∀ (is : List Nat) (d x : D) (b0 off0 : Nat) (v0 v1 v2 v3 v4 : Value) (F : List Nat) (b off : Nat), (∃ cur : Array Value, w.heap[b0]? = some (.cells cur 29 (0, 0))) → Cells5 w b0 off0 v0 v1 v2 v3 v4 → OwnIn w base d v0 v1 v2 v3 v4 F → F.Nodup → b0 ∉ F → D.subAt d is = some x → Leads w b0 off0 is b off →
    ∃ (u0 u1 u2 u3 u4 : Value) (G : List Nat), Focus w base d is x b0 off0 v0 v1 v2 v3 v4 F b off u0 u1 u2 u3 u4 G
  | [], d, x, b0, off0, v0, v1, v2, v3, v4, F, b, off, hbc, hc, ho, hn, hb, hs, hl => by
    obtain ⟨rfl, rfl⟩ := hl
    simp only [D.subAt, Option.some.injEq] at hs
    subst hs
    exact ⟨v0, v1, v2, v3, v4, F, ⟨hc, ho, fun _ h => h, hb, hn, .inl ⟨rfl, rfl, rfl⟩, hbc, fun w' x' y0 y1 y2 y3 y4 G' _ _ _ h4 h5 h6 _ h8 => ⟨y0, y1, y2, y3, y4, G', h4, h5, h6, h8, fun k hk => .inr hk⟩⟩⟩
  | i :: is, d, x, b0, off0, v0, v1, v2, v3, v4, F, b, off, _, hc, ho, hn, hb, hs, hl => by
    obtain ⟨e0, e1, e2, hk3, cs, Fs, hr4, hkids, rfl⟩ := ho.parts
    simp only [D.subAt] at hs
    cases hki : d.kids[i]? with
    | none => rw [hki] at hs; cases hs
    | some k0 =>
      rw [hki] at hs
      simp only at hs
      obtain ⟨hil, rfl⟩ := List.getElem?_eq_some_iff.1 hki
      obtain ⟨t0, t1, t2, t3, t4, c1, c2, F1, G0, F2, rfl, hcl, rfl, ok1, okx, ok2⟩ := hkids.split i hil
      obtain ⟨g, cap, rfl, hgb, hgl⟩ := hr4.form (by omega)
      obtain ⟨g', o', n', cp', hl1, hl2⟩ := hl
      rw [hc.c4] at hl1
      injection hl1 with hl1
      injection hl1 with hl1 hl3 hl4
      injection hl1 with hl1
      injection hl1 with hl5 hl6
      subst hl5; subst hl6
      rw [Nat.zero_add] at hl2
      have hbg : blk (.slice (some ⟨g, 0, none⟩) d.kids.length cap) = [g] := rfl
      have hrow : ∀ t, t < d.kids.length * 5 → w.cell? ⟨g, t, none⟩ = (c1 ++ (t0 :: t1 :: t2 :: t3 :: t4 :: c2))[t]? := fun t ht => hr4.cellAt t ht
      have hmul : i * 5 + 5 ≤ d.kids.length * 5 := by omega
      have hcx : Cells5 w g (i * 5) t0 t1 t2 t3 t4 := by
        constructor
        · rw [hrow _ (by omega), List.getElem?_append_right (by omega), hcl]; simp
        · rw [hrow _ (by omega), List.getElem?_append_right (by omega), hcl]; simp
        · rw [hrow _ (by omega), List.getElem?_append_right (by omega), hcl]; simp
        · rw [hrow _ (by omega), List.getElem?_append_right (by omega), hcl]; simp
        · rw [hrow _ (by omega), List.getElem?_append_right (by omega), hcl]; simp
      rw [hbg] at hn hb
      have hnn := hn
      simp only [List.nodup_append, List.nodup_cons, List.mem_append, List.mem_cons, List.not_mem_nil, or_false, ne_eq, List.nodup_nil, not_false_eq_true, true_and] at hn
      obtain ⟨hn3, ⟨⟨hn1, ⟨hnG, hn2, hnG2⟩, hn1G⟩, hng⟩, hn3d⟩ := hn
      have hgG : g ∉ G0 := fun h => hng g rfl g (.inr (.inl h)) rfl
      have hblk : ∃ cur : Array Value, w.heap[g]? = some (.cells cur 29 (0, 0)) := by
        rcases hr4.2 with ⟨e, _⟩ | ⟨g', cap', cur0, e, _, hh, _⟩
        · cases e
        · injection e with e _ _
          injection e with e
          injection e with e
          subst e
          exact ⟨cur0, hh⟩
      obtain ⟨u0, u1, u2, u3, u4, G, hf⟩ := focus is d.kids[i] x g (i * 5) t0 t1 t2 t3 t4 G0 b off hblk hcx okx hnG hgG hs hl2
      have hbF : b = g ∨ b ∈ G0 := by
        rcases hf.place with ⟨_, h, _⟩ | h
        · exact .inl h
        · exact .inr h
      have hGF : ∀ k ∈ G, k ∈ G0 := hf.sub
      have memF : ∀ k, k ∈ blk v3 ++ ([g] ++ (F1 ++ (G0 ++ F2))) ↔ k ∈ blk v3 ∨ k = g ∨ k ∈ F1 ∨ k ∈ G0 ∨ k ∈ F2 := fun k => by simp [List.mem_append]
      have hbFF : b ∈ blk v3 ++ ([g] ++ (F1 ++ (G0 ++ F2))) := by
        rw [memF]
        rcases hbF with h | h
        · exact .inr (.inl h)
        · exact .inr (.inr (.inr (.inl h)))
      refine ⟨u0, u1, u2, u3, u4, G, ⟨hf.cells, hf.own, fun k hk => by rw [hbg, memF]; exact .inr (.inr (.inr (.inl (hGF k hk)))), hf.out, hf.nodup, .inr (by rw [hbg]; exact hbFF), hf.blkc, ?_⟩⟩
      intro w' x' y0 y1 y2 y3 y4 G' h1 h2 h3 h4 h5 h6 h7 h8
      rw [hbg] at h1 h7
      have hgnG : g ∉ G := fun h => hgG (hGF g h)
      obtain ⟨z0, z1, z2, z3, z4, F0, kc, ko, kn, kg, ks⟩ := hf.back w' x' y0 y1 y2 y3 y4 G' (fun k hk => h1 k (by rw [memF]; exact .inr (.inr (.inr (.inl hk))))) (fun hgb => h1 g (by rw [memF]; exact .inr (.inl rfl)) hgnG hgb) h3 h4 h5 h6
        (fun k hk => by
          rcases h7 k hk with h | ⟨h, _⟩
          · exact .inl h
          · rw [memF] at h
            exact .inr ⟨fun h' => h (.inr (.inr (.inr (.inl h')))), fun h' => h (.inr (.inl h'))⟩) h8
      have hupd : UpdBlk w w' g (i * 5) := by
        by_cases hgb : g = b
        · rcases hf.place with ⟨_, _, h⟩ | h
          · rw [← h, hgb]; exact h3
          · exact absurd (hgb ▸ h) hgG
        · obtain ⟨cur, hcur⟩ := hblk
          exact (UpdBlk.refl _ hcur).same (h1 g (by rw [memF]; exact .inr (.inl rfl)) hgnG hgb)
      have hrow' := ownsRow_upd hr4 hcl hupd kc
      have hb0b : b0 ≠ b := fun h => hb (h ▸ hbFF)
      have hrest : ∀ k, (k ∈ blk v3 ∨ k ∈ F1 ∨ k ∈ F2) → w'.heap[k]? = w.heap[k]? := fun k hk => by
        have hk0 : k ∉ G0 ∧ k ≠ g := by
          rcases hk with hk | hk | hk
          · exact ⟨fun h => hn3d k hk k (.inr (.inr (.inl h))) rfl, fun h => hn3d k hk k (.inl h) rfl⟩
          · exact ⟨fun h => hn1G k hk k (.inl h) rfl, fun h => hng g rfl k (.inl hk) h.symm⟩
          · exact ⟨fun h => hnG2 k h k hk rfl, fun h => hng g rfl k (.inr (.inr hk)) h.symm⟩
        refine h1 k (by rw [memF]; rcases hk with hk | hk | hk
                        · exact .inl hk
                        · exact .inr (.inr (.inl hk))
                        · exact .inr (.inr (.inr (.inr hk)))) (fun h => hk0.1 (hGF k h)) fun h => ?_
        subst h
        rcases hbF with h | h
        · exact hk0.2 h
        · exact hk0.1 h
      have hrep : D.repl d (i :: is) x' = d.setKid i (D.repl d.kids[i] is x') := by simp only [D.repl, hki]
      have hset : d.kids.set i (D.repl d.kids[i] is x') = d.kids.take i ++ D.repl d.kids[i] is x' :: d.kids.drop (i + 1) := by rw [List.set_eq_take_append_cons_drop, if_pos hil]
      refine ⟨v0, v1, v2, v3, .slice (some ⟨g, 0, none⟩) d.kids.length cap, blk v3 ++ ([g] ++ (F1 ++ (F0 ++ F2))), hc.keep fun o => World.cell?_of_block (a := ⟨b0, o, none⟩) (h2 hb0b), ?_, ?_, ?_, ?_⟩
      · rw [hrep, e0, e1, e2, ← hbg]
        refine OwnIn.make (d := d.setKid i (D.repl d.kids[i] is x')) (ownsRow_same hk3 fun k hk => hrest k (.inl hk)) (by simpa [D.setKid, D.kids] using hrow') ?_
        show OwnKids w' base (d.kids.set i (D.repl d.kids[i] is x')) _ _
        rw [hset]
        exact OwnKids.join ko (ok2.same (Nat.le_refl _) fun k hk => hrest k (.inr (.inr hk))) (ok1.same (Nat.le_refl _) fun k hk => hrest k (.inr (.inl hk)))
      · have hF0 : ∀ k ∈ F0, k ∉ blk v3 ∧ k ≠ g ∧ k ∉ F1 ∧ k ∉ F2 := fun k hk => by
          have hk0 : k ∈ G0 ∨ k ∉ blk v3 ++ ([g] ++ (F1 ++ (G0 ++ F2))) := by
            rcases ks k hk with h | h
            · exact .inl h
            · rcases h7 k h with h | ⟨h, _⟩
              · exact .inl (hGF k h)
              · exact .inr h
          rcases hk0 with h | h
          · exact ⟨fun h' => hn3d k h' k (.inr (.inr (.inl h))) rfl, fun h' => hgG (h' ▸ h), fun h' => hn1G k h' k (.inl h) rfl, fun h' => hnG2 k h k h' rfl⟩
          · rw [memF] at h
            exact ⟨fun h' => h (.inl h'), fun h' => h (.inr (.inl h')), fun h' => h (.inr (.inr (.inl h'))), fun h' => h (.inr (.inr (.inr (.inr h'))))⟩
        simp only [List.nodup_append, List.nodup_cons, List.mem_append, List.mem_cons, List.not_mem_nil, or_false, ne_eq, List.nodup_nil, not_false_eq_true, true_and]
        refine ⟨hn3, ⟨⟨hn1, ⟨kn, hn2, fun a ha c hc' hac => (hF0 a ha).2.2.2 (hac ▸ hc')⟩, fun a ha c hc' hac => ?_⟩, fun a ha c hc' hac => ?_⟩, fun a ha c hc' hac => ?_⟩
        · subst hac
          rcases hc' with h | h
          · exact (hF0 a h).2.2.1 ha
          · exact hn1G a ha a (.inr h) rfl
        · subst hac
          rcases hc' with h | h | h
          · exact hng g rfl a (.inl h) ha.symm
          · exact (hF0 a h).2.1 ha
          · exact hng g rfl a (.inr (.inr h)) ha.symm
        · subst hac
          rcases hc' with h | h | h | h
          · exact hn3d a ha a (.inl h) rfl
          · exact hn3d a ha a (.inr (.inl h)) rfl
          · exact (hF0 a h).1 ha
          · exact hn3d a ha a (.inr (.inr (.inr h))) rfl
      · intro hmem
        simp only [List.mem_append, List.mem_cons, List.not_mem_nil, or_false] at hmem
        rw [memF] at hb
        rcases hmem with h | h | h | h | h
        · exact hb (.inl h)
        · exact hb (.inr (.inl h))
        · exact hb (.inr (.inr (.inl h)))
        · rcases ks b0 h with h | h
          · exact hb (.inr (.inr (.inr (.inl h))))
          · rcases h7 b0 h with h | ⟨_, h⟩
            · exact hb (.inr (.inr (.inr (.inl (hGF b0 h)))))
            · exact h rfl
        · exact hb (.inr (.inr (.inr (.inr h))))
      · intro k hk
        rw [hbg, memF]
        simp only [List.mem_append, List.mem_cons, List.not_mem_nil, or_false] at hk
        rcases hk with h | h | h | h | h
        · exact .inl (.inl h)
        · exact .inl (.inr (.inl h))
        · exact .inl (.inr (.inr (.inl h)))
        · rcases ks k h with h | h
          · exact .inl (.inr (.inr (.inr (.inl h))))
          · exact .inr h
        · exact .inl (.inr (.inr (.inr (.inr h))))
end Go.Proofs.YteecdmceleanjaaGreatDoor
namespace Go.Proofs.YteecdmceleanjaaGreatDoor
open Go.RowKit

/-- The document at b, off is x' now. -/
def SetOk (w : World) (base : Nat) (x' : D) (b off : Nat) (G FY : List Nat) (w' : World) : Prop :=
  ∃ (y0 y1 y2 y3 y4 : Value) (G' : List Nat), UpdBlk w w' b off ∧ Cells5 w' b off y0 y1 y2 y3 y4 ∧ OwnIn w' base x' y0 y1 y2 y3 y4 G' ∧ G'.Nodup ∧ b ∉ G' ∧ (∀ k ∈ G', k ∈ G ∨ k ∈ FY ∨ w.heap.size ≤ k) ∧ Turned w w' G b

theorem SetOk.drew {w w' : World} {base b off : Nat} {x' : D} {G FY : List Nat} (h : SetOk w base x' b off G FY w') : SetOk w base x' b off G FY w'.drew := by
  obtain ⟨y0, y1, y2, y3, y4, G', h1, h2, h3, h4, h5, h6, h7⟩ := h
  exact ⟨y0, y1, y2, y3, y4, G', h1.same rfl, h2.keep fun _ => rfl, h3.same (Nat.le_refl _) fun _ _ => rfl, h4, h5, h6, h7.drew⟩
def D.snoc (d : D) (y : D) : D := .mk d.kind d.num d.str d.keys (d.kids ++ [y])

end Go.Proofs.YteecdmceleanjaaGreatDoor
namespace Go.Proofs.YteecdmceleanjaaGreatDoor
open Go.RowKit

end Go.Proofs.YteecdmceleanjaaGreatDoor
