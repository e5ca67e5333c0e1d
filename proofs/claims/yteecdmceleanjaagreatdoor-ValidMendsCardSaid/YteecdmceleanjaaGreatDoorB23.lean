/-
  valid.mendKids.
-/
import Derived.Test.YteecdmceleanjaaGreatDoorB22
import Derived.Test.YteecdmceleanjaaGreatDoorB21
import Derived.Deep.CutRange
namespace Go.Proofs.YteecdmceleanjaaGreatDoor
open Go.RowKit

def MendBoxK (w1 : World) (kd : Int) (xs : List ByteArray) (s6 s7 : Value) (wx : World) : Prop :=
  ∃ (box : Nat) (A : Option Addr) (c : Nat), s6 = .pointer (some ⟨box, 0, none⟩) ∧ s7 = .int .i64 0 ∧ w1.heap.size ≤ box ∧ Box5 wx box (.int .i64 kd) (.int .i64 0) (.string ⟨#[]⟩) (.slice A xs.length c) (.slice none 0 0) ∧
    wx.ownsRow w1.heap.size 9 1 (.slice A xs.length c) xs.length (xs.map Value.string) ∧ (Value.slice A xs.length c).ownBlock ≠ some box ∧ Below w1.heap.size w1 wx
theorem MendBoxK.late {w1 w5 : World} {kd : Int} {xs : List ByteArray} {A : Option Addr} {c : Nat} (hB5 : Below w1.heap.size w1 w5) (ho : w5.ownsRow w1.heap.size 9 1 (.slice A xs.length c) xs.length (xs.map Value.string)) :
    MendBoxK w1 kd xs (.pointer (some ⟨w5.heap.size, 0, none⟩)) (.int .i64 0) (w5.alloc (.cells #[.int .i64 kd, .int .i64 0, .string ⟨#[]⟩, .slice A xs.length c, .slice none 0 0] 29)) :=
  ⟨w5.heap.size, A, c, rfl, rfl, hB5.size, Box5.new w5 _ _ _ _ _, ho.alloc _, fun h => by have := (ho.lt _ h).2; omega, hB5.alloc hB5.size _⟩
theorem MendBoxK.early {w1 w5 : World} {kd : Int} {xs : List ByteArray} {A : Option Addr} {c b : Nat} (hb5 : Below (w1.alloc (.cells #[.int .i64 0, .int .i64 0, .string ⟨#[]⟩, .slice none 0 0, .slice none 0 0] 29)).drew.heap.size (w1.alloc (.cells #[.int .i64 0, .int .i64 0, .string ⟨#[]⟩, .slice none 0 0, .slice none 0 0] 29)).drew w5) (ho : w5.ownsRow w1.heap.size 9 1 (.slice A xs.length c) xs.length (xs.map Value.string)) (hat : (Value.slice A xs.length c).ownBlock ≠ some b) (hz : w1.heap.size = b) :
    MendBoxK w1 kd xs (.pointer (some ⟨b, 0, none⟩)) (.int .i64 0) ((((((w5).setCell ⟨b, 0, none⟩ (.int .i64 kd)).setCell ⟨b, 1, none⟩ (.int .i64 0)).setCell ⟨b, 2, none⟩ (.string ⟨#[]⟩)).setCell ⟨b, 3, none⟩ (.slice A xs.length c)).setCell ⟨b, 4, none⟩ (.slice none 0 0)) := by
  subst hz
  have hbx : Box5 w5 w1.heap.size (.int .i64 0) (.int .i64 0) (.string ⟨#[]⟩) (.slice none 0 0) (.slice none 0 0) := (Box5.new w1 _ _ _ _ _).same (hb5.block _ (by show _ < (World.alloc _ _).heap.size; simp))
  have hB5 : Below w1.heap.size w1 w5 := (((Below.refl w1.heap.size w1).alloc (Nat.le_refl _) _).drew).trans (hb5.mono (by show _ ≤ (World.alloc _ _).heap.size; simp))
  refine ⟨w1.heap.size, A, c, rfl, rfl, Nat.le_refl _, ((((hbx.set0 _).set1 _).set2 _).set3 _).set4 _, ownsRow_same ho fun k hk => ?_, hat, ((((hB5.setCell (Nat.le_refl _) _).setCell (Nat.le_refl _) _).setCell (Nat.le_refl _) _).setCell (Nat.le_refl _) _).setCell (Nat.le_refl _) _⟩
  have hne : k ≠ w1.heap.size := fun e => hat (by rw [← e]; exact blk_mem.1 hk)
  rw [Below.heap_setCell _ _ _ k hne, Below.heap_setCell _ _ _ k hne, Below.heap_setCell _ _ _ k hne, Below.heap_setCell _ _ _ k hne, Below.heap_setCell _ _ _ k hne]
/-- A kid, mended, in a variable. -/
def MendKid (wz : World) (x : D) (nx : Nat) (s10 s11 : Value) (wx : World) : Prop :=
  ∃ (kb : Nat) (A7 : Option Addr) (c7 : Nat) (A8 : Option Addr) (c8 : Nat) (G : List Nat), s10 = .pointer (some ⟨kb, 0, none⟩) ∧ s11 = .int .i64 nx ∧ wz.heap.size ≤ kb ∧ Box5 wx kb (.int .i64 x.kind) (.int .i64 x.num) (.string x.str) (.slice A7 x.keys.length c7) (.slice A8 x.kids.length c8) ∧
    OwnIn wx wz.heap.size x (.int .i64 x.kind) (.int .i64 x.num) (.string x.str) (.slice A7 x.keys.length c7) (.slice A8 x.kids.length c8) G ∧ G.Nodup ∧ Below wz.heap.size wz wx
theorem MendKid.late {wz w5 : World} {x : D} {nx : Nat} {A7 A8 : Option Addr} {c7 c8 : Nat} {G : List Nat} (hB5 : Below wz.heap.size wz w5) (hG : OwnIn w5 wz.heap.size x (.int .i64 x.kind) (.int .i64 x.num) (.string x.str) (.slice A7 x.keys.length c7) (.slice A8 x.kids.length c8) G) (hn : G.Nodup) :
    MendKid wz x nx (.pointer (some ⟨w5.heap.size, 0, none⟩)) (.int .i64 nx) (w5.alloc (.cells #[.int .i64 x.kind, .int .i64 x.num, .string x.str, .slice A7 x.keys.length c7, .slice A8 x.kids.length c8] 29)) :=
  ⟨w5.heap.size, A7, c7, A8, c8, G, rfl, rfl, hB5.size, Box5.new w5 _ _ _ _ _, hG.same (Nat.le_refl _) fun k hk => Below.heap_alloc _ _ k (hG.lt k hk).2, hn, hB5.alloc hB5.size _⟩
theorem MendKid.early {wz w5 : World} {x : D} {nx b : Nat} {A7 A8 : Option Addr} {c7 c8 : Nat} {G : List Nat} (hb5 : Below (wz.alloc (.cells #[.int .i64 0, .int .i64 0, .string ⟨#[]⟩, .slice none 0 0, .slice none 0 0] 29)).drew.heap.size (wz.alloc (.cells #[.int .i64 0, .int .i64 0, .string ⟨#[]⟩, .slice none 0 0, .slice none 0 0] 29)).drew w5) (hG : OwnIn w5 (wz.alloc (.cells #[.int .i64 0, .int .i64 0, .string ⟨#[]⟩, .slice none 0 0, .slice none 0 0] 29)).drew.heap.size x (.int .i64 x.kind) (.int .i64 x.num) (.string x.str) (.slice A7 x.keys.length c7) (.slice A8 x.kids.length c8) G) (hn : G.Nodup) (hz : wz.heap.size = b) :
    MendKid wz x nx (.pointer (some ⟨b, 0, none⟩)) (.int .i64 nx) ((((((w5).setCell ⟨b, 0, none⟩ (.int .i64 x.kind)).setCell ⟨b, 1, none⟩ (.int .i64 x.num)).setCell ⟨b, 2, none⟩ (.string x.str)).setCell ⟨b, 3, none⟩ (.slice A7 x.keys.length c7)).setCell ⟨b, 4, none⟩ (.slice A8 x.kids.length c8)) := by
  subst hz
  have hbx : Box5 w5 wz.heap.size (.int .i64 0) (.int .i64 0) (.string ⟨#[]⟩) (.slice none 0 0) (.slice none 0 0) := (Box5.new wz _ _ _ _ _).same (hb5.block _ (by show _ < (World.alloc _ _).heap.size; simp))
  have hB5 : Below wz.heap.size wz w5 := (((Below.refl wz.heap.size wz).alloc (Nat.le_refl _) _).drew).trans (hb5.mono (by show _ ≤ (World.alloc _ _).heap.size; simp))
  refine ⟨wz.heap.size, A7, c7, A8, c8, G, rfl, rfl, Nat.le_refl _, ((((hbx.set0 _).set1 _).set2 _).set3 _).set4 _, hG.same (by show _ ≤ (World.alloc _ _).heap.size; simp) fun k hk => ?_, hn, ((((hB5.setCell (Nat.le_refl _) _).setCell (Nat.le_refl _) _).setCell (Nat.le_refl _) _).setCell (Nat.le_refl _) _).setCell (Nat.le_refl _) _⟩
  have hne : k ≠ wz.heap.size := by have h9 : (World.alloc _ _).heap.size ≤ k := (hG.lt k hk).1; rw [World.size_alloc] at h9; omega
  rw [Below.heap_setCell _ _ _ k hne, Below.heap_setCell _ _ _ k hne, Below.heap_setCell _ _ _ k hne, Below.heap_setCell _ _ _ k hne, Below.heap_setCell _ _ _ k hne]
theorem mendK_sum (x : T) (l : List D) (k : Nat) : (((l.take k).map fun y => x.mend y).map fun z => z.2).sum ≤ ((l.map fun y => x.mend y).map fun z => z.2).sum := by
  have h : ((l.map fun y => x.mend y).map fun z => z.2).sum = (((l.take k).map fun y => x.mend y).map fun z => z.2).sum + (((l.drop k).map fun y => x.mend y).map fun z => z.2).sum := by
    rw [← List.sum_append, ← List.map_append, ← List.map_append, List.take_append_drop]
  omega
set_option maxHeartbeats 16000000 in
set_option maxRecDepth 100000 in
theorem mend_kids {m : Nat} (ih : MendTo m) {t q : T} {d : D} {tv uv : Value} {w : World} {B : Nat} (hk : t.kind = 2 ∨ t.kind = 3) (hof : t.of = [q]) (hm : t.depth ≤ m + 1) (hr : rightT t = true) (hf : t.Fit) (hfd : d.Fit) (h0 : fitsV t d = 0) (hpd : partB d = true) (hds : d.size ≤ 512) (hB : B ≤ w.heap.size) (ht : TypeV w B t tv) (hd : DocV w B d uv) :
    Calls Tryz.prog 84 #[tv, uv] w (MadeDoc2 w.heap.size w (.mk d.kind 0 ⟨#[]⟩ d.keys ((d.kids.map fun y => q.mend y).map fun z => z.1)) (.int .i64 (((d.kids.map fun y => q.mend y).map fun z => z.2).sum : Nat))) := by
  obtain ⟨v0, v1, v2, v3, v4, v5, rfl, hti⟩ := ht
  obtain ⟨u0, u1, u2, u3, u4, rfl, hdi⟩ := hd
  have hpd' := hpd
  rw [partB_eq, Bool.and_eq_true] at hpd'
  have ST := Lib.hid ((TD.start hB hti hdi).next (w' := ((w.alloc (.cells #[v0, v1, v2, v3, v4, v5] 26)).alloc (.cells #[u0, u1, u2, u3, u4] 29)).alloc (.cells #[.int .i64 0, .int .i64 0, .string ⟨#[]⟩, .slice none 0 0, .slice none 0 0] 29)) ((Below.refl _ _).alloc (by simp) _))
  have HR : Hid (Box5 (((w.alloc (.cells #[v0, v1, v2, v3, v4, v5] 26)).alloc (.cells #[u0, u1, u2, u3, u4] 29)).alloc (.cells #[.int .i64 0, .int .i64 0, .string ⟨#[]⟩, .slice none 0 0, .slice none 0 0] 29)) (w.heap.size + 1 + 1) (.int .i64 0) (.int .i64 0) (.string ⟨#[]⟩) (.slice none 0 0) (.slice none 0 0)) := Box5.new' (by simp) _ _ _ _ _
  have hz : (((w.alloc (.cells #[v0, v1, v2, v3, v4, v5] 26)).alloc (.cells #[u0, u1, u2, u3, u4] 29)).alloc (.cells #[.int .i64 0, .int .i64 0, .string ⟨#[]⟩, .slice none 0 0, .slice none 0 0] 29)).heap.size = w.heap.size + 3 := by simp
  obtain ⟨A3, c3, A4, c4, A5, c5, rfl, rfl, rfl, rfl, rfl, e5⟩ := hti.forms
  obtain ⟨no, hno⟩ : ∃ no, t.of.length = no := ⟨_, rfl⟩
  rw [hno] at e5
  subst e5
  have hno1 : no = 1 := by rw [← hno, hof]; rfl
  obtain ⟨B3, d3, B4, d4, rfl, rfl, rfl, rfl, rfl⟩ := hdi.forms
  have hbd : ((d.kids.map fun y => q.mend y).map fun z => z.2).sum ≤ 65536 := by
    have h := mend_bound hr hpd hds
    rw [mend_eq, if_pos h0, if_neg (by omega), if_pos hk, hof] at h
    exact h
  have HBD := Lib.hid hbd
  have HF := Lib.hid hf; have HFD := Lib.hid hfd; have HRT := Lib.hid hr; have HPARTS := Lib.hid hpd'.2; have HIH := Lib.hid ih; have HM := Lib.hid hm; have HOF := Lib.hid hof; have HDS := Lib.hid hds; have HNO := Lib.hid hno; have HNO1 := Lib.hid hno1
  have HKEYS := Lib.hid hdi.keys_
  clear hti hdi hf hfd hr hpd hpd' ih hm hk hof hds hbd h0 hno hno1
  go_enter Tryz.func84, Tryz.ntmps84
  go_wp2_with fail
  generalize (((w.alloc (.cells #[.int .i64 t.kind, .int .i64 t.lo, .int .i64 t.hi, .slice A3 t.names.length c3, .slice A4 t.fields.length c4, .slice A5 no c5] 26)).alloc (.cells #[.int .i64 d.kind, .int .i64 d.num, .string d.str, .slice B3 d.keys.length d3, .slice B4 d.kids.length d4] 29)).alloc (.cells #[.int .i64 0, .int .i64 0, .string ⟨#[]⟩, .slice none 0 0, .slice none 0 0] 29)) = w1 at *
  go_cut [6, 7] (fun s6 s7 wx => MendBoxK w1 d.kind d.keys s6 s7 wx)
  case first =>
    obtain ⟨y0, y1, y2, y3, y4⟩ := ST.out.bd.cells
    have hlt2 : w.heap.size + 1 < w1.heap.size := by omega
    have hkl := HFD.out.keys
    have hS : ∀ X, Below w1.heap.size w1 X → X.cell? ⟨w.heap.size + 1, 0, none⟩ = some (.int .i64 d.kind) ∧ X.cell? ⟨w.heap.size + 1, 3, none⟩ = some (.slice B3 d.keys.length d3) := fun X h => by
      have hX : ∀ b o, b < w1.heap.size → X.cell? ⟨b, o, none⟩ = w1.cell? ⟨b, o, none⟩ := fun b o hb => h.cell (p := ⟨b, o, none⟩) hb
      exact ⟨(hX _ _ hlt2).trans y0, (hX _ _ hlt2).trans y3⟩
    have HS := Lib.hid hS
    have HK1 : Hid (Strs w1.drew B (.slice B3 d.keys.length d3) d.keys) := Lib.hid (HKEYS.out.keep fun p hp => ST.out.bl.cell (p := p) (by omega))
    have HK2 : Hid (Strs (w1.alloc (.cells #[.int .i64 0, .int .i64 0, .string ⟨#[]⟩, .slice none 0 0, .slice none 0 0] 29)).drew B (.slice B3 d.keys.length d3) d.keys) := Lib.hid (HK1.out.keep fun p hp => World.cell?_alloc_lt w1 _ p (by omega))
    have hz1' : w1.heap.size ≤ (w1.alloc (.cells #[.int .i64 0, .int .i64 0, .string ⟨#[]⟩, .slice none 0 0, .slice none 0 0] 29)).drew.heap.size := by show _ ≤ (World.alloc _ _).heap.size; simp
    clear hS y0 y1 y2 y3 y4
    go_region_held3 (fun w' => w'.cell? ⟨w.heap.size + 1, 0, none⟩ = some (.int .i64 d.kind) ∧ w'.cell? ⟨w.heap.size + 1, 3, none⟩ = some (.slice B3 d.keys.length d3))
      ((with_reducible refine HS.out _ ?_; repeat (first | with_reducible exact Below.refl _ _ | with_reducible exact hB5 | with_reducible refine Below.drew ?_ | (with_reducible refine Below.alloc ?_ ?_ _; rotate_left; (focus (first | omega | (simp; done) | (simp; omega)))) | (with_reducible refine Below.setCell ?_ ?_ _; rotate_left; (focus (first | (show w1.heap.size ≤ w1.heap.size; omega) | (show w1.heap.size ≤ w5.heap.size; omega) | (simp; omega)))))))
      ((first
        | (refine step_append_strs (w := w1.drew) (by rfl) _ _ (by rfl) w1.heap.size B 0 (.slice none 0 0) _ [] d.keys (by rfl) (by rfl) (World.ownsRow_nil _ _ _ _) HK1.out (by omega) (by show w1.heap.size ≤ w1.heap.size; omega) ?_
           intro v' w5 hown5 hgrow5 hat5
           rw [Nat.zero_add, List.nil_append] at hown5
           obtain ⟨A5', c5', rfl⟩ := ownsRow_slice hown5
           have hb5 : Below w1.drew.heap.size w1.drew w5 := ⟨hgrow5.os, hgrow5.tape, hgrow5.output, hgrow5.size, fun k hk => hgrow5.block k hk (by simp [Value.ownBlock])⟩
           have hB5 : Below w1.heap.size w1 w5 := (Below.refl w1.heap.size w1).drew.trans hb5
           obtain ⟨hc5, hf5⟩ := below_add hb5; have hz5 := hB5.size
           clear hgrow5 hat5)
        | (refine step_append_strs (w := (w1.alloc (.cells #[.int .i64 0, .int .i64 0, .string ⟨#[]⟩, .slice none 0 0, .slice none 0 0] 29)).drew) (by rfl) _ _ (by rfl) w1.heap.size B 0 (.slice none 0 0) _ [] d.keys (by rfl) (by rfl) (World.ownsRow_nil _ _ _ _) HK2.out (by omega) hz1' ?_
           intro v' w5 hown5 hgrow5 hat5
           rw [Nat.zero_add, List.nil_append] at hown5
           obtain ⟨A5', c5', rfl⟩ := ownsRow_slice hown5
           have hb5 : Below (w1.alloc (.cells #[.int .i64 0, .int .i64 0, .string ⟨#[]⟩, .slice none 0 0, .slice none 0 0] 29)).drew.heap.size (w1.alloc (.cells #[.int .i64 0, .int .i64 0, .string ⟨#[]⟩, .slice none 0 0, .slice none 0 0] 29)).drew w5 := ⟨hgrow5.os, hgrow5.tape, hgrow5.output, hgrow5.size, fun k hk => hgrow5.block k hk (by simp [Value.ownBlock])⟩
           have hB5 : Below w1.heap.size w1 w5 := (((Below.refl w1.heap.size w1).alloc (Nat.le_refl _) (.cells #[.int .i64 0, .int .i64 0, .string ⟨#[]⟩, .slice none 0 0, .slice none 0 0] 29)).drew).trans (hb5.mono hz1')
           have hne5 : (Value.slice A5' d.keys.length c5').ownBlock ≠ some (w.heap.size + 3) := fun h => by
             rcases hat5 with h2 | h2
             · rw [h] at h2; simp [Value.ownBlock] at h2
             · rw [h] at h2
               have h3 : w.heap.size + 3 = (World.alloc w1 (.cells #[.int .i64 0, .int .i64 0, .string ⟨#[]⟩, .slice none 0 0, .slice none 0 0] 29)).heap.size := by simpa using h2
               rw [World.size_alloc] at h3; omega
           obtain ⟨hc5, hf5⟩ := below_add hb5; have hz5 := hB5.size
           clear hgrow5 hat5)))
    all_goals (go_wp2_with fail)
    all_goals go_meet
    all_goals first
      | with_reducible exact MendBoxK.late hB5 hown5
      | with_reducible exact MendBoxK.early hb5 hown5 hne5 hz
  case rest =>
    obtain ⟨box, K3, k3c, rfl, rfl, hbox, hbx, hko, hkne, hbw⟩ := hcut
    generalize wc = w3 at *
    have hb3 := hbx.lt
    have hz3 := hbw.size
    have HBX := Lib.hid hbx; have HBW := Lib.hid hbw; have HKO := Lib.hid hko; have HKNE := Lib.hid hkne
    have ST3 := Lib.hid (ST.out.next (hbw.mono (by omega)))
    obtain ⟨x0, x1, x2, x3, x4, x5⟩ := ST3.out.bt.cells
    obtain ⟨y0, y1, y2, y3, y4⟩ := ST3.out.bd.cells
    clear hbx hbw hko hkne
    go_wp2_with fail
    clear x0 x1 x2 x3 x4 x5 y0 y1 y2 y3 y4
    go_loopw [7, 21] (fun s7 i wr => ∃ (k : Nat) (v4 : Value) (cs : List Value) (F : List Nat), k ≤ d.kids.length ∧ s7 = .int .i64 (((((d.kids.take k).map fun y => q.mend y).map fun z => z.2).sum : Nat) : Int) ∧ i = .int .i64 k ∧ DocK w1.heap.size w3 wr box d.kind 0 ⟨#[]⟩ d.keys (((d.kids.take k).map fun y => q.mend y).map fun z => z.1) (.slice K3 d.keys.length k3c) v4 cs F) (fun _ i _ => d.kids.length - (intOf i).toNat)
    case atStart => exact ⟨0, _, [], [], Nat.zero_le _, by simp, rfl, HBX.out, HKO.out, fun k hk => ⟨(HKO.out.lt k (blk_mem.1 hk)).2, fun e => HKNE.out (by rw [← e]; exact blk_mem.1 hk)⟩, World.ownsRow_nil _ _ _ _, by simp [OwnKids], by simp [blk, Value.ownBlock], Turned.of_below (Below.refl _ _) _ _⟩
    case round =>
      obtain ⟨k, v4, cs, F, hk0, rfl, rfl, hst⟩ := hrel
      obtain ⟨SM, hsm⟩ : ∃ SM, (((d.kids.take k).map fun y => q.mend y).map fun z => z.2).sum = SM := ⟨_, rfl⟩
      rw [hsm]
      have HSM := Lib.hid hsm
      have HST := Lib.hid hst
      have hzr := hst.t.size
      clear hst hsm
      have hkl10 : d.kids.length ≤ 10000 := HFD.out.kids
      have HLOW : Hid (∀ j, j < w3.heap.size → j ≠ box → wr.heap[j]? = w3.heap[j]?) := Lib.hid (fun j hj hne => HST.out.t.block j hj (by simp) hne)
      by_cases hlt : k < d.kids.length
      · have keepw : ∀ q : Addr, q.block < w.heap.size → wr.cell? q = w.cell? q := fun q hq => World.cell?_of_block (a := q) ((HLOW.out q.block (by omega) (by omega)).trans (ST3.out.bl.block q.block hq))
        have htin := ST3.out.tin.keep (w' := wr) (Nat.le_refl B) fun q hq => keepw q (by omega)
        have hdin := ST3.out.din.keep (w' := wr) (Nat.le_refl B) fun q hq => keepw q (by omega)
        obtain ⟨A5', c5', e5, _, hofv⟩ := htin.of_
        injection e5 with e51 e52 e53
        subst e51; subst e53
        have hno : t.of.length = no := HNO.out
        have hno1 : no = 1 := HNO1.out
        obtain ⟨bo, off, rfl, hboB, hofw⟩ := hofv (by omega)
        clear hofv keepw
        obtain ⟨z0, z1, z2, z3, z4, z5, g0, g1', g2, g3, g4, g5, hzi⟩ := hofw.at_ 0 (by omega)
        have hx0 : t.of[0]'(by omega) = q := by simp only [HOF.out, List.getElem_cons_zero]
        rw [hx0] at hzi
        simp only [Nat.zero_mul, Nat.add_zero] at g0 g1' g2 g3 g4 g5
        have HZI := Lib.hid hzi
        obtain ⟨X3, x3, X4, x4, X5, x5, rfl, rfl, rfl, rfl, rfl, rfl⟩ := hzi.forms
        obtain ⟨_, _, hkv⟩ := hdin.kids_
        obtain ⟨bk, offk, rfl, hbkB, hkw⟩ := hkv (by omega)
        clear hkv
        obtain ⟨q0, q1, q2, q3, q4, r0, r1, r2, r3, r4, hyi⟩ := hkw.at_ k hlt
        obtain ⟨y, hye⟩ : ∃ y, y = d.kids[k] := ⟨_, rfl⟩
        rw [← hye] at hyi
        simp only [Nat.zero_add] at r0 r1 r2 r3 r4
        have HYI := Lib.hid hyi
        obtain ⟨Y3, y3, Y4, y4, rfl, rfl, rfl, rfl, rfl⟩ := hyi.forms
        obtain ⟨t0, t1, t2, t3, t4, t5⟩ := (ST3.out.bt.same (HLOW.out _ (by omega) (by omega))).cells
        have hdep : q.depth ≤ m := by have := T.of_depth (t := t) (i := 0) (by omega); rw [hx0] at this; have := HM.out; omega
        have HRX : Hid (rightT q = true) := Lib.hid (rightT_of HRT.out HOF.out)
        have HFX : Hid q.Fit := Lib.hid (by
          have h := HF.out.parts.2.2.2.2.2
          rw [HOF.out] at h
          exact h.at_ (i := 0) (by simp))
        have HFY : Hid y.Fit := Lib.hid (by rw [hye]; exact HFD.out.kid hlt)
        have HPY : Hid (partB y = true) := Lib.hid (by rw [hye]; exact partsB_at HPARTS.out hlt)
        have HSY : Hid (y.size ≤ 512) := Lib.hid (by have h1 := D.size_at d.kids k hlt; have h2 := D.size_eq d; have h3 := HDS.out; rw [← hye] at h1; omega)
        obtain ⟨x, nx, hmx⟩ : ∃ x nx, q.mend y = (x, nx) := ⟨_, _, rfl⟩
        have hnx9 : nx ≤ 65536 := by have h := mend_bound HRX.out HPY.out HSY.out; rw [hmx] at h; exact h
        have HSUC : Hid ((d.kids.take (k + 1)).map (fun y => q.mend y) = (d.kids.take k).map (fun y => q.mend y) ++ [(x, nx)]) := Lib.hid (by rw [List.take_succ_eq_append_getElem hlt, List.map_append, ← hye, List.map_cons, List.map_nil, hmx])
        have hsum : SM ≤ 65536 := by rw [← HSM.out]; exact Nat.le_trans (mendK_sum q d.kids k) HBD.out
        have hik0 : (0 : Int) ≤ (k : Int) := by omega
        have hik1 : (k : Int) < (d.kids.length : Int) := by omega
        have ho1 : (0 : Int) < (no : Int) := by omega
        have ho2 : 0 < no := by omega
        have ho3 : decide ((0 : Int) < (no : Int)) = true := by simpa using ho2
        have ho4 : ¬ (no = 0) := by omega
        have hbol : bo < wr.heap.size := by omega
        have hbkl : bk < wr.heap.size := by omega
        clear hye hzi hyi htin hdin hofw hkw hx0 e52 hno hno1
        go_upto_region 5 with fail
        obtain ⟨wz, hwz⟩ : ∃ wz, wz = wr.alloc (.cells #[.int .i64 y.kind, .int .i64 y.num, .string y.str, .slice Y3 y.keys.length y3, .slice Y4 y.kids.length y4] 29) := ⟨_, rfl⟩
        have HBZ : Hid (Below wr.heap.size wr wz) := by rw [hwz]; exact (Below.refl _ _).alloc (Nat.le_refl _) _
        have HKB : Hid (Box5 wz wr.heap.size (.int .i64 y.kind) (.int .i64 y.num) (.string y.str) (.slice Y3 y.keys.length y3) (.slice Y4 y.kids.length y4)) := by rw [hwz]; exact Box5.new wr _ _ _ _ _
        have hzz : wz.heap.size = wr.heap.size + 1 := by rw [hwz]; simp
        rw [← hwz]
        clear hwz
        have mv : ∀ b o, b < wr.heap.size → wr.cell? ⟨b, o, none⟩ = wz.cell? ⟨b, o, none⟩ := fun b o h => (HBZ.out.cell (p := ⟨b, o, none⟩) h).symm
        rw [mv _ _ hbol] at g0 g1' g2 g3 g4 g5
        rw [mv _ _ (by omega)] at t5
        clear t0 t1 t2 t3 t4 mv r0 r1 r2 r3 r4
        go_cut [10, 11] from 25 to 33 (fun s10 s11 wx => MendKid wz x nx s10 s11 wx)
        case first =>
          obtain ⟨k0, k1, k2, k3, k4⟩ := HKB.out.cells
          have hn0 : w.heap.size < wz.heap.size := by omega
          have hn1 : bo < wz.heap.size := by omega
          have hn2 : wr.heap.size < wz.heap.size := by omega
          have hS : ∀ X : World, Below wz.heap.size wz X → X.cell? ⟨w.heap.size, 5, none⟩ = some (.slice (some ⟨bo, off, none⟩) no c5) ∧ X.cell? ⟨bo, off, none⟩ = some (.int .i64 q.kind) ∧ X.cell? ⟨bo, off + 1, none⟩ = some (.int .i64 q.lo) ∧ X.cell? ⟨bo, off + 2, none⟩ = some (.int .i64 q.hi) ∧ X.cell? ⟨bo, off + 3, none⟩ = some (.slice X3 q.names.length x3) ∧ X.cell? ⟨bo, off + 4, none⟩ = some (.slice X4 q.fields.length x4) ∧ X.cell? ⟨bo, off + 5, none⟩ = some (.slice X5 q.of.length x5) ∧ X.cell? ⟨wr.heap.size, 0, none⟩ = some (.int .i64 y.kind) ∧ X.cell? ⟨wr.heap.size, 1, none⟩ = some (.int .i64 y.num) ∧ X.cell? ⟨wr.heap.size, 2, none⟩ = some (.string y.str) ∧ X.cell? ⟨wr.heap.size, 3, none⟩ = some (.slice Y3 y.keys.length y3) ∧ X.cell? ⟨wr.heap.size, 4, none⟩ = some (.slice Y4 y.kids.length y4) := fun X h => by
            have hX : ∀ b o, b < wz.heap.size → X.cell? ⟨b, o, none⟩ = wz.cell? ⟨b, o, none⟩ := fun b o hb => h.cell (p := ⟨b, o, none⟩) hb
            exact ⟨(hX _ _ hn0).trans t5, (hX _ _ hn1).trans g0, (hX _ _ hn1).trans g1', (hX _ _ hn1).trans g2, (hX _ _ hn1).trans g3, (hX _ _ hn1).trans g4, (hX _ _ hn1).trans g5, (hX _ _ hn2).trans k0, (hX _ _ hn2).trans k1, (hX _ _ hn2).trans k2, (hX _ _ hn2).trans k3, (hX _ _ hn2).trans k4⟩
          have HS := Lib.hid hS
          have HZZ := Lib.hid (HZI.out.keep (Nat.le_refl B) fun q hq => HBZ.out.cell (p := q) (by omega))
          have HYZ := Lib.hid (HYI.out.keep (Nat.le_refl B) fun q hq => HBZ.out.cell (p := q) (by omega))
          have hBz : B ≤ wz.heap.size := by omega
          have hzq : wz.heap.size ≤ (wz.alloc (.cells #[.int .i64 0, .int .i64 0, .string ⟨#[]⟩, .slice none 0 0, .slice none 0 0] 29)).drew.heap.size := by show _ ≤ (World.alloc _ _).heap.size; simp
          have hca := HIH.out q y _ _ wz.drew B hdep HRX.out HFX.out HFY.out HPY.out HSY.out hBz ⟨_, _, _, _, _, _, rfl, TypeIn.keep (w := wz) (w' := wz.drew) (Nat.le_refl _) (fun _ _ => rfl) HZZ.out⟩ ⟨_, _, _, _, _, rfl, DocIn.keep (w := wz) (w' := wz.drew) (Nat.le_refl _) (fun _ _ => rfl) HYZ.out⟩
          have hcb := HIH.out q y _ _ (wz.alloc (.cells #[.int .i64 0, .int .i64 0, .string ⟨#[]⟩, .slice none 0 0, .slice none 0 0] 29)).drew B hdep HRX.out HFX.out HFY.out HPY.out HSY.out (by omega) ⟨_, _, _, _, _, _, rfl, TypeIn.keep (w := wz) (w' := (wz.alloc (.cells #[.int .i64 0, .int .i64 0, .string ⟨#[]⟩, .slice none 0 0, .slice none 0 0] 29)).drew) (Nat.le_refl _) (fun p hp => World.cell?_alloc_lt wz _ p (by omega)) HZZ.out⟩ ⟨_, _, _, _, _, rfl, DocIn.keep (w := wz) (w' := (wz.alloc (.cells #[.int .i64 0, .int .i64 0, .string ⟨#[]⟩, .slice none 0 0, .slice none 0 0] 29)).drew) (Nat.le_refl _) (fun p hp => World.cell?_alloc_lt wz _ p (by omega)) HYZ.out⟩
          rw [hmx] at hca hcb
          have HCA := Lib.hid hca; have HCB := Lib.hid hcb
          have hzs : wz.heap.size = wr.heap.size + 1 := hzz
          clear hS hca hcb hmx t5 g0 g1' g2 g3 g4 g5 k0 k1 k2 k3 k4
          go_region_held3 (fun w' => w'.cell? ⟨w.heap.size, 5, none⟩ = some (.slice (some ⟨bo, off, none⟩) no c5) ∧ w'.cell? ⟨bo, off, none⟩ = some (.int .i64 q.kind) ∧ w'.cell? ⟨bo, off + 1, none⟩ = some (.int .i64 q.lo) ∧ w'.cell? ⟨bo, off + 2, none⟩ = some (.int .i64 q.hi) ∧ w'.cell? ⟨bo, off + 3, none⟩ = some (.slice X3 q.names.length x3) ∧ w'.cell? ⟨bo, off + 4, none⟩ = some (.slice X4 q.fields.length x4) ∧ w'.cell? ⟨bo, off + 5, none⟩ = some (.slice X5 q.of.length x5) ∧ w'.cell? ⟨wr.heap.size, 0, none⟩ = some (.int .i64 y.kind) ∧ w'.cell? ⟨wr.heap.size, 1, none⟩ = some (.int .i64 y.num) ∧ w'.cell? ⟨wr.heap.size, 2, none⟩ = some (.string y.str) ∧ w'.cell? ⟨wr.heap.size, 3, none⟩ = some (.slice Y3 y.keys.length y3) ∧ w'.cell? ⟨wr.heap.size, 4, none⟩ = some (.slice Y4 y.kids.length y4))
            ((with_reducible refine HS.out _ ?_; repeat (first | with_reducible exact Below.refl _ _ | with_reducible exact hB5 | with_reducible refine Below.drew ?_ | (with_reducible refine Below.alloc ?_ ?_ _; rotate_left; (focus (first | omega | (simp; done) | (simp; omega)))) | (with_reducible refine Below.setCell ?_ ?_ _; rotate_left; (focus (first | (show wz.heap.size ≤ wz.heap.size; omega) | (show wz.heap.size ≤ w5.heap.size; omega) | (simp; omega)))))))
            ((first
              | (go_at_call 51
                 refine HCA.out.mono ?_
                 rintro e w5 ⟨y0, y1, y2, y3', y4', G, rfl, hG, hGn, hb5⟩
                 obtain ⟨A7, c7, A8, c8, rfl, rfl, rfl, rfl, rfl⟩ := hG.doc.forms
                 have hB5 : Below wz.heap.size wz w5 := (Below.refl wz.heap.size wz).drew.trans hb5
                 obtain ⟨hc5, hf5⟩ := below_add hb5; have hz5 := hB5.size
                 have hG' : OwnIn w5 wz.heap.size x (.int .i64 x.kind) (.int .i64 x.num) (.string x.str) (.slice A7 x.keys.length c7) (.slice A8 x.kids.length c8) G := hG
                 have HG := Lib.hid hG'
                 clear hG hG')
              | (go_at_call 51
                 refine HCB.out.mono ?_
                 rintro e w5 ⟨y0, y1, y2, y3', y4', G, rfl, hG, hGn, hb5⟩
                 obtain ⟨A7, c7, A8, c8, rfl, rfl, rfl, rfl, rfl⟩ := hG.doc.forms
                 have hB5 : Below wz.heap.size wz w5 := (((Below.refl wz.heap.size wz).alloc (Nat.le_refl _) (.cells #[.int .i64 0, .int .i64 0, .string ⟨#[]⟩, .slice none 0 0, .slice none 0 0] 29)).drew).trans (hb5.mono hzq)
                 obtain ⟨hc5, hf5⟩ := below_add hb5; have hz5 := hB5.size
                 have HG := Lib.hid hG
                 clear hG)))
          all_goals (go_wp2_with fail)
          all_goals go_meet
          all_goals first
            | with_reducible exact MendKid.late hB5 HG.out hGn
            | with_reducible exact MendKid.early hb5 HG.out hGn hzs
            | with_reducible exact MendKid.early hb5 HG.out hGn rfl
        case rest =>
          obtain ⟨kb, A7, c7, A8, c8, G, rfl, rfl, hkb, hkbx, hG, hGN, hbx9⟩ := hcut
          generalize wc = w10 at *
          have HG := Lib.hid hG
          have HB9 := Lib.hid (HBZ.out.trans (hbx9.mono (by omega)))
          have HST9 := Lib.hid (HST.out.past HB9.out)
          have hl4 := HST.out.o4.lt; have hlk := HST.out.ok.lt
          have hzx := hbx9.size
          have hbxl : box < w10.heap.size := by omega
          obtain ⟨q0, q1, q2, q3, q4⟩ := HST9.out.bx.cells
          have q5 := HST9.out.bx.frozen
          obtain ⟨n0, n1, n2, n3, n4⟩ := hkbx.cells
          have ag4 : v4.ownBlock ≠ some box := fun h => by have := (hl4 _ h).1; omega
          have hll : (((d.kids.take k).map fun y => q.mend y).map fun z => z.1).length ≤ 10000 := by have := List.length_take_le k d.kids; simp only [List.length_map]; omega
          have HGD : Hid (∀ b ∈ G, w3.heap.size ≤ b ∧ b ∉ blk v4 ∧ b ∉ F) := Lib.hid (fun b hb => by
            have h1 := HG.out.lt b hb
            exact ⟨by omega, fun h => by have := (hl4 _ (blk_mem.1 h)).2; omega, fun h => by have := (hlk _ h).2; omega⟩)
          have HS2 : Hid (((d.kids.take (k + 1)).map fun y => q.mend y).map (fun z => z.1) = ((d.kids.take k).map fun y => q.mend y).map (fun z => z.1) ++ [x]) := Lib.hid (by rw [HSUC.out, List.map_append]; rfl)
          have HS3 : Hid ((((d.kids.take (k + 1)).map fun y => q.mend y).map fun z => z.2).sum = (((d.kids.take k).map fun y => q.mend y).map fun z => z.2).sum + nx) := Lib.hid (by rw [HSUC.out, List.map_append, List.sum_append]; simp)
          have HCSL : Hid (w10.ownsRow w3.heap.size 29 5 v4 (((d.kids.take k).map fun y => q.mend y).map fun z => z.1).length cs) := Lib.hid HST9.out.o4
          obtain ⟨LS, hls⟩ : ∃ LS, ((d.kids.take k).map fun y => q.mend y).map (fun z => z.1) = LS := ⟨_, rfl⟩
          rw [hls] at HST9 HCSL HS2 hll
          rw [HSM.out] at HS3
          obtain ⟨j0, hj9, hy0, hy1, hy2⟩ := info_parts infoD
          have HJ := Lib.hid hj9; have HJ0 := Lib.hid hy0; have HJ1 := Lib.hid hy1; have HJ2 := Lib.hid hy2
          have hw3 : w3.heap.size ≤ w10.heap.size := by omega
          clear hj9 hy0 hy1 hy2 hls hG hkbx hbx9 hmx t5 g0 g1' g2 g3 g4 g5
          go_wp2_with (at_builtin; refine wpList_append_lies _ rfl _ _ 27 rfl w3.heap.size 29 j0 (.agg #[.int .i64 0, .int .i64 0, .string ByteArray.empty, .slice none 0 0, .slice none 0 0]) 5 80 Tryz.underlying27 HJ.out HJ0.out HJ1.out HJ2.out (by rfl) (by omega) v4 LS.length cs rfl (HCSL.out.alloc _) ⟨w10.heap.size, 0, none⟩ 1 _ [.int .i64 x.kind, .int .i64 x.num, .string x.str, .slice A7 x.keys.length c7, .slice A8 x.kids.length c8] rfl rfl (World.news_of_block (cs := #[.int .i64 x.kind, .int .i64 x.num, .string x.str, .slice A7 x.keys.length c7, .slice A8 x.kids.length c8]) (t := 29) (fr := (0, 0)) (heap_alloc_new w10 _)) (by simp [Value.oneCell']) (by omega) (by unfold maxLen; omega) (by omega) (by simp; omega) (w10.heap.size + 1) (by simp) ?_; intro g8 cap8 w8' hown8 hgrow8 hat8 hlt8; have mf8 : w8'.frozen? ⟨box, 4, none⟩ = false := ((hgrow8.frozen_far ⟨box, 4, none⟩ (by simp; omega) (Ne.symm ag4)).trans ((frozen_alloc_lt hbxl _ 4).trans (q5 4))); have m48 := (hgrow8.cell_far ⟨box, 4, none⟩ (by simp; omega) (Ne.symm ag4)).trans ((cell_alloc_lt' hbxl _ 4).trans q4))
          refine ⟨⟨k + 1, _, _, _, by omega, by rw [HS3.out]; go_num, by go_num, by rw [HS2.out]; exact HST9.out.kid (by omega) HG.out hGN HGD.out (by omega) hown8 _ hgrow8 hat8⟩, by simp [intOf]; omega⟩
      · have hkl : k = d.kids.length := by omega
        subst hkl
        have hst2 := HST.out
        rw [List.take_length] at hst2
        have HST2 := Lib.hid hst2
        have hsme : ((d.kids.map fun y => q.mend y).map fun z => z.2).sum = SM := by have h := HSM.out; rw [List.take_length] at h; exact h
        have HSME := Lib.hid hsme
        clear hsme
        have HRR := Lib.hid (HR.out.same (HST.out.t.block (w.heap.size + 1 + 1) (by omega) (by simp) (by omega) |>.trans (HBW.out.block _ (by omega))))
        clear hst2
        obtain ⟨q0, q1, q2, q3, q4⟩ := HST2.out.bx.cells
        obtain ⟨r0, r1, r2, r3, r4⟩ := HRR.out.cells
        have r5 := HRR.out.frozen
        obtain ⟨A7, c7, rfl⟩ := ownsRow_slice HST2.out.o4
        obtain ⟨LS, hls⟩ : ∃ LS, (d.kids.map fun y => q.mend y).map (fun z => z.1) = LS := ⟨_, rfl⟩
        rw [hls] at HST2 q4
        have HLS := Lib.hid hls
        clear hls
        go_wp2_with fail
        have hfin := ((((HRR.out.set0 (.int .i64 d.kind)).set1 (.int .i64 0)).set2 (.string ⟨#[]⟩)).set3 (.slice K3 d.keys.length k3c)).set4 (.slice A7 LS.length c7)
        clear q0 q1 q2 q3 q4 r0 r1 r2 r3 r4 r5
        refine ret_cell5_2 rfl rfl rfl hfin.load rfl ?_
        have hmd := docK_out (w := w) HST2.out rfl (r := w.heap.size + 1 + 1) (by omega) (by omega) (by omega) (by omega) (by omega) (ST3.out.bl)
        rw [HLS.out, HSME.out]
        exact hmd.two _
end Go.Proofs.YteecdmceleanjaaGreatDoor
