/-
  
-/
import Derived.Test.YtdcempejdggkpaaGreatDoorB19
import Derived.Deep.RegionLaw
import Derived.Deep.DrawnRows
import Derived.BigRegion
namespace Go.Proofs.YtdcempejdggkpaaGreatDoor
open Go.RowKit

theorem setCell_comm (w : World) (p q : Addr) (u v : Value) (hne : p.block ≠ q.block) : (w.setCell p u).setCell q v = (w.setCell q v).setCell p u := by
  have : ∀ (h : Array Obj) (f f' : Obj → Obj), (h.modify p.block f).modify q.block f' = (h.modify q.block f').modify p.block f := by
    intro h f f'
    apply Array.ext_getElem?
    intro i
    simp only [Array.getElem?_modify]
    by_cases h1 : p.block = i
    · by_cases h2 : q.block = i
      · exact absurd (h1.trans h2.symm) hne
      · simp [h1, h2]
    · by_cases h2 : q.block = i <;> simp [h1, h2]
  simp only [World.setCell, this]
theorem own_last5 {w : World} {base g cap n : Nat} {cs : List Value} {a0 a1 a2 a3 a4 : Value} (h : w.ownsRow base 27 5 (.slice (some ⟨g, 0, none⟩) (n + 1) cap) (n + 1) (cs ++ [a0, a1, a2, a3, a4])) (hl : cs.length = n * 5) : Cells5 w g (n * 5) a0 a1 a2 a3 a4 := by
  constructor <;> (rw [h.cellAt _ (by omega), List.getElem?_append_right (by omega)]; simp [hl])
theorem ne_of_at {v : Value} {g H b : Nat} (h : v.ownBlock = some g ∨ g = H) (ha : v.ownBlock ≠ some b) (hb : b < H) : b ≠ g := by
  rcases h with h | h
  · rintro rfl; exact ha h
  · omega
theorem push_fin {x y : D} {w w2 w3 : World} {base b off g cap d3 d4 c3 c4 : Nat} {X3 X4 A3 A4 : Option Addr} {G FY Fs : List Nat} {cs : List Value} (hblk : ∃ cur : Array Value, w.heap[b]? = some (.cells cur 27 (0, 0)))
    (hce : Cells5 w b off (.int .i64 x.kind) (.int .i64 x.num) (.string x.str) (.slice X3 x.keys.length d3) (.slice X4 x.kids.length d4)) (hn : G.Nodup) (hb : b ∉ G)
    (hy : OwnIn w base y (.int .i64 y.kind) (.int .i64 y.num) (.string y.str) (.slice A3 y.keys.length c3) (.slice A4 y.kids.length c4) FY) (hyn : FY.Nodup) (hdis : ∀ k ∈ FY, k ∉ G ∧ k ≠ b) (hbb : Below w.heap.size w w2)
    (hk3 : w.ownsRow base 9 1 (.slice X3 x.keys.length d3) x.keys.length (x.keys.map Value.string)) (hr4 : w.ownsRow base 27 5 (.slice X4 x.kids.length d4) x.kids.length cs) (hkd : OwnKids w base x.kids cs Fs)
    (hG : G = blk (.slice X3 x.keys.length d3) ++ (blk (.slice X4 x.kids.length d4) ++ Fs)) (ob : Obj) (hgrow : (w2.alloc ob).drew.grownBy w3 (Value.slice X4 x.kids.length d4).ownBlock)
    (hat : (Value.slice X4 x.kids.length d4).ownBlock = some g ∨ g = w2.heap.size + 1) {a0 a1 a2 a3 a4 : Value} (ho3 : w3.ownsRow base 27 5 (.slice (some ⟨g, 0, none⟩) (x.kids.length + 1) cap) (x.kids.length + 1) (cs ++ [a0, a1, a2, a3, a4])) :
    SetOk w base (x.snoc y) b off G FY ((((((w3.setCell ⟨g, x.kids.length * 5, none⟩ (.int .i64 y.kind)).setCell ⟨g, x.kids.length * 5 + 1, none⟩ (.int .i64 y.num)).setCell ⟨g, x.kids.length * 5 + 2, none⟩ (.string y.str)).setCell ⟨g, x.kids.length * 5 + 3, none⟩ (.slice A3 y.keys.length c3)).setCell
      ⟨g, x.kids.length * 5 + 4, none⟩ (.slice A4 y.kids.length c4)).setCell ⟨b, off + 4, none⟩ (.slice (some ⟨g, 0, none⟩) (x.kids.length + 1) cap)) := by
  have hbl := hce.lt
  have hz := hbb.size
  have hcl : cs.length = x.kids.length * 5 := hr4.1
  have lr4 := hr4.lt
  have lk3 := hk3.lt
  have lkd := hkd.lt
  have lY := hy.lt
  have ob4 : ∀ k, (Value.slice X4 x.kids.length d4).ownBlock = some k → k ∈ G := fun k hk => by rw [hG]; simp [blk_mem, hk]
  have hgb : b ≠ g := by
    rcases hat with h | h
    · exact fun e => hb (e ▸ ob4 g h)
    · omega
  have hgw : g ∈ G ∨ w.heap.size ≤ g := by
    rcases hat with h | h
    · exact .inl (ob4 g h)
    · exact .inr (by omega)
  have w3far : ∀ k, k < w.heap.size → (Value.slice X4 x.kids.length d4).ownBlock ≠ some k → w3.heap[k]? = w.heap[k]? := fun k hk hne =>
    (hgrow.block k (by show k < (w2.alloc ob).heap.size; rw [World.size_alloc]; omega) (fun e => hne e.symm)).trans ((Below.heap_alloc w2 ob k (by omega)).trans (hbb.block k hk))
  have chfar : ∀ k, k ≠ g → (((((w3.setCell ⟨g, x.kids.length * 5, none⟩ (.int .i64 y.kind)).setCell ⟨g, x.kids.length * 5 + 1, none⟩ (.int .i64 y.num)).setCell ⟨g, x.kids.length * 5 + 2, none⟩ (.string y.str)).setCell ⟨g, x.kids.length * 5 + 3, none⟩ (.slice A3 y.keys.length c3)).setCell
      ⟨g, x.kids.length * 5 + 4, none⟩ (.slice A4 y.kids.length c4)).heap[k]? = w3.heap[k]? := fun k hk => by
    rw [Below.heap_setCell _ _ _ k hk, Below.heap_setCell _ _ _ k hk, Below.heap_setCell _ _ _ k hk, Below.heap_setCell _ _ _ k hk, Below.heap_setCell _ _ _ k hk]
  have hbX : (Value.slice X4 x.kids.length d4).ownBlock ≠ some b := fun h => hb (ob4 b h)
  have hl5 := own_last5 ho3 hcl
  have hgc : ∃ cur : Array Value, w3.heap[g]? = some (.cells cur 27 (0, 0)) := by
    rcases ho3.2 with ⟨e, _⟩ | ⟨g', cap', cur0, e, _, hh, _⟩
    · cases e
    · injection e with e _ _
      injection e with e
      injection e with e
      subst e
      exact ⟨cur0, hh⟩
  obtain ⟨curg, hcurg⟩ := hgc
  have hu2 := (((((UpdBlk.refl (x.kids.length * 5) hcurg).setCell (o := x.kids.length * 5) (by omega) (by omega) (.int .i64 y.kind)).setCell (o := x.kids.length * 5 + 1) (by omega) (by omega) (.int .i64 y.num)).setCell (o := x.kids.length * 5 + 2) (by omega) (by omega) (.string y.str)).setCell
    (o := x.kids.length * 5 + 3) (by omega) (by omega) (.slice A3 y.keys.length c3)).setCell (o := x.kids.length * 5 + 4) (by omega) (by omega) (.slice A4 y.kids.length c4)
  have hrow := ownsRow_upd (c2 := []) ho3 hcl hu2 (hl5.setAll (.int .i64 y.kind) (.int .i64 y.num) (.string y.str) (.slice A3 y.keys.length c3) (.slice A4 y.kids.length c4))
  have h0 : Turned w w3 G b := ⟨hgrow.os.trans hbb.os, hgrow.tape.trans hbb.tape, hgrow.output.trans hbb.output, Nat.le_trans hz (Nat.le_trans (by show w2.heap.size ≤ (w2.alloc ob).heap.size; rw [World.size_alloc]; omega) hgrow.size), fun k hk hkG _ => w3far k hk fun h => hkG (ob4 k h)⟩
  have hgw' : g ∈ G ∨ g = b ∨ w.heap.size ≤ g := hgw.elim .inl fun h => .inr (.inr h)
  have ht := (((((h0.setCell (p := ⟨g, x.kids.length * 5, none⟩) hgw' (.int .i64 y.kind)).setCell (p := ⟨g, x.kids.length * 5 + 1, none⟩) hgw' (.int .i64 y.num)).setCell (p := ⟨g, x.kids.length * 5 + 2, none⟩) hgw' (.string y.str)).setCell (p := ⟨g, x.kids.length * 5 + 3, none⟩) hgw' (.slice A3 y.keys.length c3)).setCell
    (p := ⟨g, x.kids.length * 5 + 4, none⟩) hgw' (.slice A4 y.kids.length c4)).setCell (p := ⟨b, off + 4, none⟩) (.inr (.inl rfl)) (.slice (some ⟨g, 0, none⟩) (x.kids.length + 1) cap)
  generalize hW : (((((w3.setCell ⟨g, x.kids.length * 5, none⟩ (.int .i64 y.kind)).setCell ⟨g, x.kids.length * 5 + 1, none⟩ (.int .i64 y.num)).setCell ⟨g, x.kids.length * 5 + 2, none⟩ (.string y.str)).setCell ⟨g, x.kids.length * 5 + 3, none⟩ (.slice A3 y.keys.length c3)).setCell
      ⟨g, x.kids.length * 5 + 4, none⟩ (.slice A4 y.kids.length c4)) = W at chfar hrow hu2 ht ⊢
  clear hW
  have hWb : W.heap[b]? = w.heap[b]? := (chfar b hgb).trans (w3far b hbl hbX)
  obtain ⟨curb, hcurb⟩ := hblk
  have hfar : ∀ k, k < w.heap.size → k ≠ g → k ≠ b → (Value.slice X4 x.kids.length d4).ownBlock ≠ some k → (W.setCell ⟨b, off + 4, none⟩ (.slice (some ⟨g, 0, none⟩) (x.kids.length + 1) cap)).heap[k]? = w.heap[k]? := fun k h1 h2 h3 h4 =>
    (Below.heap_setCell W _ _ k h3).trans ((chfar k h2).trans (w3far k h1 h4))
  have hWc : Cells5 W b off (.int .i64 x.kind) (.int .i64 x.num) (.string x.str) (.slice X3 x.keys.length d3) (.slice X4 x.kids.length d4) := hce.keep fun o => World.cell?_of_block (a := ⟨b, o, none⟩) hWb
  rw [hG] at hn hb hdis
  have memG : ∀ k, k ∈ blk (.slice X3 x.keys.length d3) ++ (blk (.slice X4 x.kids.length d4) ++ Fs) ↔ k ∈ blk (.slice X3 x.keys.length d3) ∨ k ∈ blk (.slice X4 x.kids.length d4) ∨ k ∈ Fs := fun k => by simp [List.mem_append]
  simp only [List.nodup_append, List.mem_append, ne_eq] at hn
  obtain ⟨n3, ⟨_, nF, n4F⟩, n3d⟩ := hn
  have hg3 : g ∉ blk (.slice X3 x.keys.length d3) := fun h => by
    rcases hat with h' | h'
    · exact n3d g h g (.inl (blk_mem.2 h')) rfl
    · have := lk3 g (blk_mem.1 h); omega
  have hgF : g ∉ Fs := fun h => by
    rcases hat with h' | h'
    · exact n4F g (blk_mem.2 h') g h rfl
    · have := lkd g h; omega
  have hgY : g ∉ FY := fun h => by
    rcases hat with h' | h'
    · exact (hdis g h).1 ((memG g).2 (.inr (.inl (blk_mem.2 h'))))
    · have := lY g h; omega
  have c4' : ∀ o, o ≠ off + 4 → (W.setCell ⟨b, off + 4, none⟩ (.slice (some ⟨g, 0, none⟩) (x.kids.length + 1) cap)).cell? ⟨b, o, none⟩ = W.cell? ⟨b, o, none⟩ := fun o ho => World.cell?_setCell_other _ _ _ _ (by intro e; injection e with _ e _; exact ho e.symm)
  refine ⟨.int .i64 x.kind, .int .i64 x.num, .string x.str, .slice X3 x.keys.length d3, .slice (some ⟨g, 0, none⟩) (x.kids.length + 1) cap, blk (.slice X3 x.keys.length d3) ++ ([g] ++ (Fs ++ FY)),
    ((UpdBlk.refl off hcurb).same hWb).setCell (by omega) (by omega) _, ⟨(c4' _ (by omega)).trans hWc.c0, (c4' _ (by omega)).trans hWc.c1, (c4' _ (by omega)).trans hWc.c2, (c4' _ (by omega)).trans hWc.c3, ?_⟩, ?_, ?_, ?_, ?_, ?_⟩
  · exact World.cell?_setCell_same _ _ _ hWc.c4
  · have hlen : (x.snoc y).kids.length = x.kids.length + 1 := by simp [D.snoc, D.kids]
    have := OwnIn.make (d := x.snoc y) (w := W.setCell ⟨b, off + 4, none⟩ (.slice (some ⟨g, 0, none⟩) (x.kids.length + 1) cap)) (base := base) (v3 := .slice X3 x.keys.length d3) (v4 := .slice (some ⟨g, 0, none⟩) (x.kids.length + 1) cap)
      (cs := cs ++ [.int .i64 y.kind, .int .i64 y.num, .string y.str, .slice A3 y.keys.length c3, .slice A4 y.kids.length c4]) (Fs := Fs ++ FY)
      (ownsRow_same hk3 fun k hk => hfar k (lk3 k (blk_mem.1 hk)).2 (fun h => hg3 (h ▸ hk)) (fun h => hb ((memG b).2 (.inl (h ▸ hk)))) (fun h => n3d k hk k (.inl (blk_mem.2 h)) rfl))
      (by rw [hlen]; exact ownsRow_same hrow fun k hk => Below.heap_setCell W _ _ k (by
            have : k = g := by simpa [blk, Value.ownBlock] using hk
            rw [this]; exact fun h => hgb h.symm))
      (by
        show OwnKids _ _ (x.kids ++ [y]) _ _
        exact OwnKids.push (hy.same (Nat.le_refl _) fun k hk => hfar k (lY k hk).2 (fun h => hgY (h ▸ hk)) (hdis k hk).2 (fun h => (hdis k hk).1 ((memG k).2 (.inr (.inl (blk_mem.2 h)))))) (hkd.same (Nat.le_refl _) fun k hk => hfar k (lkd k hk).2 (fun h => hgF (h ▸ hk)) (fun h => hb ((memG b).2 (.inr (.inr (h ▸ hk))))) (fun h => n4F k (blk_mem.2 h) k hk rfl)))
    exact this
  · simp only [List.nodup_append, List.nodup_cons, List.mem_append, List.mem_cons, List.not_mem_nil, or_false, ne_eq, List.nodup_nil, not_false_eq_true, true_and]
    refine ⟨n3, ⟨⟨nF, hyn, fun a ha c hc hac => (hdis c hc).1 ((memG c).2 (.inr (.inr (hac ▸ ha))))⟩, fun a ha c hc hac => ?_⟩, fun a ha c hc hac => ?_⟩
    · subst hac; subst ha
      rcases hc with h | h
      · exact hgF h
      · exact hgY h
    · subst hac
      rcases hc with h | h | h
      · exact hg3 (h ▸ ha)
      · exact n3d a ha a (.inr h) rfl
      · exact (hdis a h).1 ((memG a).2 (.inl ha))
  · intro hm
    simp only [List.mem_append, List.mem_cons, List.not_mem_nil, or_false] at hm
    rcases hm with h | h | h | h
    · exact hb ((memG b).2 (.inl h))
    · exact hgb h
    · exact hb ((memG b).2 (.inr (.inr h)))
    · exact (hdis b h).2 rfl
  · intro k hk
    simp only [List.mem_append, List.mem_cons, List.not_mem_nil, or_false] at hk
    rw [hG, memG]
    rcases hk with h | h | h | h
    · exact .inl (.inl h)
    · subst h
      rcases hat with h' | h'
      · exact .inl (.inr (.inl (blk_mem.2 h')))
      · exact .inr (.inr (by omega))
    · exact .inl (.inr (.inr h))
    · exact .inr (.inl h)
  · exact ht
end Go.Proofs.YtdcempejdggkpaaGreatDoor
