/-
  
-/
import Derived.Test.YtdcempejdggkpaaGreatDoorB21
namespace Go.Proofs.YtdcempejdggkpaaGreatDoor
open Go.RowKit

set_option maxHeartbeats 4000000 in
set_option maxRecDepth 100000 in
theorem set_no {x y : D} {u0 u1 u2 u3 u4 y0 y1 y2 y3 y4 : Value} {s : ByteArray} {w : World} {base b off : Nat} {G FY : List Nat} (hf : x.Fit) (hs : Short s) (hg : Glob w) (hc : Cells5 w b off u0 u1 u2 u3 u4) (hx : OwnIn w base x u0 u1 u2 u3 u4 G)
    (hy : OwnIn w base y y0 y1 y2 y3 y4 FY) (hst : findI x s = -1) (hxk : keyOfB x.kind s = false) (hno : ¬ (x.kind = 3 ∧ placeI s = x.kids.length)) :
    Calls Tryz.prog 31 #[.pointer (some ⟨b, off, none⟩), .string s, .agg #[y0, y1, y2, y3, y4]] w fun e w' => e = .returned (.bool false) ∧ Below w.heap.size w w' := by
  have HX := Lib.hid hx; have HF := Lib.hid hf; have HS := Lib.hid hs; have HG := Lib.hid hg; have HFI := Lib.hid hst
  have hbl := hc.lt
  obtain ⟨A3, c3, A4, c4, rfl, rfl, rfl, rfl, rfl⟩ := hy.doc.forms
  obtain ⟨X3, d3, X4, d4, rfl, rfl, rfl, rfl, rfl⟩ := hx.doc.forms
  obtain ⟨p0, p1, p2, p3, p4⟩ := hc
  have HXK := Lib.hid hxk
  clear hx hf hs hg hst hxk hy
  by_cases hk : x.kind = 3
  · have hk3 : (x.kind == 3) = true := by simp [hk]
    have hpl : (placeI s == (x.kids.length : Int)) = false := by
      rw [beq_eq_false_iff_ne]; exact fun h => hno ⟨hk, h⟩
    clear hno hk
    go_enter Tryz.func31, Tryz.ntmps31
    go_wp2_with fail
    refine (find_any (B := w.heap.size) HF.out HS.out (HG.out.alloc _) (by simp) (HX.out.doc.keep (Nat.le_refl _) fun p hp => World.cell?_alloc_lt w _ p hp)).mono ?_
    rintro e w1 ⟨rfl, hb1⟩
    rw [HFI.out]
    have hz1 := hb1.size
    simp only [World.size_alloc] at hz1
    have k1 : ∀ o, w1.cell? ⟨b, o, none⟩ = w.cell? ⟨b, o, none⟩ := fun o => (hb1.cell (p := ⟨b, o, none⟩) (by simp; omega)).trans (World.cell?_alloc_lt w _ ⟨b, o, none⟩ hbl)
    rw [← k1] at p0 p1 p2 p3 p4
    clear k1
    go_wp2_with fail
    refine (keyOf_any x.kind s w1 HS.out).mono ?_
    rintro e w2 ⟨rfl, rfl⟩
    rw [HXK.out]
    go_wp2_with fail
    have hgl1 : Glob w1 := (HG.out.alloc _).below hb1 (by have := HG.out.size; simp; omega)
    have HGL1 := Lib.hid hgl1; clear hgl1
    have HB1 := Lib.hid hb1; clear hb1
    go_region_held3 (fun w' => w'.cell? ⟨b, off, none⟩ = some (.int .i64 x.kind) ∧ w'.cell? ⟨b, off + 4, none⟩ = some (.slice X4 x.kids.length d4))
      (first | go_keep | (exact ⟨(hb2.cell (p := ⟨b, off, none⟩) (by simp; omega)).trans p0, (hb2.cell (p := ⟨b, off + 4, none⟩) (by simp; omega)).trans p4⟩))
      ((go_at_call 47; refine (place_any s _ HS.out (HGL1.out.below (Below.refl _ _).drew (by have := HGL1.out.size; omega))).mono ?_; rintro e w2 ⟨rfl, hb2⟩))
    go_wp2_with fail
    go_ret
    exact ⟨rfl, ((Below.refl _ _).alloc (Nat.le_refl _) _).trans ((HB1.out.mono (by simp)).trans (((Below.refl w1.heap.size w1).drew.trans hb2).mono (by omega)))⟩
  · have hk3 : (x.kind == 3) = false := by simp [hk]
    clear hno hk
    go_enter Tryz.func31, Tryz.ntmps31
    go_wp2_with fail
    refine (find_any (B := w.heap.size) HF.out HS.out (HG.out.alloc _) (by simp) (HX.out.doc.keep (Nat.le_refl _) fun p hp => World.cell?_alloc_lt w _ p hp)).mono ?_
    rintro e w1 ⟨rfl, hb1⟩
    rw [HFI.out]
    have hz1 := hb1.size
    simp only [World.size_alloc] at hz1
    have k1 : ∀ o, w1.cell? ⟨b, o, none⟩ = w.cell? ⟨b, o, none⟩ := fun o => (hb1.cell (p := ⟨b, o, none⟩) (by simp; omega)).trans (World.cell?_alloc_lt w _ ⟨b, o, none⟩ hbl)
    rw [← k1] at p0 p1 p2 p3 p4
    clear k1
    go_wp2_with fail
    refine (keyOf_any x.kind s w1 HS.out).mono ?_
    rintro e w2 ⟨rfl, rfl⟩
    rw [HXK.out]
    go_wp2_with fail
    have HB1 := Lib.hid hb1; clear hb1
    go_quiet (fail)
    go_wp2_with fail
    go_ret
    exact ⟨rfl, ((Below.refl _ _).alloc (Nat.le_refl _) _).trans ((HB1.out.mono (by simp)).trans ((below_drewN w1 _).mono (by omega)))⟩
end Go.Proofs.YtdcempejdggkpaaGreatDoor
