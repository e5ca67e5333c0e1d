/-
  TextPrints: texts of documents, of bytes and of numbers are what the document says.
-/
import Derived.Test.YtgklnafliaplkaaGreatDoorCRPrint
import Derived.Test.YtgklnafliaplkaaGreatDoorCRNum
import Derived.Test.YtgklnafliaplkaaGreatDoorCRUnq
import Derived.BigQuiet
import Derived.Deep.QuietTactic
namespace Go.Proofs.YtgklnafliaplkaaGreatDoor
open Go.RowKit

def unqB (o : Option (List UInt8)) : ByteArray := match o with | some v => ⟨v.toArray⟩ | none => ⟨#[]⟩
theorem unqS_eq (o : Option (List UInt8)) : unqS o = .string (unqB o) := by cases o <;> rfl
def numB_ (o : Option Int) : Int := match o with | some v => v | none => 0
theorem numS_eq (o : Option Int) : numS o = .int .i64 (numB_ o) := by cases o <;> rfl
set_option maxHeartbeats 8000000 in
set_option maxRecDepth 100000 in
theorem tprints_law {d : D} {v0 v1 v2 v3 v4 : Value} {w : World} (s : ByteArray) (hn : d.Nums) (hd : DocIn w w.heap.size d v0 v1 v2 v3 v4) (hg : TG w) : Calls Tryz.prog 3 #[.agg #[v0, v1, v2, v3, v4], .string s] w fun e w' => e = .returned (.bool true) ∧ Below w.heap.size w w' := by
  obtain ⟨A3, c3, A4, c4, rfl, rfl, rfl, rfl, rfl⟩ := hd.forms
  have hb0 : Below w.heap.size w (w.alloc (.cells #[.int .i64 d.kind, .int .i64 d.num, .string d.str, .slice A3 d.keys.length c3, .slice A4 d.kids.length c4] 25)) := (Below.refl _ _).alloc (Nat.le_refl _) _
  have H0 := Lib.hid (HoldD.new hd)
  have HB0 := Lib.hid hb0; have HG0 := Lib.hid (hg.next hb0)
  have HN := Lib.hid hn
  clear hd hg hn hb0
  go_enter Tryz.func3, Tryz.ntmps3
  go_wp2_with fail
  refine (tx_small HG0.out).mono ?_
  rintro e w1 ⟨rfl, hb⟩
  have H1 := Lib.hid (H0.out.next hb); have HG1 := Lib.hid (HG0.out.next hb); have HB1 := Lib.hid (HB0.out.trans (hb.mono HB0.out.size))
  clear hb H0 HG0 HB0
  obtain ⟨f0, f1, f2, f3, f4⟩ := H1.out.box.cells
  go_wp2_with fail
  refine (few_v (Nat.le_refl _) H1.out.v).mono ?_
  rintro e w2 ⟨rfl, hb⟩
  have H2 := Lib.hid (H1.out.next hb); have HG2 := Lib.hid (HG1.out.next hb); have HB2 := Lib.hid (HB1.out.trans (hb.mono HB1.out.size))
  clear hb H1 HG1 HB1 f0 f1 f2 f3 f4
  cases hfew : fewB d with
  | false =>
    clear hfew
    go_wp2_with fail
    go_ret
    exact ⟨rfl, HB2.out⟩
  | true =>
    have HFEW := Lib.hid hfew
    clear hfew
    by_cases hsz : 1000 < s.size
    · have g1 : decide ((1000 : Int) < (s.size : Int)) = true := by simp; omega
      go_wp2_with fail
      go_ret
      exact ⟨rfl, HB2.out⟩
    have g1 : decide ((1000 : Int) < (s.size : Int)) = false := by simp; omega
    have hs1 : s.size ≤ 1000 := by omega
    clear hsz
    obtain ⟨sv, hsv⟩ : ∃ sv, sv = unqB (unqP s.data.toList) := ⟨_, rfl⟩
    obtain ⟨sb, hsb⟩ : ∃ sb, sb = (unqP s.data.toList).isSome := ⟨_, rfl⟩
    obtain ⟨nv, hnv⟩ : ∃ nv, nv = numB_ (numP s.data.toList) := ⟨_, rfl⟩
    obtain ⟨nb, hnb⟩ : ∃ nb, nb = (numP s.data.toList).isSome := ⟨_, rfl⟩
    have HU := Lib.hid (fun (W : World) (hW : TG W) => Unquote_any (w := W) s (by omega) hW)
    have HRU := Lib.hid (fun (W : World) => runquote_any s W (by omega))
    have HM := Lib.hid (fun (W : World) (hW : TG W) => Number_any (w := W) s (by omega) hW)
    have HRM := Lib.hid (fun (W : World) => rnumber_any s W (by omega))
    simp only [unqS_eq, ← hsv, ← hsb] at HU HRU
    simp only [numS_eq, ← hnv, ← hnb] at HM HRM
    clear hsv hsb hnv hnb
    go_wp2_with fail
    refine (HU.out _ HG2.out).mono ?_
    rintro e w3 ⟨rfl, hb⟩
    have H3 := Lib.hid (H2.out.next hb); have HG3 := Lib.hid (HG2.out.next hb); have HB3 := Lib.hid (HB2.out.trans (hb.mono HB2.out.size))
    clear hb H2 HG2 HB2 HU
    go_wp2_with fail
    refine (HRU.out _).mono ?_
    rintro e w4 ⟨rfl, hb⟩
    have H4 := Lib.hid (H3.out.next hb); have HG4 := Lib.hid (HG3.out.next hb); have HB4 := Lib.hid (HB3.out.trans (hb.mono HB3.out.size))
    clear hb H3 HG3 HB3 HRU
    go_wp2_with fail
    refine (HM.out _ HG4.out).mono ?_
    rintro e w5 ⟨rfl, hb⟩
    have H5 := Lib.hid (H4.out.next hb); have HG5 := Lib.hid (HG4.out.next hb); have HB5 := Lib.hid (HB4.out.trans (hb.mono HB4.out.size))
    clear hb H4 HG4 HB4 HM
    go_wp2_with fail
    refine (HRM.out _).mono ?_
    rintro e w6 ⟨rfl, rfl⟩
    clear HRM
    obtain ⟨p, hp⟩ : ∃ p, p = printB d := ⟨_, rfl⟩
    obtain ⟨q, hq⟩ : ∃ q, q = (⟨(quoteL s.data.toList).toArray⟩ : ByteArray) := ⟨_, rfl⟩
    have hfit : FewP d 20 := by simpa [fewB] using HFEW.out
    have HP1 := Lib.hid (fun (W : World) (hW : Below w5.heap.size w5 W) => print_h HFEW.out HN.out (H5.out.next hW) (HG5.out.next hW))
    have HP2 := Lib.hid (fun (W : World) (hW : Below w5.heap.size w5 W) => rprints_any d.depth d _ _ _ _ _ W w.heap.size (Nat.le_refl _) hfit.fit HN.out hfit.size (Nat.le_of_lt (H5.out.next hW).box.lt) (H5.out.next hW).doc)
    have HQ1 := Lib.hid (fun (W : World) => Quote_any s W (by omega))
    have HQ2 := Lib.hid (fun (W : World) => rQuote_any s W (by omega))
    rw [← hp] at HP1 HP2
    rw [← hq] at HQ1 HQ2
    have e1 : (p.toList == p.toList) = true := by simp
    have e2 : (q.toList == q.toList) = true := by simp
    have e3 : (sv.toList == sv.toList) = true := by simp
    have e4 : (sb == sb) = true := by simp
    have e5 : (nv == nv) = true := by simp
    have e6 : (nb == nb) = true := by simp
    clear hp hq hfit
    go_wp2_with fail
    refine wp_region_quiet (C := fun w' => Below w5.heap.size w5 w') (by kernel_rfl) (by kernel_rfl) ((Below.refl _ _).drew) ?_
    dsimp only
    repeat (first
      | go_big_quiet_skip
      | (go_big_quiet_want; go_big_quiet_op; go_big_quiet_on)
      | (go_big_quiet_want; refine ⟨(.agg #[.int .i64 d.kind, .int .i64 d.num, .string d.str, .slice A3 d.keys.length c3, .slice A4 d.kids.length c4]), fun wq hq => ?_, ?_⟩
         · (obtain ⟨q0, q1, q2, q3, q4⟩ := (H5.out.next hq).box.cells; go_simp; done)
         (simp only [Act.put, List.setIfInBounds_toArray, List.set_cons_zero, List.set_cons_succ])
         go_big_quiet_on)
      | (go_big_quiet_want; go_big_quiet_op; apply Exists.intro; refine ⟨fun _ _ => rfl, ?_⟩; go_big_quiet_on)
      | (go_big_quiet_want; go_big_quiet_op; apply Exists.intro; refine ⟨fun wq hq => ?_, ?_⟩
         · (first
              | (go_at_call 13; exact (HP1.out _ hq).mono fun e w'' h => ⟨h.1, hq.trans (h.2.mono hq.size)⟩)
              | (go_at_call 14; exact (HP2.out _ hq).mono fun e w'' h => ⟨h.1, hq.trans (h.2.mono hq.size)⟩)
              | (go_at_call 15; exact (HQ1.out _).mono fun e w'' h => ⟨h.1, hq.trans (h.2.mono hq.size)⟩)
              | (go_at_call 16; exact (HQ2.out _).mono fun e w'' h => ⟨h.1, hq.trans (h.2.mono hq.size)⟩)
           )
         go_big_quiet_on))
    refine wpQuiet_nil ?_
    intro wq hq
    go_wp2_with fail
    go_ret
    exact ⟨rfl, HB5.out.trans (hq.mono HB5.out.size)⟩
end Go.Proofs.YtgklnafliaplkaaGreatDoor
