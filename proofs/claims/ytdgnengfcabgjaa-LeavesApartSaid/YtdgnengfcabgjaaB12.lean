/-
  leaves.copies: an iterator over a row of leaves, each of new memory.
-/
import Derived.Test.YtdgnengfcabgjaaB04
import Derived.Test.YtdgnengfcabgjaaB11
namespace Go.Proofs.Ytdgnengfcabgjaa
open Go.RowKit Go.Shelf
attribute [local go_sem] Oper.semAt_some

theorem copies_any (A : Option Addr) (n c : Nat) (w : World) : Calls Try.prog 44 #[.slice A n c] w fun e w' => e = .returned (.func (.func 69) #[] #[.pointer (some ⟨w.heap.size, 0, none⟩)]) ∧ w' = w.alloc (.cells #[.slice A n c] 26) := by
  go_enter Try.func44, Try.ntmps44
  go_wp2_with fail
  go_ret
  exact ⟨rfl, rfl⟩

theorem joined_one (p : List ByteArray) (v : Value) (B : Nat) (w : World) (hB : B ≤ w.heap.size) (hv : Strs w B v p) (hlen : p.length ≤ 10000) :
    Calls Try.prog 70 #[v, .slice none 0 0] w fun e w' => ∃ r, e = .returned r ∧ w'.ownsRow w.heap.size 9 1 r p.length (p.map Value.string) ∧ Below w.heap.size w w' := by
  refine (joined_any p [] v (.slice none 0 0) B w hB hv ⟨none, 0, rfl, Nat.le_refl _, fun h => by simp at h⟩ (by simp; omega)).mono ?_
  rintro e w' ⟨r, rfl, h1, h2⟩
  exact ⟨r, rfl, by simpa using h1, h2⟩
theorem made_leaf {wr W2 w3 w4 : World} {lf : Lf} {r u1 u2 u3 u4 u5 : Value} {F : List Nat} (hb2 : Below wr.heap.size wr W2) (h3 : w3.ownsRow W2.heap.size 9 1 r lf.path.length (lf.path.map Value.string)) (hb3 : Below W2.heap.size W2 w3)
    (h4 : OwnIn w4 w3.heap.size lf.doc u1 u2 u3 u4 u5 F) (hnd : F.Nodup) (hb4 : Below w3.heap.size w3 w4) : MkIn ⟨lf, r, u1, u2, u3, u4, u5, F, wr.heap.size, w4.heap.size⟩ w4 ∧ Below wr.heap.size wr w4 := by
  have s2 := hb2.size; have s3 := hb3.size; have s4 := hb4.size
  refine ⟨⟨?_, ?_, ?_, ?_⟩, hb2.trans ((hb3.mono s2).trans (hb4.mono (by omega)))⟩
  · exact ownsRow_base (ownsRow_same h3 fun k hk => hb4.block k (h3.lt k (blk_mem.1 hk)).2) s2
  · exact h4.same (by show wr.heap.size ≤ _; omega) fun _ _ => rfl
  · show (blk r ++ F).Nodup
    rw [List.nodup_append]
    exact ⟨blk_nodup _, hnd, fun a ha b hb e => by subst e; have := (h3.lt a (blk_mem.1 ha)).2; have := (h4.lt a hb).1; omega⟩
  · intro k hk
    show k < w4.heap.size
    rcases List.mem_append.1 hk with hk | hk
    · have := (h3.lt k (blk_mem.1 hk)).2; omega
    · exact (h4.lt k hk).2
theorem copies_map {xs : List Mk} {ls : List Lf} (h : xs.map (·.lf) = ls.take xs.length) (hlt : xs.length < ls.length) {x : Mk} (hx : x.lf = ls[xs.length]) : (xs ++ [x]).map (·.lf) = ls.take (xs ++ [x]).length := by
  rw [List.map_append, h, List.length_append, List.length_singleton, List.take_succ_eq_append_getElem hlt, List.map_singleton, hx]
theorem copies_step {m : Nat} {xs : List Mk} {x : Mk} {W wr w4 W' : World} (hM : Mks m xs wr) (hhi : ∀ y ∈ xs, y.hi ≤ wr.heap.size) (hB : Below m W wr) (hx : MkIn x w4) (hlo : x.lo = wr.heap.size) (hxh : x.hi = w4.heap.size) (hb : Below wr.heap.size wr w4) (hm : m ≤ wr.heap.size) (hk : Keeps RowO m w4 W') {ls : List Lf} (hmap : xs.map (·.lf) = ls.take xs.length) (hlt : xs.length < ls.length) (hxl : x.lf = ls[xs.length]) :
    (xs ++ [x]).map (·.lf) = ls.take (xs ++ [x]).length ∧ Mks m (xs ++ [x]) W' ∧ (∀ y ∈ xs ++ [x], y.hi ≤ W'.heap.size) ∧ Below m W W' := by
  have s1 := hb.size; have s2 := hk.size
  refine ⟨copies_map hmap hlt hxl, ((hM.below hb (Nat.le_refl _)).snoc hx (by omega) (fun y hy => by have := hhi y hy; omega)).keeps hk memO_rowO, fun y hy => ?_, hB.trans ((hb.mono hm).trans hk.below)⟩
  rcases List.mem_append.1 hy with hy | hy
  · have := hhi y hy; omega
  · simp only [List.mem_singleton] at hy; subst hy; omega
theorem lf_one {w : World} {B : Nat} {p : List ByteArray} {d : D} {v0 v1 v2 v3 v4 v5 : Value} (hp : Strs w B v0 p) (hd : DocIn w B d v1 v2 v3 v4 v5) : ∀ u ∈ [v0, v1, v2, v3, v4, v5], u.oneCell' = true := by
  intro u hu
  rcases List.mem_cons.1 hu with rfl | hu
  · obtain ⟨A, c, rfl, _⟩ := hp; rfl
  · exact oneCell_agg hd u hu

set_option maxRecDepth 100000 in
set_option maxHeartbeats 4000000 in
theorem copies_seq (ls : List Lf) (v : Value) (Bn m B : Nat) (w0 : World) (hm : m ≤ w0.heap.size) (hBm : B ≤ m) (hBn : w0.cell? ⟨Bn, 0, none⟩ = some v) (hBl : Bn < w0.heap.size) (hls : LvsIn w0 B v ls)
    (hlen : ls.length ≤ 100000) (hp : ∀ x ∈ ls, x.path.length ≤ 10000) (hf : ∀ x ∈ ls, x.doc.Fit) :
    SeqR Try.prog 69 #[.pointer (some ⟨Bn, 0, none⟩)] (fun x => #[.agg (Mk.enc x).toArray]) (fun _ => False) RowO m (fun x n W => MkR x n W ∧ x.lf ∈ ls) (fun xs W => xs.map (·.lf) = ls ∧ Mks m xs W) ls.length w0 := by
  intro l J W hW hJ hY h0
  have hBn2 : W.cell? ⟨Bn, 0, none⟩ = some v := (hW.cell (p := ⟨Bn, 0, none⟩) hBl).trans hBn
  have HLS := Lib.hid (hls.keep fun p hp => hW.cell (show p.block < w0.heap.size by omega) : LvsIn W B v ls)
  have hmW : m ≤ W.heap.size := Nat.le_trans hm hW.size
  obtain ⟨A, c, rfl, hlc, hcells⟩ := HLS.out
  have HC := Lib.hid hcells
  have HP := Lib.hid hp; have HF := Lib.hid hf; have HY := Lib.hid hY; have HJ := Lib.hid hJ
  clear hcells hls HLS hp hf hBn hBl hW hY hJ
  refine callsIn_of_wp Try.func69 rfl trivial ?_ rfl
  simp only [Try.ntmps69, List.size_toArray, List.length_cons, List.length_nil, Nat.reduceAdd, Nat.reduceSub, Array.replicate_succ, Array.replicate_zero, List.push_toArray, List.append_toArray, List.nil_append, List.cons_append]
  gi_wp2
  gi_loopw [7] (fun i wr => ∃ (xs : List Mk), i = .int .i64 xs.length ∧ xs.length ≤ ls.length ∧ Hid (xs.map (·.lf) = ls.take xs.length) ∧ Hid (J xs wr) ∧ Hid (Mks m xs wr) ∧ Hid (∀ x ∈ xs, x.hi ≤ wr.heap.size) ∧ Hid (Below m W wr)) (fun i _ => ls.length - (intOf i).toNat)
  case atStart => exact ⟨[], rfl, Nat.zero_le _, Lib.hid rfl, Lib.hid h0, Lib.hid ⟨by simp, by simp⟩, Lib.hid (by simp), Lib.hid (Below.refl _ _)⟩
  case round =>
    clear h0
    obtain ⟨xs, rfl, hle, HMAP, HJS, HM, HHI, HB⟩ := hrel
    by_cases hlt : xs.length < ls.length
    · obtain ⟨b, off, rfl, hb, hcx⟩ := HC.out (by omega)
      obtain ⟨v0, v1, v2, v3, v4, v5, c0, c1, c2, c3, c4, c5, hsp, hsd⟩ := hcx xs.length hlt
      clear hcx
      have hbm : b < m := by omega
      rw [← HB.out.cell (p := ⟨b, _, none⟩) hbm] at c0 c1 c2 c3 c4 c5
      have hlti : (xs.length : Int) < (ls.length : Int) := by omega
      have hone := lf_one hsp hsd
      gi_wp2
      have hb6 : Box6 _ _ _ _ _ _ _ _ := Box6.new wr (.slice none 0 0) (.int .i64 0) (.int .i64 0) (.string ⟨#[]⟩) (.slice none 0 0) (.slice none 0 0)
      obtain ⟨W2, b6, _, hbel, hrun⟩ := Box6.fill (P := Try.prog) hb6 v0 v1 v2 v3 v4 v5 hone (fun _ w' => Result.ok Next.skip w')
      rw [hrun]
      have hwr : W.heap.size ≤ wr.heap.size := HB.out.size
      have hb2 : Below wr.heap.size wr W2.drew := (((Below.refl _ wr).alloc (Nat.le_refl _) _).trans hbel).trans (below_drewN W2 1 |>.mono (by have := hbel.size; simp at this; omega))
      have hs2 : wr.heap.size < W2.heap.size := heap_lt b6
      have hbW : Below m W W2.drew := HB.out.trans (hb2.mono (by omega))
      have HJO := Lib.hid (joined_one (ls[xs.length]).path v0 B W2.drew (by show B ≤ W2.heap.size; omega) (hsp.keep fun p hp => hbW.cell (show p.block < m by omega)) (HP.out _ (List.getElem_mem hlt)))
      have hdv : DocV W B (ls[xs.length]).doc (.agg #[v1, v2, v3, v4, v5]) := ⟨v1, v2, v3, v4, v5, rfl, hsd⟩
      have hfit := HF.out _ (List.getElem_mem hlt)
      have HCO : Hid (∀ w3, Below W2.drew.heap.size W2.drew w3 → Calls Try.prog 56 #[.agg #[v1, v2, v3, v4, v5]] w3 (MadeDoc w3.heap.size w3 (ls[xs.length]).doc)) := Lib.hid fun w3 hb3 =>
        copy_v hfit (by have := hb3.size; show B ≤ w3.heap.size; have e : W2.drew.heap.size = W2.heap.size := rfl; omega) (hdv.below ((hbW.mono hBm).trans (hb3.mono (by show B ≤ W2.heap.size; omega))))
      obtain ⟨k0, k1, k2, k3, k4, k5⟩ := (show Box6 W2.drew wr.heap.size v0 v1 v2 v3 v4 v5 from b6).cells
      have HB6 := Lib.hid (show Box6 W2.drew wr.heap.size v0 v1 v2 v3 v4 v5 from b6)
      have HB2 := Lib.hid hb2
      clear hrun hbel hb6 b6 hb2 hbW hsp hsd hdv hfit c0 c1 c2 c3 c4 c5 hone hBn2
      gi_wp2
      have mixed : Try.prog.follows .mixedOrders = true := by kernel_rfl
      gi_region_with_o (first
        | (refine ⟨trivial, rfl, ?_⟩; gi_at_call 70; refine (callsIn_wide.2 HJO.out).mono ?_; rintro e w3 ⟨r, rfl, h3, hb3⟩; obtain ⟨A3, n3, rfl⟩ := ownsRow_slice h3
           obtain ⟨j0, j1, j2, j3, j4, j5⟩ := (show Box6 w3 wr.heap.size v0 v1 v2 v3 v4 v5 from (hb3.block wr.heap.size hs2).trans HB6.out).cells
           have HCO3 := Lib.hid (HCO.out w3 hb3); have H3 := Lib.hid h3; have HB3 := Lib.hid hb3
           clear h3 hb3 k0 k1 k2 k3 k4 k5 HJO HCO)
        | (refine ⟨trivial, rfl, ?_⟩; gi_at_call 56; refine (callsIn_wide.2 HCO3.out).mono ?_; rintro e w4 ⟨u1, u2, u3, u4, u5, F, rfl, h4, hnd, hb4⟩
           have hmk := made_leaf (lf := ls[xs.length]) HB2.out H3.out HB3.out h4 hnd hb4
           obtain ⟨fn, tmps, assign, body, hy, hR⟩ := HY.out xs _ wr w4 HJS.out ((Keeps.new (T := fun _ => False) hmk.2 (by omega)).toI fun _ _ h => h.elim) ⟨⟨hmk.1, Nat.le_refl _, Nat.le_refl _⟩, List.getElem_mem hlt⟩ hlt
           have HMK := Lib.hid hmk
           clear hmk h4 hnd hb4 HCO3 H3 HB3 HJS HY HJ
           dsimp only [Mk.enc] at hy)
        | ((first | refine ⟨rfl, ?_⟩ | refine ⟨trivial, rfl, ?_⟩ | skip); refine hR.mono ?_; rintro e W5 ⟨rfl, hJ5, hk5⟩; have HJ5 := Lib.hid hJ5; have HK5 := Lib.hid hk5; clear hJ5 hk5 hR hy))
      all_goals
        have hst := copies_step HM.out HHI.out HB.out HMK.out.1 rfl rfl HMK.out.2 (by omega) HK5.out HMAP.out hlt rfl
        have HST := Lib.hid hst
        clear hst HMK HK5 HM HHI HB HMAP mixed j0 j1 j2 j3 j4 j5 HB2 HB6
        gi_wp2
        go_roundw
        case rel => exact ⟨_, by rw [List.length_append]; first | rfl | go_num, by simp; omega, Lib.hid HST.out.1, HJ5, Lib.hid HST.out.2.1, Lib.hid HST.out.2.2.1, Lib.hid HST.out.2.2.2⟩
        case measure => simp [intOf]; omega
    · have hlti : ¬ (xs.length : Int) < (ls.length : Int) := by omega
      have he : ls.take xs.length = ls := List.take_of_length_le (by omega)
      rw [he] at HMAP
      have HEND := Lib.hid (And.intro HMAP.out (And.intro HM.out HJS.out))
      clear HM HMAP HJS HJ HY
      gi_wp2
      go_end0
      exact ⟨⟨_, rfl⟩, xs, ⟨HEND.out.1, HEND.out.2.1⟩, HEND.out.2.2⟩
end Go.Proofs.Ytdgnengfcabgjaa
