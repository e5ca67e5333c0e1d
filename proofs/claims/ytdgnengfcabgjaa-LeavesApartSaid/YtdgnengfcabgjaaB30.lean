/-
  leaves.grown.
-/
import Derived.Test.YtdgnengfcabgjaaB25
namespace Go.Proofs.Ytdgnengfcabgjaa
open Go.RowKit

theorem AllLv.sep {m g : Nat} {pre r : List Mk} {y0 : Mk} {w : World} (h : AllLv m g (pre ++ y0 :: r) w) : ∀ y ∈ pre ++ r, ∀ k ∈ blk y.v0 ++ y.F, k < w.heap.size ∧ k ∉ blk y0.v0 ++ y0.F := by
  intro y hy k hk
  have hy2 : y ∈ pre ++ y0 :: r := by rcases List.mem_append.1 hy with hy | hy <;> simp [hy]
  refine ⟨((h.each y hy2).lt k hk).2, fun hk2 => ?_⟩
  have hp := h.ap
  rw [List.pairwise_append, List.pairwise_cons] at hp
  obtain ⟨_, ⟨h1, _⟩, h2⟩ := hp
  rcases List.mem_append.1 hy with hy | hy
  · exact (h2 y hy y0 (by simp)).sep (h.each y hy2) (h.each y0 (by simp)) hk hk2
  · exact (h1 y hy).sep (h.each y0 (by simp)) (h.each y hy2) hk2 hk
theorem AllLv.sep2 {m g : Nat} {pre us r2 : List Mk} {y0 : Mk} {w : World} (h : AllLv m g (pre ++ y0 :: (us ++ r2)) w) : ∀ y ∈ r2, ∀ k ∈ y.F, k < w.heap.size ∧ (∀ z ∈ y0 :: us, k ∉ z.F) ∧ k ∉ blk y0.v0 := by
  intro y hy k hk
  have hyA : y ∈ pre ++ y0 :: (us ++ r2) := by simp [hy]
  have hap : ∀ z ∈ y0 :: us, Apart z y := fun z hz => by
    have hp := h.ap
    rw [List.pairwise_append, List.pairwise_cons] at hp
    obtain ⟨_, ⟨h1, h2⟩, _⟩ := hp
    rcases List.mem_cons.1 hz with rfl | hz
    · exact h1 y (by simp [hy])
    · exact (List.pairwise_append.1 h2).2.2 z hz y hy
  have hzA : ∀ z ∈ y0 :: us, z ∈ pre ++ y0 :: (us ++ r2) := fun z hz => by rcases List.mem_cons.1 hz with rfl | hz <;> simp_all
  refine ⟨((h.each y hyA).lt k (List.mem_append_right _ hk)).2, fun z hz hkz => ?_, fun hk0 => ?_⟩
  · exact (hap z hz).sep (h.each z (hzA z hz)) (h.each y hyA) (List.mem_append_right _ hkz) (List.mem_append_right _ hk)
  · exact (hap y0 (by simp)).sep (h.each y0 (by simp)) (h.each y hyA) (List.mem_append_left _ hk0) (List.mem_append_right _ hk)
theorem grown_out {m g : Nat} {pre r us rest : List Mk} {y0 : Mk} {cs0 cs : List Value} {Fs0 F : List Nat} {w w1 wr wf : World} {ks : List ByteArray} {ds : List D} {v3 v4 s0 : Value} (hall : AllLv m g (pre ++ y0 :: r) w) (hb1 : Below w.heap.size w w1) (hs1 : w1.heap.size = w.heap.size + 1) (hr : r = us ++ rest)
    (hG : GrSt m (pre ++ r) us y0 cs0 Fs0 w1 wr w1.heap.size ks ds v3 v4 cs F) (hgr : Gr y0.lf.path.length (r.map (·.lf)) ks ds (rest.map (·.lf))) (hst : Stop y0.lf.path.length (rest.map (·.lf))) (hrow : RowAt wr g s0 rest) (hf : ∀ k, k ≠ w.heap.size → wf.heap[k]? = wr.heap[k]?) (hb : Below m wr wf) :
    GrownTo m g (pre ++ y0 :: r) (y0 :: r) w (.returned (.tuple #[.agg #[.int .i64 y0.lf.doc.kind, .int .i64 y0.lf.doc.num, .string y0.lf.doc.str, v3, v4], s0])) wf := by
  have hgw := hall.hg
  have hold : ∀ y ∈ pre ++ y0 :: r, ∀ k ∈ blk y.v0 ++ y.F, k < w.heap.size := fun y hy k hk => ((hall.each y hy).lt k hk).2
  have hus : ∀ y ∈ y0 :: us, y ∈ pre ++ y0 :: r := fun y hy => by rw [hr]; rcases List.mem_cons.1 hy with rfl | hy <;> simp_all
  have hset : ∀ k ∈ blk v3 ++ (blk v4 ++ F), k ≠ w.heap.size := fun k hk e => by
    obtain ⟨y, hy, hky⟩ := hG.at_ k hk (by omega)
    have := hold y (hus y hy) k (by simp [hky]); omega
  have hmk : ∀ y ∈ pre ++ y0 :: r, MkIn y wr := fun y hy => by
    rcases List.mem_append.1 hy with h | h
    · exact hG.ot y (by simp [h])
    · rcases List.mem_cons.1 h with rfl | h
      · exact hG.yi.toMk
      · exact hG.ot y (by simp [h])
  refine ⟨y0, us, rest, ks, ds, s0, _, _, _, _, _, blk v3 ++ (blk v4 ++ F), by rw [hr], by rw [← hr]; exact hgr, hst, rfl, hrow.same (hf g (by omega)), ?_, hG.nd, fun k hk hlt => hG.at_ k hk (by omega), ?_, fun k hk hn => ?_, fun y hy => (hmk y hy).same fun k hk => hf k (by have := hold y hy k hk; omega)⟩
  · exact OwnIn.make (d := y0.lf.doc.plus ks ds) (ownsRow_same hG.o3 fun k hk => hf k (hset k (by simp [hk]))) (ownsRow_same hG.o4 fun k hk => hf k (hset k (by simp [hk]))) (hG.ok.same (Nat.le_refl _) fun k hk => hf k (hset k (by simp [hk])))
  · exact (hb1.mono hall.hm).trans (hG.below.trans hb)
  · exact (hf k (by omega)).trans ((hG.same k (by omega) hn).trans (hb1.block k hk))
theorem five_stores (wr : World) (b : Nat) (u0 u1 u2 u3 u4 : Value) : (∀ k, k ≠ b → (((((wr.setCell ⟨b, 0, none⟩ u0).setCell ⟨b, 1, none⟩ u1).setCell ⟨b, 2, none⟩ u2).setCell ⟨b, 3, none⟩ u3).setCell ⟨b, 4, none⟩ u4).heap[k]? = wr.heap[k]?) ∧
    ∀ m, m ≤ b → Below m wr (((((wr.setCell ⟨b, 0, none⟩ u0).setCell ⟨b, 1, none⟩ u1).setCell ⟨b, 2, none⟩ u2).setCell ⟨b, 3, none⟩ u3).setCell ⟨b, 4, none⟩ u4) := by
  refine ⟨fun k hk => ?_, fun m hm => ?_⟩
  · rw [Below.heap_setCell _ _ _ k hk, Below.heap_setCell _ _ _ k hk, Below.heap_setCell _ _ _ k hk, Below.heap_setCell _ _ _ k hk, Below.heap_setCell _ _ _ k hk]
  · exact (((((Below.refl m wr).setCell (p := ⟨b, 0, none⟩) hm _).setCell (p := ⟨b, 1, none⟩) hm _).setCell (p := ⟨b, 2, none⟩) hm _).setCell (p := ⟨b, 3, none⟩) hm _).setCell (p := ⟨b, 4, none⟩) hm _
def lenOfV : Value → Nat
  | .slice _ n _ => n
  | _ => 0
set_option maxRecDepth 100000 in
set_option maxHeartbeats 8000000 in
theorem grown_step {m g N : Nat} (ih : GrownAt m g N) : GrownAt m g (N + 1) := by
  intro ALL pre zs v w hN h0 hALL hall hrow
  obtain ⟨y0, r, rfl⟩ : ∃ y0 r, zs = y0 :: r := by
    cases zs with
    | nil => simp at h0
    | cons y r => exact ⟨y, r, rfl⟩
  subst hALL
  have hmk0 := hall.each y0 (by simp)
  have hfit0 := hall.fit y0 (by simp)
  obtain ⟨cs0, Fs0, hy0⟩ := hmk0.y
  obtain ⟨A, c, rfl, hc, h1⟩ := id hrow
  obtain ⟨off, rfl, hcell⟩ := h1 (by simp)
  have htail := RowAt.tail hrow
  have hcc : ∀ (j : Nat) (u : Value), y0.enc[j]? = some u → w.cell? ⟨g, off + j, none⟩ = some u := fun j u hu => by have := hcell 0 (by simp) j u (by simpa using hu); simpa using this
  have c0 : w.cell? ⟨g, off, none⟩ = some y0.v0 := hcc 0 _ rfl
  have c1 := hcc 1 _ rfl; have c2 := hcc 2 _ rfl; have c3 := hcc 3 _ rfl; have c4 := hcc 4 _ rfl; have c5 := hcc 5 _ rfl
  rw [hy0.v1] at c1; rw [hy0.v2] at c2; rw [hy0.v3] at c3
  obtain ⟨Ap, np, hp0⟩ := ownsRow_slice hy0.path
  obtain ⟨Ak, nk, hk0⟩ := ownsRow_slice hy0.o3
  obtain ⟨Ad, nd, hd0⟩ := ownsRow_slice hy0.o4
  rw [hp0] at c0; rw [hk0] at c4; rw [hd0] at c5
  have hgw := hall.hg; have hmw := hall.hm
  have hlen0 : (0 : Int) < (r.length : Int) + 1 := by omega
  have hone : (1 : Int) ≤ (r.length : Int) + 1 := by omega
  have HA := Lib.hid hall; have HY := Lib.hid hy0; have HT := Lib.hid htail; have HF := Lib.hid hfit0
  clear hall hy0 hmk0 h1 hcell hcc hrow htail hfit0
  go_enter Try.func35, Try.ntmps35
  go_upto_region 1 with fail
  obtain ⟨w1, hw1⟩ : ∃ w1, w1 = w.alloc (.cells #[.int .i64 0, .int .i64 0, .string ⟨#[]⟩, .slice none 0 0, .slice none 0 0] 25) := ⟨_, rfl⟩
  have HB1 : Hid (Below w.heap.size w w1) := by rw [hw1]; exact (Below.refl _ _).alloc (Nat.le_refl _) _
  have HR1 : Hid (Box5 w1 w.heap.size (.int .i64 0) (.int .i64 0) (.string ⟨#[]⟩) (.slice none 0 0) (.slice none 0 0)) := by rw [hw1]; exact Box5.new w _ _ _ _ _
  have HS1 : Hid (w1.heap.size = w.heap.size + 1) := by rw [hw1]; exact Lib.hid (World.size_alloc _ _)
  rw [← hw1]
  clear hw1
  rw [← HB1.out.cell (p := ⟨g, _, none⟩) hgw] at c0 c1 c2 c3 c4 c5
  have hg1 : g < w1.heap.size := by have := HS1.out; omega
  go_cut [4, 5] from 55 (fun s4 s5 wx => s4 = .pointer (some ⟨w1.heap.size, 0, none⟩) ∧ s5 = .int .i64 y0.lf.path.length ∧ Hid (Box5 wx w1.heap.size (.int .i64 y0.lf.doc.kind) (.int .i64 y0.lf.doc.num) (.string y0.lf.doc.str) (.slice Ak y0.lf.doc.keys.length nk) (.slice Ad y0.lf.doc.kids.length nd)) ∧ Hid (Below w1.heap.size w1 wx))
  case first =>
    go_region_law fail
    all_goals go_wp2_with fail
    all_goals go_meet
    all_goals exact ⟨rfl, rfl, Lib.hid (by exact Box5.new w1 _ _ _ _ _), Lib.hid (((Below.refl _ w1).alloc (Nat.le_refl _) _).drew)⟩
  case rest =>
    obtain ⟨rfl, rfl, HBX, HBW⟩ := hcut
    clear c0 c1 c2 c3 c4 c5
    go_upto_region 2 with fail
    go_cut [0] from 55 (fun s0 wx => Hid (RowAt w g s0 r) ∧ wx = wc)
    case first =>
      by_cases hc1 : c = 1
      · have hT := HT.out
        rw [if_pos hc1] at hT
        subst hc1
        go_wp2_with fail
        go_meet
        exact ⟨Lib.hid hT, rfl⟩
      · have hT := HT.out
        rw [if_neg hc1] at hT
        go_wp2_with fail
        go_meet
        exact ⟨Lib.hid hT, rfl⟩
    case rest =>
      obtain ⟨HR0, rfl⟩ := hcut
      have hall := HA.out
      have hold : ∀ y ∈ pre ++ y0 :: r, ∀ k ∈ blk y.v0 ++ y.F, k < w.heap.size := fun y hy k hk => ((hall.each y hy).lt k hk).2
      have hst0 : GrSt m (pre ++ r) [] y0 cs0 Fs0 w1 wc w1.heap.size [] [] y0.v4 y0.v5 cs0 Fs0 := by
        have hB1 := HB1.out
        have hbw : Below w.heap.size w wc := hB1.trans (HBW.out.mono (by have := HS1.out; omega))
        have hs1 := HS1.out
        have hlo : m ≤ y0.lo := hall.lo y0 (by simp)
        have hyw : YIn wc y0 cs0 Fs0 := HY.out.same fun k hk => hbw.block k (hold y0 (by simp) k hk)
        have hF : ∀ k, k ∈ blk y0.v4 ++ (blk y0.v5 ++ Fs0) → k ∈ y0.F := fun k hk => by rw [HY.out.F]; exact hk
        have hF2 : ∀ k, k ∈ blk y0.v4 ++ (blk y0.v5 ++ Fs0) → k < w.heap.size := fun k hk => hold y0 (by simp) k (List.mem_append_right _ (hF k hk))
        refine ⟨by rw [hk0, hd0]; exact HBX.out, Nat.le_refl _, by simpa using ownsRow_base hyw.o3 hlo, by simpa using ownsRow_base hyw.o4 hlo, by simpa using hyw.ok.same hlo fun _ _ => rfl, ?_, fun k hk => by have := hF2 k hk; omega, fun k hk _ => ⟨y0, by simp, hF k hk⟩, .inl rfl, .inl rfl, List.prefix_refl _, hyw, fun k hk => by have := hold y0 (by simp) k hk; omega,
          fun y hy => (hall.each y (by rcases List.mem_append.1 hy with h | h <;> simp [h])).below hbw (Nat.le_refl _), fun y hy k hk => ?_, HBW.out.mono (by omega), by omega, fun k hk _ => HBW.out.block k hk⟩
        · have := HY.out.nodup; rw [HY.out.F] at this; exact (List.nodup_append.1 this).2.1
        · have := hall.sep y hy k hk; exact ⟨by omega, this.2⟩
      have HST0 := Lib.hid hst0
      have HR00 : Hid (RowAt wc g u0 r) := Lib.hid (HR0.out.same (by
        have hs1 := HS1.out
        exact ((HBW.out.block g hg1).trans (HB1.out.block g hgw))))
      have HOLD := Lib.hid hold
      clear hst0 hold hall HR0 HBX HY HT hp0 hk0 hd0 HF hlen0 hone
      go_wp2_with fail
      go_loopw [0] (fun s0 wr => ∃ (us rest : List Mk) (ks : List ByteArray) (ds : List D) (v3 v4 : Value) (cs : List Value) (F : List Nat), Hid (r = us ++ rest) ∧ Hid (RowAt wr g s0 rest) ∧ Hid (Gr y0.lf.path.length (r.map (·.lf)) ks ds (rest.map (·.lf))) ∧ Hid (GrSt m (pre ++ r) us y0 cs0 Fs0 w1 wr w1.heap.size ks ds v3 v4 cs F)) (fun s0 _ => lenOfV s0)
      case atStart => exact ⟨[], r, [], [], _, _, _, _, Lib.hid rfl, HR00, Lib.hid (.refl _ _), HST0⟩
      case round =>
        obtain ⟨us, rest, ks, ds, v3, v4, cs, F, HRR, HROW, HGR, HG⟩ := hrel
        clear HR00 HST0
        have hend : Stop y0.lf.path.length (rest.map (·.lf)) → ∀ s0, RowAt wr g s0 rest → ∀ wf, (∀ k, k ≠ w.heap.size → wf.heap[k]? = wr.heap[k]?) → Below m wr wf → GrownTo m g (pre ++ y0 :: r) (y0 :: r) w (.returned (.tuple #[.agg #[.int .i64 y0.lf.doc.kind, .int .i64 y0.lf.doc.num, .string y0.lf.doc.str, v3, v4], s0])) wf := fun hs s0 hrow wf h1 h2 =>
          grown_out HA.out HB1.out HS1.out HRR.out HG.out HGR.out hs hrow h1 h2
        have HEND := Lib.hid hend
        clear hend
        obtain ⟨q0, q1, q2, q3, q4⟩ := HG.out.bx.cells
        have q5 := HG.out.bx.frozen
        cases rest with
        | nil =>
          obtain ⟨A', c', rfl, _, _⟩ := id HROW.out
          obtain ⟨A6, c6, hv3⟩ := ownsRow_slice HG.out.o3
          obtain ⟨A7, c7, hv4⟩ := ownsRow_slice HG.out.o4
          have hres : Box5 wr w.heap.size (.int .i64 0) (.int .i64 0) (.string ⟨#[]⟩) (.slice none 0 0) (.slice none 0 0) := HR1.out.same (HG.out.same _ (by have := HS1.out; omega) fun y hy hk => by
            have := HOLD.out y (by have := HRR.out; rw [this]; rcases List.mem_cons.1 hy with rfl | hy <;> simp_all) _ (List.mem_append_right _ hk); omega)
          have HRES := Lib.hid hres
          obtain ⟨r0, r1, r2, r3, r4⟩ := hres.cells
          have r5 := hres.frozen
          rw [List.length_append] at hv3 hv4
          subst hv3; subst hv4
          clear hres
          go_wp2_with fail
          have hfin := ((((HRES.out.set0 (.int .i64 y0.lf.doc.kind)).set1 (.int .i64 y0.lf.doc.num)).set2 (.string y0.lf.doc.str)).set3 (.slice A6 (y0.lf.doc.keys.length + ks.length) c6)).set4 (.slice A7 (y0.lf.doc.kids.length + ds.length) c7)
          clear q0 q1 q2 q3 q4 r0 r1 r2 r3 r4 r5 q5
          refine ret_cell5_2 rfl rfl rfl hfin.load rfl ?_
          have h5 := five_stores wr w.heap.size (.int .i64 y0.lf.doc.kind) (.int .i64 y0.lf.doc.num) (.string y0.lf.doc.str) (.slice A6 (y0.lf.doc.keys.length + ks.length) c6) (.slice A7 (y0.lf.doc.kids.length + ds.length) c7)
          exact HEND.out (fun _ _ e => by cases e) _ HROW.out _ h5.1 (h5.2 m hmw)
        | cons x r1 =>
          obtain ⟨A', c', rfl, hc', hx1⟩ := id HROW.out
          obtain ⟨off', rfl, hcell⟩ := hx1 (by simp)
          have hxoth : x ∈ pre ++ r := by rw [HRR.out]; simp
          have hx := HG.out.ot x hxoth
          have p0 : wr.cell? ⟨g, off', none⟩ = some x.v0 := by have := hcell 0 (by simp) 0 x.v0 rfl; simpa using this
          obtain ⟨Ax, nx, hxe⟩ := ownsRow_slice hx.path
          rw [hxe] at p0
          have hr1 : (0 : Int) < (r1.length : Int) + 1 := by omega
          have HX := Lib.hid hx
          clear hcell hx1
          by_cases hd : y0.lf.path.length < x.lf.path.length
          · have hdi : (y0.lf.path.length : Int) < (x.lf.path.length : Int) := by omega
            have hsx := Strs_of_own hx.path
            rw [hxe] at hsx
            obtain ⟨A2, c2, e2, _, h2⟩ := hsx
            injection e2 with e21 e22 e23
            subst e21; subst e23
            obtain ⟨bp, op, rfl, hbp, hpc⟩ := h2 (by omega)
            have pk : wr.cell? ⟨bp, op + y0.lf.path.length, none⟩ = some (.string (x.lf.path[y0.lf.path.length])) := hpc _ hd
            have hkl : (y0.lf.doc.keys ++ ks).length ≤ 1000000 := by
              have h3 := HGR.out.len; have h4 := (HA.out.fit y0 (by simp)).1.keys; have h5 := HA.out.len
              simp only [List.length_map, List.length_cons, List.length_append] at h3 h5 ⊢; omega
            have hkl2 : (y0.lf.doc.kids ++ ds).length ≤ 1000000 := by
              have h3 := HGR.out.len; have h4 := (HA.out.fit y0 (by simp)).1.kids; have h5 := HA.out.len
              simp only [List.length_map, List.length_cons, List.length_append] at h3 h5 ⊢; omega
            have hbl := HG.out.bx.lt
            have hmr : m ≤ wr.heap.size := by have := HG.out.below.size; have := HG.out.hm; omega
            clear hpc h2 hx
            obtain ⟨key, hkey⟩ : ∃ key, key = x.lf.path[y0.lf.path.length] := ⟨_, rfl⟩
            rw [← hkey] at pk
            have HKEY := Lib.hid hkey
            clear hkey
            go_upto_region 4 with fail
            go_cut [] from 55 (fun wx => ∃ v3' : Value, Hid (GrSt m (pre ++ r) us y0 cs0 Fs0 w1 wx w1.heap.size (ks ++ [key]) ds v3' v4 cs F))
            case first =>
              have hbd : Below wr.heap.size wr ((wr.alloc (.cells #[.string key] 9)).drew) := ((Below.refl _ wr).alloc (Nat.le_refl _) _).drew
              have s3 := (hbd.cell (p := ⟨w1.heap.size, 3, none⟩) hbl).trans q3
              have ag : v3.ownBlock ≠ some w1.heap.size := fun h => HG.out.far _ (by simp [blk_mem, h]) rfl
              have HBD := Lib.hid hbd
              clear hbd
              go_region_law (first
                | (refine step_appK (by rfl) _ _ (by rfl) (m := m) v3 (y0.lf.doc.keys ++ ks) key ⟨wr.heap.size, 0, none⟩ 1 (by rfl) (by rfl) (by simp; omega) ((HG.out.o3.alloc _).drew) (World.news_of_block (cs := #[.string key]) (t := 9) (fr := (0, 0)) (heap_alloc_new wr _)) hkl ?_
                   intro g5 cap5 w5 hown5 hold5 hgrow5 hat5
                   have mf5 : w5.frozen? ⟨w1.heap.size, 3, none⟩ = false := (World.frozen?_of_block (a := ⟨w1.heap.size, 3, none⟩) ((hgrow5.block w1.heap.size (by simp; omega) (Ne.symm ag)).trans (HBD.out.block _ hbl))).trans (q5 3)
                   have m45 : w5.cell? ⟨w1.heap.size, 3, none⟩ = some v3 := (World.cell?_of_block (a := ⟨w1.heap.size, 3, none⟩) (hgrow5.block w1.heap.size (by simp; omega) (Ne.symm ag))).trans s3))
              all_goals go_wp2_with fail
              all_goals go_meet
              all_goals
                have hk9 := (HG.out.pastB HBD.out).key hown5 hold5 hgrow5 (hat5.imp (fun e => by rw [e]; rfl) (fun e => by rw [e]; rfl))
                rw [List.length_append] at hk9
                exact ⟨_, Lib.hid hk9⟩
            case rest =>
              obtain ⟨v3', HG4⟩ := hcut
              clear q0 q1 q2 q3 q4 q5 p0 pk hxe
              have hgc : wc.heap[g]? = wr.heap[g]? := (HG4.out.same g hg1 fun y hy hk => HA.out.row y (by have := HRR.out; rw [this]; rcases List.mem_cons.1 hy with rfl | hy <;> simp_all) (List.mem_append_right _ hk)).trans (HG.out.same g hg1 fun y hy hk => HA.out.row y (by have := HRR.out; rw [this]; rcases List.mem_cons.1 hy with rfl | hy <;> simp_all) (List.mem_append_right _ hk)).symm
              have hzc := HG4.out.below.size
              have hg1A := HS1.out
              go_upto_region 6 with fail
              obtain ⟨wA, hwA⟩ : ∃ wA, wA = wc.alloc (.cells #[.int .i64 0, .int .i64 0, .string ⟨#[]⟩, .slice none 0 0, .slice none 0 0] 25) := ⟨_, rfl⟩
              have HBA : Hid (Below wc.heap.size wc wA) := by rw [hwA]; exact Lib.hid ((Below.refl _ _).alloc (Nat.le_refl _) _)
              have HKB : Hid (Box5 wA wc.heap.size (.int .i64 0) (.int .i64 0) (.string ⟨#[]⟩) (.slice none 0 0) (.slice none 0 0)) := by rw [hwA]; exact Lib.hid (Box5.new wc _ _ _ _ _)
              have HSA : Hid (wA.heap.size = wc.heap.size + 1) := by rw [hwA]; exact Lib.hid (World.size_alloc _ _)
              rw [← hwA]
              clear hwA hg1A
              have HGA := Lib.hid (HG4.out.pastB HBA.out)
              have HREQ : Hid (pre ++ y0 :: r = (pre ++ y0 :: us) ++ (x :: r1)) := Lib.hid (by rw [HRR.out]; simp)
              have HIH : Hid (Calls Try.prog 35 #[.slice (some ⟨g, off', none⟩) (x :: r1).length c'] wA (GrownTo m g (pre ++ y0 :: r) (x :: r1) wA)) := Lib.hid <| by
                have hA := HA.out
                have hsA := HSA.out
                have hs1 := HS1.out
                have hrl := congrArg List.length HRR.out
                simp only [List.length_append, List.length_cons] at hrl hN
                refine ih (pre ++ y0 :: r) (pre ++ y0 :: us) (x :: r1) _ wA (by simp only [List.length_cons]; omega) (by simp) HREQ.out ⟨fun y hy => ?_, hA.lo, hA.ap, hA.row, hA.fit, hA.len, by omega, by omega⟩ (HROW.out.same ((HBA.out.block g (by omega)).trans hgc))
                rcases List.mem_append.1 hy with h | h
                · exact HGA.out.ot y (by simp [h])
                · rcases List.mem_cons.1 h with rfl | h
                  · exact HGA.out.yi.toMk
                  · exact HGA.out.ot y (by simp [h])
              go_upto_region 7 with (go_at_call 35; refine HIH.out.mono ?_
                                     rintro e w7 ⟨x', us', rest', ks', ds', rv, u0', u1', u2', u3', u4', G, hz, hgr7, hst7, rfl, hrow7, hown7, hnd7, hat7, hb7, hs7, hmk7⟩
                                     injection hz with hz1 hz2
                                     subst hz1
                                     obtain ⟨kd, hkd⟩ : ∃ kd, kd = x.lf.doc.plus ks' ds' := ⟨_, rfl⟩
                                     rw [← hkd] at hown7
                                     have HKD := Lib.hid hkd; have HZ2 := Lib.hid hz2; have HGR7 := Lib.hid hgr7; have HST7 := Lib.hid hst7; have HROW7 := Lib.hid hrow7
                                     obtain ⟨A9, c9, rfl, _⟩ := id hrow7
                                     obtain ⟨A7, c7, A8, c8, rfl, rfl, rfl, rfl, rfl⟩ := hown7.doc.forms
                                     have hU : ∀ y ∈ x :: us', ∀ k ∈ y.F, k < w.heap.size ∧ (∀ z ∈ y0 :: us, k ∉ z.F) ∧ k ∉ blk y0.v0 := fun y hy => by
                                       have hA := HA.out
                                       rw [HRR.out] at hA
                                       exact hA.sep2 y (by rcases List.mem_cons.1 hy with rfl | hy <;> simp [*])
                                     have HU := Lib.hid hU
                                     have HG7 := Lib.hid (HGA.out.past hb7 hs7 (fun y hy => hmk7 y (by rcases List.mem_append.1 hy with h | h <;> simp [h])) (fun y hy k hk => ⟨by have := (hU y hy k hk).1; have := HS1.out; omega, (hU y hy k hk).2⟩))
                                     have HKB7 : Hid (Box5 w7 wc.heap.size (.int .i64 0) (.int .i64 0) (.string ⟨#[]⟩) (.slice none 0 0) (.slice none 0 0)) := Lib.hid (HKB.out.same (hs7 _ (by have := HSA.out; omega) fun y hy hk => by have := (hU y hy _ hk).1; have := HS1.out; omega))
                                     have HOWN7 := Lib.hid hown7; have HND7 := Lib.hid hnd7; have HAT7 := Lib.hid hat7; have HB7 := Lib.hid hb7
                                     obtain ⟨z0, z1, z2, z3, z4⟩ := HKB7.out.cells
                                     have z5 := HKB7.out.frozen
                                     clear hkd hz2 hgr7 hst7 hrow7 hown7 hnd7 hat7 hb7 hs7 hmk7 hU)
              have h8 := five_stores w7 wc.heap.size (.int .i64 kd.kind) (.int .i64 kd.num) (.string kd.str) (.slice A7 kd.keys.length c7) (.slice A8 kd.kids.length c8)
              have hkb8 : Box5 _ wc.heap.size (.int .i64 kd.kind) (.int .i64 kd.num) (.string kd.str) (.slice A7 kd.keys.length c7) (.slice A8 kd.kids.length c8) := ((((HKB7.out.set0 (.int .i64 kd.kind)).set1 (.int .i64 kd.num)).set2 (.string kd.str)).set3 (.slice A7 kd.keys.length c7)).set4 (.slice A8 kd.kids.length c8)
              have hsc : ∀ k ∈ blk v3' ++ (blk v4 ++ F), k < wc.heap.size := HG4.out.lt
              have hn8 : wc.heap.size ∉ blk v3' ++ (blk v4 ++ F) := fun hk => by have := hsc _ hk; omega
              have hbl4 := HG4.out.bx.lt
              have hg8 := HG7.out.store h8.1 (h8.2 m (by have := HS1.out; omega)) hzc (by omega) hn8
              have hGk : ∀ k ∈ G, k ≠ wc.heap.size ∧ k ∉ blk v3' ++ (blk v4 ++ F) ∧ k ≠ w1.heap.size ∧ (k < w1.heap.size → ∃ y ∈ y0 :: (us ++ x :: us'), k ∈ y.F) := fun k hk => by
                have hs1 := HS1.out; have hsA := HSA.out
                rcases Nat.lt_or_ge k wA.heap.size with hlt | hge
                · obtain ⟨y, hy, hky⟩ := HAT7.out k hk hlt
                  obtain ⟨a, b, _⟩ := HU.out y hy k hky
                  refine ⟨by omega, fun hks => ?_, by omega, fun _ => ⟨y, by rcases List.mem_cons.1 hy with rfl | hy <;> simp [*], hky⟩⟩
                  obtain ⟨z, hz, hzk⟩ := HG4.out.at_ k hks (by omega)
                  exact b z hz hzk
                · exact ⟨by omega, fun hks => by have := hsc k hks; omega, by omega, fun h => by omega⟩
              have hown8 : OwnIn _ m kd (.int .i64 kd.kind) (.int .i64 kd.num) (.string kd.str) (.slice A7 kd.keys.length c7) (.slice A8 kd.kids.length c8) G := HOWN7.out.same (Nat.le_refl _) fun k hk => h8.1 k (hGk k hk).1
              have hg78 := h8.1 g (by have := HS1.out; omega)
              generalize (((((w7.setCell ⟨wc.heap.size, 0, none⟩ (.int .i64 kd.kind)).setCell ⟨wc.heap.size, 1, none⟩ (.int .i64 kd.num)).setCell ⟨wc.heap.size, 2, none⟩ (.string kd.str)).setCell ⟨wc.heap.size, 3, none⟩ (.slice A7 kd.keys.length c7)).setCell ⟨wc.heap.size, 4, none⟩ (.slice A8 kd.kids.length c8)) = w8 at *
              have HG8 := Lib.hid hg8; have HOWN8 := Lib.hid hown8; have HGK := Lib.hid (fun k hk => (hGk k hk).2)
              obtain ⟨k0, k1, k2, k3, k4⟩ := hkb8.cells
              obtain ⟨q0, q1, q2, q3, q4⟩ := hg8.bx.cells
              have q5 := hg8.bx.frozen
              have hbl8 := hg8.bx.lt
              have hm8 : m ≤ w8.heap.size := by have := hg8.below.size; have := hg8.hm; omega
              have ag : v4.ownBlock ≠ some w1.heap.size := fun h => hg8.far _ (by simp [blk_mem, h]) rfl
              have hbd : Below w8.heap.size w8 (w8.alloc (.cells #[.int .i64 kd.kind, .int .i64 kd.num, .string kd.str, .slice A7 kd.keys.length c7, .slice A8 kd.kids.length c8] 25)) := (Below.refl _ w8).alloc (Nat.le_refl _) _
              have HBD := Lib.hid hbd
              clear h8 hkb8 hsc hn8 hg8 hGk hown8 hg78 hbd z0 z1 z2 z3 z4 z5
              go_wp2_with (at_builtin; refine wpList_appD rfl _ _ rfl (m := m) v4 (y0.lf.doc.kids ++ ds).length cs _ _ _ _ _ ⟨w8.heap.size, 0, none⟩ 1 rfl rfl (by simp; omega) (HG8.out.o4.alloc _) (World.news_of_block (cs := #[.int .i64 kd.kind, .int .i64 kd.num, .string kd.str, .slice A7 kd.keys.length c7, .slice A8 kd.kids.length c8]) (t := 25) (fr := (0, 0)) (heap_alloc_new w8 _)) (by simp [Value.oneCell']) hkl2 ?_
                           intro g9 cap9 w9 hown9 hold9 hgrow9 hat9
                           have mf9 : w9.frozen? ⟨w1.heap.size, 4, none⟩ = false := (World.frozen?_of_block (a := ⟨w1.heap.size, 4, none⟩) ((hgrow9.block w1.heap.size (by simp; omega) (Ne.symm ag)).trans (HBD.out.block _ hbl8))).trans (q5 4)
                           have m49 : w9.cell? ⟨w1.heap.size, 4, none⟩ = some v4 := (World.cell?_of_block (a := ⟨w1.heap.size, 4, none⟩) ((hgrow9.block w1.heap.size (by simp; omega) (Ne.symm ag)).trans (HBD.out.block _ hbl8))).trans q4)
              go_roundw
              case rel =>
                have hk10 := (HG8.out.pastB HBD.out).kid (HOWN8.out.below HBD.out (Nat.le_refl _)) HND7.out HGK.out hown9 hold9 hgrow9 (hat9.imp (fun e => by rw [e]; rfl) (fun e => by rw [e]; rfl))
                rw [List.length_append] at hk10
                have hgin : ∀ y ∈ y0 :: (us ++ x :: us'), g ∉ y.F := fun y hy hk => HA.out.row y (by
                  have e1 := HRR.out; have e2 := HZ2.out
                  rw [e1, e2]; rcases List.mem_cons.1 hy with rfl | hy
                  · simp
                  · rcases List.mem_append.1 hy with hy | hy
                    · simp [hy]
                    · rcases List.mem_cons.1 hy with rfl | hy <;> simp [*]) (List.mem_append_right _ hk)
                refine ⟨us ++ x :: us', rest', ks ++ [key], ds ++ [kd], v3', _, _, _, Lib.hid ?_, Lib.hid (HROW7.out.same ((hk10.same g hg1 hgin).trans (HG7.out.same g hg1 hgin).symm)), Lib.hid ?_, Lib.hid hk10⟩
                · rw [HRR.out, HZ2.out]; simp
                · rw [HKEY.out, HKD.out]
                  refine HGR.out.snoc rfl hd (by rw [HZ2.out]; exact HGR7.out) HST7.out
              case measure =>
                have := congrArg List.length HZ2.out
                simp only [List.length_append] at this
                simp only [lenOfV, List.length_cons]
                omega
          · have hdi : ¬ (y0.lf.path.length : Int) < (x.lf.path.length : Int) := by omega
            obtain ⟨A6, c6, hv3⟩ := ownsRow_slice HG.out.o3
            obtain ⟨A7, c7, hv4⟩ := ownsRow_slice HG.out.o4
            have hres : Box5 wr w.heap.size (.int .i64 0) (.int .i64 0) (.string ⟨#[]⟩) (.slice none 0 0) (.slice none 0 0) := HR1.out.same (HG.out.same _ (by have := HS1.out; omega) fun y hy hk => by
              have := HOLD.out y (by have := HRR.out; rw [this]; rcases List.mem_cons.1 hy with rfl | hy <;> simp_all) _ (List.mem_append_right _ hk); omega)
            have HRES := Lib.hid hres
            obtain ⟨r0, r1', r2, r3, r4⟩ := hres.cells
            have r5 := hres.frozen
            rw [List.length_append] at hv3 hv4
            subst hv3; subst hv4
            clear hres hx
            go_wp2_with fail
            have hfin := ((((HRES.out.set0 (.int .i64 y0.lf.doc.kind)).set1 (.int .i64 y0.lf.doc.num)).set2 (.string y0.lf.doc.str)).set3 (.slice A6 (y0.lf.doc.keys.length + ks.length) c6)).set4 (.slice A7 (y0.lf.doc.kids.length + ds.length) c7)
            clear q0 q1 q2 q3 q4 r0 r1' r2 r3 r4 r5 q5 p0
            refine ret_cell5_2 rfl rfl rfl hfin.load rfl ?_
            have h5 := five_stores wr w.heap.size (.int .i64 y0.lf.doc.kind) (.int .i64 y0.lf.doc.num) (.string y0.lf.doc.str) (.slice A6 (y0.lf.doc.keys.length + ks.length) c6) (.slice A7 (y0.lf.doc.kids.length + ds.length) c7)
            exact HEND.out (fun x' r' e => by simp only [List.map_cons, List.cons.injEq] at e; rw [← e.1]; omega) _ HROW.out _ h5.1 (h5.2 m hmw)
theorem grown_all (m g : Nat) : ∀ N, GrownAt m g N
  | 0 => fun _ _ zs _ _ h h0 => by omega
  | N + 1 => grown_step (grown_all m g N)
end Go.Proofs.Ytdgnengfcabgjaa
