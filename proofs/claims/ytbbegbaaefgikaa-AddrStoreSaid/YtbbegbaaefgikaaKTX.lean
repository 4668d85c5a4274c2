import Derived.Test.YtbbegbaaefgikaaKTV
import Derived.Test.YtbbegbaaefgikaaKTW
namespace Go.Proofs.Ytbbegbaaefgikaa
open Go.ChangeShapes Go.WideShapes Go.ChangeAt Go.RowKit
set_option maxRecDepth 100000
set_option maxRecDepth 100000
set_option maxHeartbeats 8000000
theorem addrstore_0 (s : Sta) (p kk v : Int) (w : World) (hs : StaOk s) (p0 : 0 ≤ p) (k0 : 0 ≤ kk) (v0 : 0 ≤ v) (v1 : v < 18446744073709551616) (hk : kk % 4 = 0) :
    Calls Try.prog 4 #[staV s, .int .u8 p, .int .u8 kk, .int .u64 v] w fun e w' => e = .returned (.bool true) ∧ Below w.heap.size w w' := by
  obtain ⟨q, hq⟩ : ∃ q, p % 240 = q := ⟨_, rfl⟩
  have q0 : 0 ≤ q := by omega
  have q1 : q < 240 := by omega
  have HONE := Lib.hid (box_one s q v 1 1 rfl q0 (by omega) v0)
  have HST := Lib.hid (fun b F g pg u hu => astore_any b F g pg (boxC 0) boxD s (atO q) 1 v hs q0 (show q < 4294967296 by omega) v0 v1 u hu)
  have HLD := Lib.hid (fun b F g pg u hu => aload_any b F g pg (boxC 0) boxD s (atO q) 1 hs q0 (show q < 4294967296 by omega) u hu)
  have hM : bits .and .u64 v 255 = v % 256 ^ 1 := and_low64a v 8 v0 v1 (by decide)
  obtain ⟨V, hV⟩ : ∃ V, v % 256 ^ 1 = V := ⟨_, rfl⟩
  rw [hV] at hM
  have HV := Lib.hid hV
  have HWF := Lib.hid (ok_wf hs)
  clear hV hs
  unfold staV
  go_enter Try.func4, Try.ntmps4
  go_wp2_with fail
  refine (known14_any _).mono ?_
  rintro e w1 ⟨rfl, c1⟩
  have g0 : w1.heap[w.heap.size]? = some (.cells (staL s).toArray 29 (0, 0)) := (c1.block _ (by simp)).trans (by show (w.heap.push _)[w.heap.size]? = _; simp)
  have HG0 := Lib.hid g0
  have HB1 := Lib.hid (below_step (below_last (Below.refl _ _) _) c1)
  clear g0 c1
  go_wp2_with fail
  ((with_reducible refine (boxes14_any (.slice none 0 0) 0 (fun _ => 0) 5 (by decide) (by decide) (by decide) (fun _ => ⟨by decide, by decide⟩) _ (slc_nil8 _)).mono ?_); rintro e w2 ⟨b, F, pg, rb, R, rfl, ht⟩)
  have HT := Lib.hid ht
  clear ht
  obtain ⟨g, hg⟩ : ∃ g, boxG (fun _ => 0) 0 5 = g := ⟨_, rfl⟩
  have HT := HT.out
  rw [hg] at HT
  have HT := Lib.hid HT
  clear hg
  go_upto_region 6 with fail
  obtain ⟨W, hW⟩ : ∃ W, W = (w2.alloc (.cells #[.int .i64 1, .int .i64 2, .int .i64 4, .int .i64 8] 3)).alloc (.cells #[.int .i64 3, .int .i64 0, .int .i64 (-1), .int .i64 (-1), .int .i64 1, .int .u32 q] 32) := ⟨_, rfl⟩
  rw [← hW]
  have hbw : Below w2.heap.size w2 W := (heap_two hW).2.2
  have e2 : W.heap[w2.heap.size + 1]? = some (.cells (opL' (atO q)).toArray 32 (0, 0)) := (heap_two hW).2.1
  have l1 := HT.out.own.low
  have gW : W.heap[w.heap.size]? = some (.cells (staL s).toArray 29 (0, 0)) := (hbw.block _ (Array.getElem?_eq_some_iff.1 ((l1.block _ (Array.getElem?_eq_some_iff.1 HG0.out).1).trans HG0.out)).1).trans ((l1.block _ (Array.getElem?_eq_some_iff.1 HG0.out).1).trans HG0.out)
  have HBW := Lib.hid (below_step HB1.out (below_step l1 hbw))
  have HSZ := Lib.hid (show w.heap.size < w1.heap.size ∧ w1.heap.size ≤ w2.heap.size ∧ w2.heap.size + 1 < W.heap.size from ⟨(Array.getElem?_eq_some_iff.1 HG0.out).1, l1.size, (Array.getElem?_eq_some_iff.1 e2).1⟩)
  have HF := Lib.hid (show ∀ k, F k → w1.heap.size ≤ k ∧ k < w2.heap.size from fun k hk => ⟨HT.out.own.own k hk, HT.out.own.bus.lt k hk⟩)
  have HP := Lib.hid (show PBus W b F g pg (boxC 0) boxD from HT.out.own.bus.but (G := fun _ => False) (But.of_below hbw) (fun _ _ h => h))
  have HRS := Lib.hid (range_in13 gW 0 (staL s) rfl)
  have HRO := Lib.hid (range_in13 e2 0 (opL' (atO q)) rfl)
  have HS1 := Lib.hid (fun b F g pg u hu => HST.out b F g pg u hu)
  have HGS := Lib.hid gW
  have HGO := Lib.hid e2
  clear hW hbw e2 l1 gW
  have hst := HST.out b F g pg W HP.out
  rw [(HONE.out g).1, (HONE.out g).2.1, show staV s = .agg (staL s).toArray from rfl, show opV (atO q) = .agg (opL' (atO q)).toArray from rfl] at hst
  have HS1 := Lib.hid hst
  clear hst
  go_wp2_with (first
    | (refine wpList_load_mid rfl 29 (.tmp 4) rfl w.heap.size 0 rfl (staL s) _ HRS.out Try.underlying29 rfl info_sta ?_)
    | (refine wpList_load_mid rfl 32 (.tmp 12) rfl (w2.heap.size + 1) 0 rfl (opL' (atO q)) _ HRO.out Try.underlying32 rfl info_opd1 ?_))
  ((with_reducible refine (HS1.out).mono ?_); rintro e w3 ⟨F3, pg3, rfl, hF3, hp3, hb3⟩)
  have k3s : w3.heap[w.heap.size]? = some (.cells (staL s).toArray 29 (0, 0)) := (hb3.block _ (by have := HSZ.out; omega) (fun hk => by have := HF.out _ hk; have := HSZ.out; omega)).trans HGS.out
  have k3o : w3.heap[w2.heap.size + 1]? = some (.cells (opL' (atO q)).toArray 32 (0, 0)) := (hb3.block _ (by have := HSZ.out; omega) (fun hk => by have := HF.out _ hk; omega)).trans HGO.out
  have HB3 := Lib.hid (show Below w.heap.size w w3 from hb3.below HBW.out (fun k hk => by have := HF.out k hk; have := HSZ.out; omega) HBW.out.size)
  have HTH := Lib.hid (there_alloc_new w3 #[.int .u32 0, .int .u32 0, .int .u32 0, .int .u32 0, .int .u32 0, .int .u32 0, .int .u32 0, .int .u32 0, .int .u32 0, .bool false, .bool false, .bool false, .bool false, .bool false, .bool false, .int .u64 0, .int .u64 0, .int .u64 0, .int .u64 0, .int .u64 0, .int .u64 0, .int .u64 0, .int .u64 0] 29 23 (by decide))
  have H3S := Lib.hid k3s
  have H3O := Lib.hid k3o
  have HP3 := Lib.hid hp3
  clear k3s k3o hp3 hb3 hF3
  go_wp2_with (first
    | (refine store_row rfl 29 (.tmp 13) (.tmp 40) rfl w3.heap.size rfl (staL s) rfl _ Try.underlying29 rfl info_sta (sta_one s) HTH.out ?_; intro Y hY hl; clear hl; have HYB := Lib.hid (show Below w3.heap.size w3 Y by rw [hY]; exact below_setCells (Nat.le_refl _) _ _ _ (below_last (Below.refl _ _) _)); have HYR := Lib.hid (show Y.rangeAt w3.heap.size 0 (staL s) by rw [hY]; exact World.rangeAt_setCells_same _ w3.heap.size 0 (staL s) HTH.out); have HYZ := Lib.hid (show w3.heap.size < Y.heap.size by rw [hY, setCells_size]; simp); have HYS := Lib.hid (show Y.rangeAt w.heap.size 0 (staL s) from range_in13 ((HYB.out.block _ (Array.getElem?_eq_some_iff.1 H3S.out).1).trans H3S.out) 0 _ rfl); have HYO := Lib.hid (show Y.rangeAt (w2.heap.size + 1) 0 (opL' (atO q)) from range_in13 ((HYB.out.block _ (Array.getElem?_eq_some_iff.1 H3O.out).1).trans H3O.out) 0 _ rfl); have HYP := Lib.hid (HP3.out.but (G := fun _ => False) (But.of_below HYB.out) (fun _ _ h => h)); clear hY)
    | (refine wpList_load_mid rfl 29 (.tmp 13) rfl w3.heap.size 0 rfl (staL s) _ HYR.out Try.underlying29 rfl info_sta ?_)
    | (refine wpList_load_mid rfl 32 (.tmp 12) rfl (w2.heap.size + 1) 0 rfl (opL' (atO q)) _ HYO.out Try.underlying32 rfl info_opd1 ?_))
  have hld := HLD.out b F3 _ pg3 Y HYP.out
  rw [(HONE.out g).2.2.1, (HONE.out g).2.2.2, HV.out, show staV s = .agg (staL s).toArray from rfl, show opV (atO q) = .agg (opL' (atO q)).toArray from rfl] at hld
  ((with_reducible refine hld.mono ?_); rintro e w4 ⟨rfl, b4⟩)
  have H4S := Lib.hid (show w4.rangeAt w.heap.size 0 (staL s) from fun j x hj => (b4.cell (p := ⟨w.heap.size, 0 + j, none⟩) (show w.heap.size < Y.heap.size by have := HSZ.out; have := (Array.getElem?_eq_some_iff.1 H3S.out).1; have := HYB.out.size; omega)).trans (HYS.out j x hj))
  have H4T := Lib.hid (show w4.rangeAt w3.heap.size 0 (staL s) from fun j x hj => (b4.cell (p := ⟨w3.heap.size, 0 + j, none⟩) HYZ.out).trans (HYR.out j x hj))
  have HB4 := Lib.hid (below_step (below_step HB3.out HYB.out) b4)
  clear b4 hld
  go_wp2_with (first
    | (refine wpList_met (by rfl) ?_; refine wpList_load_mid rfl 29 (.tmp 13) rfl w3.heap.size 0 rfl (staL s) _ H4T.out Try.underlying29 rfl info_sta ?_)
    | (refine wpList_met (by rfl) ?_; refine wpList_load_mid rfl 29 (.tmp 4) rfl w.heap.size 0 rfl (staL s) _ H4S.out Try.underlying29 rfl info_sta ?_)
    | (refine wpList_met (by rfl) ?_; refine wpList_eql_sta rfl (.tmp 63) (.tmp 64) rfl s HWF.out rfl rfl ?_))
  go_ret
  exact ⟨rfl, HB4.out⟩
theorem addrstore_1 (s : Sta) (p kk v : Int) (w : World) (hs : StaOk s) (p0 : 0 ≤ p) (k0 : 0 ≤ kk) (v0 : 0 ≤ v) (v1 : v < 18446744073709551616) (hk : kk % 4 = 1) :
    Calls Try.prog 4 #[staV s, .int .u8 p, .int .u8 kk, .int .u64 v] w fun e w' => e = .returned (.bool true) ∧ Below w.heap.size w w' := by
  obtain ⟨q, hq⟩ : ∃ q, p % 240 = q := ⟨_, rfl⟩
  have q0 : 0 ≤ q := by omega
  have q1 : q < 240 := by omega
  have HONE := Lib.hid (box_one s q v 2 2 rfl q0 (by omega) v0)
  have HST := Lib.hid (fun b F g pg u hu => astore_any b F g pg (boxC 0) boxD s (atO q) 2 v hs q0 (show q < 4294967296 by omega) v0 v1 u hu)
  have HLD := Lib.hid (fun b F g pg u hu => aload_any b F g pg (boxC 0) boxD s (atO q) 2 hs q0 (show q < 4294967296 by omega) u hu)
  have hM : bits .and .u64 v 65535 = v % 256 ^ 2 := and_low64a v 16 v0 v1 (by decide)
  obtain ⟨V, hV⟩ : ∃ V, v % 256 ^ 2 = V := ⟨_, rfl⟩
  rw [hV] at hM
  have HV := Lib.hid hV
  have HWF := Lib.hid (ok_wf hs)
  clear hV hs
  unfold staV
  go_enter Try.func4, Try.ntmps4
  go_wp2_with fail
  refine (known14_any _).mono ?_
  rintro e w1 ⟨rfl, c1⟩
  have g0 : w1.heap[w.heap.size]? = some (.cells (staL s).toArray 29 (0, 0)) := (c1.block _ (by simp)).trans (by show (w.heap.push _)[w.heap.size]? = _; simp)
  have HG0 := Lib.hid g0
  have HB1 := Lib.hid (below_step (below_last (Below.refl _ _) _) c1)
  clear g0 c1
  go_wp2_with fail
  ((with_reducible refine (boxes14_any (.slice none 0 0) 0 (fun _ => 0) 5 (by decide) (by decide) (by decide) (fun _ => ⟨by decide, by decide⟩) _ (slc_nil8 _)).mono ?_); rintro e w2 ⟨b, F, pg, rb, R, rfl, ht⟩)
  have HT := Lib.hid ht
  clear ht
  obtain ⟨g, hg⟩ : ∃ g, boxG (fun _ => 0) 0 5 = g := ⟨_, rfl⟩
  have HT := HT.out
  rw [hg] at HT
  have HT := Lib.hid HT
  clear hg
  go_upto_region 6 with fail
  obtain ⟨W, hW⟩ : ∃ W, W = (w2.alloc (.cells #[.int .i64 1, .int .i64 2, .int .i64 4, .int .i64 8] 3)).alloc (.cells #[.int .i64 3, .int .i64 0, .int .i64 (-1), .int .i64 (-1), .int .i64 1, .int .u32 q] 32) := ⟨_, rfl⟩
  rw [← hW]
  have hbw : Below w2.heap.size w2 W := (heap_two hW).2.2
  have e2 : W.heap[w2.heap.size + 1]? = some (.cells (opL' (atO q)).toArray 32 (0, 0)) := (heap_two hW).2.1
  have l1 := HT.out.own.low
  have gW : W.heap[w.heap.size]? = some (.cells (staL s).toArray 29 (0, 0)) := (hbw.block _ (Array.getElem?_eq_some_iff.1 ((l1.block _ (Array.getElem?_eq_some_iff.1 HG0.out).1).trans HG0.out)).1).trans ((l1.block _ (Array.getElem?_eq_some_iff.1 HG0.out).1).trans HG0.out)
  have HBW := Lib.hid (below_step HB1.out (below_step l1 hbw))
  have HSZ := Lib.hid (show w.heap.size < w1.heap.size ∧ w1.heap.size ≤ w2.heap.size ∧ w2.heap.size + 1 < W.heap.size from ⟨(Array.getElem?_eq_some_iff.1 HG0.out).1, l1.size, (Array.getElem?_eq_some_iff.1 e2).1⟩)
  have HF := Lib.hid (show ∀ k, F k → w1.heap.size ≤ k ∧ k < w2.heap.size from fun k hk => ⟨HT.out.own.own k hk, HT.out.own.bus.lt k hk⟩)
  have HP := Lib.hid (show PBus W b F g pg (boxC 0) boxD from HT.out.own.bus.but (G := fun _ => False) (But.of_below hbw) (fun _ _ h => h))
  have HRS := Lib.hid (range_in13 gW 0 (staL s) rfl)
  have HRO := Lib.hid (range_in13 e2 0 (opL' (atO q)) rfl)
  have HS1 := Lib.hid (fun b F g pg u hu => HST.out b F g pg u hu)
  have HGS := Lib.hid gW
  have HGO := Lib.hid e2
  clear hW hbw e2 l1 gW
  have hst := HST.out b F g pg W HP.out
  rw [(HONE.out g).1, (HONE.out g).2.1, show staV s = .agg (staL s).toArray from rfl, show opV (atO q) = .agg (opL' (atO q)).toArray from rfl] at hst
  have HS1 := Lib.hid hst
  clear hst
  go_wp2_with (first
    | (refine wpList_load_mid rfl 29 (.tmp 4) rfl w.heap.size 0 rfl (staL s) _ HRS.out Try.underlying29 rfl info_sta ?_)
    | (refine wpList_load_mid rfl 32 (.tmp 12) rfl (w2.heap.size + 1) 0 rfl (opL' (atO q)) _ HRO.out Try.underlying32 rfl info_opd1 ?_))
  ((with_reducible refine (HS1.out).mono ?_); rintro e w3 ⟨F3, pg3, rfl, hF3, hp3, hb3⟩)
  have k3s : w3.heap[w.heap.size]? = some (.cells (staL s).toArray 29 (0, 0)) := (hb3.block _ (by have := HSZ.out; omega) (fun hk => by have := HF.out _ hk; have := HSZ.out; omega)).trans HGS.out
  have k3o : w3.heap[w2.heap.size + 1]? = some (.cells (opL' (atO q)).toArray 32 (0, 0)) := (hb3.block _ (by have := HSZ.out; omega) (fun hk => by have := HF.out _ hk; omega)).trans HGO.out
  have HB3 := Lib.hid (show Below w.heap.size w w3 from hb3.below HBW.out (fun k hk => by have := HF.out k hk; have := HSZ.out; omega) HBW.out.size)
  have HTH := Lib.hid (there_alloc_new w3 #[.int .u32 0, .int .u32 0, .int .u32 0, .int .u32 0, .int .u32 0, .int .u32 0, .int .u32 0, .int .u32 0, .int .u32 0, .bool false, .bool false, .bool false, .bool false, .bool false, .bool false, .int .u64 0, .int .u64 0, .int .u64 0, .int .u64 0, .int .u64 0, .int .u64 0, .int .u64 0, .int .u64 0] 29 23 (by decide))
  have H3S := Lib.hid k3s
  have H3O := Lib.hid k3o
  have HP3 := Lib.hid hp3
  clear k3s k3o hp3 hb3 hF3
  go_wp2_with (first
    | (refine store_row rfl 29 (.tmp 13) (.tmp 40) rfl w3.heap.size rfl (staL s) rfl _ Try.underlying29 rfl info_sta (sta_one s) HTH.out ?_; intro Y hY hl; clear hl; have HYB := Lib.hid (show Below w3.heap.size w3 Y by rw [hY]; exact below_setCells (Nat.le_refl _) _ _ _ (below_last (Below.refl _ _) _)); have HYR := Lib.hid (show Y.rangeAt w3.heap.size 0 (staL s) by rw [hY]; exact World.rangeAt_setCells_same _ w3.heap.size 0 (staL s) HTH.out); have HYZ := Lib.hid (show w3.heap.size < Y.heap.size by rw [hY, setCells_size]; simp); have HYS := Lib.hid (show Y.rangeAt w.heap.size 0 (staL s) from range_in13 ((HYB.out.block _ (Array.getElem?_eq_some_iff.1 H3S.out).1).trans H3S.out) 0 _ rfl); have HYO := Lib.hid (show Y.rangeAt (w2.heap.size + 1) 0 (opL' (atO q)) from range_in13 ((HYB.out.block _ (Array.getElem?_eq_some_iff.1 H3O.out).1).trans H3O.out) 0 _ rfl); have HYP := Lib.hid (HP3.out.but (G := fun _ => False) (But.of_below HYB.out) (fun _ _ h => h)); clear hY)
    | (refine wpList_load_mid rfl 29 (.tmp 13) rfl w3.heap.size 0 rfl (staL s) _ HYR.out Try.underlying29 rfl info_sta ?_)
    | (refine wpList_load_mid rfl 32 (.tmp 12) rfl (w2.heap.size + 1) 0 rfl (opL' (atO q)) _ HYO.out Try.underlying32 rfl info_opd1 ?_))
  have hld := HLD.out b F3 _ pg3 Y HYP.out
  rw [(HONE.out g).2.2.1, (HONE.out g).2.2.2, HV.out, show staV s = .agg (staL s).toArray from rfl, show opV (atO q) = .agg (opL' (atO q)).toArray from rfl] at hld
  ((with_reducible refine hld.mono ?_); rintro e w4 ⟨rfl, b4⟩)
  have H4S := Lib.hid (show w4.rangeAt w.heap.size 0 (staL s) from fun j x hj => (b4.cell (p := ⟨w.heap.size, 0 + j, none⟩) (show w.heap.size < Y.heap.size by have := HSZ.out; have := (Array.getElem?_eq_some_iff.1 H3S.out).1; have := HYB.out.size; omega)).trans (HYS.out j x hj))
  have H4T := Lib.hid (show w4.rangeAt w3.heap.size 0 (staL s) from fun j x hj => (b4.cell (p := ⟨w3.heap.size, 0 + j, none⟩) HYZ.out).trans (HYR.out j x hj))
  have HB4 := Lib.hid (below_step (below_step HB3.out HYB.out) b4)
  clear b4 hld
  go_wp2_with (first
    | (refine wpList_met (by rfl) ?_; refine wpList_load_mid rfl 29 (.tmp 13) rfl w3.heap.size 0 rfl (staL s) _ H4T.out Try.underlying29 rfl info_sta ?_)
    | (refine wpList_met (by rfl) ?_; refine wpList_load_mid rfl 29 (.tmp 4) rfl w.heap.size 0 rfl (staL s) _ H4S.out Try.underlying29 rfl info_sta ?_)
    | (refine wpList_met (by rfl) ?_; refine wpList_eql_sta rfl (.tmp 63) (.tmp 64) rfl s HWF.out rfl rfl ?_))
  go_ret
  exact ⟨rfl, HB4.out⟩
theorem addrstore_2 (s : Sta) (p kk v : Int) (w : World) (hs : StaOk s) (p0 : 0 ≤ p) (k0 : 0 ≤ kk) (v0 : 0 ≤ v) (v1 : v < 18446744073709551616) (hk : kk % 4 = 2) :
    Calls Try.prog 4 #[staV s, .int .u8 p, .int .u8 kk, .int .u64 v] w fun e w' => e = .returned (.bool true) ∧ Below w.heap.size w w' := by
  obtain ⟨q, hq⟩ : ∃ q, p % 240 = q := ⟨_, rfl⟩
  have q0 : 0 ≤ q := by omega
  have q1 : q < 240 := by omega
  have HONE := Lib.hid (box_one s q v 4 4 rfl q0 (by omega) v0)
  have HST := Lib.hid (fun b F g pg u hu => astore_any b F g pg (boxC 0) boxD s (atO q) 4 v hs q0 (show q < 4294967296 by omega) v0 v1 u hu)
  have HLD := Lib.hid (fun b F g pg u hu => aload_any b F g pg (boxC 0) boxD s (atO q) 4 hs q0 (show q < 4294967296 by omega) u hu)
  have hM : bits .and .u64 v 4294967295 = v % 256 ^ 4 := and_low64a v 32 v0 v1 (by decide)
  obtain ⟨V, hV⟩ : ∃ V, v % 256 ^ 4 = V := ⟨_, rfl⟩
  rw [hV] at hM
  have HV := Lib.hid hV
  have HWF := Lib.hid (ok_wf hs)
  clear hV hs
  unfold staV
  go_enter Try.func4, Try.ntmps4
  go_wp2_with fail
  refine (known14_any _).mono ?_
  rintro e w1 ⟨rfl, c1⟩
  have g0 : w1.heap[w.heap.size]? = some (.cells (staL s).toArray 29 (0, 0)) := (c1.block _ (by simp)).trans (by show (w.heap.push _)[w.heap.size]? = _; simp)
  have HG0 := Lib.hid g0
  have HB1 := Lib.hid (below_step (below_last (Below.refl _ _) _) c1)
  clear g0 c1
  go_wp2_with fail
  ((with_reducible refine (boxes14_any (.slice none 0 0) 0 (fun _ => 0) 5 (by decide) (by decide) (by decide) (fun _ => ⟨by decide, by decide⟩) _ (slc_nil8 _)).mono ?_); rintro e w2 ⟨b, F, pg, rb, R, rfl, ht⟩)
  have HT := Lib.hid ht
  clear ht
  obtain ⟨g, hg⟩ : ∃ g, boxG (fun _ => 0) 0 5 = g := ⟨_, rfl⟩
  have HT := HT.out
  rw [hg] at HT
  have HT := Lib.hid HT
  clear hg
  go_upto_region 6 with fail
  obtain ⟨W, hW⟩ : ∃ W, W = (w2.alloc (.cells #[.int .i64 1, .int .i64 2, .int .i64 4, .int .i64 8] 3)).alloc (.cells #[.int .i64 3, .int .i64 0, .int .i64 (-1), .int .i64 (-1), .int .i64 1, .int .u32 q] 32) := ⟨_, rfl⟩
  rw [← hW]
  have hbw : Below w2.heap.size w2 W := (heap_two hW).2.2
  have e2 : W.heap[w2.heap.size + 1]? = some (.cells (opL' (atO q)).toArray 32 (0, 0)) := (heap_two hW).2.1
  have l1 := HT.out.own.low
  have gW : W.heap[w.heap.size]? = some (.cells (staL s).toArray 29 (0, 0)) := (hbw.block _ (Array.getElem?_eq_some_iff.1 ((l1.block _ (Array.getElem?_eq_some_iff.1 HG0.out).1).trans HG0.out)).1).trans ((l1.block _ (Array.getElem?_eq_some_iff.1 HG0.out).1).trans HG0.out)
  have HBW := Lib.hid (below_step HB1.out (below_step l1 hbw))
  have HSZ := Lib.hid (show w.heap.size < w1.heap.size ∧ w1.heap.size ≤ w2.heap.size ∧ w2.heap.size + 1 < W.heap.size from ⟨(Array.getElem?_eq_some_iff.1 HG0.out).1, l1.size, (Array.getElem?_eq_some_iff.1 e2).1⟩)
  have HF := Lib.hid (show ∀ k, F k → w1.heap.size ≤ k ∧ k < w2.heap.size from fun k hk => ⟨HT.out.own.own k hk, HT.out.own.bus.lt k hk⟩)
  have HP := Lib.hid (show PBus W b F g pg (boxC 0) boxD from HT.out.own.bus.but (G := fun _ => False) (But.of_below hbw) (fun _ _ h => h))
  have HRS := Lib.hid (range_in13 gW 0 (staL s) rfl)
  have HRO := Lib.hid (range_in13 e2 0 (opL' (atO q)) rfl)
  have HS1 := Lib.hid (fun b F g pg u hu => HST.out b F g pg u hu)
  have HGS := Lib.hid gW
  have HGO := Lib.hid e2
  clear hW hbw e2 l1 gW
  have hst := HST.out b F g pg W HP.out
  rw [(HONE.out g).1, (HONE.out g).2.1, show staV s = .agg (staL s).toArray from rfl, show opV (atO q) = .agg (opL' (atO q)).toArray from rfl] at hst
  have HS1 := Lib.hid hst
  clear hst
  go_wp2_with (first
    | (refine wpList_load_mid rfl 29 (.tmp 4) rfl w.heap.size 0 rfl (staL s) _ HRS.out Try.underlying29 rfl info_sta ?_)
    | (refine wpList_load_mid rfl 32 (.tmp 12) rfl (w2.heap.size + 1) 0 rfl (opL' (atO q)) _ HRO.out Try.underlying32 rfl info_opd1 ?_))
  ((with_reducible refine (HS1.out).mono ?_); rintro e w3 ⟨F3, pg3, rfl, hF3, hp3, hb3⟩)
  have k3s : w3.heap[w.heap.size]? = some (.cells (staL s).toArray 29 (0, 0)) := (hb3.block _ (by have := HSZ.out; omega) (fun hk => by have := HF.out _ hk; have := HSZ.out; omega)).trans HGS.out
  have k3o : w3.heap[w2.heap.size + 1]? = some (.cells (opL' (atO q)).toArray 32 (0, 0)) := (hb3.block _ (by have := HSZ.out; omega) (fun hk => by have := HF.out _ hk; omega)).trans HGO.out
  have HB3 := Lib.hid (show Below w.heap.size w w3 from hb3.below HBW.out (fun k hk => by have := HF.out k hk; have := HSZ.out; omega) HBW.out.size)
  have HTH := Lib.hid (there_alloc_new w3 #[.int .u32 0, .int .u32 0, .int .u32 0, .int .u32 0, .int .u32 0, .int .u32 0, .int .u32 0, .int .u32 0, .int .u32 0, .bool false, .bool false, .bool false, .bool false, .bool false, .bool false, .int .u64 0, .int .u64 0, .int .u64 0, .int .u64 0, .int .u64 0, .int .u64 0, .int .u64 0, .int .u64 0] 29 23 (by decide))
  have H3S := Lib.hid k3s
  have H3O := Lib.hid k3o
  have HP3 := Lib.hid hp3
  clear k3s k3o hp3 hb3 hF3
  go_wp2_with (first
    | (refine store_row rfl 29 (.tmp 13) (.tmp 40) rfl w3.heap.size rfl (staL s) rfl _ Try.underlying29 rfl info_sta (sta_one s) HTH.out ?_; intro Y hY hl; clear hl; have HYB := Lib.hid (show Below w3.heap.size w3 Y by rw [hY]; exact below_setCells (Nat.le_refl _) _ _ _ (below_last (Below.refl _ _) _)); have HYR := Lib.hid (show Y.rangeAt w3.heap.size 0 (staL s) by rw [hY]; exact World.rangeAt_setCells_same _ w3.heap.size 0 (staL s) HTH.out); have HYZ := Lib.hid (show w3.heap.size < Y.heap.size by rw [hY, setCells_size]; simp); have HYS := Lib.hid (show Y.rangeAt w.heap.size 0 (staL s) from range_in13 ((HYB.out.block _ (Array.getElem?_eq_some_iff.1 H3S.out).1).trans H3S.out) 0 _ rfl); have HYO := Lib.hid (show Y.rangeAt (w2.heap.size + 1) 0 (opL' (atO q)) from range_in13 ((HYB.out.block _ (Array.getElem?_eq_some_iff.1 H3O.out).1).trans H3O.out) 0 _ rfl); have HYP := Lib.hid (HP3.out.but (G := fun _ => False) (But.of_below HYB.out) (fun _ _ h => h)); clear hY)
    | (refine wpList_load_mid rfl 29 (.tmp 13) rfl w3.heap.size 0 rfl (staL s) _ HYR.out Try.underlying29 rfl info_sta ?_)
    | (refine wpList_load_mid rfl 32 (.tmp 12) rfl (w2.heap.size + 1) 0 rfl (opL' (atO q)) _ HYO.out Try.underlying32 rfl info_opd1 ?_))
  have hld := HLD.out b F3 _ pg3 Y HYP.out
  rw [(HONE.out g).2.2.1, (HONE.out g).2.2.2, HV.out, show staV s = .agg (staL s).toArray from rfl, show opV (atO q) = .agg (opL' (atO q)).toArray from rfl] at hld
  ((with_reducible refine hld.mono ?_); rintro e w4 ⟨rfl, b4⟩)
  have H4S := Lib.hid (show w4.rangeAt w.heap.size 0 (staL s) from fun j x hj => (b4.cell (p := ⟨w.heap.size, 0 + j, none⟩) (show w.heap.size < Y.heap.size by have := HSZ.out; have := (Array.getElem?_eq_some_iff.1 H3S.out).1; have := HYB.out.size; omega)).trans (HYS.out j x hj))
  have H4T := Lib.hid (show w4.rangeAt w3.heap.size 0 (staL s) from fun j x hj => (b4.cell (p := ⟨w3.heap.size, 0 + j, none⟩) HYZ.out).trans (HYR.out j x hj))
  have HB4 := Lib.hid (below_step (below_step HB3.out HYB.out) b4)
  clear b4 hld
  go_wp2_with (first
    | (refine wpList_met (by rfl) ?_; refine wpList_load_mid rfl 29 (.tmp 13) rfl w3.heap.size 0 rfl (staL s) _ H4T.out Try.underlying29 rfl info_sta ?_)
    | (refine wpList_met (by rfl) ?_; refine wpList_load_mid rfl 29 (.tmp 4) rfl w.heap.size 0 rfl (staL s) _ H4S.out Try.underlying29 rfl info_sta ?_)
    | (refine wpList_met (by rfl) ?_; refine wpList_eql_sta rfl (.tmp 63) (.tmp 64) rfl s HWF.out rfl rfl ?_))
  go_ret
  exact ⟨rfl, HB4.out⟩
theorem addrstore_3 (s : Sta) (p kk v : Int) (w : World) (hs : StaOk s) (p0 : 0 ≤ p) (k0 : 0 ≤ kk) (v0 : 0 ≤ v) (v1 : v < 18446744073709551616) (hk : kk % 4 = 3) :
    Calls Try.prog 4 #[staV s, .int .u8 p, .int .u8 kk, .int .u64 v] w fun e w' => e = .returned (.bool true) ∧ Below w.heap.size w w' := by
  obtain ⟨q, hq⟩ : ∃ q, p % 240 = q := ⟨_, rfl⟩
  have q0 : 0 ≤ q := by omega
  have q1 : q < 240 := by omega
  have HONE := Lib.hid (box_one s q v 8 8 rfl q0 (by omega) v0)
  have HST := Lib.hid (fun b F g pg u hu => astore_any b F g pg (boxC 0) boxD s (atO q) 8 v hs q0 (show q < 4294967296 by omega) v0 v1 u hu)
  have HLD := Lib.hid (fun b F g pg u hu => aload_any b F g pg (boxC 0) boxD s (atO q) 8 hs q0 (show q < 4294967296 by omega) u hu)
  have hM : bits .and .u64 v 18446744073709551615 = v % 256 ^ 8 := and_low64a v 64 v0 v1 (by decide)
  obtain ⟨V, hV⟩ : ∃ V, v % 256 ^ 8 = V := ⟨_, rfl⟩
  rw [hV] at hM
  have HV := Lib.hid hV
  have HWF := Lib.hid (ok_wf hs)
  clear hV hs
  unfold staV
  go_enter Try.func4, Try.ntmps4
  go_wp2_with fail
  refine (known14_any _).mono ?_
  rintro e w1 ⟨rfl, c1⟩
  have g0 : w1.heap[w.heap.size]? = some (.cells (staL s).toArray 29 (0, 0)) := (c1.block _ (by simp)).trans (by show (w.heap.push _)[w.heap.size]? = _; simp)
  have HG0 := Lib.hid g0
  have HB1 := Lib.hid (below_step (below_last (Below.refl _ _) _) c1)
  clear g0 c1
  go_wp2_with fail
  ((with_reducible refine (boxes14_any (.slice none 0 0) 0 (fun _ => 0) 5 (by decide) (by decide) (by decide) (fun _ => ⟨by decide, by decide⟩) _ (slc_nil8 _)).mono ?_); rintro e w2 ⟨b, F, pg, rb, R, rfl, ht⟩)
  have HT := Lib.hid ht
  clear ht
  obtain ⟨g, hg⟩ : ∃ g, boxG (fun _ => 0) 0 5 = g := ⟨_, rfl⟩
  have HT := HT.out
  rw [hg] at HT
  have HT := Lib.hid HT
  clear hg
  go_upto_region 6 with fail
  obtain ⟨W, hW⟩ : ∃ W, W = (w2.alloc (.cells #[.int .i64 1, .int .i64 2, .int .i64 4, .int .i64 8] 3)).alloc (.cells #[.int .i64 3, .int .i64 0, .int .i64 (-1), .int .i64 (-1), .int .i64 1, .int .u32 q] 32) := ⟨_, rfl⟩
  rw [← hW]
  have hbw : Below w2.heap.size w2 W := (heap_two hW).2.2
  have e2 : W.heap[w2.heap.size + 1]? = some (.cells (opL' (atO q)).toArray 32 (0, 0)) := (heap_two hW).2.1
  have l1 := HT.out.own.low
  have gW : W.heap[w.heap.size]? = some (.cells (staL s).toArray 29 (0, 0)) := (hbw.block _ (Array.getElem?_eq_some_iff.1 ((l1.block _ (Array.getElem?_eq_some_iff.1 HG0.out).1).trans HG0.out)).1).trans ((l1.block _ (Array.getElem?_eq_some_iff.1 HG0.out).1).trans HG0.out)
  have HBW := Lib.hid (below_step HB1.out (below_step l1 hbw))
  have HSZ := Lib.hid (show w.heap.size < w1.heap.size ∧ w1.heap.size ≤ w2.heap.size ∧ w2.heap.size + 1 < W.heap.size from ⟨(Array.getElem?_eq_some_iff.1 HG0.out).1, l1.size, (Array.getElem?_eq_some_iff.1 e2).1⟩)
  have HF := Lib.hid (show ∀ k, F k → w1.heap.size ≤ k ∧ k < w2.heap.size from fun k hk => ⟨HT.out.own.own k hk, HT.out.own.bus.lt k hk⟩)
  have HP := Lib.hid (show PBus W b F g pg (boxC 0) boxD from HT.out.own.bus.but (G := fun _ => False) (But.of_below hbw) (fun _ _ h => h))
  have HRS := Lib.hid (range_in13 gW 0 (staL s) rfl)
  have HRO := Lib.hid (range_in13 e2 0 (opL' (atO q)) rfl)
  have HS1 := Lib.hid (fun b F g pg u hu => HST.out b F g pg u hu)
  have HGS := Lib.hid gW
  have HGO := Lib.hid e2
  clear hW hbw e2 l1 gW
  have hst := HST.out b F g pg W HP.out
  rw [(HONE.out g).1, (HONE.out g).2.1, show staV s = .agg (staL s).toArray from rfl, show opV (atO q) = .agg (opL' (atO q)).toArray from rfl] at hst
  have HS1 := Lib.hid hst
  clear hst
  go_wp2_with (first
    | (refine wpList_load_mid rfl 29 (.tmp 4) rfl w.heap.size 0 rfl (staL s) _ HRS.out Try.underlying29 rfl info_sta ?_)
    | (refine wpList_load_mid rfl 32 (.tmp 12) rfl (w2.heap.size + 1) 0 rfl (opL' (atO q)) _ HRO.out Try.underlying32 rfl info_opd1 ?_))
  ((with_reducible refine (HS1.out).mono ?_); rintro e w3 ⟨F3, pg3, rfl, hF3, hp3, hb3⟩)
  have k3s : w3.heap[w.heap.size]? = some (.cells (staL s).toArray 29 (0, 0)) := (hb3.block _ (by have := HSZ.out; omega) (fun hk => by have := HF.out _ hk; have := HSZ.out; omega)).trans HGS.out
  have k3o : w3.heap[w2.heap.size + 1]? = some (.cells (opL' (atO q)).toArray 32 (0, 0)) := (hb3.block _ (by have := HSZ.out; omega) (fun hk => by have := HF.out _ hk; omega)).trans HGO.out
  have HB3 := Lib.hid (show Below w.heap.size w w3 from hb3.below HBW.out (fun k hk => by have := HF.out k hk; have := HSZ.out; omega) HBW.out.size)
  have HTH := Lib.hid (there_alloc_new w3 #[.int .u32 0, .int .u32 0, .int .u32 0, .int .u32 0, .int .u32 0, .int .u32 0, .int .u32 0, .int .u32 0, .int .u32 0, .bool false, .bool false, .bool false, .bool false, .bool false, .bool false, .int .u64 0, .int .u64 0, .int .u64 0, .int .u64 0, .int .u64 0, .int .u64 0, .int .u64 0, .int .u64 0] 29 23 (by decide))
  have H3S := Lib.hid k3s
  have H3O := Lib.hid k3o
  have HP3 := Lib.hid hp3
  clear k3s k3o hp3 hb3 hF3
  go_wp2_with (first
    | (refine store_row rfl 29 (.tmp 13) (.tmp 40) rfl w3.heap.size rfl (staL s) rfl _ Try.underlying29 rfl info_sta (sta_one s) HTH.out ?_; intro Y hY hl; clear hl; have HYB := Lib.hid (show Below w3.heap.size w3 Y by rw [hY]; exact below_setCells (Nat.le_refl _) _ _ _ (below_last (Below.refl _ _) _)); have HYR := Lib.hid (show Y.rangeAt w3.heap.size 0 (staL s) by rw [hY]; exact World.rangeAt_setCells_same _ w3.heap.size 0 (staL s) HTH.out); have HYZ := Lib.hid (show w3.heap.size < Y.heap.size by rw [hY, setCells_size]; simp); have HYS := Lib.hid (show Y.rangeAt w.heap.size 0 (staL s) from range_in13 ((HYB.out.block _ (Array.getElem?_eq_some_iff.1 H3S.out).1).trans H3S.out) 0 _ rfl); have HYO := Lib.hid (show Y.rangeAt (w2.heap.size + 1) 0 (opL' (atO q)) from range_in13 ((HYB.out.block _ (Array.getElem?_eq_some_iff.1 H3O.out).1).trans H3O.out) 0 _ rfl); have HYP := Lib.hid (HP3.out.but (G := fun _ => False) (But.of_below HYB.out) (fun _ _ h => h)); clear hY)
    | (refine wpList_load_mid rfl 29 (.tmp 13) rfl w3.heap.size 0 rfl (staL s) _ HYR.out Try.underlying29 rfl info_sta ?_)
    | (refine wpList_load_mid rfl 32 (.tmp 12) rfl (w2.heap.size + 1) 0 rfl (opL' (atO q)) _ HYO.out Try.underlying32 rfl info_opd1 ?_))
  have hld := HLD.out b F3 _ pg3 Y HYP.out
  rw [(HONE.out g).2.2.1, (HONE.out g).2.2.2, HV.out, show staV s = .agg (staL s).toArray from rfl, show opV (atO q) = .agg (opL' (atO q)).toArray from rfl] at hld
  ((with_reducible refine hld.mono ?_); rintro e w4 ⟨rfl, b4⟩)
  have H4S := Lib.hid (show w4.rangeAt w.heap.size 0 (staL s) from fun j x hj => (b4.cell (p := ⟨w.heap.size, 0 + j, none⟩) (show w.heap.size < Y.heap.size by have := HSZ.out; have := (Array.getElem?_eq_some_iff.1 H3S.out).1; have := HYB.out.size; omega)).trans (HYS.out j x hj))
  have H4T := Lib.hid (show w4.rangeAt w3.heap.size 0 (staL s) from fun j x hj => (b4.cell (p := ⟨w3.heap.size, 0 + j, none⟩) HYZ.out).trans (HYR.out j x hj))
  have HB4 := Lib.hid (below_step (below_step HB3.out HYB.out) b4)
  clear b4 hld
  go_wp2_with (first
    | (refine wpList_met (by rfl) ?_; refine wpList_load_mid rfl 29 (.tmp 13) rfl w3.heap.size 0 rfl (staL s) _ H4T.out Try.underlying29 rfl info_sta ?_)
    | (refine wpList_met (by rfl) ?_; refine wpList_load_mid rfl 29 (.tmp 4) rfl w.heap.size 0 rfl (staL s) _ H4S.out Try.underlying29 rfl info_sta ?_)
    | (refine wpList_met (by rfl) ?_; refine wpList_eql_sta rfl (.tmp 63) (.tmp 64) rfl s HWF.out rfl rfl ?_))
  go_ret
  exact ⟨rfl, HB4.out⟩
set_option maxRecDepth 512
theorem addrstore_walk (s : Sta) (p kk v : Int) (w : World) (hs : StaOk s) (p0 : 0 ≤ p) (_ : p < 256) (k0 : 0 ≤ kk) (_ : kk < 256) (v0 : 0 ≤ v) (v1 : v < 18446744073709551616) :
    Calls Try.prog 4 #[staV s, .int .u8 p, .int .u8 kk, .int .u64 v] w fun e w' => e = .returned (.bool true) ∧ Below w.heap.size w w' := by
  rcases (show kk % 4 = 0 ∨ kk % 4 = 1 ∨ kk % 4 = 2 ∨ kk % 4 = 3 by omega) with h | h | h | h
  · exact addrstore_0 s p kk v w hs p0 k0 v0 v1 h
  · exact addrstore_1 s p kk v w hs p0 k0 v0 v1 h
  · exact addrstore_2 s p kk v w hs p0 k0 v0 v1 h
  · exact addrstore_3 s p kk v w hs p0 k0 v0 v1 h
end Go.Proofs.Ytbbegbaaefgikaa
