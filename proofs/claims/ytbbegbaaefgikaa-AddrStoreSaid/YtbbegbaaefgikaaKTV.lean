import Derived.Laws.BitsAllLaws
import Derived.Test.YtbbegbaaefgikaaKTH
import Derived.Test.YtbbegbaaefgikaaKTU
namespace Go.Proofs.Ytbbegbaaefgikaa
open Go.ChangeShapes Go.WideShapes Go.ChangeAt Go.RowKit
set_option maxRecDepth 100000
def aldV (g : Int → Int) (d : Sg) (s : Sta) (o : Opd) (size : Int) : Int := if o.kind = 3 then ldV g d (ofF s o) size else getG s o
def aldE (d : Sg) (s : Sta) (o : Opd) (size : Int) : Int := if o.kind = 3 then ldE d (ofF s o) size else 0
def astS (s : Sta) (o : Opd) (v : Int) : Sta := if o.kind = 3 then s else setF s o v
def astE (d : Sg) (s : Sta) (o : Opd) (size : Int) : Int := if o.kind = 3 then stE d (ofF s o) size else 0
def astG (g : Int → Int) (d : Sg) (s : Sta) (o : Opd) (size v : Int) : Int → Int := if o.kind = 3 then stG g d (ofF s o) size v else g
set_option maxRecDepth 100000
set_option maxHeartbeats 8000000
theorem aload_any (b0 : Nat) (F : Nat → Prop) (g : Int → Int) (pg : Int → Bool) (cc dd : Sg) (s : Sta) (o : Opd) (size : Int) (hs : StaOk s) (d0 : 0 ≤ o.disp) (d1 : o.disp < 4294967296) (w : World) (hR : PBus w b0 F g pg cc dd) :
    Calls Try.prog 9 #[.pointer (some ⟨b0, 0, none⟩), staV s, opV o, .int .i64 size] w fun e w' => e = .returned (.tuple #[.int .u64 (aldV g dd s o size), .int .i64 (aldE dd s o size)]) ∧ Below w.heap.size w w' := by
  have HR := Lib.hid hR
  have HOF := Lib.hid (fun u => of_any s o hs u)
  have HGE := Lib.hid (fun u => get_any s o hs d0 d1 u)
  have hlo := ofF_lo s o
  have hhi := ofF_hi s o
  obtain ⟨A, hA⟩ : ∃ A, ofF s o = A := ⟨_, rfl⟩
  have HV := Lib.hid (show aldV g dd s o size = if o.kind = 3 then ldV g dd A size else getG s o by rw [← hA]; rfl)
  have HO := Lib.hid (show aldE dd s o size = if o.kind = 3 then ldE dd A size else 0 by rw [← hA]; rfl)
  rw [hA] at HOF hlo hhi
  obtain ⟨G, hG⟩ : ∃ G, getG s o = G := ⟨_, rfl⟩
  rw [hG] at HGE HV
  obtain ⟨k, r, b, i, c, d⟩ := o
  dsimp only at d0 d1 HV HO
  rw [show staV s = .agg (staL s).toArray from rfl, show opV (⟨k, r, b, i, c, d⟩ : Opd) = .agg (opL' ⟨k, r, b, i, c, d⟩).toArray from rfl] at HOF HGE
  clear hs hA hG hR
  unfold staV opV
  go_enter Try.func9, Try.ntmps9
  go_upto_region 1 with fail
  obtain ⟨W, hW⟩ : ∃ W, W = (w.alloc (.cells (staL s).toArray 29)).alloc (.cells #[.int .i64 k, .int .i64 r, .int .i64 b, .int .i64 i, .int .i64 c, .int .u32 d] 32) := ⟨_, rfl⟩
  rw [← hW]
  obtain ⟨hS, hO, hbel⟩ := heap_two hW
  have HBEL := Lib.hid hbel
  have HRW := Lib.hid (fun u hu => rng_two (o := ⟨k, r, b, i, c, d⟩) hW (u := u) hu)
  have k0 : W.cell? ⟨w.heap.size + 1, 0, none⟩ = some (.int .i64 k) := (cell_block hO 0).1
  have HR := Lib.hid (HR.out.but (G := fun _ => False) (But.of_below hbel) (fun _ _ h => h))
  clear hW hS hO hbel
  by_cases hk : k = 3
  · subst hk
    have HV := Lib.hid (show aldV g dd s ⟨3, r, b, i, c, d⟩ size = ldV g dd A size from HV.out.trans (if_pos rfl))
    have HO := Lib.hid (show aldE dd s ⟨3, r, b, i, c, d⟩ size = ldE dd A size from HO.out.trans (if_pos rfl))
    go_wp2_with (first
      | (refine wpList_load_mid rfl 29 (.tmp 5) rfl w.heap.size 0 rfl (staL s) _ (HRW.out _ (Below.refl _ _)).1 Try.underlying29 rfl info_sta ?_)
      | (refine wpList_load_mid rfl 32 (.tmp 6) rfl (w.heap.size + 1) 0 rfl (opL' ⟨3, r, b, i, c, d⟩) _ (HRW.out _ (Below.refl _ _)).2 Try.underlying32 rfl info_opd1 ?_))
    ((with_reducible refine (HOF.out _).mono ?_); rintro e w1 ⟨rfl, b1⟩)
    have HB1 := Lib.hid b1
    have HR := Lib.hid (HR.out.but (G := fun _ => False) (But.of_below b1) (fun _ _ h => h))
    clear b1
    go_wp2_with fail
    ((with_reducible refine (bload_any b0 F g pg cc dd A size hlo hhi _ HR.out).mono ?_); rintro e w2 ⟨rfl, b2⟩)
    have HB2 := Lib.hid b2
    clear b2
    obtain ⟨E, hE⟩ : ∃ E, ldE dd A size = E := ⟨_, rfl⟩
    obtain ⟨X, hX⟩ : ∃ X, ldV g dd A size = X := ⟨_, rfl⟩
    have HV := Lib.hid (HV.out.trans hX)
    have HO := Lib.hid (HO.out.trans hE)
    rw [hE, hX]
    clear hE hX
    go_wp2_with fail
    go_ret2
    exact ⟨by rw [HV.out, HO.out]; rfl, HBEL.out.trans ((HB1.out.trans (HB2.out.mono HB1.out.size)).mono HBEL.out.size)⟩
  · have ek : (k != 3) = true := by simpa using hk
    have ek' : (k == 3) = false := by simpa using hk
    have HV := Lib.hid (show aldV g dd s ⟨k, r, b, i, c, d⟩ size = G from HV.out.trans (if_neg hk))
    have HO := Lib.hid (show aldE dd s ⟨k, r, b, i, c, d⟩ size = 0 from HO.out.trans (if_neg hk))
    clear hk
    go_wp2_with (first
      | (refine wpList_load_mid rfl 29 (.tmp 5) rfl w.heap.size 0 rfl (staL s) _ (HRW.out _ (Below.refl _ _)).1 Try.underlying29 rfl info_sta ?_)
      | (refine wpList_load_mid rfl 32 (.tmp 6) rfl (w.heap.size + 1) 0 rfl (opL' ⟨k, r, b, i, c, d⟩) _ (HRW.out _ (Below.refl _ _)).2 Try.underlying32 rfl info_opd1 ?_))
    ((with_reducible refine (HGE.out _).mono ?_); rintro e w1 ⟨rfl, b1⟩)
    have HB1 := Lib.hid b1
    clear b1
    go_wp2_with fail
    go_ret2
    exact ⟨by rw [HV.out, HO.out]; rfl, HBEL.out.trans (HB1.out.mono HBEL.out.size)⟩
set_option maxRecDepth 100000
set_option maxRecDepth 512
theorem writeP_or (pg : Int → Bool) (a : Int) (n : Nat) (q : Int) : writeP pg a n q = (writeP (fun _ => false) a n q || pg q) := by
  induction n with
  | zero => rfl
  | succ n ih =>
    show (q == place a n / 4096 * 4096 || writeP pg a n q) = ((q == place a n / 4096 * 4096 || writeP (fun _ => false) a n q) || pg q)
    rw [ih, Bool.or_assoc]
theorem writeP_twice (pg : Int → Bool) (a : Int) (n : Nat) : writeP (writeP pg a n) a n = writeP pg a n := by
  funext q
  rw [writeP_or (writeP pg a n), writeP_or pg]
  cases writeP (fun _ => false) a n q <;> rfl
theorem stP_twice (pg : Int → Bool) (d : Sg) (off size : Int) : stP (stP pg d off size) d off size = stP pg d off size := by
  unfold stP
  by_cases h : stE d off size = 0
  · rw [if_pos h, if_pos h]
    exact writeP_twice pg _ _
  · rw [if_neg h, if_neg h]
theorem heap_3 {w W : World} {o p q : Obj} (h : W = ((w.alloc o).alloc p).alloc q) : W.heap[w.heap.size]? = some o ∧ W.heap[w.heap.size + 1]? = some p ∧ W.heap[w.heap.size + 2]? = some q ∧ Below w.heap.size w W := heap_three h
theorem setL_sizeA : ∀ (vs : List Value) (C : Array Value) (o : Nat), (setL C o vs).size = C.size
  | [], _, _ => rfl
  | v :: vs, C, o => by unfold setL; rw [setL_sizeA vs]; simp
theorem setL_appA : ∀ (vs pre rest : List Value), vs.length ≤ rest.length → setL (pre ++ rest).toArray pre.length vs = (pre ++ vs ++ rest.drop vs.length).toArray
  | [], pre, rest, _ => by simp [setL]
  | v :: vs, pre, [], h => by simp at h
  | v :: vs, pre, x :: rest, h => by
    unfold setL
    have e : (pre ++ x :: rest).toArray.setIfInBounds pre.length v = (pre ++ [v] ++ rest).toArray := by simp
    rw [e, show pre.length + 1 = (pre ++ [v]).length by simp, setL_appA vs (pre ++ [v]) rest (by simpa using h)]
    simp
theorem setL_wholeA (s : Sta) {C : Array Value} (hz : C.size = 23) : setL C 0 (staL s).toArray.toList = (staL s).toArray := by
  obtain ⟨l⟩ := C
  have hl : l.length = 23 := hz
  have h := setL_appA (staL s) [] l (by rw [hl]; exact Nat.le_refl 23)
  rw [List.nil_append, List.nil_append, show l.drop (staL s).length = [] from List.drop_eq_nil_of_le (by rw [hl]; exact Nat.le_refl 23), List.append_nil] at h
  exact h
def HasB (w u : World) (b : Nat) (F : Nat → Prop) (g : Int → Int) (pg : Int → Bool) (cc dd : Sg) : Prop := ∃ F', PBus u b F' g pg cc dd ∧ ∀ k, F' k → F k ∨ w.heap.size + 3 ≤ k
variable {w u u' : World} {b0 : Nat} {F : Nat → Prop} {g g' : Int → Int} {pg pg' : Int → Bool} {cc dd : Sg} {s : Sta} {o : Opd}
theorem HasB.below (h : HasB w u b0 F g pg cc dd) (hb : Below u.heap.size u u') : HasB w u' b0 F g pg cc dd :=
  let ⟨F', h1, h2⟩ := h; ⟨F', h1.but (G := fun _ => False) (But.of_below hb) (fun _ _ h => h), h2⟩
theorem HasB.but {G : Nat → Prop} (h : HasB w u b0 F g pg cc dd) (hb : But G u u') (hn : ∀ k, F k ∨ w.heap.size + 3 ≤ k → ¬ G k) : HasB w u' b0 F g pg cc dd :=
  let ⟨F', h1, h2⟩ := h; ⟨F', h1.but hb (fun k hk => hn k (h2 k hk)), h2⟩
structure SInv (w : World) (b0 : Nat) (F : Nat → Prop) (g g' : Int → Int) (pg pg' : Int → Bool) (cc dd : Sg) (s : Sta) (o : Opd) (u : World) : Prop where
  rs : u.heap[w.heap.size]? = some (.cells (staL s).toArray 29 (0, 0))
  ro : u.heap[w.heap.size + 1]? = some (.cells (opL' o).toArray 32 (0, 0))
  res : ∃ C, u.heap[w.heap.size + 2]? = some (.cells C 29 (0, 0)) ∧ C.size = 23
  bus : HasB w u b0 F g pg cc dd ∨ HasB w u b0 F g' pg' cc dd
  own : ∀ k, F k → k < w.heap.size
  but : But F w u
theorem SInv.size (h : SInv w b0 F g g' pg pg' cc dd s o u) : w.heap.size + 3 ≤ u.heap.size := by
  obtain ⟨C, hC, _⟩ := h.res
  exact (Array.getElem?_eq_some_iff.1 hC).1
theorem SInv.below (h : SInv w b0 F g g' pg pg' cc dd s o u) (hb : Below u.heap.size u u') : SInv w b0 F g g' pg pg' cc dd s o u' := by
  have k : ∀ {j : Nat} {x : Obj}, u.heap[j]? = some x → u'.heap[j]? = some x := fun {j x} hj => (hb.block j (Array.getElem?_eq_some_iff.1 hj).1).trans hj
  obtain ⟨C, hC, hz⟩ := h.res
  exact ⟨k h.rs, k h.ro, ⟨C, k hC, hz⟩, h.bus.imp (·.below hb) (·.below hb), h.own, h.but.trans (But.of_below (F := F) hb) (fun _ _ h => h)⟩
theorem SInv.wrote {H : Nat → Prop} (h : SInv w b0 F g g' pg pg' cc dd s o u) (hH : ∀ k, H k → F k ∨ w.heap.size + 3 ≤ k) (hr : HasB w u' b0 F g' pg' cc dd) (hb : But H u u') : SInv w b0 F g g' pg pg' cc dd s o u' := by
  have k : ∀ {j : Nat} {x : Obj}, w.heap.size ≤ j → j < w.heap.size + 3 → u.heap[j]? = some x → u'.heap[j]? = some x := fun {j x} hl hm hj => (hb.block j (Array.getElem?_eq_some_iff.1 hj).1 (fun hR => (hH j hR).elim (fun q => by have := h.own j q; omega) (fun q => by omega))).trans hj
  obtain ⟨C, hC, hz⟩ := h.res
  exact ⟨k (by omega) (by omega) h.rs, k (by omega) (by omega) h.ro, ⟨C, k (by omega) (by omega) hC, hz⟩, .inr hr, h.own, h.but.trans hb (fun j hj q => (hH j q).elim id (fun q => by omega))⟩
theorem SInv.stored {Y : World} {cs : List Value} (h : SInv w b0 F g g' pg pg' cc dd s o u) (hY : Y = u.setCells (w.heap.size + 2) 0 cs) : SInv w b0 F g g' pg pg' cc dd s o Y ∧ But (· = w.heap.size + 2) u Y := by
  have hbt : But (· = w.heap.size + 2) u Y := by rw [hY]; exact (But.refl (· = w.heap.size + 2) u).cells (fun _ => rfl) _ _
  have k : ∀ {j : Nat} {x : Obj}, j ≠ w.heap.size + 2 → u.heap[j]? = some x → Y.heap[j]? = some x := fun {j x} hl hj => (hbt.block j (Array.getElem?_eq_some_iff.1 hj).1 hl).trans hj
  obtain ⟨C, hC, hz⟩ := h.res
  have hn : ∀ k, F k ∨ w.heap.size + 3 ≤ k → ¬ k = w.heap.size + 2 := fun k hk e => hk.elim (fun q => by have := h.own k q; omega) (fun q => by omega)
  refine ⟨⟨k (by omega) h.rs, k (by omega) h.ro, ?_, h.bus.imp (·.but hbt hn) (·.but hbt hn), h.own, ?_⟩, hbt⟩
  · rw [hY]
    exact ⟨_, block_setCells cs 0 u C hC, by rw [setL_sizeA]; exact hz⟩
  · refine ⟨hbt.os.trans h.but.os, hbt.tape.trans h.but.tape, hbt.output.trans h.but.output, Nat.le_trans h.but.size hbt.size, fun j hj hR => (hbt.block j (Nat.lt_of_lt_of_le hj h.but.size) (by omega)).trans (h.but.block j hj hR)⟩
def SVA (w : World) (b0 : Nat) (F : Nat → Prop) (g' : Int → Int) (pg' : Int → Bool) (cc dd : Sg) (s : Sta) (o : Opd) (size v A E : Int) : Nat → Value → World → Prop
  | 0, x, _ => x = .agg (staL s).toArray
  | 1, x, _ => x = .pointer (some ⟨b0, 0, none⟩)
  | 2, x, _ => x = .agg (staL s).toArray
  | 3, x, _ => x = .agg (opL' o).toArray
  | 4, x, _ => x = .int .u32 A
  | 5, x, _ => x = .int .i64 size
  | 6, x, _ => x = .int .u64 v
  | 7, x, u => x = .int .i64 E ∧ HasB w u b0 F g' pg' cc dd
  | 8, _, u => u.heap[w.heap.size + 2]? = some (.cells (staL s).toArray 29 (0, 0))
  | _, _, _ => True
def SGA (w : World) (b0 : Nat) (F : Nat → Prop) (g' : Int → Int) (pg' : Int → Bool) (cc dd : Sg) (s : Sta) (u u' : World) : Prop :=
  (u.heap[w.heap.size + 2]? = some (.cells (staL s).toArray 29 (0, 0)) → u'.heap[w.heap.size + 2]? = some (.cells (staL s).toArray 29 (0, 0))) ∧ (HasB w u b0 F g' pg' cc dd → HasB w u' b0 F g' pg' cc dd)
theorem SGA.refl (w : World) (b0 : Nat) (F : Nat → Prop) (g' : Int → Int) (pg' : Int → Bool) (cc dd : Sg) (s : Sta) (u : World) : SGA w b0 F g' pg' cc dd s u u := ⟨id, id⟩
theorem SGA.below (hb : Below u.heap.size u u') : SGA w b0 F g' pg' cc dd s u u' := ⟨fun h => (hb.block _ (Array.getElem?_eq_some_iff.1 h).1).trans h, fun h => h.below hb⟩
theorem sva_stays {size v A E : Int} (i : Nat) (x : Value) (u u' : World) (h : SVA w b0 F g' pg' cc dd s o size v A E i x u) (hg : SGA w b0 F g' pg' cc dd s u u') : SVA w b0 F g' pg' cc dd s o size v A E i x u' := by
  unfold SVA at h ⊢
  split at h
  all_goals first
    | exact h
    | exact ⟨h.1, hg.2 h.2⟩
    | exact hg.1 h
set_option maxRecDepth 100000
theorem astore_any (b0 : Nat) (F : Nat → Prop) (g : Int → Int) (pg : Int → Bool) (cc dd : Sg) (s : Sta) (o : Opd) (size v : Int) (hs : StaOk s) (d0 : 0 ≤ o.disp) (d1 : o.disp < 4294967296) (v0 : 0 ≤ v) (v1 : v < 18446744073709551616) (w : World) (hR : PBus w b0 F g pg cc dd) :
    Calls Try.prog 8 #[.pointer (some ⟨b0, 0, none⟩), staV s, opV o, .int .i64 size, .int .u64 v] w fun e w' => ∃ F' pg', e = .returned (.tuple #[staV (astS s o v), .int .i64 (astE dd s o size)]) ∧ (∀ k, F' k → F k ∨ w.heap.size ≤ k) ∧ PBus w' b0 F' (astG g dd s o size v) pg' cc dd ∧ But F w w' := by
  have HR := Lib.hid hR
  have HOF := Lib.hid (fun u => of_any s o hs u)
  have HSE := Lib.hid (fun u => set_any s o v hs v0 v1 u)
  have hlo := ofF_lo s o
  have hhi := ofF_hi s o
  obtain ⟨A, hA⟩ : ∃ A, ofF s o = A := ⟨_, rfl⟩
  have HPO := Lib.hid (show astE dd s o size = if o.kind = 3 then stE dd A size else 0 by rw [← hA]; rfl)
  have HPG := Lib.hid (show astG g dd s o size v = if o.kind = 3 then stG g dd A size v else g by rw [← hA]; rfl)
  have HPS := Lib.hid (show astS s o v = if o.kind = 3 then s else setF s o v from rfl)
  rw [hA] at HOF hlo hhi
  obtain ⟨T, hT⟩ : ∃ T, setF s o v = T := ⟨_, rfl⟩
  rw [hT] at HSE HPS
  obtain ⟨k, r, b, i, c, d⟩ := o
  dsimp only at d0 d1 HPO HPG HPS
  rw [show staV s = .agg (staL s).toArray from rfl, show opV (⟨k, r, b, i, c, d⟩ : Opd) = .agg (opL' ⟨k, r, b, i, c, d⟩).toArray from rfl] at HOF
  rw [show staV s = .agg (staL s).toArray from rfl, show opV (⟨k, r, b, i, c, d⟩ : Opd) = .agg (opL' ⟨k, r, b, i, c, d⟩).toArray from rfl, show staV T = .agg (staL T).toArray from rfl] at HSE
  clear hs hA hT hR
  unfold staV opV
  go_enter Try.func8, Try.ntmps8
  go_upto_region 1 with fail
  obtain ⟨W, hW⟩ : ∃ W, W = ((w.alloc (.cells (staL s).toArray 29)).alloc (.cells #[.int .i64 k, .int .i64 r, .int .i64 b, .int .i64 i, .int .i64 c, .int .u32 d] 32)).alloc (.cells #[.int .u32 0, .int .u32 0, .int .u32 0, .int .u32 0, .int .u32 0, .int .u32 0, .int .u32 0, .int .u32 0, .int .u32 0, .bool false, .bool false, .bool false, .bool false, .bool false, .bool false, .int .u64 0, .int .u64 0, .int .u64 0, .int .u64 0, .int .u64 0, .int .u64 0, .int .u64 0, .int .u64 0] 29) := ⟨_, rfl⟩
  rw [← hW]
  obtain ⟨h1, h2, h3, hbel⟩ := heap_3 hW
  have k0 : W.cell? ⟨w.heap.size + 1, 0, none⟩ = some (.int .i64 k) := (cell_block h2 0).1
  have HP := Lib.hid (fun g' pg' => (show SInv w b0 F g g' pg pg' cc dd s ⟨k, r, b, i, c, d⟩ W from ⟨h1, h2, ⟨_, h3, rfl⟩, .inl ⟨F, HR.out.but (G := fun _ => False) (But.of_below hbel) (fun _ _ h => h), fun _ h => .inl h⟩, fun j hj => HR.out.lt j hj, But.of_below hbel⟩))
  have HBEL := Lib.hid hbel
  clear hW h1 h2 h3 hbel
  by_cases hk : k = 3
  · subst hk
    have HPO1 := Lib.hid (HPO.out.trans (if_pos rfl))
    have HPG1 := Lib.hid (HPG.out.trans (if_pos rfl))
    have HPS1 := Lib.hid (HPS.out.trans (if_pos rfl))
    clear HPO HPG HPS
    obtain ⟨g', hg'⟩ : ∃ g', stG g dd A size v = g' := ⟨_, rfl⟩
    obtain ⟨pg', hpg'⟩ : ∃ pg', stP pg dd A size = pg' := ⟨_, rfl⟩
    have HTW := Lib.hid (show stG g' dd A size v = g' by rw [← hg']; exact stG_twice g dd A size v)
    have HTP := Lib.hid (show stP pg' dd A size = pg' by rw [← hpg']; exact stP_twice pg dd A size)
    have HG' := Lib.hid hg'
    have HGP := Lib.hid hpg'
    rw [hg'] at HPG1
    obtain ⟨E, hE⟩ : ∃ E, stE dd A size = E := ⟨_, rfl⟩
    rw [hE] at HPO1
    have HE := Lib.hid hE
    clear hE hg' hpg'
    go_wp2_with fail
    refine wp_region_valsT (by kernel_rfl) 9 _ rfl rfl (by kernel_rfl) (fun n => n == 8) (by kernel_rfl) (SInv w b0 F g g' pg pg' cc dd s ⟨3, r, b, i, c, d⟩) (SGA w b0 F g' pg' cc dd s) (SVA w b0 F g' pg' cc dd s ⟨3, r, b, i, c, d⟩ size v A E) sva_stays (SGA.refl _ _ _ _ _ _ _ _) ((HP.out g' pg').below ((Below.refl _ _).drew)) ?_ ?_
    · intro n op f u hn ho hinv hsz hbase hdep
      have b0' : f.tmps.getD 0 undef = .pointer (some ⟨b0, 0, none⟩) := hbase 0 (by kernel_rfl)
      have b3 : f.tmps.getD 3 undef = .int .i64 size := hbase 3 (by kernel_rfl)
      have b4 : f.tmps.getD 4 undef = .int .u64 v := hbase 4 (by kernel_rfl)
      have b6 : f.tmps.getD 6 undef = .pointer (some ⟨w.heap.size, 0, none⟩) := hbase 6 (by kernel_rfl)
      have b7 : f.tmps.getD 7 undef = .pointer (some ⟨w.heap.size + 1, 0, none⟩) := hbase 7 (by kernel_rfl)
      have b10 : f.tmps.getD 10 undef = .pointer (some ⟨w.heap.size + 2, 0, none⟩) := hbase 10 (by kernel_rfl)
      clear hbase hsz
      rcases (show n = 0 ∨ n = 1 ∨ n = 2 ∨ n = 3 ∨ n = 4 ∨ n = 5 ∨ n = 6 ∨ n = 7 ∨ n = 8 by omega) with rfl | rfl | rfl | rfl | rfl | rfl | rfl | rfl | rfl
      · cases ho
        have hl := load_range (P := Try.prog) (cs := staL s) 29 _ Try.underlying29 rfl info_sta (range_in13 hinv.rs 0 _ rfl)
        exact wp_val (by simp [execOp, Act.eval, b6, Instr.loadAt, Instr.sureAddr, hl] <;> rfl) ⟨_, rfl, hinv, SGA.refl _ _ _ _ _ _ _ _ _, rfl⟩
      · cases ho
        exact wp_val (by simp [execOp, Act.eval, b0', go_sem] <;> rfl) ⟨_, rfl, hinv, SGA.refl _ _ _ _ _ _ _ _ _, rfl⟩
      · cases ho
        have hl := load_range (P := Try.prog) (cs := staL s) 29 _ Try.underlying29 rfl info_sta (range_in13 hinv.rs 0 _ rfl)
        exact wp_val (by simp [execOp, Act.eval, b6, Instr.loadAt, Instr.sureAddr, hl] <;> rfl) ⟨_, rfl, hinv, SGA.refl _ _ _ _ _ _ _ _ _, rfl⟩
      · cases ho
        have hl := load_range (P := Try.prog) (cs := opL' ⟨3, r, b, i, c, d⟩) 32 _ Try.underlying32 rfl info_opd1 (range_in13 hinv.ro 0 _ rfl)
        exact wp_val (by simp [execOp, Act.eval, b7, Instr.loadAt, Instr.sureAddr, hl] <;> rfl) ⟨_, rfl, hinv, SGA.refl _ _ _ _ _ _ _ _ _, rfl⟩
      · cases ho
        have e2 : f.tmps.getD 22 undef = .agg (staL s).toArray := hdep 2 (by kernel_rfl)
        have e3 : f.tmps.getD 23 undef = .agg (opL' ⟨3, r, b, i, c, d⟩).toArray := hdep 3 (by kernel_rfl)
        refine wp_call (by simp [execOp, Act.eval, e2, e3, go_sem] <;> rfl) ((HOF.out u).mono ?_)
        rintro e u' ⟨rfl, hb⟩
        exact ⟨_, rfl, _, rfl, hinv.below hb, SGA.below hb, rfl⟩
      · cases ho
        exact wp_val (by simp [execOp, Act.eval, b3, go_sem] <;> rfl) ⟨_, rfl, hinv, SGA.refl _ _ _ _ _ _ _ _ _, rfl⟩
      · cases ho
        exact wp_val (by simp [execOp, Act.eval, b4, go_sem] <;> rfl) ⟨_, rfl, hinv, SGA.refl _ _ _ _ _ _ _ _ _, rfl⟩
      · cases ho
        have e1 : f.tmps.getD 21 undef = .pointer (some ⟨b0, 0, none⟩) := hdep 1 (by kernel_rfl)
        have e4 : f.tmps.getD 24 undef = .int .u32 A := hdep 4 (by kernel_rfl)
        have e5 : f.tmps.getD 25 undef = .int .i64 size := hdep 5 (by kernel_rfl)
        have e6 : f.tmps.getD 26 undef = .int .u64 v := hdep 6 (by kernel_rfl)
        have hst : Calls Try.prog 16 #[.pointer (some ⟨b0, 0, none⟩), .int .u32 A, .int .i64 size, .int .u64 v] u fun e u' => ∃ H, e = .returned (.int .i64 E) ∧ (∀ k, H k → F k ∨ w.heap.size + 3 ≤ k) ∧ HasB w u' b0 F g' pg' cc dd ∧ But H u u' := by
          have hz := hinv.size
          rcases hinv.bus with hb | hb
          · obtain ⟨H, hp, hH⟩ := hb
            have h := bstore_any b0 H g pg cc dd A size v hlo hhi v0 v1 u hp
            rw [HE.out, HG'.out, HGP.out] at h
            exact h.mono fun e u' ⟨F', he, hF, hq, hbt⟩ => ⟨H, he, hH, ⟨F', hq, fun k hk => (hF k hk).elim (hH k) (fun q => .inr (by omega))⟩, hbt⟩
          · obtain ⟨H, hp, hH⟩ := hb
            have h := bstore_any b0 H g' pg' cc dd A size v hlo hhi v0 v1 u hp
            rw [HE.out, HTW.out, HTP.out] at h
            exact h.mono fun e u' ⟨F', he, hF, hq, hbt⟩ => ⟨H, he, hH, ⟨F', hq, fun k hk => (hF k hk).elim (hH k) (fun q => .inr (by omega))⟩, hbt⟩
        refine wp_call (by simp [execOp, Act.eval, e1, e4, e5, e6, go_sem] <;> rfl) (hst.mono ?_)
        rintro e u' ⟨H, rfl, hH, hr, hb⟩
        exact ⟨_, rfl, _, rfl, hinv.wrote hH hr hb, ⟨fun h => (hb.block _ (Array.getElem?_eq_some_iff.1 h).1 (fun hR => (hH _ hR).elim (fun q => by have := hinv.own _ q; omega) (fun q => by omega))).trans h, fun _ => hr⟩, rfl, hr⟩
      · cases ho
        have e0 : f.tmps.getD 20 undef = .agg (staL s).toArray := hdep 0 (by kernel_rfl)
        obtain ⟨C, hC, hz⟩ := hinv.res
        refine wp_store_mid 29 (.tmp 10) (.tmp 20) rfl (w.heap.size + 2) 0 (staL s).toArray b10 e0 (there_block hC 0 23 (by omega)) info_sta (sta_one s) ?_
        obtain ⟨hi, hbt⟩ := hinv.stored (cs := (staL s).toArray.toList) rfl
        refine ⟨undef, rfl, hi, ⟨fun _ => ?_, fun h => h.but hbt (fun j hj e => hj.elim (fun q => by have := hinv.own j q; omega) (fun q => by omega))⟩, ?_⟩
        all_goals
          have h := block_setCells (T := 29) (staL s).toArray.toList 0 u C hC
          rw [setL_wholeA s hz] at h
          exact h
    · intro f u hinv hV
      obtain ⟨q7, hbus⟩ := hV 7 (by decide)
      have q7 : f 7 = .int .i64 E := q7
      have hres := hV 8 (by decide)
      generalize hc : laid _ f _ _ = fr
      have b27 : fr.tmps.getD 27 undef = .int .i64 E := by rw [← hc, ← q7]; kernel_rfl
      have b10 : fr.tmps.getD 10 undef = .pointer (some ⟨w.heap.size + 2, 0, none⟩) := by rw [← hc]; kernel_rfl
      have bs : fr.tmps.size = 28 := by rw [← hc]; kernel_rfl
      have bd : fr.defers = [] := by rw [← hc]; kernel_rfl
      have HB := Lib.hid hbus
      have HBT := Lib.hid hinv.but
      have hl := load_range (P := Try.prog) (cs := staL s) 29 _ Try.underlying29 rfl info_sta (range_in13 hres 0 _ rfl)
      have HL := Lib.hid hl
      clear hc hV q7 hinv hbus hres hl
      refine wp_val (v := .int .i64 E) (by simp [execOp, Act.eval, b27, go_sem] <;> rfl) ?_
      show Exit.then _ _ Exit.normal (fr.put (some 11) (.int .i64 E)) u
      generalize hc : fr.put (some 11) (Value.int IntKind.i64 E) = f2
      have b10' : f2.tmps.getD 10 undef = .pointer (some ⟨w.heap.size + 2, 0, none⟩) := by rw [← hc, put_other _ _ _ _ (by decide), b10]
      have b11' : f2.tmps.getD 11 undef = .int .i64 E := by rw [← hc]; exact put_same _ _ _ (by rw [bs]; decide)
      have bd' : f2.defers = [] := by rw [← hc, put_defers, bd]
      clear hc b27 b10 bs bd
      go_wp2_with fail
      obtain ⟨F', hp, hF⟩ := HB.out
      exact bodyPost_ret (results_cell_tmp rfl b10' b11' HL.out) bd' ⟨F', pg', by rw [HPO1.out, HPS1.out], fun k hk => (hF k hk).imp id (fun q => by omega), by rw [HPG1.out]; exact hp, HBT.out⟩
  · have ek : (k != 3) = true := by simpa using hk
    have ek' : (k == 3) = false := by simpa using hk
    have HPO := Lib.hid (HPO.out.trans (if_neg hk))
    have HPG := Lib.hid (HPG.out.trans (if_neg hk))
    have HPS := Lib.hid (HPS.out.trans (if_neg hk))
    clear hk
    have HW := Lib.hid (HP.out g pg)
    go_wp2_with (first
      | (refine wpList_load_mid rfl 29 (.tmp 6) rfl w.heap.size 0 rfl (staL s) _ (range_in13 HW.out.rs 0 _ rfl) Try.underlying29 rfl info_sta ?_)
      | (refine wpList_load_mid rfl 32 (.tmp 7) rfl (w.heap.size + 1) 0 rfl (opL' ⟨k, r, b, i, c, d⟩) _ (range_in13 HW.out.ro 0 _ rfl) Try.underlying32 rfl info_opd1 ?_))
    ((with_reducible refine (HSE.out _).mono ?_); rintro e w1 ⟨rfl, b1⟩)
    have HP1 := Lib.hid (HW.out.below b1)
    have HTH := Lib.hid (show w1.there (w.heap.size + 2) 0 23 by obtain ⟨C, hC, hz⟩ := HP1.out.res; exact there_block hC 0 23 (by omega))
    clear b1
    go_wp2_with (refine store_row rfl 29 (.tmp 10) (.tmp 17) rfl (w.heap.size + 2) rfl (staL T) rfl _ Try.underlying29 rfl info_sta (sta_one T) HTH.out ?_; intro Y hY hl; have HL := Lib.hid hl; have HY := Lib.hid (HP1.out.stored hY).1; clear hY hl)
    obtain ⟨F', hp, hF⟩ := HY.out.bus.elim id id
    exact bodyPost_ret (results_cell_tmp rfl rfl rfl HL.out) rfl ⟨F', pg, by rw [HPO.out, HPS.out]; rfl, fun k hk => (hF k hk).imp id (fun q => by omega), by rw [HPG.out]; exact hp, HY.out.but⟩
set_option maxRecDepth 100000
set_option maxRecDepth 512
theorem and_low64a (v : Int) (m : Nat) (v0 : 0 ≤ v) (v1 : v < 18446744073709551616) (hm : m ≤ 64) : bits .and .u64 v ((2 ^ m - 1 : Nat) : Int) = v % ((2 ^ m : Nat) : Int) := by
  obtain ⟨n, rfl⟩ := Int.eq_ofNat_of_zero_le v0
  have hp : 2 ^ m ≤ 2 ^ 64 := Nat.pow_le_pow_right (by decide) hm
  rw [u64_and_nat n (2 ^ m - 1) (by omega) (by omega), Nat.and_two_pow_sub_one_eq_mod]
  rfl
theorem slc_nil8 (u : World) : Slc .u8 u (.slice none 0 0) 0 (fun _ => 0) := by
  unfold Slc
  exact Or.inl ⟨rfl, rfl⟩
def atO (q : Int) : Opd := ⟨3, 0, -1, -1, 1, q⟩
theorem atO_of (s : Sta) (q : Int) (q0 : 0 ≤ q) (q1 : q < 4294967296) : ofF s (atO q) = q := by
  show (q + regN s (-1) + regN s (-1) * 1) % 4294967296 = q
  rw [show regN s (-1) = 0 from rfl]
  omega
theorem boxD_fit (q k : Int) (n : Nat) (hn : widN k = n) (h : q + n ≤ 256) : fitB 36864 256 q (widN k) = true := by
  have h1 := widN_lo k
  have h2 := widN_hi k
  unfold fitB segR
  rw [clampN_id _ (by omega) (by omega), decide_eq_true (by decide), Bool.true_and, hn]
  exact decide_eq_true h
theorem boxD_st (q k : Int) (n : Nat) (hn : widN k = n) (h : q + n ≤ 256) : stE boxD q k = 0 := by
  unfold stE atE
  show (if mayB true true false 1 = true then if fitB 36864 256 q (widN k) = true then (0 : Int) else 24 else 25) = 0
  rw [boxD_fit q k n hn h, if_pos (by decide), if_pos rfl]
theorem boxD_ld (q k : Int) (n : Nat) (hn : widN k = n) (h : q + n ≤ 256) : ldE boxD q k = 0 := by
  unfold ldE atE
  show (if mayB true true false 0 = true then if fitB 36864 256 q (widN k) = true then (0 : Int) else 24 else 25) = 0
  rw [boxD_fit q k n hn h, if_pos (by decide), if_pos rfl]
theorem box_one (s : Sta) (q v k : Int) (n : Nat) (hn : widN k = n) (q0 : 0 ≤ q) (h : q + n ≤ 256) (v0 : 0 ≤ v) (g : Int → Int) :
    astE boxD s (atO q) k = 0 ∧ astS s (atO q) v = s ∧ aldE boxD s (atO q) k = 0 ∧ aldV (astG g boxD s (atO q) k v) boxD s (atO q) k = v % 256 ^ n := by
  have hq := atO_of s q q0 (by omega)
  have h8 := widN_hi k
  refine ⟨?_, if_pos rfl, ?_, ?_⟩
  · unfold astE
    rw [if_pos (show (atO q).kind = 3 from rfl), hq]
    exact boxD_st q k n hn h
  · unfold aldE
    rw [if_pos (show (atO q).kind = 3 from rfl), hq]
    exact boxD_ld q k n hn h
  · unfold aldV astG
    rw [if_pos (show (atO q).kind = 3 from rfl), if_pos (show (atO q).kind = 3 from rfl), hq]
    unfold ldV stG
    rw [boxD_ld q k n hn h, boxD_st q k n hn h, if_pos rfl, if_pos rfl, hn]
    exact leV_byteOf _ _ v v0 n fun i hi => writeG_hit _ _ _ n i (by omega) hi
end Go.Proofs.Ytbbegbaaefgikaa
