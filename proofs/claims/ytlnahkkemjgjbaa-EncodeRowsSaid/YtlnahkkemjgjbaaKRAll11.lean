import Derived.Test.YtlnahkkemjgjbaaKRO11
import Derived.Test.YtlnahkkemjgjbaaKRZ
namespace Go.Proofs.Ytlnahkkemjgjbaa
open Go.ChangeShapes Go.WideShapes Go.ChangeAt Go.RowKit
def catF (l : List Ins) : List Int := l.flatMap fun x => (encF x).1
def fixF (x : Ins) : Ins := { x with len := (encF x).1.length }
def allOk (l : List Ins) : Prop := ∀ x, x ∈ l → (encF x).2 = 0
theorem cat_byte {l : List Ins} (h : allOk l) : isByte (catF l) := fun b hb => by
  obtain ⟨x, hx, hb⟩ := List.mem_flatMap.1 hb
  exact (enc_read (h x hx)).2.1 b hb
theorem cat_len {l : List Ins} (h : allOk l) : (catF l).length ≤ 13 * l.length := by
  induction l with
  | nil => exact Nat.zero_le _
  | cons x l ih =>
    have h1 := (enc_read (h x List.mem_cons_self)).2.2
    have h2 := ih (fun y hy => h y (List.mem_cons_of_mem _ hy))
    show ((encF x).1 ++ catF l).length ≤ _
    rw [List.length_append, List.length_cons]
    omega
theorem cat_append (l m : List Ins) : catF (l ++ m) = catF l ++ catF m := by unfold catF; exact List.flatMap_append
theorem all_from (C : List Int) (hC : isByte C) : ∀ (rest pre : List Ins) (n : Nat), C = catF pre ++ catF rest → allOk rest → AllAt C.length (lst C) n (catF pre).length (pre.map fixF) → allF C.length (lst C) = ((pre ++ rest).map fixF, 0, 0)
  | [], pre, n, hc, _, ha => by
    have := all_end ha (by rw [hc]; simp [catF])
    rw [this, List.append_nil]
  | x :: rest, pre, n, hc, hok, ha => by
    have hx := enc_read (hok x List.mem_cons_self)
    obtain ⟨E, hE⟩ : ∃ E, (encF x).1 = E := ⟨_, rfl⟩
    rw [hE] at hx
    have hcat : catF (x :: rest) = E ++ catF rest := by rw [← hE]; rfl
    rw [hcat] at hc
    obtain ⟨m, m1, ⟨e1, _, e3, e4⟩⟩ := one_ends hx.1 (byte_lst hx.2.1 0).1 (byte_lst hx.2.1 0).2
    have hm : m = E.length := by have : ((E.length : Nat) : Int) = m := e1; omega
    subst hm
    have hL : C.length = (catF pre).length + (E.length + (catF rest).length) := by rw [hc]; simp
    have hone : oneF (C.length - (catF pre).length) (fun i => lst C ((catF pre).length + i)) = ({ x with len := (E.length : Int) }, 0) :=
      (e4 _ _ (fun i hi => by rw [hc, lst_tail, lst_head _ _ _ hi])).1 (by omega)
    obtain ⟨q, q1, _, _, q4⟩ := all_next (byte_lst hC) ha (by omega) hone
    have hq : q = E.length := by have : ((E.length : Nat) : Int) = q := q1; omega
    subst hq
    have hcat2 : catF (pre ++ [x]) = catF pre ++ E := by rw [cat_append, ← hE]; simp [catF]
    have := all_from C hC rest (pre ++ [x]) (n - 1) (by rw [hcat2, hc, List.append_assoc]) (fun y hy => hok y (List.mem_cons_of_mem _ hy)) (by
      rw [hcat2, List.length_append, List.map_append]
      have e : ([x].map fixF) = [{ x with len := (E.length : Int) }] := by rw [← hE]; rfl
      rw [e]
      exact q4)
    rwa [List.append_assoc] at this
theorem all_cat {l : List Ins} (h : allOk l) : allF (catF l).length (lst (catF l)) = (l.map fixF, 0, 0) := by
  have := all_from (catF l) (cat_byte h) l [] ((catF l).length + 1) rfl h (all_start _ _)
  simpa using this
def eallF (l : List Ins) (r : List Int × Int) : Prop := (allOk l ∧ r = (catF l, 0)) ∨ (¬ allOk l ∧ r = ([], 22))
theorem OwnZ.one {w : World} {base : Nat} {v : Value} {l : List Int} (h : OwnZ w base v l) : ∃ a c, v = .slice a l.length c := by
  rcases h with ⟨rfl, rfl⟩ | h
  · exact ⟨_, _, rfl⟩
  · exact h.len
def EAllR (l : List Ins) (w : World) (e : Ending) (w' : World) : Prop := ∃ r, eallF l r ∧ EncR w r e w'
set_option maxRecDepth 100000
set_option maxHeartbeats 8000000
theorem eall_any (l : List Ins) (hd : ∀ x, x ∈ l → dispOk x.a ∧ dispOk x.b) (hl : l.length ≤ 1000) (base : Nat) (v : Value) (w : World) (hb : base ≤ w.heap.size) (ho : OwnI w base v l) : Calls Try.prog 10 #[v] w (EAllR l w) := by
  obtain ⟨a, cap, rfl⟩ := ho.len
  have HO := Lib.hid ho
  have HD := Lib.hid hd
  have _ := hb
  clear ho hd hb
  obtain ⟨n, hn⟩ : ∃ n, l.length = n := ⟨_, rfl⟩
  have HN := Lib.hid hn
  have hl : n ≤ 1000 := by rw [← hn]; exact hl
  rw [hn]
  clear hn
  go_enter Try.func10, Try.ntmps10
  go_wp2_with fail
  go_loopw [4, 11] (fun v4 v11 wr => ∃ k : Nat, k ≤ n ∧ v11 = .int .i64 k ∧ allOk (l.take k) ∧ OwnZ wr w.heap.size v4 (catF (l.take k)) ∧ Below w.heap.size w wr) (fun _ v11 _ => n - (intOf v11).toNat)
  case atStart => exact ⟨0, Nat.zero_le _, rfl, fun x hx => absurd hx List.not_mem_nil, OwnZ.nil _ _, Below.refl _ _⟩
  case round =>
    obtain ⟨k, hk, rfl, hok, hz, hbel⟩ := hrel
    have HOK := Lib.hid hok
    have HZ := Lib.hid hz
    have HB := Lib.hid hbel
    clear hok hz hbel
    by_cases hlt : k < n
    · have hkl : k < l.length := by rw [HN.out]; exact hlt
      obtain ⟨x, hx⟩ : ∃ x, l[k] = x := ⟨_, rfl⟩
      have hmem : x ∈ l := by rw [← hx]; exact List.getElem_mem _
      have htake : l.take (k + 1) = l.take k ++ [x] := by rw [← hx]; exact List.take_succ_eq_append_getElem hkl
      obtain ⟨g, ha⟩ : ∃ g, a = some ⟨g, 0, none⟩ := by
        rcases HO.out.2 with ⟨e, _⟩ | ⟨g, cp, cur, e1, _⟩
        · injection e with _ e; omega
        · injection e1 with e1; exact ⟨g, e1⟩
      subst ha
      have hrow := HO.out
      have HR := Lib.hid (show wr.rangeAt g (k * 18) (insL x) from by rw [← hx]; exact (OwnI.at_ (hrow.below HB.out) k hkl))
      have HM := Lib.hid hmem
      have HTK := Lib.hid htake
      have HE := eone_any x (HD.out x hmem).1 (HD.out x hmem).2
      rw [show insV x = .agg (insL x).toArray from rfl] at HE
      obtain ⟨⟨E, F⟩, hEF⟩ : ∃ y, y = encF x := ⟨_, rfl⟩
      rw [← hEF] at HE
      have HE := Lib.hid HE
      have HEF := Lib.hid hEF
      have d1 : decide ((k : Int) < (n : Int)) = true := decide_eq_true (by omega)
      have hkn : (k : Int) < (n : Int) := by omega
      clear hmem htake hx hrow hEF hkl
      have HT := Lib.hid (there_alloc_new wr zeroA 27 18 (by decide))
      go_wp2_with (first
        | (refine wpList_load_mid rfl 27 (.tmp 13) rfl g (k * 18) rfl (insL x) _ HR.out Try.underlying27 rfl info_ins ?_)
        | (refine store_ins rfl (.tmp 6) (.tmp 14) rfl wr.heap.size rfl x rfl HT.out ?_; intro Y1 hY hl; clear hl; obtain ⟨q1, q2, q3⟩ := stored hY; have HA1 := Lib.hid q1; have HB1 := Lib.hid (below_step HB.out q2); have HZ1 := Lib.hid (HZ.out.below q2); clear hY q1 q2 q3)
        | (refine wpList_load_mid rfl 27 (.tmp 6) rfl wr.heap.size 0 rfl (insL x) _ (seen_few _ _ _ _ HA1.out) Try.underlying27 rfl info_ins ?_))
      refine (HE.out _).mono ?_
      rintro e w2 ⟨v2, rfl, hs2, b2⟩
      have HS2 := Lib.hid hs2
      have HB2 := Lib.hid (below_step HB1.out b2)
      have HZ2 := Lib.hid (HZ1.out.below b2)
      clear hs2 b2
      have hlen : (catF (l.take k)).length ≤ 13000 := by
        have h1 := cat_len HOK.out
        rw [List.length_take] at h1
        have : min k l.length ≤ 1000 := by have := HN.out; omega
        omega
      by_cases hF : F = 0
      · subst hF
        have hrd := enc_read (x := x) (by rw [← HEF.out])
        rw [← HEF.out] at hrd
        have hE13 : E.length ≤ 13 := hrd.2.2
        obtain ⟨a4, c4, rfl⟩ := HZ2.out.one
        obtain ⟨a2, c2, rfl⟩ := HS2.out.len
        clear hrd
        dsimp only
        go_wp2_with (at_builtin; refine append_ownY rfl (.tmp 23) (.tmp 24) rfl w.heap.size _ _ (catF (l.take k)) E rfl rfl HZ2.out HS2.out (by omega) HB2.out.size ?_; intro v' w' hv hw hs; have HV2 := Lib.hid hv; have HW2 := Lib.hid (hw w HB2.out); clear hv hw hs)
        go_roundw
        case rel => exact ⟨k + 1, by omega, by go_num, by
          rw [HTK.out]
          intro y hy
          rcases List.mem_append.1 hy with hy | hy
          · exact HOK.out y hy
          · rw [List.mem_singleton.1 hy, ← HEF.out], by
          rw [HTK.out, cat_append, show catF [x] = E by unfold catF; simp [← HEF.out]]
          exact HV2.out, HW2.out⟩
        case measure => simp [intOf]; omega
      · have hc : E = [] ∧ F = 22 := by
          rcases enc_code x with h | h
          · rw [← HEF.out] at h; exact absurd h hF
          · rw [← HEF.out] at h
            injection h with h1 h2
            exact ⟨h1, h2⟩
        obtain ⟨rfl, rfl⟩ := hc
        obtain ⟨a2, c2, rfl⟩ := HS2.out.len
        dsimp only
        go_wp2_with fail
        go_returns
        exact ⟨([], 22), .inr ⟨fun h => hF (by have := h x HM.out; rw [← HEF.out] at this; exact this), rfl⟩, _, rfl, .inl ⟨rfl, rfl⟩, HB2.out⟩
    · obtain rfl : k = n := by omega
      have d1 : decide ((k : Int) < (k : Int)) = false := decide_eq_false (by omega)
      have hall : l.take k = l := List.take_of_length_le (by rw [HN.out]; exact Nat.le_refl _)
      have HALL := Lib.hid hall
      clear hall
      obtain ⟨a4, c4, rfl⟩ := HZ.out.one
      go_wp2_with fail
      go_returns
      refine ⟨(catF l, 0), .inl ⟨by have := HOK.out; rwa [HALL.out] at this, rfl⟩, _, rfl, ?_, HB.out⟩
      show Slc .u8 wr (.slice a4 (catF (l.take k)).length c4) (catF l).length (lst (catF l))
      have := HZ.out.slc
      rw [HALL.out] at this ⊢
      exact this
end Go.Proofs.Ytlnahkkemjgjbaa
