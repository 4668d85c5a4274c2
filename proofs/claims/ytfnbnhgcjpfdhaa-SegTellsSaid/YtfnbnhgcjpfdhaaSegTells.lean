/- Which bytes lie within any segment, and what may be done there, is the document's. -/
import Derived.Test.YtfnbnhgcjpfdhaaKnown7
import Derived.Test.YtfnbnhgcjpfdhaaShutSeg
import Derived.Test.YtfnbnhgcjpfdhaaCells
import Derived.Deep.RegionHeld3
namespace Go.Proofs.Ytfnbnhgcjpfdhaa
open Go.ChangeShapes Go.WideShapes Go.ChangeAt Go.RowKit

def pick5' (a b c d e : Int) (i : Nat) : Int := match i with | 0 => a | 1 => b | 2 => c | 3 => d | _ => e
theorem pick5_lo' {a b c d e : Int} (i : Nat) (h0 : 0 ≤ a) (h1 : 0 ≤ b) (h2 : 0 ≤ c) (h3 : 0 ≤ d) (h4 : 0 ≤ e) : 0 ≤ pick5' a b c d e i := by unfold pick5'; split <;> assumption
theorem pick5_hi' {a b c d e : Int} (i : Nat) (h0 : a < 4294967296) (h1 : b < 4294967296) (h2 : c < 4294967296) (h3 : d < 4294967296) (h4 : e < 4294967296) : pick5' a b c d e i < 4294967296 := by unfold pick5'; split <;> assumption
def pick4 (a b c d : Int) (i : Nat) : Int := match i with | 0 => a | 1 => b | 2 => c | _ => d
def pick2 (a b : Int) (i : Nat) : Int := match i with | 0 => a | _ => b
theorem pick2_lo {a b : Int} (i : Nat) (h0 : 0 ≤ a) (h1 : 0 ≤ b) : 0 ≤ pick2 a b i := by unfold pick2; split <;> assumption
theorem pick2_hi {a b : Int} (i : Nat) (h0 : a < 4294967296) (h1 : b < 4294967296) : pick2 a b i < 4294967296 := by unfold pick2; split <;> assumption
/-- A call that makes memory alone leaves a world below, and five cells. -/
theorem carry5 {f : FuncId} {args : Array Value} {v x0 x1 x2 x3 x4 : Value} {B : Nat} {W : World} {p0 p1 p2 p3 p4 : Addr} (h : ∀ w, Calls Try.prog f args w fun e w' => e = .returned v ∧ Below w.heap.size w w') (w : World)
    (hw : Below B W w ∧ B ≤ w.heap.size ∧ w.cell? p0 = some x0 ∧ w.cell? p1 = some x1 ∧ w.cell? p2 = some x2 ∧ w.cell? p3 = some x3 ∧ w.cell? p4 = some x4) :
    Calls Try.prog f args w fun e w' => e = .returned v ∧ (Below B W w' ∧ B ≤ w'.heap.size ∧ w'.cell? p0 = some x0 ∧ w'.cell? p1 = some x1 ∧ w'.cell? p2 = some x2 ∧ w'.cell? p3 = some x3 ∧ w'.cell? p4 = some x4) := by
  obtain ⟨h1, k1, c0, c1, c2, c3, c4⟩ := hw
  exact (h w).mono fun e w' ⟨he, hb⟩ => ⟨he, h1.trans (hb.mono k1), Nat.le_trans k1 hb.size, cell_call hb c0, cell_call hb c1, cell_call hb c2, cell_call hb c3, cell_call hb c4⟩
/-- likewise ten cells -/
theorem carry10 {f : FuncId} {args : Array Value} {v x0 x1 x2 x3 x4 x5 x6 x7 x8 x9 : Value} {B : Nat} {W : World} {p0 p1 p2 p3 p4 p5 p6 p7 p8 p9 : Addr} (h : ∀ w, Calls Try.prog f args w fun e w' => e = .returned v ∧ Below w.heap.size w w') (w : World)
    (hw : Below B W w ∧ B ≤ w.heap.size ∧ w.cell? p0 = some x0 ∧ w.cell? p1 = some x1 ∧ w.cell? p2 = some x2 ∧ w.cell? p3 = some x3 ∧ w.cell? p4 = some x4 ∧ w.cell? p5 = some x5 ∧ w.cell? p6 = some x6 ∧ w.cell? p7 = some x7 ∧ w.cell? p8 = some x8 ∧ w.cell? p9 = some x9) :
    Calls Try.prog f args w fun e w' => e = .returned v ∧ (Below B W w' ∧ B ≤ w'.heap.size ∧ w'.cell? p0 = some x0 ∧ w'.cell? p1 = some x1 ∧ w'.cell? p2 = some x2 ∧ w'.cell? p3 = some x3 ∧ w'.cell? p4 = some x4 ∧ w'.cell? p5 = some x5 ∧ w'.cell? p6 = some x6 ∧ w'.cell? p7 = some x7 ∧ w'.cell? p8 = some x8 ∧ w'.cell? p9 = some x9) := by
  obtain ⟨h1, k1, c0, c1, c2, c3, c4, c5, c6, c7, c8, c9⟩ := hw
  exact (h w).mono fun e w' ⟨he, hb⟩ => ⟨he, h1.trans (hb.mono k1), Nat.le_trans k1 hb.size, cell_call hb c0, cell_call hb c1, cell_call hb c2, cell_call hb c3, cell_call hb c4, cell_call hb c5, cell_call hb c6, cell_call hb c7, cell_call hb c8, cell_call hb c9⟩
set_option maxRecDepth 100000 in
set_option maxHeartbeats 8000000 in
theorem segtells_walk (b z : Int) (r q x : Bool) (c y : Int) (r' q' x' : Bool) (off n what a k : Int) (w : World) (b0 : 0 ≤ b) (b1 : b < 4294967296) (z0 : 0 ≤ z) (z1 : z < 4294967296) (c0 : 0 ≤ c) (c1 : c < 4294967296) (y0 : 0 ≤ y) (y1 : y < 4294967296) (o0 : 0 ≤ off) (o1 : off < 4294967296) (a0 : 0 ≤ a) (a1 : a < 4294967296) (k0 : 0 ≤ k) (k1 : k < 256) :
    Calls Try.prog 3 #[.agg #[.int .u32 b, .int .u32 z, .bool r, .bool q, .bool x], .agg #[.int .u32 c, .int .u32 y, .bool r', .bool q', .bool x'], .int .u32 off, .int .i64 n, .int .i64 what, .int .u32 a, .int .u8 k] w fun e w' => e = .returned (.bool true) ∧ Below w.heap.size w w' := by
  obtain ⟨j, hj⟩ : ∃ j : Nat, k % 5 = j := ⟨(k % 5).toNat, by omega⟩
  have hj5 : j < 5 := by omega
  obtain ⟨m, hm⟩ : ∃ m : Nat, k % 3 = m := ⟨(k % 3).toNat, by omega⟩
  have hm3 : m < 3 := by omega
  go_enter Try.func3, Try.ntmps3
  go_wp2_with fail
  refine (known7_any _).mono ?_
  rintro e w0 ⟨rfl, B0⟩
  have q0 : w0.cell? ⟨w.heap.size, 0, none⟩ = some (.int .u32 b) := by rw [B0.cell (by simp; try omega)]; simp
  have q1 : w0.cell? ⟨w.heap.size, 1, none⟩ = some (.int .u32 z) := by rw [B0.cell (by simp; try omega)]; simp
  have q2 : w0.cell? ⟨w.heap.size, 2, none⟩ = some (.bool r) := by rw [B0.cell (by simp; try omega)]; simp
  have q3 : w0.cell? ⟨w.heap.size, 3, none⟩ = some (.bool q) := by rw [B0.cell (by simp; try omega)]; simp
  have q4 : w0.cell? ⟨w.heap.size, 4, none⟩ = some (.bool x) := by rw [B0.cell (by simp; try omega)]; simp
  have q5 : w0.cell? ⟨w.heap.size + 1, 0, none⟩ = some (.int .u32 c) := by rw [B0.cell (by simp; try omega)]; simp
  have q6 : w0.cell? ⟨w.heap.size + 1, 1, none⟩ = some (.int .u32 y) := by rw [B0.cell (by simp; try omega)]; simp
  have q7 : w0.cell? ⟨w.heap.size + 1, 2, none⟩ = some (.bool r') := by rw [B0.cell (by simp; try omega)]; simp
  have q8 : w0.cell? ⟨w.heap.size + 1, 3, none⟩ = some (.bool q') := by rw [B0.cell (by simp; try omega)]; simp
  have q9 : w0.cell? ⟨w.heap.size + 1, 4, none⟩ = some (.bool x') := by rw [B0.cell (by simp; try omega)]; simp
  have B1 := (below_last (below_last (Below.refl w.heap.size w) _) _).trans (B0.mono (by simp; omega))
  clear B0
  obtain ⟨near, hn0, hn1, hN⟩ : ∃ near : Int, 0 ≤ near ∧ near < 4294967296 ∧ ([.int .u32 off, .int .u32 ((z - bits .and .u32 off 15) % 4294967296), .int .u32 0, .int .u32 z, .int .u32 ((4294967295 - bits .and .u32 off 15) % 4294967296)] : List Value)[j]'(by simpa using hj5) = .int .u32 near := by
    obtain rfl | rfl | rfl | rfl | rfl : j = 0 ∨ j = 1 ∨ j = 2 ∨ j = 3 ∨ j = 4 := by omega
    all_goals exact ⟨_, by omega, by omega, rfl⟩
  go_wp2_with fail
  clear hN
  have hw0 := cell_lt q5
  have B2 : Below w.heap.size w (w0.alloc (.cells #[.int .u32 off, .int .u32 ((z - bits .and .u32 off 15) % 4294967296), .int .u32 0, .int .u32 z, .int .u32 ((4294967295 - bits .and .u32 off 15) % 4294967296)] 22)) := below_last B1 _
  have t0 : (w0.alloc (.cells #[.int .u32 off, .int .u32 ((z - bits .and .u32 off 15) % 4294967296), .int .u32 0, .int .u32 z, .int .u32 ((4294967295 - bits .and .u32 off 15) % 4294967296)] 22)).cell? ⟨w.heap.size, 0, none⟩ = some (.int .u32 b) := by rw [World.cell?_alloc_lt _ _ _ (cell_lt q0)]; exact q0
  have t1 : (w0.alloc (.cells #[.int .u32 off, .int .u32 ((z - bits .and .u32 off 15) % 4294967296), .int .u32 0, .int .u32 z, .int .u32 ((4294967295 - bits .and .u32 off 15) % 4294967296)] 22)).cell? ⟨w.heap.size, 1, none⟩ = some (.int .u32 z) := by rw [World.cell?_alloc_lt _ _ _ (cell_lt q1)]; exact q1
  have t2 : (w0.alloc (.cells #[.int .u32 off, .int .u32 ((z - bits .and .u32 off 15) % 4294967296), .int .u32 0, .int .u32 z, .int .u32 ((4294967295 - bits .and .u32 off 15) % 4294967296)] 22)).cell? ⟨w.heap.size, 2, none⟩ = some (.bool r) := by rw [World.cell?_alloc_lt _ _ _ (cell_lt q2)]; exact q2
  have t3 : (w0.alloc (.cells #[.int .u32 off, .int .u32 ((z - bits .and .u32 off 15) % 4294967296), .int .u32 0, .int .u32 z, .int .u32 ((4294967295 - bits .and .u32 off 15) % 4294967296)] 22)).cell? ⟨w.heap.size, 3, none⟩ = some (.bool q) := by rw [World.cell?_alloc_lt _ _ _ (cell_lt q3)]; exact q3
  have t4 : (w0.alloc (.cells #[.int .u32 off, .int .u32 ((z - bits .and .u32 off 15) % 4294967296), .int .u32 0, .int .u32 z, .int .u32 ((4294967295 - bits .and .u32 off 15) % 4294967296)] 22)).cell? ⟨w.heap.size, 4, none⟩ = some (.bool x) := by rw [World.cell?_alloc_lt _ _ _ (cell_lt q4)]; exact q4
  have t5 : (w0.alloc (.cells #[.int .u32 off, .int .u32 ((z - bits .and .u32 off 15) % 4294967296), .int .u32 0, .int .u32 z, .int .u32 ((4294967295 - bits .and .u32 off 15) % 4294967296)] 22)).cell? ⟨w.heap.size + 1, 0, none⟩ = some (.int .u32 c) := by rw [World.cell?_alloc_lt _ _ _ (cell_lt q5)]; exact q5
  have t6 : (w0.alloc (.cells #[.int .u32 off, .int .u32 ((z - bits .and .u32 off 15) % 4294967296), .int .u32 0, .int .u32 z, .int .u32 ((4294967295 - bits .and .u32 off 15) % 4294967296)] 22)).cell? ⟨w.heap.size + 1, 1, none⟩ = some (.int .u32 y) := by rw [World.cell?_alloc_lt _ _ _ (cell_lt q6)]; exact q6
  have t7 : (w0.alloc (.cells #[.int .u32 off, .int .u32 ((z - bits .and .u32 off 15) % 4294967296), .int .u32 0, .int .u32 z, .int .u32 ((4294967295 - bits .and .u32 off 15) % 4294967296)] 22)).cell? ⟨w.heap.size + 1, 2, none⟩ = some (.bool r') := by rw [World.cell?_alloc_lt _ _ _ (cell_lt q7)]; exact q7
  have t8 : (w0.alloc (.cells #[.int .u32 off, .int .u32 ((z - bits .and .u32 off 15) % 4294967296), .int .u32 0, .int .u32 z, .int .u32 ((4294967295 - bits .and .u32 off 15) % 4294967296)] 22)).cell? ⟨w.heap.size + 1, 3, none⟩ = some (.bool q') := by rw [World.cell?_alloc_lt _ _ _ (cell_lt q8)]; exact q8
  have t9 : (w0.alloc (.cells #[.int .u32 off, .int .u32 ((z - bits .and .u32 off 15) % 4294967296), .int .u32 0, .int .u32 z, .int .u32 ((4294967295 - bits .and .u32 off 15) % 4294967296)] 22)).cell? ⟨w.heap.size + 1, 4, none⟩ = some (.bool x') := by rw [World.cell?_alloc_lt _ _ _ (cell_lt q9)]; exact q9
  clear q0 q1 q2 q3 q4 q5 q6 q7 q8 q9 B1 hw0 hj
  obtain ⟨u, hu⟩ : ∃ u, u = w0.alloc (.cells #[.int .u32 off, .int .u32 ((z - bits .and .u32 off 15) % 4294967296), .int .u32 0, .int .u32 z, .int .u32 ((4294967295 - bits .and .u32 off 15) % 4294967296)] 22) := ⟨_, rfl⟩
  have hsz : w0.heap.size + 1 = u.heap.size := by rw [hu]; simp
  rw [← hu] at B2 t0 t1 t2 t3 t4 t5 t6 t7 t8 t9 ⊢
  rw [hsz]
  clear hu hsz
  generalize w0.heap.size = b39 at *
  generalize bits .and .u32 off 15 = ob at *
  have hu0 := cell_lt t0
  have hu5 := cell_lt t5
  simp only at hu0 hu5
  go_loopw [48] (fun v wr => ∃ i : Nat, i ≤ 2 ∧ v = .int .i64 i ∧ Below (u.heap.size + 1) (u.alloc (.cells #[.int .u32 off, .int .u32 near] 22)) wr) (fun v _ => 2 - (intOf v).toNat)
  case atStart => exact ⟨0, by omega, rfl, Below.refl _ _⟩
  case round =>
    obtain ⟨i, hi, rfl, hr⟩ := hrel
    have hB := below_under B2 hr
    have r0 := cell_under t0 hr
    have r1 := cell_under t1 hr
    have r2 := cell_under t2 hr
    have r3 := cell_under t3 hr
    have r4 := cell_under t4 hr
    have r5 := cell_under t5 hr
    have r6 := cell_under t6 hr
    have r7 := cell_under t7 hr
    have r8 := cell_under t8 hr
    have r9 := cell_under t9 hr
    clear t0 t1 t2 t3 t4 t5 t6 t7 t8 t9 B2
    by_cases hlt : i < 2
    · have hcell : wr.cell? ⟨u.heap.size, i, none⟩ = some (.int .u32 (pick2 off near i)) := by
        rw [hr.cell (by simp)]
        obtain rfl | rfl : i = 0 ∨ i = 1 := by omega
        all_goals simp [pick2]
      have l0 := pick2_lo i o0 hn0
      have l1 := pick2_hi i o1 hn1
      generalize pick2 off near i = o at hcell l0 l1
      obtain ⟨wo, rfl⟩ : ∃ wo : World, wo = wr := ⟨_, rfl⟩
      have hd : decide ((i : Int) < 2) = true := by simp; omega
      have hs1 : u.heap.size + 1 ≤ wo.heap.size := by simpa using hr.size
      go_wp2_with fail
      clear hcell hd
      rw [hm]
      clear hm
      generalize bits .and .i64 n 15 = n15
      generalize bits .and .i64 what 3 = w3
      have ho0 := cell_lt r0
      have ho5 := cell_lt r5
      simp only at ho0 ho5
      go_loopw [70] (fun v wq => ∃ l : Nat, l ≤ 4 ∧ v = .int .i64 l ∧ Below (wo.heap.size + 1) (wo.alloc (.cells #[.int .i64 n, .int .i64 what, .int .i64 n15, .int .i64 w3, .int .i64 4, .int .i64 (m : Int), .int .i64 1, .int .i64 (m : Int)] 27)) wq) (fun v _ => 4 - (intOf v).toNat)
      case atStart => exact ⟨0, by omega, rfl, Below.refl _ _⟩
      case round =>
        obtain ⟨l, hl, rfl, hr2⟩ := hrel
        have hO : Below (u.heap.size + 1) (u.alloc (.cells #[.int .u32 off, .int .u32 near] 22)) wr := (hr.alloc hs1 _).trans (hr2.mono (by omega))
        have s0 := cell_under r0 hr2
        have s1 := cell_under r1 hr2
        have s2 := cell_under r2 hr2
        have s3 := cell_under r3 hr2
        have s4 := cell_under r4 hr2
        clear r0 r1 r2 r3 r4 r5 r6 r7 r8 r9
        by_cases hlq : l < 4
        · have hc0 : wr.cell? ⟨wo.heap.size, l * 2, none⟩ = some (.int .i64 (pick4 n n15 4 1 l)) := by
            rw [hr2.cell (by simp)]
            obtain rfl | rfl | rfl | rfl : l = 0 ∨ l = 1 ∨ l = 2 ∨ l = 3 := by omega
            all_goals simp [pick4]
          have hc1 : wr.cell? ⟨wo.heap.size, l * 2 + 1, none⟩ = some (.int .i64 (pick4 what w3 m m l)) := by
            rw [hr2.cell (by simp)]
            obtain rfl | rfl | rfl | rfl : l = 0 ∨ l = 1 ∨ l = 2 ∨ l = 3 := by omega
            all_goals simp [pick4]
          generalize pick4 n n15 4 1 l = g at *
          generalize pick4 what w3 m m l = h at *
          obtain ⟨wi, hwi⟩ : ∃ wi : World, wi = wr := ⟨_, rfl⟩
          rw [← hwi] at hO hc0 hc1 s0 s1 s2 s3 s4 hr2 ⊢
          clear hwi
          have hd2 : decide ((l : Int) < 4) = true := by simp; omega
          have hO2 : Below (wo.heap.size + 1) (wo.alloc (.cells #[.int .i64 n, .int .i64 what, .int .i64 n15, .int .i64 w3, .int .i64 4, .int .i64 (m : Int), .int .i64 1, .int .i64 (m : Int)] 27)) (wi.alloc (.cells #[.int .i64 g, .int .i64 h] 27)) := hr2.alloc (by simpa using hr2.size) _
          have v0 : (wi.alloc (.cells #[.int .i64 g, .int .i64 h] 27)).cell? ⟨w.heap.size, 0, none⟩ = some (.int .u32 b) := by rw [World.cell?_alloc_lt _ _ _ (cell_lt s0)]; exact s0
          have v1 : (wi.alloc (.cells #[.int .i64 g, .int .i64 h] 27)).cell? ⟨w.heap.size, 1, none⟩ = some (.int .u32 z) := by rw [World.cell?_alloc_lt _ _ _ (cell_lt s1)]; exact s1
          have v2 : (wi.alloc (.cells #[.int .i64 g, .int .i64 h] 27)).cell? ⟨w.heap.size, 2, none⟩ = some (.bool r) := by rw [World.cell?_alloc_lt _ _ _ (cell_lt s2)]; exact s2
          have v3 : (wi.alloc (.cells #[.int .i64 g, .int .i64 h] 27)).cell? ⟨w.heap.size, 3, none⟩ = some (.bool q) := by rw [World.cell?_alloc_lt _ _ _ (cell_lt s3)]; exact s3
          have v4 : (wi.alloc (.cells #[.int .i64 g, .int .i64 h] 27)).cell? ⟨w.heap.size, 4, none⟩ = some (.bool x) := by rw [World.cell?_alloc_lt _ _ _ (cell_lt s4)]; exact s4
          have v5 : (wi.alloc (.cells #[.int .i64 g, .int .i64 h] 27)).cell? ⟨wi.heap.size, 0, none⟩ = some (.int .i64 g) := by simp
          have v6 : (wi.alloc (.cells #[.int .i64 g, .int .i64 h] 27)).cell? ⟨wi.heap.size, 1, none⟩ = some (.int .i64 h) := by simp
          go_wp2_with fail
          clear hc0 hc1 s0 s1 s2 s3 s4 hd2
          generalize wi.alloc (.cells #[.int .i64 g, .int .i64 h] 27) = W at *
          generalize wi.heap.size = bx at *
          refine (sat_any b z r q x o g h b0 b1 z0 z1 l0 l1 _).mono ?_
          rintro e W1 ⟨rfl, hb1⟩
          have x0 := cell_call hb1 v0
          have x1 := cell_call hb1 v1
          have x2 := cell_call hb1 v2
          have x3 := cell_call hb1 v3
          have x4 := cell_call hb1 v4
          have x5 := cell_call hb1 v5
          have x6 := cell_call hb1 v6
          have hO3 := hO2.trans (hb1.mono (by simpa using hO2.size))
          clear v0 v1 v2 v3 v4 v5 v6
          go_wp2_with fail
          refine (rat_any b z r q x o g h b0 b1 z0 z1 l0 l1 _).mono ?_
          rintro e W2 ⟨rfl, hb2⟩
          have hO4 := hO3.trans (hb2.mono (by simpa using hO3.size))
          clear x0 x1 x2 x3 x4 x5 x6
          go_wp2_with fail
          go_roundw
          case rel => exact ⟨l + 1, by omega, by go_num, hO4⟩
          case measure => simp [intOf]; omega
        · obtain rfl : l = 4 := by omega
          go_wp2_with fail
          go_roundw
          case rel => exact ⟨i + 1, by omega, by go_num, hO⟩
          case measure => simp [intOf]; omega
    · obtain rfl : i = 2 := by omega
      obtain ⟨wo, rfl⟩ : ∃ wo : World, wo = wr := ⟨_, rfl⟩
      go_wp2_with fail
      obtain ⟨pa, hpa⟩ : ∃ v, v = (b + z) % 4294967296 := ⟨_, rfl⟩
      obtain ⟨pb, hpb⟩ : ∃ v, v = (b - 1) % 4294967296 := ⟨_, rfl⟩
      obtain ⟨pc, hpc⟩ : ∃ v, v = (b + z - 1) % 4294967296 := ⟨_, rfl⟩
      rw [show ((b + z) % 4294967296 - 1) % 4294967296 = pc by omega, ← hpa, ← hpb, ← hpc]
      have pa0 : 0 ≤ pa := by omega
      have pa1 : pa < 4294967296 := by omega
      have pb0 : 0 ≤ pb := by omega
      have pb1 : pb < 4294967296 := by omega
      have pc0 : 0 ≤ pc := by omega
      have pc1 : pc < 4294967296 := by omega
      clear hpa hpb hpc hr hm
      rw [show ((2 : Nat) : Int) = 2 from rfl]
      go_loopw [123] (fun v wq => ∃ l : Nat, l ≤ 5 ∧ v = .int .i64 l ∧ Below (wo.heap.size + 1) (wo.alloc (.cells #[.int .u32 a, .int .u32 b, .int .u32 pa, .int .u32 pb, .int .u32 pc] 22)) wq) (fun v _ => 5 - (intOf v).toNat)
      case atStart => exact ⟨0, by omega, rfl, Below.refl _ _⟩
      case round =>
        obtain ⟨l, hl, rfl, hr2⟩ := hrel
        have hO := below_under hB hr2
        have s0 := cell_under r0 hr2
        have s1 := cell_under r1 hr2
        have s2 := cell_under r2 hr2
        have s3 := cell_under r3 hr2
        have s4 := cell_under r4 hr2
        have s5 := cell_under r5 hr2
        have s6 := cell_under r6 hr2
        have s7 := cell_under r7 hr2
        have s8 := cell_under r8 hr2
        have s9 := cell_under r9 hr2
        clear r0 r1 r2 r3 r4 r5 r6 r7 r8 r9
        by_cases hlq : l < 5
        · have hcell : wr.cell? ⟨wo.heap.size, l, none⟩ = some (.int .u32 (pick5' a b pa pb pc l)) := by
            rw [hr2.cell (by simp)]
            obtain rfl | rfl | rfl | rfl | rfl : l = 0 ∨ l = 1 ∨ l = 2 ∨ l = 3 ∨ l = 4 := by omega
            all_goals simp [pick5']
          have l0 := pick5_lo' l a0 b0 pa0 pb0 pc0
          have l1 := pick5_hi' l a1 b1 pa1 pb1 pc1
          generalize pick5' a b pa pb pc l = p at hcell l0 l1
          obtain ⟨wi, hwi⟩ : ∃ wi : World, wi = wr := ⟨_, rfl⟩
          rw [← hwi] at hO hcell s0 s1 s2 s3 s4 hr2 ⊢
          clear s5 s6 s7 s8 s9 hwi
          have hd2 : decide ((l : Int) < 5) = true := by simp; omega
          have hs1 : wo.heap.size + 1 ≤ wi.heap.size := by simpa using hr2.size
          go_wp2_with fail
          clear hcell
          have hK : ∀ (fn : FuncId) (args : Array Value) (v : Value), (∀ w, Calls Try.prog fn args w fun e w' => e = .returned v ∧ Below w.heap.size w w') → ∀ u' : World, (Below (wo.heap.size + 1) (wo.alloc (.cells #[.int .u32 a, .int .u32 b, .int .u32 pa, .int .u32 pb, .int .u32 pc] 22)) u' ∧ wo.heap.size + 1 ≤ u'.heap.size ∧ u'.cell? ⟨w.heap.size, 0, none⟩ = some (.int .u32 b) ∧ u'.cell? ⟨w.heap.size, 1, none⟩ = some (.int .u32 z) ∧ u'.cell? ⟨w.heap.size, 2, none⟩ = some (.bool r) ∧ u'.cell? ⟨w.heap.size, 3, none⟩ = some (.bool q) ∧ u'.cell? ⟨w.heap.size, 4, none⟩ = some (.bool x)) → Calls Try.prog fn args u' fun e u'' => e = .returned v ∧ (Below (wo.heap.size + 1) (wo.alloc (.cells #[.int .u32 a, .int .u32 b, .int .u32 pa, .int .u32 pb, .int .u32 pc] 22)) u'' ∧ wo.heap.size + 1 ≤ u''.heap.size ∧ u''.cell? ⟨w.heap.size, 0, none⟩ = some (.int .u32 b) ∧ u''.cell? ⟨w.heap.size, 1, none⟩ = some (.int .u32 z) ∧ u''.cell? ⟨w.heap.size, 2, none⟩ = some (.bool r) ∧ u''.cell? ⟨w.heap.size, 3, none⟩ = some (.bool q) ∧ u''.cell? ⟨w.heap.size, 4, none⟩ = some (.bool x)) := fun fn args v h u' hu' => carry5 h u' hu'
          go_region_held3 (fun w' => Below (wo.heap.size + 1) (wo.alloc (.cells #[.int .u32 a, .int .u32 b, .int .u32 pa, .int .u32 pb, .int .u32 pc] 22)) w' ∧ wo.heap.size + 1 ≤ w'.heap.size ∧ w'.cell? ⟨w.heap.size, 0, none⟩ = some (.int .u32 b) ∧ w'.cell? ⟨w.heap.size, 1, none⟩ = some (.int .u32 z) ∧ w'.cell? ⟨w.heap.size, 2, none⟩ = some (.bool r) ∧ w'.cell? ⟨w.heap.size, 3, none⟩ = some (.bool q) ∧ w'.cell? ⟨w.heap.size, 4, none⟩ = some (.bool x)) (first | (exact ⟨hr2.drew, by simpa using hs1, by simpa using s0, by simpa using s1, by simpa using s2, by simpa using s3, by simpa using s4⟩) | assumption | go_keep)
            (first | (go_at_call 10; (with_reducible refine (hK _ _ _ (swithin_any b z p r q x b0 b1 z0 z1 l0 l1) _ ?_).mono ?_); (first | assumption | simp [*]); rintro e w' ⟨rfl, hS'⟩) | (go_at_call 11; (with_reducible refine (hK _ _ _ (rwithin_any b z p r q x b0 b1 z0 z1 l0 l1) _ ?_).mono ?_); (first | assumption | simp [*]); rintro e w' ⟨rfl, hS'⟩))
          obtain ⟨e1, _, _, _, _, _, _⟩ := hS'
          clear hK
          go_wp2_with fail
          go_roundw
          case rel => exact ⟨l + 1, by omega, by go_num, e1⟩
          case measure => simp [intOf]; omega
        · obtain rfl : l = 5 := by omega
          go_wp2_with fail
          have hs0 : w.heap.size ≤ wr.heap.size := hO.size
          have hK : ∀ (fn : FuncId) (args : Array Value) (v : Value), (∀ w, Calls Try.prog fn args w fun e w' => e = .returned v ∧ Below w.heap.size w w') → ∀ u' : World, (Below w.heap.size w u' ∧ w.heap.size ≤ u'.heap.size ∧ u'.cell? ⟨w.heap.size, 0, none⟩ = some (.int .u32 b) ∧ u'.cell? ⟨w.heap.size, 1, none⟩ = some (.int .u32 z) ∧ u'.cell? ⟨w.heap.size, 2, none⟩ = some (.bool r) ∧ u'.cell? ⟨w.heap.size, 3, none⟩ = some (.bool q) ∧ u'.cell? ⟨w.heap.size, 4, none⟩ = some (.bool x) ∧ u'.cell? ⟨w.heap.size + 1, 0, none⟩ = some (.int .u32 c) ∧ u'.cell? ⟨w.heap.size + 1, 1, none⟩ = some (.int .u32 y) ∧ u'.cell? ⟨w.heap.size + 1, 2, none⟩ = some (.bool r') ∧ u'.cell? ⟨w.heap.size + 1, 3, none⟩ = some (.bool q') ∧ u'.cell? ⟨w.heap.size + 1, 4, none⟩ = some (.bool x')) → Calls Try.prog fn args u' fun e u'' => e = .returned v ∧ (Below w.heap.size w u'' ∧ w.heap.size ≤ u''.heap.size ∧ u''.cell? ⟨w.heap.size, 0, none⟩ = some (.int .u32 b) ∧ u''.cell? ⟨w.heap.size, 1, none⟩ = some (.int .u32 z) ∧ u''.cell? ⟨w.heap.size, 2, none⟩ = some (.bool r) ∧ u''.cell? ⟨w.heap.size, 3, none⟩ = some (.bool q) ∧ u''.cell? ⟨w.heap.size, 4, none⟩ = some (.bool x) ∧ u''.cell? ⟨w.heap.size + 1, 0, none⟩ = some (.int .u32 c) ∧ u''.cell? ⟨w.heap.size + 1, 1, none⟩ = some (.int .u32 y) ∧ u''.cell? ⟨w.heap.size + 1, 2, none⟩ = some (.bool r') ∧ u''.cell? ⟨w.heap.size + 1, 3, none⟩ = some (.bool q') ∧ u''.cell? ⟨w.heap.size + 1, 4, none⟩ = some (.bool x')) := fun fn args v h u' hu' => carry10 h u' hu'
          go_region_held3 (fun w' => Below w.heap.size w w' ∧ w.heap.size ≤ w'.heap.size ∧ w'.cell? ⟨w.heap.size, 0, none⟩ = some (.int .u32 b) ∧ w'.cell? ⟨w.heap.size, 1, none⟩ = some (.int .u32 z) ∧ w'.cell? ⟨w.heap.size, 2, none⟩ = some (.bool r) ∧ w'.cell? ⟨w.heap.size, 3, none⟩ = some (.bool q) ∧ w'.cell? ⟨w.heap.size, 4, none⟩ = some (.bool x) ∧ w'.cell? ⟨w.heap.size + 1, 0, none⟩ = some (.int .u32 c) ∧ w'.cell? ⟨w.heap.size + 1, 1, none⟩ = some (.int .u32 y) ∧ w'.cell? ⟨w.heap.size + 1, 2, none⟩ = some (.bool r') ∧ w'.cell? ⟨w.heap.size + 1, 3, none⟩ = some (.bool q') ∧ w'.cell? ⟨w.heap.size + 1, 4, none⟩ = some (.bool x')) (first | (exact ⟨hO.drew, by simpa using hs0, by simpa using s0, by simpa using s1, by simpa using s2, by simpa using s3, by simpa using s4, by simpa using s5, by simpa using s6, by simpa using s7, by simpa using s8, by simpa using s9⟩) | assumption | go_keep)
            (first | (go_at_call 12; ((with_reducible refine (hK _ _ _ (sright_any b z r q x b0 b1 z0 z1) _ ?_).mono ?_); (first | assumption | simp [*]); rintro e w' ⟨rfl, hS'⟩)) | (go_at_call 13; ((with_reducible refine (hK _ _ _ (rsegright_any b z r q x b0 b1 z0 z1) _ ?_).mono ?_); (first | assumption | simp [*]); rintro e w' ⟨rfl, hS'⟩)) | (go_at_call 14;  first | ((with_reducible refine (hK _ _ _ (sapart_any b z c y r q x r' q' x' b0 b1 z0 z1 c0 c1 y0 y1) _ ?_).mono ?_); (first | assumption | simp [*]); rintro e w' ⟨rfl, hS'⟩) | ((with_reducible refine (hK _ _ _ (sapart_any b z b z r q x r q x b0 b1 z0 z1 b0 b1 z0 z1) _ ?_).mono ?_); (first | assumption | simp [*]); rintro e w' ⟨rfl, hS'⟩)) | (go_at_call 15;  first | ((with_reducible refine (hK _ _ _ (rapart_any b z c y r q x r' q' x' b0 b1 z0 z1 c0 c1 y0 y1) _ ?_).mono ?_); (first | assumption | simp [*]); rintro e w' ⟨rfl, hS'⟩) | ((with_reducible refine (hK _ _ _ (rapart_any b z b z r q x r q x b0 b1 z0 z1 b0 b1 z0 z1) _ ?_).mono ?_); (first | assumption | simp [*]); rintro e w' ⟨rfl, hS'⟩)))
          obtain ⟨e1, _⟩ := hS'
          clear hK
          go_wp2_with fail
          go_ret
          exact ⟨by simp, e1⟩

theorem segTells_own : ownKnob Try.prog.godebug = none := by kernel_rfl
set_option maxRecDepth 100000 in
theorem segTells_lifted (os : Os) (started : os.Started) (H : Type) (enc : TypeId × Value → H) :
    ReturnsInHanded {} Try.checked os 3 .any (Rows.segTellsSpec.pre6 enc Try.prog Try.f3 Rows.segTellsRow.domain false) (Rows.segTellsSpec.post enc Try.prog Try.f3 false true false false) := by
  refine returnsInHanded_of_change (C := Try.checked) segTells_own started (by kernel_rfl) Try.func3
    (ChangeSpec.witness6 (enc := enc) (C := Try.checked) false ⟨#[], #[.agg #[.int .u32 0, .int .u32 0, .bool false, .bool false, .bool false], .agg #[.int .u32 0, .int .u32 0, .bool false, .bool false, .bool false], .int .u32 0, .int .i64 0, .int .i64 0, .int .u32 0, .int .u8 0], []⟩ 8 (by kernel_rfl) (by kernel_rfl) (by kernel_rfl) (by kernel_rfl)) ?_
  intro W base args ds gs before hval0 hW hcnd _
  have hval : ∀ (j : Nat) t v, Try.f3.params[j]? = some t → args[j]? = some v → Value.okWide Try.prog W .any base t v := hval0
  have hW' := hW
  obtain ⟨p, q, hA0, hV, rfl, hfz, hnd⟩ := hW
  have hA : DataW.TrodAll enc Try.prog W 0 (fun _ => true) true Try.f3.params.toList args.toList ds p := hA0
  rw [Try.params3] at hA hval
  obtain ⟨v0, vs0, d0, ds0, p0, q0, hargs, rfl, rfl, h0, r0⟩ := trodAll_cons hA
  obtain ⟨v1, vs1, d1, ds1, p1, q1, rfl, rfl, rfl, h1, r1⟩ := trodAll_cons r0
  obtain ⟨v2, vs2, d2, ds2, p2, q2, rfl, rfl, rfl, h2, r2⟩ := trodAll_cons r1
  obtain ⟨v3, vs3, d3, ds3, p3, q3, rfl, rfl, rfl, h3, r3⟩ := trodAll_cons r2
  obtain ⟨v4, vs4, d4, ds4, p4, q4, rfl, rfl, rfl, h4, r4⟩ := trodAll_cons r3
  obtain ⟨v5, vs5, d5, ds5, p5, q5, rfl, rfl, rfl, h5, r5⟩ := trodAll_cons r4
  obtain ⟨v6, vs6, d6, ds6, p6, q6, rfl, rfl, rfl, h6, r6⟩ := trodAll_cons r5
  obtain ⟨rfl, rfl, rfl⟩ := trodAll_nil r6
  obtain rfl : args = #[v0, v1, v2, v3, v4, v5, v6] := by cases args; simp_all
  obtain ⟨rfl, rfl⟩ := trodVars_none hV
  obtain ⟨a0ba, a0sz, a0rd, a0wr, a0ex, rfl, rfl, rfl, w0ba, w0sz⟩ := open_seg (hval 0 24 v0 rfl rfl) h0
  obtain ⟨a1ba, a1sz, a1rd, a1wr, a1ex, rfl, rfl, rfl, w1ba, w1sz⟩ := open_seg (hval 1 24 v1 rfl rfl) h1
  obtain ⟨a2, rfl, rfl, rfl, w2⟩ := open_int Try.underlying22 (hval 2 22 v2 rfl rfl) h2
  obtain ⟨a3, rfl, rfl, rfl, w3⟩ := open_int Try.underlying3 (hval 3 3 v3 rfl rfl) h3
  obtain ⟨a4, rfl, rfl, rfl, w4⟩ := open_int Try.underlying3 (hval 4 3 v4 rfl rfl) h4
  obtain ⟨a5, rfl, rfl, rfl, w5⟩ := open_int Try.underlying22 (hval 5 22 v5 rfl rfl) h5
  obtain ⟨a6, rfl, rfl, rfl, w6⟩ := open_int Try.underlying5 (hval 6 5 v6 rfl rfl) h6
  clear hA0 hval0
  simp only [List.append_nil] at hW'
  have b0ba : 0 ≤ a0ba ∧ a0ba < 4294967296 := by
    have h := w0ba
    simp only [Lit.wf, Bool.and_eq_true, decide_eq_true_eq] at h
    have e1 : IntKind.u32.min = 0 := by decide
    have e2 : IntKind.u32.max = 4294967295 := by decide
    omega
  have b0sz : 0 ≤ a0sz ∧ a0sz < 4294967296 := by
    have h := w0sz
    simp only [Lit.wf, Bool.and_eq_true, decide_eq_true_eq] at h
    have e1 : IntKind.u32.min = 0 := by decide
    have e2 : IntKind.u32.max = 4294967295 := by decide
    omega
  have b1ba : 0 ≤ a1ba ∧ a1ba < 4294967296 := by
    have h := w1ba
    simp only [Lit.wf, Bool.and_eq_true, decide_eq_true_eq] at h
    have e1 : IntKind.u32.min = 0 := by decide
    have e2 : IntKind.u32.max = 4294967295 := by decide
    omega
  have b1sz : 0 ≤ a1sz ∧ a1sz < 4294967296 := by
    have h := w1sz
    simp only [Lit.wf, Bool.and_eq_true, decide_eq_true_eq] at h
    have e1 : IntKind.u32.min = 0 := by decide
    have e2 : IntKind.u32.max = 4294967295 := by decide
    omega
  have b2 : 0 ≤ a2 ∧ a2 < 4294967296 := by
    have h := w2
    simp only [Lit.wf, Bool.and_eq_true, decide_eq_true_eq] at h
    have e1 : IntKind.u32.min = 0 := by decide
    have e2 : IntKind.u32.max = 4294967295 := by decide
    omega
  have b5 : 0 ≤ a5 ∧ a5 < 4294967296 := by
    have h := w5
    simp only [Lit.wf, Bool.and_eq_true, decide_eq_true_eq] at h
    have e1 : IntKind.u32.min = 0 := by decide
    have e2 : IntKind.u32.max = 4294967295 := by decide
    omega
  have b6 : 0 ≤ a6 ∧ a6 < 256 := by
    have h := w6
    simp only [Lit.wf, Bool.and_eq_true, decide_eq_true_eq] at h
    have e1 : IntKind.u8.min = 0 := by decide
    have e2 : IntKind.u8.max = 255 := by decide
    omega
  refine (segtells_walk a0ba a0sz a0rd a0wr a0ex a1ba a1sz a1rd a1wr a1ex a2 a3 a4 a5 a6 W b0ba.1 b0ba.2 b0sz.1 b0sz.2 b1ba.1 b1ba.2 b1sz.1 b1sz.2 b2.1 b2.2 b5.1 b5.2 b6.1 b6.2).mono fun e W' ⟨he, hg⟩ => ?_
  subst he
  exact ⟨_, rfl, post_plain hW' hg (fun sp => (trodAll_cons_mk (shut_seg _ _ _ _ _ w0ba w0sz) (trodAll_cons_mk (shut_seg _ _ _ _ _ w1ba w1sz) (trodAll_cons_mk (shut_int Try.underlying22 w2) (trodAll_cons_mk (shut_int Try.underlying3 w3) (trodAll_cons_mk (shut_int Try.underlying3 w4) (trodAll_cons_mk (shut_int Try.underlying22 w5) (trodAll_cons_mk (shut_int Try.underlying5 w6) trodAll_mk0)))))))) (fun _ => rfl)
    (fun _ _ _ => (trodAll_cons_mk (shut_bool Try.underlying4 _) trodAll_mk0)) (ok_one (by kernel_rfl) rfl (okWide_bool_mk Try.underlying4 _))⟩

theorem segTells_holds : Rows.SegTellsSaid :=
  OpenClaim.holds_of_wide 3 Try.f3 rfl rfl rfl rfl rfl rfl rfl ⟨rfl, rfl, rfl, rfl, rfl⟩ rfl rfl rfl rfl rfl (by kernel_rfl) Try.func3 (by kernel_rfl)
    (of_decide_eq_true (by kernel_rfl)) (by unfold Func.isWrapper; first | (rw [if_pos (by decide +kernel)]; kernel_rfl) | (rw [if_neg (by decide +kernel)]; exact ⟨rfl, rfl⟩))
    (fun os started H enc _ => segTells_lifted os started H enc)
#print axioms segTells_holds
end Go.Proofs.Ytfnbnhgcjpfdhaa
