import Derived.Test.YtnjalelblbjfiaaGreatDoorP18
import Derived.Deep.RegionHeld3
namespace Go.Proofs.YtnjalelblbjfiaaGreatDoor
open Go.RowKit

/-- A frame in its parts. -/
structure Fr where
  to : ByteArray
  fr : ByteArray
  tagged : Bool
  vlan : Int
  mark : Int
  ty : ByteArray
  rest : ByteArray
/-- A frame on its way. -/
structure Pg where
  port : Int
  data : ByteArray
  f : Fr
  pb : ByteArray
  ph : Int
  pt : Int
  right : Bool
  routed : Bool
def frCells (f : Fr) : Array Value := #[.string f.to, .string f.fr, .bool f.tagged, .int .i64 f.vlan, .int .i64 f.mark, .string f.ty, .string f.rest]
def pgCells (p : Pg) (ov : Value) : Array Value := #[.int .i64 p.port, .string p.data, .string p.f.to, .string p.f.fr, .bool p.f.tagged, .int .i64 p.f.vlan, .int .i64 p.f.mark, .string p.f.ty, .string p.f.rest, .string p.pb, .int .i64 p.ph, .int .i64 p.pt, .bool p.right, .bool p.routed, ov]
/-- A passage in memory. -/
def PgAt (w : World) (g : Nat) (p : Pg) (ov : Value) : Prop := w.heap[g]? = some (.cells (pgCells p ov) 150 (0, 0))
theorem PgAt.cell {w : World} {g : Nat} {p : Pg} {ov : Value} (h : PgAt w g p ov) {i : Nat} {v : Value} (hv : (pgCells p ov)[i]? = some v) : w.cell? ⟨g, i, none⟩ = some v := by
  unfold PgAt at h
  simp [World.cell?, h, hv]
theorem PgAt.frozen {w : World} {g : Nat} {p : Pg} {ov : Value} (h : PgAt w g p ov) (i : Nat) : w.frozen? ⟨g, i, none⟩ = false := by
  unfold PgAt at h
  unfold World.frozen?; simp only [h]; rfl
theorem PgAt.lt {w : World} {g : Nat} {p : Pg} {ov : Value} (h : PgAt w g p ov) : g < w.heap.size := block_lt_of_cell (h.cell (i := 0) rfl)
theorem PgAt.below {w w' : World} {g : Nat} {p : Pg} {ov : Value} (h : PgAt w g p ov) (hb : Below w.heap.size w w') : PgAt w' g p ov := (hb.block g h.lt).trans h
theorem PgAt.set {w : World} {g : Nat} {p q : Pg} {ov ov' : Value} (h : PgAt w g p ov) (i : Nat) (v : Value) (e : (pgCells p ov).setIfInBounds i v = pgCells q ov') : PgAt (w.setCell ⟨g, i, none⟩ v) g q ov' := by
  unfold PgAt at *
  rw [heap_setCell_same w g i _ _ v h, e]

/-- The ports of a switch. -/
def PortsAt (w : World) (pv : Value) (P : List Prt) : Prop :=
  ∃ (a : Option Addr) (cap b : Nat), pv = .slice a P.length cap ∧ ∀ j (h : j < P.length), a = some ⟨b, 0, none⟩ ∧ w.cell? ⟨b, j * 2, none⟩ = some (.int .i64 P[j].nat) ∧ ∃ mv, w.cell? ⟨b, j * 2 + 1, none⟩ = some mv ∧ TagAt w mv P[j].tg
theorem PortsAt.below {w w' : World} {pv : Value} {P : List Prt} (h : PortsAt w pv P) (hb : Below w.heap.size w w') : PortsAt w' pv P := by
  obtain ⟨a, cap, b, e, hc⟩ := h
  refine ⟨a, cap, b, e, fun j hj => ?_⟩
  obtain ⟨h0, h1, mv, h2, h3⟩ := hc j hj
  exact ⟨h0, cell_later hb h1, mv, cell_later hb h2, h3.below hb⟩

set_option maxRecDepth 100000 in
theorem hasPort_any (s : Nat) (pv : Value) (P : List Prt) (q : Int) (w : World) (h0 : w.cell? ⟨s, 0, none⟩ = some pv) (hp : PortsAt w pv P) :
    Calls Tryz.prog 65 #[.pointer (some ⟨s, 0, none⟩), .int .i64 q] w fun e w' => e = .returned (.bool (decide (0 ≤ q) && decide (q < P.length))) ∧ w' = w := by
  obtain ⟨a, cap, b, rfl, _⟩ := hp
  by_cases h : 0 ≤ q
  · have hd : decide (0 ≤ q) = true := decide_eq_true h
    go_enter Tryz.func65, Tryz.ntmps65
    go_wp2
    go_ret
    exact ⟨by simp [h], rfl⟩
  · have hd : decide (0 ≤ q) = false := decide_eq_false h
    go_enter Tryz.func65, Tryz.ntmps65
    go_wp2
    go_ret
    exact ⟨by simp, rfl⟩

set_option maxRecDepth 100000 in
theorem enter_any (s g : Nat) (pv : Value) (P : List Prt) (p : Pg) (ov : Value) (w : World) (h0 : w.cell? ⟨s, 0, none⟩ = some pv) (hp : PortsAt w pv P) (hg : PgAt w g p ov) :
    Calls Tryz.prog 56 #[.pointer (some ⟨s, 0, none⟩), .pointer (some ⟨g, 0, none⟩)] w fun e w' => e = .returned (.int .i64 (if decide (0 ≤ p.port) && decide (p.port < P.length) then -1 else 9)) ∧ w' = w := by
  have C := hide (hasPort_any s pv P p.port w h0 hp)
  have g0 : w.cell? ⟨g, 0, none⟩ = some (.int .i64 p.port) := hg.cell rfl
  generalize (decide (0 ≤ p.port) && decide (p.port < P.length)) = ok at *
  clear hg hp
  go_enter Tryz.func56, Tryz.ntmps56
  go_wp2_with fail
  refine C.out.mono ?_
  rintro e w1 ⟨rfl, rfl⟩
  cases ok
  · go_wp2
    go_ret
    exact ⟨rfl, rfl⟩
  · go_wp2
    go_ret
    exact ⟨rfl, rfl⟩

set_option maxRecDepth 100000 in
theorem left_any (g n cap : Nat) (a : Option Addr) (p : Pg) (w : World) (hg : PgAt w g p (.slice a n cap)) :
    Calls Tryz.prog 103 #[.pointer (some ⟨g, 0, none⟩)] w fun e w' => e = .returned (.int .i64 (if n = 0 then 8 else 0)) ∧ w' = w := by
  have g0 : w.cell? ⟨g, 14, none⟩ = some (.slice a n cap) := hg.cell rfl
  clear hg
  by_cases hn : n = 0
  · subst hn
    go_enter Tryz.func103, Tryz.ntmps103
    go_wp2
    go_ret
    exact ⟨rfl, rfl⟩
  · rw [if_neg hn]
    have hi : ¬ (n : Int) = 0 := by omega
    go_enter Tryz.func103, Tryz.ntmps103
    go_wp2
    go_ret
    exact ⟨rfl, rfl⟩
end Go.Proofs.YtnjalelblbjfiaaGreatDoor

namespace Go.Proofs.YtnjalelblbjfiaaGreatDoor
open Go.RowKit

theorem ba_empty : ByteArray.empty.toList = [] := by rw [ByteArray.toList_eq]; rfl
/-- A MAC is a group's. -/
def isGrp (b : ByteArray) : Bool := if h : 0 < b.size then b[0].toNat % 2 == 1 else false
set_option maxRecDepth 10000 in
theorem and_one : ∀ n, n < 256 → (bits BinOp.and IntKind.u8 (n : Nat) 1 == 1) = (n % 2 == 1) := by decide
set_option maxRecDepth 100000 in
theorem isGroup_any (b : ByteArray) (w : World) :
    Calls Tryz.prog 105 #[.string b] w fun e w' => e = .returned (.bool (isGrp b)) ∧ w' = w := by
  by_cases h : 0 < b.size
  · have hne : ¬ b.toList = [] := by
      intro e
      have e2 : b = ByteArray.empty := ba_ext (by rw [e, ba_empty])
      rw [e2] at h
      exact absurd h (by decide)
    have hni : b.toList.isEmpty = false := by
      rw [← Bool.not_eq_true, List.isEmpty_iff]; exact hne
    have ha := and_one b[0].toNat b[0].toNat_lt
    have hg : isGrp b = (b[0].toNat % 2 == 1) := by rw [isGrp, dif_pos h]
    rw [hg, ← ha]
    have HA := hide hni
    clear ha hg
    go_enter Tryz.func105, Tryz.ntmps105
    go_wp2
    go_ret
    exact ⟨by simp, rfl⟩
  · have e : b = ByteArray.empty := by
      apply ByteArray.ext
      exact Array.eq_empty_of_size_eq_zero (by simpa using h)
    subst e
    have hg : isGrp ByteArray.empty = false := rfl
    rw [hg]
    have he : ByteArray.empty.toList = [] := ba_empty
    go_enter Tryz.func105, Tryz.ntmps105
    go_wp2
    go_ret
    exact ⟨rfl, rfl⟩
end Go.Proofs.YtnjalelblbjfiaaGreatDoor

namespace Go.Proofs.YtnjalelblbjfiaaGreatDoor
open Go.RowKit

/-- What a type's bytes mean, by the table at the program's start. -/
def kindN (t p b : ByteArray) : Int := if t.toList == b.toList then 1 else if p.toList == b.toList then 2 else 0
theorem ixK0 (t p : ByteArray) (a c : Int) (w : World) : (Instr.index 327 (.agg #[.string t, .int .i64 a, .string p, .int .i64 c]) (.int .i64 0)).run Tryz.prog w = .ok (.agg #[.string t, .int .i64 a]) w := by kernel_rfl
theorem ixK1 (t p : ByteArray) (a c : Int) (w : World) : (Instr.index 327 (.agg #[.string t, .int .i64 a, .string p, .int .i64 c]) (.int .i64 1)).run Tryz.prog w = .ok (.agg #[.string p, .int .i64 c]) w := by kernel_rfl
attribute [local go_sem] ixK0 ixK1
set_option maxRecDepth 100000 in
set_option maxHeartbeats 1000000 in
theorem kindOf_any (b t p : ByteArray) (w : World) (h0 : w.cell? ⟨1, 0, none⟩ = some (.string t)) (h1 : w.cell? ⟨1, 1, none⟩ = some (.int .i64 1)) (h2 : w.cell? ⟨1, 2, none⟩ = some (.string p)) (h3 : w.cell? ⟨1, 3, none⟩ = some (.int .i64 2)) :
    Calls Tryz.prog 168 #[.string b] w fun e w' => e = .returned (.int .i64 (kindN t p b)) ∧ Below w.heap.size w w' := by
  go_enter Tryz.func168, Tryz.ntmps168
  go_wp2
  go_loopw [6] (fun i wr => ∃ k : Nat, k ≤ 2 ∧ i = .int .i64 k ∧ (1 ≤ k → (t.toList == b.toList) = false) ∧ (2 ≤ k → (p.toList == b.toList) = false) ∧ Below w.heap.size w wr) (fun i _ => 2 - (intOf i).toNat)
  case atStart => exact ⟨0, by omega, rfl, fun h => by omega, fun h => by omega, Below.refl _ _⟩
  case round =>
    obtain ⟨k, hk, rfl, e1, e2, hb⟩ := hrel
    match k, hk with
    | 0, _ =>
      by_cases ht : (t.toList == b.toList) = true
      · have hk : kindN t p b = 1 := by rw [kindN, ht]; rfl
        have HK := hide hk
        clear hk
        go_wp2
        go_ret
        exact ⟨by rw [HK.out]; rfl, hb.alloc hb.size _⟩
      · rw [Bool.not_eq_true] at ht
        go_wp2
        go_roundw
        case rel => exact ⟨1, by omega, rfl, fun _ => ht, fun h => by omega, hb.alloc hb.size _⟩
        case measure => simp [intOf]
    | 1, _ =>
      have n1 := e1 (by omega)
      by_cases ht : (p.toList == b.toList) = true
      · have hk : kindN t p b = 2 := by rw [kindN, n1, ht]; rfl
        have HK := hide hk
        clear hk
        go_wp2
        go_ret
        exact ⟨by rw [HK.out]; rfl, hb.alloc hb.size _⟩
      · rw [Bool.not_eq_true] at ht
        go_wp2
        go_roundw
        case rel => exact ⟨2, by omega, rfl, fun _ => n1, fun _ => ht, hb.alloc hb.size _⟩
        case measure => simp [intOf]
    | 2, _ =>
      have hk : kindN t p b = 0 := by rw [kindN, e1 (by omega), e2 (by omega)]; rfl
      have HK := hide hk
      clear hk
      go_wp2
      go_ret
      exact ⟨by rw [HK.out]; rfl, hb⟩
end Go.Proofs.YtnjalelblbjfiaaGreatDoor

namespace Go.Proofs.YtnjalelblbjfiaaGreatDoor
open Go.RowKit

/-- The number that a tag's two bytes make, as the program reckons it. -/
def tagRaw (b : ByteArray) (h : b.size = 2) : Int := bits BinOp.or IntKind.i64 (wrap64 (wrap64 ((b[0]'(by omega)).toNat : Nat) * 256)) (wrap64 ((b[1]'(by omega)).toNat : Nat))
set_option maxRecDepth 100000 in
set_option maxHeartbeats 1000000 in
theorem readTag_any (f : Nat) (b : ByteArray) (w : World) (hb : b.size = 2) (g : Bool) (v k : Int) (h2 : w.cell? ⟨f, 2, none⟩ = some (.bool g)) (h3 : w.cell? ⟨f, 3, none⟩ = some (.int .i64 v)) (h4 : w.cell? ⟨f, 4, none⟩ = some (.int .i64 k)) (hf : ∀ j, w.frozen? ⟨f, j, none⟩ = false) :
    Calls Tryz.prog 169 #[.pointer (some ⟨f, 0, none⟩), .string b] w fun e w' => e = .returned (.tuple #[]) ∧
      ∃ n, w' = (((w.setCell ⟨f, 2, none⟩ (.bool true)).setCell ⟨f, 3, none⟩ (.int .i64 (bits BinOp.and IntKind.i64 (tagRaw b hb) 4095))).setCell ⟨f, 4, none⟩ (.int .i64 (tagRaw b hb / 4096))).drewN n := by
  have i0 : (0 : Int) < b.size := by omega
  have i1 : (1 : Int) < b.size := by omega
  have j0 : 0 < b.size := by omega
  have j1 : 1 < b.size := by omega
  go_enter Tryz.func169, Tryz.ntmps169
  go_wp2
  go_region_with fail
  all_goals go_wp2
  all_goals go_end0
  all_goals first | exact ⟨rfl, 1, rfl⟩ | exact ⟨rfl, 0, rfl⟩ | exact ⟨rfl, 2, rfl⟩
end Go.Proofs.YtnjalelblbjfiaaGreatDoor
