import Derived.Test.YtaejpejfmpbinaaGreatDoorP7
import Derived.Deep.RegionHeld3
namespace Go.Proofs.YtaejpejfmpbinaaGreatDoor
open Go.RowKit

theorem ba_empty : ByteArray.empty.toList = [] := by rw [ByteArray.toList_eq]; rfl
/-- A MAC is a group's. -/
def isGrp (b : ByteArray) : Bool := if h : 0 < b.size then b[0].toNat % 2 == 1 else false
set_option maxRecDepth 10000 in
theorem and_one : ∀ n, n < 256 → (bits BinOp.and IntKind.u8 (n : Nat) 1 == 1) = (n % 2 == 1) := by decide
set_option maxRecDepth 100000 in
theorem isGroup_any (b : ByteArray) (w : World) :
    Calls Tryz.prog 50 #[.string b] w fun e w' => e = .returned (.bool (isGrp b)) ∧ w' = w := by
  by_cases h : 0 < b.size
  · have hne : ¬ b.toList = [] := by
      intro e
      have e2 : b = ByteArray.empty := ba_ext (by rw [e, ba_empty])
      rw [e2] at h
      exact absurd h (by decide)
    have hni : b.toList.isEmpty = false := by
      rw [← Bool.not_eq_true, List.isEmpty_iff]; exact hne
    have ha := and_one b[0].toNat b[0].toNat_lt
    have hg : isGrp b = (b[0].toNat % 2 == 1) := by rw [isGrp, dif_pos h]
    rw [hg, ← ha]
    have HA := hide hni
    clear ha hg
    go_enter Tryz.func50, Tryz.ntmps50
    go_wp2
    go_ret
    exact ⟨by simp, rfl⟩
  · have e : b = ByteArray.empty := by
      apply ByteArray.ext
      exact Array.eq_empty_of_size_eq_zero (by simpa using h)
    subst e
    have hg : isGrp ByteArray.empty = false := rfl
    rw [hg]
    have he : ByteArray.empty.toList = [] := ba_empty
    go_enter Tryz.func50, Tryz.ntmps50
    go_wp2
    go_ret
    exact ⟨rfl, rfl⟩
end Go.Proofs.YtaejpejfmpbinaaGreatDoor

namespace Go.Proofs.YtaejpejfmpbinaaGreatDoor
open Go.RowKit

/-- What a type's bytes mean, by the table at the program's start. -/
def kindN (t p b : ByteArray) : Int := if t.toList == b.toList then 1 else if p.toList == b.toList then 2 else 0
theorem ixK0 (t p : ByteArray) (a c : Int) (w : World) : (Instr.index 242 (.agg #[.string t, .int .i64 a, .string p, .int .i64 c]) (.int .i64 0)).run Tryz.prog w = .ok (.agg #[.string t, .int .i64 a]) w := by kernel_rfl
theorem ixK1 (t p : ByteArray) (a c : Int) (w : World) : (Instr.index 242 (.agg #[.string t, .int .i64 a, .string p, .int .i64 c]) (.int .i64 1)).run Tryz.prog w = .ok (.agg #[.string p, .int .i64 c]) w := by kernel_rfl
attribute [local go_sem] ixK0 ixK1
set_option maxRecDepth 100000 in
set_option maxHeartbeats 1000000 in
theorem kindOf_any (b t p : ByteArray) (w : World) (h0 : w.cell? ⟨1, 0, none⟩ = some (.string t)) (h1 : w.cell? ⟨1, 1, none⟩ = some (.int .i64 1)) (h2 : w.cell? ⟨1, 2, none⟩ = some (.string p)) (h3 : w.cell? ⟨1, 3, none⟩ = some (.int .i64 2)) :
    Calls Tryz.prog 95 #[.string b] w fun e w' => e = .returned (.int .i64 (kindN t p b)) ∧ Below w.heap.size w w' := by
  go_enter Tryz.func95, Tryz.ntmps95
  go_wp2
  go_loopw [6] (fun i wr => ∃ k : Nat, k ≤ 2 ∧ i = .int .i64 k ∧ (1 ≤ k → (t.toList == b.toList) = false) ∧ (2 ≤ k → (p.toList == b.toList) = false) ∧ Below w.heap.size w wr) (fun i _ => 2 - (intOf i).toNat)
  case atStart => exact ⟨0, by omega, rfl, fun h => by omega, fun h => by omega, Below.refl _ _⟩
  case round =>
    obtain ⟨k, hk, rfl, e1, e2, hb⟩ := hrel
    match k, hk with
    | 0, _ =>
      by_cases ht : (t.toList == b.toList) = true
      · have hk : kindN t p b = 1 := by rw [kindN, ht]; rfl
        have HK := hide hk
        clear hk
        go_wp2
        go_ret
        exact ⟨by rw [HK.out]; rfl, hb.alloc hb.size _⟩
      · rw [Bool.not_eq_true] at ht
        go_wp2
        go_roundw
        case rel => exact ⟨1, by omega, rfl, fun _ => ht, fun h => by omega, hb.alloc hb.size _⟩
        case measure => simp [intOf]
    | 1, _ =>
      have n1 := e1 (by omega)
      by_cases ht : (p.toList == b.toList) = true
      · have hk : kindN t p b = 2 := by rw [kindN, n1, ht]; rfl
        have HK := hide hk
        clear hk
        go_wp2
        go_ret
        exact ⟨by rw [HK.out]; rfl, hb.alloc hb.size _⟩
      · rw [Bool.not_eq_true] at ht
        go_wp2
        go_roundw
        case rel => exact ⟨2, by omega, rfl, fun _ => n1, fun _ => ht, hb.alloc hb.size _⟩
        case measure => simp [intOf]
    | 2, _ =>
      have hk : kindN t p b = 0 := by rw [kindN, e1 (by omega), e2 (by omega)]; rfl
      have HK := hide hk
      clear hk
      go_wp2
      go_ret
      exact ⟨by rw [HK.out]; rfl, hb⟩
end Go.Proofs.YtaejpejfmpbinaaGreatDoor

namespace Go.Proofs.YtaejpejfmpbinaaGreatDoor
open Go.RowKit

/-- The number that a tag's two bytes make, as the program reckons it. -/
def tagRaw (b : ByteArray) (h : b.size = 2) : Int := bits BinOp.or IntKind.i64 (wrap64 (wrap64 ((b[0]'(by omega)).toNat : Nat) * 256)) (wrap64 ((b[1]'(by omega)).toNat : Nat))
set_option maxRecDepth 100000 in
set_option maxHeartbeats 1000000 in
theorem readTag_any (f : Nat) (b : ByteArray) (w : World) (hb : b.size = 2) (g : Bool) (v k : Int) (h2 : w.cell? ⟨f, 2, none⟩ = some (.bool g)) (h3 : w.cell? ⟨f, 3, none⟩ = some (.int .i64 v)) (h4 : w.cell? ⟨f, 4, none⟩ = some (.int .i64 k)) (hf : ∀ j, w.frozen? ⟨f, j, none⟩ = false) :
    Calls Tryz.prog 96 #[.pointer (some ⟨f, 0, none⟩), .string b] w fun e w' => e = .returned (.tuple #[]) ∧
      ∃ n, w' = (((w.setCell ⟨f, 2, none⟩ (.bool true)).setCell ⟨f, 3, none⟩ (.int .i64 (bits BinOp.and IntKind.i64 (tagRaw b hb) 4095))).setCell ⟨f, 4, none⟩ (.int .i64 (tagRaw b hb / 4096))).drewN n := by
  have i0 : (0 : Int) < b.size := by omega
  have i1 : (1 : Int) < b.size := by omega
  have j0 : 0 < b.size := by omega
  have j1 : 1 < b.size := by omega
  go_enter Tryz.func96, Tryz.ntmps96
  go_wp2
  go_region_with fail
  all_goals go_wp2
  all_goals go_end0
  all_goals first | exact ⟨rfl, 1, rfl⟩ | exact ⟨rfl, 0, rfl⟩ | exact ⟨rfl, 2, rfl⟩
end Go.Proofs.YtaejpejfmpbinaaGreatDoor
