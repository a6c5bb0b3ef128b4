import Derived.Test.YtnjalelblbjfiaaGreatDoorP16
import Derived.BigQuiet
import Derived.Test.YtnjalelblbjfiaaGreatDoorP4
import Derived.Test.YtnjalelblbjfiaaGreatDoorP3
namespace Go.Proofs.YtnjalelblbjfiaaGreatDoor
open Go.RowKit
attribute [local go_sem] Oper.semAt_some cell?_regrown
attribute [local go_sem ↓ high] eqlRule1

theorem ownsRow_lst {w : World} {B : Nat} {t : TypeId} {s n : Nat} {v : Value} {xs : List Value} (h : w.ownsRow B t s v n xs) : Lst w t s v n := by
  rcases h.2 with h | ⟨g, cap, cur, e, hb, hg, hnc, hcm, hcs, htake⟩
  · exact .inl ⟨h.1, h.2⟩
  · exact .inr ⟨g, cap, cur, e, hg, hcs, hnc⟩

end Go.Proofs.YtnjalelblbjfiaaGreatDoor

namespace Go.Proofs.YtnjalelblbjfiaaGreatDoor
open Go.RowKit

theorem lnum_any (x : Int) (w : World) : Calls Tryz.prog 25 #[.int .i64 x] w fun e w' => e = .returned (.int .i64 x) ∧ w' = w := by
  go_enter Tryz.func25, Tryz.ntmps25
  go_wp2
  go_ret
  exact ⟨rfl, rfl⟩
end Go.Proofs.YtnjalelblbjfiaaGreatDoor

namespace Go.Proofs.YtnjalelblbjfiaaGreatDoor
open Go.RowKit

/-- Which of n things a number speaks of. -/
def pkI (c : Int) : Int := if c < 0 then -(c + 1) else c
theorem pk_ex (c : Int) {n : Nat} (hn : 0 < n) : ∃ k : Nat, k < n ∧ (pkI c).tmod n = k := by
  have ha : 0 ≤ pkI c := by unfold pkI; split <;> omega
  have h1 := Int.tmod_nonneg (n : Int) ha
  have h2 := Int.tmod_lt_of_pos (pkI c) (show (0 : Int) < n by omega)
  exact ⟨((pkI c).tmod n).toNat, by omega, by omega⟩
theorem lpick_at (c : Int) (n k : Nat) (w : World) (hc : -9223372036854775808 ≤ c ∧ c ≤ 9223372036854775807) (hn : 0 < n ∧ n ≤ 4611686018427387904) (hk : (pkI c).tmod n = k) (hlt : k < n) : Calls Tryz.prog 26 #[.int .i64 c, .int .i64 n] w fun e w' => e = .returned (.int .i64 k) ∧ w' = w := by
  have hn0 : ¬ (n : Int) = 0 := by omega
  have hn1 : (n : Int) ≠ -1 := by omega
  have hw3 : IntKind.i64.wrap (k : Int) = k := by rw [IntKind.wrap_i64]; omega
  by_cases h : c < 0
  · have hw1 : IntKind.i64.wrap (c + 1) = c + 1 := by rw [IntKind.wrap_i64]; omega
    have hw2 : IntKind.i64.wrap (-(c + 1)) = -(c + 1) := by rw [IntKind.wrap_i64]; omega
    have he : (-(c + 1)).tmod n = k := by rw [← hk]; unfold pkI; rw [if_pos h]
    clear hk
    go_enter Tryz.func26, Tryz.ntmps26
    go_wp2
    go_ret
    exact ⟨rfl, rfl⟩
  · have he : c.tmod n = k := by rw [← hk]; unfold pkI; rw [if_neg h]
    clear hk
    go_enter Tryz.func26, Tryz.ntmps26
    go_wp2
    go_ret
    exact ⟨rfl, rfl⟩

/-- All tables hold what the document's hold. -/
def Agree (Ts : List TabD) : Prop := ∀ d ∈ Ts, d.rs = rls d.L
section
variable {w w1 w2 w3 W : World} {wb n i : Nat} {tv sv kv : Value} {Ts : List TabD} {Ks : List KeptD} {col : Nat → Nat}
theorem LW.pos (h : LW w wb tv sv kv n Ts Ks col) : 0 < w.heap.size := Nat.lt_of_le_of_lt (Nat.zero_le _) (block_lt_of_cell h.c0)
end
end Go.Proofs.YtnjalelblbjfiaaGreatDoor

namespace Go.Proofs.YtnjalelblbjfiaaGreatDoor
open Go.RowKit

theorem mem_zeroCells {z : Array Value} {n : Nat} {u : Value} (h : u ∈ (Builtin.zeroCells z n).toList) : u ∈ z := by
  simp only [Builtin.zeroCells, Array.toList_map, List.mem_map, Array.mem_toList_iff, Array.mem_range] at h
  obtain ⟨i, hi, rfl⟩ := h
  have hz : 0 < z.size := by
    rcases Nat.eq_zero_or_pos z.size with h0 | h0
    · rw [h0] at hi; simp at hi
    · exact h0
  have hl : i % z.size < z.size := Nat.mod_lt _ hz
  rw [getElem!_pos z _ hl]
  exact Array.getElem_mem hl
/-- All cells of a row that append leaves are of one kind. -/
theorem append_all {P : Program} (Q : Value → Prop) (w : World) (base : Nat) (t ty e : TypeId) (i : TypeInfo) (z : Value) (size bytes : Nat) (ht : P.underlying t = some (.slice e)) (hi : P.info? e = some i) (hz : i.zero = some z)
    (hsize : i.size = size) (hby : i.bytes = bytes)
    (v : Value) (n : Nat) (xs : List Value) (hown : w.ownsRow base e size v n xs)
    (a : Addr) (m c : Nat) (news : List Value) (hl : news.length = m * size) (hnews : ∀ j u, news[j]? = some u → w.cell? (a.add j) = some u) (h1 : ∀ u ∈ news, u.oneCell' = true)
    (h63 : n + m ≤ maxLen) (hbytes : (n + m) * bytes ≤ 140737488355328) (hm : 0 < m) (qz : ∀ u ∈ z.cells, Q u) (qo : ∀ g j u, v.ownBlock = some g → w.cell? ⟨g, j, none⟩ = some u → Q u) (qn : ∀ u ∈ news, Q u) {v' : Value} {w' : World} (hr' : (Builtin.append_ #[t, t] ty #[v, .slice (some a) m c]).run P w = .ok v' w') : ∀ b j u, v'.ownBlock = some b → w'.cell? ⟨b, j, none⟩ = some u → Q u := by
  subst hsize
  subst hby
  have hsmall : n + m ≤ 9223372036854775807 := by simp only [maxLen] at h63; omega
  rcases hown.2 with ⟨rfl, rfl⟩ | ⟨g, cap, cur, rfl, hbg, hg, hnc, hcm, hcs, htake⟩
  · have hr := run_append_nil (P := P) w t ty e i z ht hi hz a m c news hl hnews (by omega) (by omega) (by have hb := hbytes; simp only [Nat.zero_add] at hb; omega)
    rw [hr] at hr'
    cases hr'
    intro b j u hb hu
    cases hb
    have hu' := (cell_of_heap (g := w.heap.size) (heap_alloc_new w.drew _)).symm.trans hu
    rw [Array.toList_append, List.toList_toArray] at hu'
    rcases List.mem_append.1 (List.mem_of_getElem? hu') with h | h
    · exact qn u h
    · exact qz u (mem_zeroCells h)
  · by_cases hroom : n + m ≤ cap
    · have hfit : n * i.size + news.length ≤ cur.size := by rw [hl, hcs, ← Nat.add_mul]; exact Nat.mul_le_mul_right _ hroom
      have hr := run_append_room (P := P) w t ty e i ht hi g n cap cur hg a m c news hl hnews h1 hroom hfit
      have hh := setRow_heap w g cur (cur.toList.take (n * i.size) ++ news ++ cur.toList.drop (n * i.size + news.length)).toArray e _ hg
      rw [hr] at hr'
      cases hr'
      intro b j u hb hu
      cases hb
      have old : ∀ x ∈ cur.toList, Q x := fun x hx => by
        obtain ⟨k, hk, rfl⟩ := List.getElem_of_mem hx
        exact qo g k _ rfl ((cell_of_heap hg).trans (List.getElem?_eq_getElem hk))
      have hu' := (cell_of_heap hh).symm.trans hu
      rw [List.toList_toArray] at hu'
      rcases List.mem_append.1 (List.mem_of_getElem? hu') with h | h
      · rcases List.mem_append.1 h with h | h
        · exact old u (List.mem_of_mem_take h)
        · exact qn u h
      · exact old u (List.mem_of_mem_drop h)
    · have holds : ∀ j u, xs[j]? = some u → w.cell? ((⟨g, 0, none⟩ : Addr).add j) = some u := hown.cells (g := g) rfl
      have hr := run_append_grow (P := P) w t ty e i z ht hi hz ⟨g, 0, none⟩ n cap xs hown.1 holds a m c news hl hnews (by omega) (by omega) (growslice_fits (by omega) hbytes)
      rw [hr] at hr'
      cases hr'
      intro b j u hb hu
      cases hb
      have hu' := (cell_of_heap (g := w.heap.size) (heap_alloc_new w.drew _)).symm.trans hu
      simp only [Array.toList_append] at hu'
      rcases List.mem_append.1 (List.mem_of_getElem? hu') with h | h
      · rcases List.mem_append.1 h with h | h
        · obtain ⟨k, hk, rfl⟩ := List.getElem_of_mem h
          have hc := holds k _ (List.getElem?_eq_getElem hk)
          rw [Addr.add_mid] at hc
          exact qo g _ _ rfl hc
        · exact qn u h
      · exact qz u (mem_zeroCells h)
section
variable {w w1 w2 w3 W : World} {wb n i : Nat} {tv sv kv : Value} {Ts : List TabD} {Ks : List KeptD} {col : Nat → Nat}
end
end Go.Proofs.YtnjalelblbjfiaaGreatDoor
