import Derived.Test.YtnjalelblbjfiaaGreatDoorP12
import Derived.BigQuiet
import Derived.Test.YtnjalelblbjfiaaGreatDoorP6
import Derived.Test.YtnjalelblbjfiaaGreatDoorP11
import Derived.Deep.WholeRow
namespace Go.Proofs.YtnjalelblbjfiaaGreatDoor
open Go.RowKit
open Go.Sort (grow)

theorem cell_at0 {w : World} {g o : Nat} {v : Value} {cs : List Value} (h : w.rangeAt g o (v :: cs)) : w.cell? ⟨g, o, none⟩ = some v := h 0 _ rfl

theorem wpQuiet_load_mid {P : Program} {ops : Array Oper} {C : World → Prop} {Q : Act → Prop} {o : Oper} {rest : List Oper} {a : Act} (hgd : o.guard = none) (ty : TypeId) (x : Operand) (ho : o.op = .load ty x)
    (b off : Nat) (hx : a.eval x = .pointer (some ⟨b, off, none⟩)) (cs : List Value) (d : TypeDesc) (hc : ∀ w, C w → w.rangeAt b off cs)
    (hu : P.underlying ty = some d) (hd : d.isRow = true) (hi : (P.info? ty).map (·.size) = some cs.length)
    (h : wpQuiet P ops C Q rest (a.put o.dst (.agg cs.toArray))) : wpQuiet P ops C Q (o :: rest) a :=
  wpQuiet_step fun K hK => by
    have hw : Region.wanted o (yielded ops a.tmps) = true := by simp [Region.wanted, hgd]
    rw [if_pos hw]
    refine ⟨_, fun w hw' => ?_, hK _ h⟩
    unfold Oper.quietAt execOp
    simp only [ho, hx, Instr.loadAt, Instr.sureAddr, Sem.run_bind, Sem.run_pure, Result.andThen_ok, run_loadVar_mid w b off ty cs d (hc w hw') hu hd hi]
    exact ⟨rfl, rfl⟩
theorem range_regrown {w w' : World} {b o : Nat} {cs : List Value} (h : w.rangeAt b o cs) (hw : ∃ p : Regrown, w' = grow (redrawn w p.d) p.os) : w'.rangeAt b o cs := fun j u hu => by
  obtain ⟨p, rfl⟩ := hw
  exact cell_regrown (h j u hu) _ _
attribute [local go_sem] cell?_regrown

theorem underKey : ∃ d, Tryz.prog.underlying 39 = some d ∧ d.isRow = true := isRow_of (by kernel_rfl)
theorem sizeKey : (Tryz.prog.info? 39).map (·.size) = some 5 := by kernel_rfl
theorem mat_kind {k v m lo hi : Int} (h : matB k v m lo hi = true) : k = 0 ∨ k = 1 := by
  unfold matB at h
  simp only [Bool.and_eq_true] at h
  have h2 := h.2.2
  by_cases h0 : k = 0
  · exact .inl h0
  · rw [if_neg h0] at h2
    by_cases h1 : k = 1
    · exact .inr h1
    · rw [if_neg h1] at h2; cases h2
theorem ok_kinds {r : Rl} (h : r.ok = true) : Hid ((r.k0 = 0 ∨ r.k0 = 1) ∧ (r.k1 = 0 ∨ r.k1 = 1) ∧ (r.k2 = 0 ∨ r.k2 = 1) ∧ (r.k3 = 0 ∨ r.k3 = 1) ∧ (r.k4 = 0 ∨ r.k4 = 1)) := by
  unfold Rl.ok ruleB at h
  simp only [Bool.and_eq_true] at h
  exact hide ⟨mat_kind h.2.2.2.1, mat_kind h.2.2.2.2.1, mat_kind h.2.2.2.2.2.1, mat_kind h.2.2.2.2.2.2.1, mat_kind h.2.2.2.2.2.2.2.1⟩
/-- The first rule of a list that matches. -/
def XFirst (rs : List Rl) (x0 x1 x2 x3 x4 : Int) (z : Int) : Prop := (z = -1 ∧ ∀ q ∈ rs, q.hits x0 x1 x2 x3 x4 = false) ∨ ∃ k, ∃ hk : k < rs.length, z = k ∧ rs[k].hits x0 x1 x2 x3 x4 = true ∧ ∀ j (hj : j < k), (rs[j]'(by omega)).hits x0 x1 x2 x3 x4 = false

set_option maxRecDepth 100000 in
set_option maxHeartbeats 2000000 in
theorem xFirst_any (B y o : Nat) (v : Value) (rs : List Rl) (x0 x1 x2 x3 x4 : Int) (w : World) (h : RefAt B w y o v rs) (hok : ∀ r ∈ rs, r.ok = true) :
    Calls Tryz.prog 133 #[.pointer (some ⟨y, o, none⟩), .agg #[.int .i64 x0, .int .i64 x1, .int .i64 x2, .int .i64 x3, .int .i64 x4]] w fun e w' => (∃ z : Int, e = .returned (.int .i64 z) ∧ XFirst rs x0 x1 x2 x3 x4 z) ∧ Below w.heap.size w w' := by
  obtain ⟨dr, hur, hdr⟩ := underRule
  obtain ⟨dk, huk, hdk⟩ := underKey
  obtain ⟨a, cap, g, rfl, hc⟩ := h.slice
  have h0 := h.1
  have hn := h.2.2.2.1
  have hyl := block_lt_of_cell h0
  have HC := hide hc
  have HOK := hide hok
  clear h hc hok
  go_enter Tryz.func133, Tryz.ntmps133
  go_wp2_with fail
  go_loopw [5, 6] (fun i _ wr => ∃ k : Nat, k ≤ rs.length ∧ i = .int .i64 k ∧ Hid (∀ j (hj : j < k) (hl : j < rs.length), rs[j].hits x0 x1 x2 x3 x4 = false) ∧ Below w.heap.size w wr ∧ wr.rangeAt w.heap.size 0 [.int .i64 x0, .int .i64 x1, .int .i64 x2, .int .i64 x3, .int .i64 x4]) (fun i _ _ => rs.length - (intOf i).toNat)
  case atStart => exact ⟨0, by omega, rfl, hide fun j hj => absurd hj (by omega), (by repeat (first | exact Below.refl _ _ | assumption | refine Below.drewN ?_ | refine Below.drew ?_ | refine Below.setCell ?_ (by first | exact Nat.le_refl _ | omega | (simp; done) | (simp; omega)) _ | refine Below.alloc ?_ (by first | exact Nat.le_refl _ | omega | (simp; done) | (simp; omega)) _)), range_new _ _ _⟩
  case round =>
    obtain ⟨k, hk, rfl, HNE, hb, hkr⟩ := hrel
    have y0 := (hb.cell (p := ⟨y, o, none⟩) hyl).trans h0
    have hyw := block_lt_of_cell y0
    by_cases hlt : k < rs.length
    · obtain ⟨r, hr⟩ : ∃ r, r = rs[k] := ⟨_, rfl⟩
      obtain ⟨rfl, hrk⟩ := HC.out k hlt
      rw [← hr] at hrk
      have hrw : wr.rangeAt g (k * 19) [.int .i64 r.id, .int .i64 r.pr, .int .i64 r.k0, .int .i64 r.v0, .int .i64 r.m0, .int .i64 r.k1, .int .i64 r.v1, .int .i64 r.m1, .int .i64 r.k2, .int .i64 r.v2, .int .i64 r.m2, .int .i64 r.k3, .int .i64 r.v3, .int .i64 r.m3, .int .i64 r.k4, .int .i64 r.v4, .int .i64 r.m4, .int .i64 r.ac, .int .i64 r.po] := fun j u hu => (hb.cell (p := ⟨g, k * 19 + j, none⟩) (block_lt_of_cell (hrk j u hu))).trans (hrk j u hu)
      have hrok : r.ok = true := HOK.out r (by rw [hr]; exact List.getElem_mem hlt)
      have CS := hide fun d os => xmatches_any r x0 x1 x2 x3 x4 (grow (redrawn wr d) os) (ok_kinds hrok)
      have hki : (k : Int) < rs.length := by omega
      have HR := hide hr
      have HB := hide hb
      have hkl : w.heap.size < wr.heap.size := block_lt_of_cell (hkr 0 _ rfl)
      clear hr hb hrk hrok
      go_wp2_with fail
      refine wp_region_quiet_below (by kernel_rfl) (by kernel_rfl) ?_
      repeat (first | (refine wpQuiet_load_mid rfl 37 _ rfl g (k * 19) rfl [.int .i64 r.id, .int .i64 r.pr, .int .i64 r.k0, .int .i64 r.v0, .int .i64 r.m0, .int .i64 r.k1, .int .i64 r.v1, .int .i64 r.m1, .int .i64 r.k2, .int .i64 r.v2, .int .i64 r.m2, .int .i64 r.k3, .int .i64 r.v3, .int .i64 r.m3, .int .i64 r.k4, .int .i64 r.v4, .int .i64 r.m4, .int .i64 r.ac, .int .i64 r.po] dr (fun w' h => range_regrown hrw h) hur hdr sizeRule ?_) | (refine wpQuiet_load_mid rfl 39 _ rfl w.heap.size 0 rfl [.int .i64 x0, .int .i64 x1, .int .i64 x2, .int .i64 x3, .int .i64 x4] dk (fun w' h => range_regrown hkr h) huk hdk sizeKey ?_) | quiet_step (exact Calls.regrown_of (CS.out _ _)))
      refine wpQuiet_nil ?_; intro wq hwq; replace hwq := below_of_regrown hwq; obtain ⟨hcq, hfq⟩ := bcell hwq; have hzq := hwq.size
      have HKQ := hide (range_blw hkr hwq)
      have B2 := hide (HB.out.trans (hwq.mono HB.out.size))
      clear hrw hkr hcq hfq hwq CS HB
      cases hh : r.hits x0 x1 x2 x3 x4 with
      | true =>
        have HH := hide hh
        clear hh
        go_wp2
        go_ret
        exact ⟨⟨k, rfl, .inr ⟨k, hlt, rfl, HR.out ▸ HH.out, fun j hj => HNE.out j hj (by omega)⟩⟩, B2.out⟩
      | false =>
        have HH := hide hh
        clear hh
        go_wp2
        go_roundw
        case rel =>
          refine ⟨k + 1, by omega, by go_num, hide fun j hj hl => ?_, B2.out, HKQ.out⟩
          rcases Nat.lt_or_eq_of_le (show j ≤ k by omega) with h' | h'
          · exact HNE.out j h' hl
          · subst h'
            rw [← HR.out]
            exact HH.out
        case measure => simp [intOf]; omega
    · have hki : ¬ (k : Int) < rs.length := by omega
      have HB := hide hb
      have HK := hide hk
      clear hb hkr
      go_wp2
      go_ret
      refine ⟨⟨-1, rfl, .inl ⟨rfl, fun q hq => ?_⟩⟩, HB.out⟩
      obtain ⟨j, hj, rfl⟩ := List.getElem_of_mem hq
      exact HNE.out j (by omega) hj
end Go.Proofs.YtnjalelblbjfiaaGreatDoor

namespace Go.Proofs.YtnjalelblbjfiaaGreatDoor
open Go.RowKit

theorem ownsRow_there {w : World} {B : Nat} {t : TypeId} {s n g cap : Nat} {xs : List Value} (h : w.ownsRow B t s (.slice (some ⟨g, 0, none⟩) n cap) n xs) {o m : Nat} (hm : o + m ≤ n * s) : w.there g o m := fun j hj => by
  rcases h.2 with ⟨e, _⟩ | ⟨g', cap', cur, e, hb, hg, hc, hm', hs, ht⟩
  · cases e
  · cases e
    have hle : n * s ≤ cap * s := Nat.mul_le_mul_right _ hc
    refine ⟨?_, ?_⟩
    · simp [World.cell?, hg]
      omega
    · simp [World.frozen?, hg]
theorem setCells_drew (g : Nat) : ∀ (vs : List Value) (o : Nat) (w : World), w.drew.setCells g o vs = (w.setCells g o vs).drew
  | [], _, _ => rfl
  | v :: t, o, w => by
    rw [World.setCells, World.setCells, ← setCells_drew g t (o + 1)]
    rfl
theorem cell?_setCells_ne {g : Nat} : ∀ (vs : List Value) (o : Nat) (W : World) (p : Addr), p.block ≠ g → (W.setCells g o vs).cell? p = W.cell? p ∧ (W.setCells g o vs).frozen? p = W.frozen? p
  | [], _, _, _, _ => ⟨rfl, rfl⟩
  | v :: t, o, W, p, hp => by
    rw [World.setCells]
    obtain ⟨e1, e2⟩ := cell?_setCells_ne t (o + 1) (W.setCell ⟨g, o, none⟩ v) p hp
    exact ⟨e1.trans (World.cell?_of_block (Below.heap_setCell _ _ _ _ hp)), e2.trans (World.frozen?_setCell ..)⟩
section
variable {B y o g cap k : Nat} {rs : List Rl} {r : Rl} {w W : World}
end
/-- Where append puts its row: into the block that was there, or into a new one. -/
theorem append_block {P : Program} (w : World) (base : Nat) (t ty e : TypeId) (i : TypeInfo) (z : Value) (size bytes : Nat) (ht : P.underlying t = some (.slice e)) (hi : P.info? e = some i) (hz : i.zero = some z)
    (hsize : i.size = size) (hby : i.bytes = bytes)
    (v : Value) (n : Nat) (xs : List Value) (hown : w.ownsRow base e size v n xs)
    (a : Addr) (m c : Nat) (news : List Value) (hl : news.length = m * size) (hnews : ∀ j u, news[j]? = some u → w.cell? (a.add j) = some u) (h1 : ∀ u ∈ news, u.oneCell' = true)
    (h63 : n + m ≤ maxLen) (hbytes : (n + m) * bytes ≤ 140737488355328) {v' : Value} {w' : World} (hr' : (Builtin.append_ #[t, t] ty #[v, .slice (some a) m c]).run P w = .ok v' w') : ∀ b, v'.ownBlock = some b → v.ownBlock = some b ∨ b = w.heap.size := by
  subst hsize
  subst hby
  have hsmall : n + m ≤ 9223372036854775807 := by simp only [maxLen] at h63; omega
  rcases hown.2 with ⟨rfl, rfl⟩ | ⟨g, cap, cur, rfl, hbg, hg, hnc, hcm, hcs, htake⟩
  · by_cases hm : m = 0
    · subst hm
      have hn : news = [] := List.eq_nil_of_length_eq_zero (by simpa using hl)
      subst hn
      simp [Builtin.append_, run_underlying ht, sizeOf, typeInfo, hi, Builtin.lenOf, Builtin.firstCells, loadCells, loadCellsFrom] at hr'
      rw [← hr'.1]
      intro b hb
      cases hb
    · have hr := run_append_nil (P := P) w t ty e i z ht hi hz a m c news hl hnews (by omega) (by omega) (by have hb := hbytes; simp only [Nat.zero_add] at hb; omega)
      rw [hr] at hr'
      cases hr'
      intro b hb
      cases hb
      exact .inr rfl
  · by_cases hroom : n + m ≤ cap
    · have hfit : n * i.size + news.length ≤ cur.size := by rw [hl, hcs, ← Nat.add_mul]; exact Nat.mul_le_mul_right _ hroom
      have hr := run_append_room (P := P) w t ty e i ht hi g n cap cur hg a m c news hl hnews h1 hroom hfit
      rw [hr] at hr'
      cases hr'
      intro b hb
      exact .inl hb
    · have holds : ∀ j u, xs[j]? = some u → w.cell? ((⟨g, 0, none⟩ : Addr).add j) = some u := hown.cells (g := g) rfl
      have hr := run_append_grow (P := P) w t ty e i z ht hi hz ⟨g, 0, none⟩ n cap xs hown.1 holds a m c news hl hnews (by omega) (by omega) (growslice_fits (by omega) hbytes)
      rw [hr] at hr'
      cases hr'
      intro b hb
      cases hb
      exact .inr rfl
end Go.Proofs.YtnjalelblbjfiaaGreatDoor

namespace Go.Proofs.YtnjalelblbjfiaaGreatDoor
open Go.RowKit
open Go.Sort (grow)

/-- Loads and stores of a rule, and append, not laid open by the walk. -/
def xLoad (v : Value) : Sem Value := Instr.loadAt 37 v
theorem xLoad_fold (v : Value) : Instr.loadAt 37 v = xLoad v := rfl
def xStore (p v : Value) : Sem Unit := Instr.storeAt 37 p v
theorem xStore_fold (p v : Value) : Instr.storeAt 37 p v = xStore p v := rfl
def xApp (ats : Array TypeId) (ty : TypeId) (args : Array Value) : Sem Next := do pure (.value (← Builtin.append_ ats ty args))
theorem xApp_fold (ats : Array TypeId) (ty : TypeId) (cs : Array Bool) (args : Array Value) : builtin .append ats ty cs args = xApp ats ty args := rfl
theorem xApp_run {P : Program} {ats : Array TypeId} {ty : TypeId} {args : Array Value} {w w' : World} {v : Value} (h : (Builtin.append_ ats ty args).run P w = .ok v w') : (xApp ats ty args).run P w = .ok (.value v) w' := by
  simp [xApp, h, Result.andThen]
attribute [local go_sem] Oper.semAt_some cell?_regrown
attribute [local go_sem high] buildRules
attribute [local go_sem ↓ high] xLoad_fold xStore_fold xApp_fold

end Go.Proofs.YtnjalelblbjfiaaGreatDoor

namespace Go.Proofs.YtnjalelblbjfiaaGreatDoor
open Go.RowKit
open Go.Sort (grow)

/-- The rules of a table's entries. -/
abbrev rls (L : List Ent) : List Rl := L.map (·.2)
end Go.Proofs.YtnjalelblbjfiaaGreatDoor
