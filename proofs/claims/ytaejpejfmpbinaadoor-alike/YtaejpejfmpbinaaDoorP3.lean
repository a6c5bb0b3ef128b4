import Derived.Test.YtaejpejfmpbinaaDoorP2
import Derived.Laws.BitsAllLaws
import Derived.Deep.AppendLies
namespace Go.Proofs.YtaejpejfmpbinaaDoor
open Go.RowKit

theorem wrap_i64_small (n : Nat) (h : n < 9223372036854775808) : IntKind.i64.wrap (n : Int) = n := by
  rw [IntKind.wrap_i64]
  omega

theorem i64_and_nat (a b : Nat) (ha : a < 9223372036854775808) (hb : b < 9223372036854775808) : bits .and .i64 (a : Int) (b : Int) = ((a &&& b : Nat) : Int) := by
  have hx : a &&& b < 2 ^ 63 := Nat.and_lt_two_pow _ (by omega)
  show IntKind.i64.wrap ((BitVec.ofInt 64 (a : Int) &&& BitVec.ofInt 64 (b : Int)).toNat : Int) = _
  rw [BitVec.toNat_and, ofInt_u64 a (by omega), ofInt_u64 b (by omega), wrap_i64_small _ (by omega)]
theorem i64_or_nat (a b : Nat) (ha : a < 9223372036854775808) (hb : b < 9223372036854775808) : bits .or .i64 (a : Int) (b : Int) = ((a ||| b : Nat) : Int) := by
  have hx : a ||| b < 2 ^ 63 := Nat.or_lt_two_pow (by omega) (by omega)
  show IntKind.i64.wrap ((BitVec.ofInt 64 (a : Int) ||| BitVec.ofInt 64 (b : Int)).toNat : Int) = _
  rw [BitVec.toNat_or, ofInt_u64 a (by omega), ofInt_u64 b (by omega), wrap_i64_small _ (by omega)]
theorem i64_andNot_nat (a b : Nat) (ha : a < 9223372036854775808) (hb : b < 9223372036854775808) : bits .andNot .i64 (a : Int) (b : Int) = ((a &&& (18446744073709551615 - b) : Nat) : Int) := by
  have hx : a &&& (18446744073709551615 - b) < 2 ^ 63 := Nat.lt_of_le_of_lt Nat.and_le_left (by omega)
  show IntKind.i64.wrap ((BitVec.ofInt 64 (a : Int) &&& ~~~BitVec.ofInt 64 (b : Int)).toNat : Int) = _
  rw [BitVec.toNat_and, BitVec.toNat_not, ofInt_u64 a (by omega), ofInt_u64 b (by omega)]
  have e : 2 ^ 64 - 1 - b = 18446744073709551615 - b := by omega
  rw [e, wrap_i64_small _ (by omega)]

theorem nat_hull (n a m : Nat) (hn : n ≤ 32) (ha : a < 2 ^ n) (hm : m < 2 ^ n) : a ≤ (a &&& m) ||| ((2 ^ n - 1) &&& (18446744073709551615 - m)) := by
  have hlt : m < 2 ^ 64 := Nat.lt_of_lt_of_le hm (Nat.pow_le_pow_right (by omega) (by omega))
  have e : 18446744073709551615 - m = 2 ^ 64 - (m + 1) := by omega
  have h : a &&& ((a &&& m) ||| ((2 ^ n - 1) &&& (18446744073709551615 - m))) = a := by
    apply Nat.eq_of_testBit_eq
    intro i
    rw [e]
    simp only [Nat.testBit_and, Nat.testBit_or, Nat.testBit_two_pow_sub_one, Nat.testBit_two_pow_sub_succ hlt]
    cases hai : a.testBit i
    · simp
    · have hin : i < n := by
        apply Classical.byContradiction
        intro hge
        have := Nat.testBit_lt_two_pow (x := a) (i := i) (Nat.lt_of_lt_of_le ha (Nat.pow_le_pow_right (by omega) (by omega)))
        rw [this] at hai
        cases hai
      have h64 : i < 64 := by omega
      cases m.testBit i <;> simp [hin, h64]
  have hr := Nat.and_le_right (n := a) (m := (a &&& m) ||| ((2 ^ n - 1) &&& (18446744073709551615 - m)))
  rw [h] at hr
  exact hr

theorem hit_hull_nat (n : Nat) (hn : n ≤ 32) (k v m x : Int) (mx : Nat) (hmx : mx = 2 ^ n - 1) (hx : hasB 0 mx x = true) (hok : matB k v m 0 mx = true) (hh : hitB k v m mx x = true) : v ≤ x ∧ x ≤ topB k v m mx := by
  rw [hasB_iff] at hx
  simp only [matB, Bool.and_eq_true] at hok
  obtain ⟨h1, h2, h3⟩ := hok
  rw [hasB_iff] at h1 h2
  have hp : (2 : Nat) ^ n ≤ 4294967296 := Nat.le_trans (Nat.pow_le_pow_right (by omega) hn) (by decide)
  have hp0 : 0 < (2 : Nat) ^ n := Nat.pow_pos (by omega)
  by_cases hk : k = 0
  · simp only [hitB, hk, if_true, beq_iff_eq] at hh
    simp only [topB, hk, hullB]
    rw [if_neg (by omega)]
    obtain ⟨X, rfl⟩ := Int.eq_ofNat_of_zero_le hx.1
    obtain ⟨M, rfl⟩ := Int.eq_ofNat_of_zero_le h2.1
    rw [i64_and_nat X M (by omega) (by omega)] at hh
    rw [← hh, i64_andNot_nat mx M (by omega) (by omega)]
    have hl1 : X &&& M ≤ X := Nat.and_le_left
    have hl2 : mx &&& (18446744073709551615 - M) ≤ mx := Nat.and_le_left
    rw [i64_or_nat _ _ (by omega) (by omega), hmx]
    have := nat_hull n X M hn (by omega) (by omega)
    omega
  · by_cases hk1 : k = 1
    · subst hk1
      simp [hitB, topB] at hh ⊢
      exact hasB_iff.1 hh
    · simp [hk, hk1] at h3

theorem hit_hull {k v m mx x : Int} (h : mx = 4294967295 ∨ mx = 255 ∨ mx = 65535) (hx : hasB 0 mx x = true) (hok : matB k v m 0 mx = true) (hh : hitB k v m mx x = true) : v ≤ x ∧ x ≤ topB k v m mx := by
  rcases h with rfl | rfl | rfl
  · exact hit_hull_nat 32 (by omega) k v m x 4294967295 (by decide) hx hok hh
  · exact hit_hull_nat 8 (by omega) k v m x 255 (by decide) hx hok hh
  · exact hit_hull_nat 16 (by omega) k v m x 65535 (by decide) hx hok hh

/-- What a rule matches lies in its hull. -/
theorem Rl.hits_inHull {r : Rl} {x0 x1 x2 x3 x4 : Int} (hk : keyB x0 x1 x2 x3 x4 = true) (hok : r.ok = true) (hh : r.hits x0 x1 x2 x3 x4 = true) : r.inHull (fld x0 x1 x2 x3 x4) := by
  simp only [keyB, Bool.and_eq_true] at hk
  simp only [Rl.ok, ruleB, Bool.and_eq_true] at hok
  simp only [Rl.hits, Bool.and_eq_true] at hh
  obtain ⟨a0, a1, a2, a3, a4⟩ := hk
  obtain ⟨_, _, _, b0, b1, b2, b3, b4, _⟩ := hok
  obtain ⟨c0, c1, c2, c3, c4⟩ := hh
  intro f hf
  match f, hf with
  | 0, _ => exact hit_hull (by simp) a0 b0 c0
  | 1, _ => exact hit_hull (by simp) a1 b1 c1
  | 2, _ => exact hit_hull (by simp) a2 b2 c2
  | 3, _ => exact hit_hull (by simp) a3 b3 c3
  | 4, _ => exact hit_hull (by simp) a4 b4 c4

end Go.Proofs.YtaejpejfmpbinaaDoor

namespace Go.Proofs.YtaejpejfmpbinaaDoor
open Go.RowKit

theorem Rl.before_iff {a b : Rl} : a.before b = true ↔ b.pr < a.pr ∨ (a.pr = b.pr ∧ a.id < b.id) := by
  unfold Rl.before cmpR cmpI
  rw [decide_eq_true_eq]
  by_cases h1 : a.pr = b.pr
  · rw [if_pos h1]
    by_cases h2 : a.id < b.id
    · rw [if_pos h2]; exact ⟨fun _ => .inr ⟨h1, h2⟩, fun _ => by omega⟩
    · rw [if_neg h2]
      refine ⟨fun h => ?_, fun h => by omega⟩
      split at h <;> omega
  · rw [if_neg h1]
    by_cases h2 : b.pr < a.pr
    · rw [if_pos h2]; exact ⟨fun _ => .inl h2, fun _ => by omega⟩
    · rw [if_neg h2]
      refine ⟨fun h => ?_, fun h => by omega⟩
      split at h <;> omega
theorem Rl.before_irrefl (a : Rl) : a.before a = false := by
  rw [← Bool.not_eq_true, Rl.before_iff]; omega
theorem Rl.before_asymm {a b : Rl} (h : a.before b = true) : b.before a = false := by
  rw [← Bool.not_eq_true, Rl.before_iff]; rw [Rl.before_iff] at h; omega
theorem Rl.before_trans {a b c : Rl} (h : a.before b = true) (k : b.before c = true) : a.before c = true := by
  rw [Rl.before_iff] at *; omega
theorem Rl.before_neg {a b c : Rl} (h : a.before b = false) (k : b.before c = false) : a.before c = false := by
  rw [← Bool.not_eq_true, Rl.before_iff] at *; omega

/-- Of the entries of S this one matches and none that matches stands ahead of it; or none matches. -/
def Foremost (S : Ent → Prop) (x0 x1 x2 x3 x4 : Int) : Option Ent → Prop
  | none => ∀ e, S e → e.2.hits x0 x1 x2 x3 x4 = false
  | some r => S r ∧ r.2.hits x0 x1 x2 x3 x4 = true ∧ ∀ e, S e → e.2.hits x0 x1 x2 x3 x4 = true → e.2.before r.2 = false

abbrev Sorted (l : List Ent) : Prop := l.Pairwise fun a b => a.2.before b.2 = true

theorem Foremost.list {S : Ent → Prop} {x0 x1 x2 x3 x4 : Int} {best : Option Ent} (h : Foremost S x0 x1 x2 x3 x4 best) : ∀ {bs : List Ent}, Sorted bs → Foremost (fun e => S e ∨ e ∈ bs) x0 x1 x2 x3 x4 (firstE x0 x1 x2 x3 x4 best bs)
  | [], _ => by
    have e : (fun e => S e ∨ e ∈ ([] : List Ent)) = S := by funext e; simp
    rw [e]
    exact h
  | e :: t, hs => by
    have hse : ∀ {e' : Ent}, e' ∈ t → e.2.before e'.2 = true := fun {e'} h => (List.pairwise_cons.1 hs).1 e' h
    have ht := (List.pairwise_cons.1 hs).2
    unfold firstE
    by_cases hb : (best.any fun b => b.2.before e.2) = true
    · rw [if_pos hb]
      cases best with
      | none => simp at hb
      | some b =>
        simp only [Option.any_some] at hb
        refine ⟨.inl h.1, h.2.1, fun e' he' hh => ?_⟩
        rcases he' with he' | he'
        · exact h.2.2 e' he' hh
        · rcases List.mem_cons.1 he' with rfl | he'
          · exact Rl.before_asymm hb
          · exact Rl.before_asymm (Rl.before_trans hb (hse he'))
    · rw [if_neg hb]
      by_cases hh : e.2.hits x0 x1 x2 x3 x4 = true
      · rw [if_pos hh]
        refine ⟨.inr (by simp), hh, fun e' he' hh' => ?_⟩
        rcases he' with he' | he'
        · cases best with
          | none => have := h e' he'; rw [this] at hh'; cases hh'
          | some b =>
            simp only [Option.any_some, Bool.not_eq_true] at hb
            exact Rl.before_neg (h.2.2 e' he' hh') hb
        · rcases List.mem_cons.1 he' with rfl | he'
          · exact Rl.before_irrefl _
          · exact Rl.before_asymm (hse he')
      · rw [if_neg hh]
        have ih := Foremost.list h ht
        generalize firstE x0 x1 x2 x3 x4 best t = res at ih
        have hh0 : e.2.hits x0 x1 x2 x3 x4 = false := by simpa using hh
        cases res with
        | none =>
          intro e' he'
          rcases he' with he' | he'
          · exact ih e' (.inl he')
          · rcases List.mem_cons.1 he' with rfl | he'
            · exact hh0
            · exact ih e' (.inr he')
        | some r =>
          refine ⟨ih.1.imp id (fun h => List.mem_cons_of_mem _ h), ih.2.1, fun e' he' hh' => ?_⟩
          rcases he' with he' | he'
          · exact ih.2.2 e' (.inl he') hh'
          · rcases List.mem_cons.1 he' with rfl | he'
            · rw [hh0] at hh'; cases hh'
            · exact ih.2.2 e' (.inr he') hh'

theorem Foremost.step {S : Ent → Prop} {x0 x1 x2 x3 x4 : Int} {best : Option Ent} (h : Foremost S x0 x1 x2 x3 x4 best) {es bs : List Ent} (hs : Sorted es) (hsub : bs.Sublist es) (hin : ∀ e ∈ es, e.2.hits x0 x1 x2 x3 x4 = true → e ∈ bs) :
    Foremost (fun e => S e ∨ e ∈ es) x0 x1 x2 x3 x4 (firstE x0 x1 x2 x3 x4 best bs) := by
  have hl := h.list (bs := bs) (hs.sublist hsub)
  generalize firstE x0 x1 x2 x3 x4 best bs = res at hl
  cases res with
  | none =>
    intro e he
    rcases he with he | he
    · exact hl e (.inl he)
    · cases hh : e.2.hits x0 x1 x2 x3 x4
      · rfl
      · have := hl e (.inr (hin e he hh)); rw [this] at hh; cases hh
  | some r =>
    refine ⟨hl.1.imp id (fun h => hsub.subset h), hl.2.1, fun e he hh => ?_⟩
    rcases he with he | he
    · exact hl.2.2 e (.inl he) hh
    · exact hl.2.2 e (.inr (hin e he hh)) hh

end Go.Proofs.YtaejpejfmpbinaaDoor

namespace Go.Proofs.YtaejpejfmpbinaaDoor
open Go.RowKit
open Go.Sort (grow)

theorem ixT0 (p0 p1 p2 p3 p4 p5 : Option Addr) (w : World) : (Instr.index 55 (.agg #[.pointer p0, .pointer p1, .pointer p2, .pointer p3, .pointer p4, .pointer p5]) (.int .i64 0)).run Tryd.prog w = .ok (.pointer p0) w := by kernel_rfl
theorem ixT1 (p0 p1 p2 p3 p4 p5 : Option Addr) (w : World) : (Instr.index 55 (.agg #[.pointer p0, .pointer p1, .pointer p2, .pointer p3, .pointer p4, .pointer p5]) (.int .i64 1)).run Tryd.prog w = .ok (.pointer p1) w := by kernel_rfl
theorem ixT2 (p0 p1 p2 p3 p4 p5 : Option Addr) (w : World) : (Instr.index 55 (.agg #[.pointer p0, .pointer p1, .pointer p2, .pointer p3, .pointer p4, .pointer p5]) (.int .i64 2)).run Tryd.prog w = .ok (.pointer p2) w := by kernel_rfl
theorem ixT3 (p0 p1 p2 p3 p4 p5 : Option Addr) (w : World) : (Instr.index 55 (.agg #[.pointer p0, .pointer p1, .pointer p2, .pointer p3, .pointer p4, .pointer p5]) (.int .i64 3)).run Tryd.prog w = .ok (.pointer p3) w := by kernel_rfl
theorem ixT4 (p0 p1 p2 p3 p4 p5 : Option Addr) (w : World) : (Instr.index 55 (.agg #[.pointer p0, .pointer p1, .pointer p2, .pointer p3, .pointer p4, .pointer p5]) (.int .i64 4)).run Tryd.prog w = .ok (.pointer p4) w := by kernel_rfl
theorem ixT5 (p0 p1 p2 p3 p4 p5 : Option Addr) (w : World) : (Instr.index 55 (.agg #[.pointer p0, .pointer p1, .pointer p2, .pointer p3, .pointer p4, .pointer p5]) (.int .i64 5)).run Tryd.prog w = .ok (.pointer p5) w := by kernel_rfl

/-- The key's box: block b holds the five numbers. -/
def KeyAt (w : World) (b : Nat) (x : Nat → Int) : Prop := ∀ f, f < 5 → w.cell? ⟨b, f, none⟩ = some (.int .i64 (x f))
theorem KeyAt.below {B : Nat} {w w' : World} {b : Nat} {x : Nat → Int} (h : KeyAt w b x) (hb : Below B w w') (hB : b < B) : KeyAt w' b x := fun f hf => (hb.cell (p := ⟨b, f, none⟩) hB).trans (h f hf)
theorem KeyAt.lt {w : World} {b : Nat} {x : Nat → Int} (h : KeyAt w b x) : b < w.heap.size := block_lt_of_cell (h 0 (by omega))
theorem KeyAt.regrown {w : World} {b : Nat} {x : Nat → Int} (h : KeyAt w b x) (d : Nat) (os : Array Obj) : KeyAt (grow (redrawn w d) os) b x := h.below (below_regrown w d os) h.lt
theorem KeyAt.facts {w : World} {b : Nat} {x0 x1 x2 x3 x4 : Int} (h : KeyAt w b (fld x0 x1 x2 x3 x4)) : w.cell? ⟨b, 0, none⟩ = some (.int .i64 x0) ∧ w.cell? ⟨b, 1, none⟩ = some (.int .i64 x1) ∧ w.cell? ⟨b, 2, none⟩ = some (.int .i64 x2) ∧ w.cell? ⟨b, 3, none⟩ = some (.int .i64 x3) ∧ w.cell? ⟨b, 4, none⟩ = some (.int .i64 x4) :=
  ⟨h 0 (by omega), h 1 (by omega), h 2 (by omega), h 3 (by omega), h 4 (by omega)⟩

theorem ptrO_pointer (o : Option Ent) : ∃ a, ptrO o = .pointer a := ⟨_, rfl⟩
theorem Foremost.congr {S S' : Ent → Prop} {x0 x1 x2 x3 x4 : Int} {res : Option Ent} (hs : ∀ e, S e ↔ S' e) (h : Foremost S x0 x1 x2 x3 x4 res) : Foremost S' x0 x1 x2 x3 x4 res := by
  have e : S = S' := funext fun e => propext (hs e)
  rw [← e]
  exact h
theorem firstE_mem (x0 x1 x2 x3 x4 : Int) {best : Option Ent} {e : Ent} : ∀ {bs : List Ent}, e ∈ firstE x0 x1 x2 x3 x4 best bs → e ∈ best ∨ e ∈ bs
  | [], h => .inl h
  | d :: t, h => by
    unfold firstE at h
    split at h
    · exact .inl h
    · split at h
      · cases h; exact .inr (by simp)
      · exact (firstE_mem x0 x1 x2 x3 x4 h).imp id (List.mem_cons_of_mem _)

attribute [local go_sem] ixT0 ixT1 ixT2 ixT3 ixT4 ixT5 cell?_regrown

set_option maxRecDepth 100000 in
set_option maxHeartbeats 1000000 in
theorem find_key (t : Nat) (x0 x1 x2 x3 x4 : Int) (w : World) (hl : Laid w) (hk : keyB x0 x1 x2 x3 x4 = true) (tb : Nat → Nat) (E : Nat → List Ent)
    (hc : ∀ h, h < 6 → w.cell? ⟨t, 2 + h, none⟩ = some (.pointer (some ⟨tb h, 0, none⟩)))
    (hT : ∀ h, h < 6 → TreeAt w 12 (tb h) (E h) ∧ Sorted (E h) ∧ (E h).length ≤ 200 ∧ ∀ e ∈ E h, EntAt w e.1 e.2 ∧ e.2.ok = true) :
    Calls Tryd.prog 13 #[.pointer (some ⟨t, 0, none⟩), .agg #[.int .i64 x0, .int .i64 x1, .int .i64 x2, .int .i64 x3, .int .i64 x4]] w fun e w' => ∃ res, Foremost (fun e => ∃ h, h < 6 ∧ e ∈ E h) x0 x1 x2 x3 x4 res ∧
      e = .returned (.tuple #[.int .i64 (match res with | some r => r.2.id | none => 0), .int .i64 (match res with | some _ => 0 | none => 7)]) ∧ Below w.heap.size w w' := by
  have c0 := hc 0 (by omega)
  have c1 := hc 1 (by omega)
  have c2 := hc 2 (by omega)
  have c3 := hc 3 (by omega)
  have c4 := hc 4 (by omega)
  have c5 := hc 5 (by omega)
  have hlt := block_lt_of_cell c0
  simp only [Nat.add_zero, Nat.reduceAdd] at c0 c1 c2 c3 c4 c5 hlt
  clear hc
  go_enter Tryd.func13, Tryd.ntmps13
  go_wp2_with fail
  refine (isKey_any _ _ _ _ _ _ (hl.below ((Below.refl _ _).alloc (Nat.le_refl _) _) hl.pos)).mono ?_
  rintro e w1 ⟨rfl, hb1⟩
  rw [hk]
  have hkey0 : KeyAt w1 w.heap.size (fld x0 x1 x2 x3 x4) := KeyAt.below (fun f hf => by match f, hf with | 0, _ => simp [fld] | 1, _ => simp [fld] | 2, _ => simp [fld] | 3, _ => simp [fld] | 4, _ => simp [fld]) hb1 (by simp)
  obtain ⟨hc1, hf1⟩ := bcell hb1
  have hz1 := hb1.size
  go_wp2_with fail
  go_loopw [6, 16] (fun p i wr => ∃ (k : Nat) (best : Option Ent), k ≤ 6 ∧ i = .int .i64 k ∧ p = ptrO best ∧ Below w.heap.size w wr ∧ KeyAt wr w.heap.size (fld x0 x1 x2 x3 x4) ∧ Foremost (fun e => ∃ h, h < k ∧ e ∈ E h) x0 x1 x2 x3 x4 best ∧ ∀ e ∈ best, EntAt w e.1 e.2) (fun _ i _ => 6 - (intOf i).toNat)
  case atStart => exact ⟨0, none, by omega, rfl, rfl, Below.trans (by repeat (first | exact Below.refl _ _ | assumption | refine Below.drewN ?_ | refine Below.drew ?_ | refine Below.setCell ?_ (by first | exact Nat.le_refl _ | omega | (simp; done) | (simp; omega)) _ | refine Below.alloc ?_ (by first | exact Nat.le_refl _ | omega | (simp; done) | (simp; omega)) _)) (hb1.mono (by first | exact Nat.le_refl _ | omega | (simp; done) | (simp; omega))), hkey0, fun e h => absurd h.choose_spec.1 (by omega), fun e h => by cases h⟩
  case round =>
    obtain ⟨k, best, hk6, rfl, rfl, hb, hkey, hbest, hbe⟩ := hrel
    clear hl hb1 hc1 hf1 hz1 hkey0
    match k, hk6 with
    | 0, _ =>
      obtain ⟨v, bs, hL, hB, hsub, hin⟩ := (hT 0 (by omega)).1.leaf (fld x0 x1 x2 x3 x4)
      obtain ⟨a, cap, hv, hB1, hB2⟩ := hB
      have hB : BunchAt w (.slice a bs.length cap) bs := ⟨a, cap, rfl, hB1, hB2⟩
      rw [hv] at hL
      have hlen : bs.length ≤ 200 := Nat.le_trans hsub.length_le (hT 0 (by omega)).2.2.1
      have CL := hide (fun d os => leaf_any w.heap.size (fld x0 x1 x2 x3 x4) (grow (redrawn wr d) os) (hkey.regrown d os) 12 (tb 0) a bs.length cap ((hL.below hb (Nat.le_refl _)).below (below_regrown wr d os) (Nat.le_refl _)))
      have CF := hide (fun d os => first_any (.slice a bs.length cap) bs x0 x1 x2 x3 x4 best (grow (redrawn wr d) os) ((hB.below hb (Nat.le_refl _)).below (below_regrown wr d os) (Nat.le_refl _)) hlen (fun e he => ((hbe e he).below hb (hbe e he).lt).below (below_regrown wr d os) (Nat.lt_of_lt_of_le (hbe e he).lt hb.size)))
      have HF := hide (hbest.step (hT 0 (by omega)).2.1 hsub (fun e he hh => hin e he (Rl.hits_inHull hk ((hT 0 (by omega)).2.2.2 e he).2 hh)))
      have HE := hide (fun e (he : e ∈ bs) => ((hT 0 (by omega)).2.2.2 e (hsub.subset he)).1)
      obtain ⟨g0, g1, g2, g3, g4⟩ := hkey.facts
      have hklt := hkey.lt
      have HBE := hide hbe
      clear hL hB hB1 hB2 hv hT hin hsub hbest hbe
      generalize hpb : ptrO best = pb at *
      obtain ⟨pa, hpa⟩ := ptrO_pointer best
      rw [hpa] at hpb
      subst hpb
      go_wp2_with fail
      refine wp_region_quiet_below (by kernel_rfl) (by kernel_rfl) ?_
      repeat (quiet_step (first | exact Calls.regrown_of (CL.out _ _) | exact Calls.regrown_of (CF.out _ _)))
      refine wpQuiet_nil ?_; intro wq hwq; replace hwq := below_of_regrown hwq; obtain ⟨hcq, hfq⟩ := bcell hwq; have hzq := hwq.size
      go_wp2
      go_roundw
      case rel => exact ⟨1, _, by omega, rfl, rfl, hb.trans (hwq.mono hb.size), hkey.below hwq hkey.lt, Foremost.congr (fun e => ⟨fun h => h.elim (fun ⟨j, hj, he⟩ => ⟨j, by omega, he⟩) (fun he => ⟨0, by omega, he⟩), fun ⟨j, hj, he⟩ => if h : j = 0 then .inr (h ▸ he) else .inl ⟨j, by omega, he⟩⟩) HF.out, fun e he => (firstE_mem _ _ _ _ _ he).elim (fun h => HBE.out e h) (fun h => HE.out e h)⟩
      case measure => simp [intOf]
    | 1, _ =>
      obtain ⟨v, bs, hL, hB, hsub, hin⟩ := (hT 1 (by omega)).1.leaf (fld x0 x1 x2 x3 x4)
      obtain ⟨a, cap, hv, hB1, hB2⟩ := hB
      have hB : BunchAt w (.slice a bs.length cap) bs := ⟨a, cap, rfl, hB1, hB2⟩
      rw [hv] at hL
      have hlen : bs.length ≤ 200 := Nat.le_trans hsub.length_le (hT 1 (by omega)).2.2.1
      have CL := hide (fun d os => leaf_any w.heap.size (fld x0 x1 x2 x3 x4) (grow (redrawn wr d) os) (hkey.regrown d os) 12 (tb 1) a bs.length cap ((hL.below hb (Nat.le_refl _)).below (below_regrown wr d os) (Nat.le_refl _)))
      have CF := hide (fun d os => first_any (.slice a bs.length cap) bs x0 x1 x2 x3 x4 best (grow (redrawn wr d) os) ((hB.below hb (Nat.le_refl _)).below (below_regrown wr d os) (Nat.le_refl _)) hlen (fun e he => ((hbe e he).below hb (hbe e he).lt).below (below_regrown wr d os) (Nat.lt_of_lt_of_le (hbe e he).lt hb.size)))
      have HF := hide (hbest.step (hT 1 (by omega)).2.1 hsub (fun e he hh => hin e he (Rl.hits_inHull hk ((hT 1 (by omega)).2.2.2 e he).2 hh)))
      have HE := hide (fun e (he : e ∈ bs) => ((hT 1 (by omega)).2.2.2 e (hsub.subset he)).1)
      obtain ⟨g0, g1, g2, g3, g4⟩ := hkey.facts
      have hklt := hkey.lt
      have HBE := hide hbe
      clear hL hB hB1 hB2 hv hT hin hsub hbest hbe
      generalize hpb : ptrO best = pb at *
      obtain ⟨pa, hpa⟩ := ptrO_pointer best
      rw [hpa] at hpb
      subst hpb
      go_wp2_with fail
      refine wp_region_quiet_below (by kernel_rfl) (by kernel_rfl) ?_
      repeat (quiet_step (first | exact Calls.regrown_of (CL.out _ _) | exact Calls.regrown_of (CF.out _ _)))
      refine wpQuiet_nil ?_; intro wq hwq; replace hwq := below_of_regrown hwq; obtain ⟨hcq, hfq⟩ := bcell hwq; have hzq := hwq.size
      go_wp2
      go_roundw
      case rel => exact ⟨2, _, by omega, rfl, rfl, hb.trans (hwq.mono hb.size), hkey.below hwq hkey.lt, Foremost.congr (fun e => ⟨fun h => h.elim (fun ⟨j, hj, he⟩ => ⟨j, by omega, he⟩) (fun he => ⟨1, by omega, he⟩), fun ⟨j, hj, he⟩ => if h : j = 1 then .inr (h ▸ he) else .inl ⟨j, by omega, he⟩⟩) HF.out, fun e he => (firstE_mem _ _ _ _ _ he).elim (fun h => HBE.out e h) (fun h => HE.out e h)⟩
      case measure => simp [intOf]
    | 2, _ =>
      obtain ⟨v, bs, hL, hB, hsub, hin⟩ := (hT 2 (by omega)).1.leaf (fld x0 x1 x2 x3 x4)
      obtain ⟨a, cap, hv, hB1, hB2⟩ := hB
      have hB : BunchAt w (.slice a bs.length cap) bs := ⟨a, cap, rfl, hB1, hB2⟩
      rw [hv] at hL
      have hlen : bs.length ≤ 200 := Nat.le_trans hsub.length_le (hT 2 (by omega)).2.2.1
      have CL := hide (fun d os => leaf_any w.heap.size (fld x0 x1 x2 x3 x4) (grow (redrawn wr d) os) (hkey.regrown d os) 12 (tb 2) a bs.length cap ((hL.below hb (Nat.le_refl _)).below (below_regrown wr d os) (Nat.le_refl _)))
      have CF := hide (fun d os => first_any (.slice a bs.length cap) bs x0 x1 x2 x3 x4 best (grow (redrawn wr d) os) ((hB.below hb (Nat.le_refl _)).below (below_regrown wr d os) (Nat.le_refl _)) hlen (fun e he => ((hbe e he).below hb (hbe e he).lt).below (below_regrown wr d os) (Nat.lt_of_lt_of_le (hbe e he).lt hb.size)))
      have HF := hide (hbest.step (hT 2 (by omega)).2.1 hsub (fun e he hh => hin e he (Rl.hits_inHull hk ((hT 2 (by omega)).2.2.2 e he).2 hh)))
      have HE := hide (fun e (he : e ∈ bs) => ((hT 2 (by omega)).2.2.2 e (hsub.subset he)).1)
      obtain ⟨g0, g1, g2, g3, g4⟩ := hkey.facts
      have hklt := hkey.lt
      have HBE := hide hbe
      clear hL hB hB1 hB2 hv hT hin hsub hbest hbe
      generalize hpb : ptrO best = pb at *
      obtain ⟨pa, hpa⟩ := ptrO_pointer best
      rw [hpa] at hpb
      subst hpb
      go_wp2_with fail
      refine wp_region_quiet_below (by kernel_rfl) (by kernel_rfl) ?_
      repeat (quiet_step (first | exact Calls.regrown_of (CL.out _ _) | exact Calls.regrown_of (CF.out _ _)))
      refine wpQuiet_nil ?_; intro wq hwq; replace hwq := below_of_regrown hwq; obtain ⟨hcq, hfq⟩ := bcell hwq; have hzq := hwq.size
      go_wp2
      go_roundw
      case rel => exact ⟨3, _, by omega, rfl, rfl, hb.trans (hwq.mono hb.size), hkey.below hwq hkey.lt, Foremost.congr (fun e => ⟨fun h => h.elim (fun ⟨j, hj, he⟩ => ⟨j, by omega, he⟩) (fun he => ⟨2, by omega, he⟩), fun ⟨j, hj, he⟩ => if h : j = 2 then .inr (h ▸ he) else .inl ⟨j, by omega, he⟩⟩) HF.out, fun e he => (firstE_mem _ _ _ _ _ he).elim (fun h => HBE.out e h) (fun h => HE.out e h)⟩
      case measure => simp [intOf]
    | 3, _ =>
      obtain ⟨v, bs, hL, hB, hsub, hin⟩ := (hT 3 (by omega)).1.leaf (fld x0 x1 x2 x3 x4)
      obtain ⟨a, cap, hv, hB1, hB2⟩ := hB
      have hB : BunchAt w (.slice a bs.length cap) bs := ⟨a, cap, rfl, hB1, hB2⟩
      rw [hv] at hL
      have hlen : bs.length ≤ 200 := Nat.le_trans hsub.length_le (hT 3 (by omega)).2.2.1
      have CL := hide (fun d os => leaf_any w.heap.size (fld x0 x1 x2 x3 x4) (grow (redrawn wr d) os) (hkey.regrown d os) 12 (tb 3) a bs.length cap ((hL.below hb (Nat.le_refl _)).below (below_regrown wr d os) (Nat.le_refl _)))
      have CF := hide (fun d os => first_any (.slice a bs.length cap) bs x0 x1 x2 x3 x4 best (grow (redrawn wr d) os) ((hB.below hb (Nat.le_refl _)).below (below_regrown wr d os) (Nat.le_refl _)) hlen (fun e he => ((hbe e he).below hb (hbe e he).lt).below (below_regrown wr d os) (Nat.lt_of_lt_of_le (hbe e he).lt hb.size)))
      have HF := hide (hbest.step (hT 3 (by omega)).2.1 hsub (fun e he hh => hin e he (Rl.hits_inHull hk ((hT 3 (by omega)).2.2.2 e he).2 hh)))
      have HE := hide (fun e (he : e ∈ bs) => ((hT 3 (by omega)).2.2.2 e (hsub.subset he)).1)
      obtain ⟨g0, g1, g2, g3, g4⟩ := hkey.facts
      have hklt := hkey.lt
      have HBE := hide hbe
      clear hL hB hB1 hB2 hv hT hin hsub hbest hbe
      generalize hpb : ptrO best = pb at *
      obtain ⟨pa, hpa⟩ := ptrO_pointer best
      rw [hpa] at hpb
      subst hpb
      go_wp2_with fail
      refine wp_region_quiet_below (by kernel_rfl) (by kernel_rfl) ?_
      repeat (quiet_step (first | exact Calls.regrown_of (CL.out _ _) | exact Calls.regrown_of (CF.out _ _)))
      refine wpQuiet_nil ?_; intro wq hwq; replace hwq := below_of_regrown hwq; obtain ⟨hcq, hfq⟩ := bcell hwq; have hzq := hwq.size
      go_wp2
      go_roundw
      case rel => exact ⟨4, _, by omega, rfl, rfl, hb.trans (hwq.mono hb.size), hkey.below hwq hkey.lt, Foremost.congr (fun e => ⟨fun h => h.elim (fun ⟨j, hj, he⟩ => ⟨j, by omega, he⟩) (fun he => ⟨3, by omega, he⟩), fun ⟨j, hj, he⟩ => if h : j = 3 then .inr (h ▸ he) else .inl ⟨j, by omega, he⟩⟩) HF.out, fun e he => (firstE_mem _ _ _ _ _ he).elim (fun h => HBE.out e h) (fun h => HE.out e h)⟩
      case measure => simp [intOf]
    | 4, _ =>
      obtain ⟨v, bs, hL, hB, hsub, hin⟩ := (hT 4 (by omega)).1.leaf (fld x0 x1 x2 x3 x4)
      obtain ⟨a, cap, hv, hB1, hB2⟩ := hB
      have hB : BunchAt w (.slice a bs.length cap) bs := ⟨a, cap, rfl, hB1, hB2⟩
      rw [hv] at hL
      have hlen : bs.length ≤ 200 := Nat.le_trans hsub.length_le (hT 4 (by omega)).2.2.1
      have CL := hide (fun d os => leaf_any w.heap.size (fld x0 x1 x2 x3 x4) (grow (redrawn wr d) os) (hkey.regrown d os) 12 (tb 4) a bs.length cap ((hL.below hb (Nat.le_refl _)).below (below_regrown wr d os) (Nat.le_refl _)))
      have CF := hide (fun d os => first_any (.slice a bs.length cap) bs x0 x1 x2 x3 x4 best (grow (redrawn wr d) os) ((hB.below hb (Nat.le_refl _)).below (below_regrown wr d os) (Nat.le_refl _)) hlen (fun e he => ((hbe e he).below hb (hbe e he).lt).below (below_regrown wr d os) (Nat.lt_of_lt_of_le (hbe e he).lt hb.size)))
      have HF := hide (hbest.step (hT 4 (by omega)).2.1 hsub (fun e he hh => hin e he (Rl.hits_inHull hk ((hT 4 (by omega)).2.2.2 e he).2 hh)))
      have HE := hide (fun e (he : e ∈ bs) => ((hT 4 (by omega)).2.2.2 e (hsub.subset he)).1)
      obtain ⟨g0, g1, g2, g3, g4⟩ := hkey.facts
      have hklt := hkey.lt
      have HBE := hide hbe
      clear hL hB hB1 hB2 hv hT hin hsub hbest hbe
      generalize hpb : ptrO best = pb at *
      obtain ⟨pa, hpa⟩ := ptrO_pointer best
      rw [hpa] at hpb
      subst hpb
      go_wp2_with fail
      refine wp_region_quiet_below (by kernel_rfl) (by kernel_rfl) ?_
      repeat (quiet_step (first | exact Calls.regrown_of (CL.out _ _) | exact Calls.regrown_of (CF.out _ _)))
      refine wpQuiet_nil ?_; intro wq hwq; replace hwq := below_of_regrown hwq; obtain ⟨hcq, hfq⟩ := bcell hwq; have hzq := hwq.size
      go_wp2
      go_roundw
      case rel => exact ⟨5, _, by omega, rfl, rfl, hb.trans (hwq.mono hb.size), hkey.below hwq hkey.lt, Foremost.congr (fun e => ⟨fun h => h.elim (fun ⟨j, hj, he⟩ => ⟨j, by omega, he⟩) (fun he => ⟨4, by omega, he⟩), fun ⟨j, hj, he⟩ => if h : j = 4 then .inr (h ▸ he) else .inl ⟨j, by omega, he⟩⟩) HF.out, fun e he => (firstE_mem _ _ _ _ _ he).elim (fun h => HBE.out e h) (fun h => HE.out e h)⟩
      case measure => simp [intOf]
    | 5, _ =>
      obtain ⟨v, bs, hL, hB, hsub, hin⟩ := (hT 5 (by omega)).1.leaf (fld x0 x1 x2 x3 x4)
      obtain ⟨a, cap, hv, hB1, hB2⟩ := hB
      have hB : BunchAt w (.slice a bs.length cap) bs := ⟨a, cap, rfl, hB1, hB2⟩
      rw [hv] at hL
      have hlen : bs.length ≤ 200 := Nat.le_trans hsub.length_le (hT 5 (by omega)).2.2.1
      have CL := hide (fun d os => leaf_any w.heap.size (fld x0 x1 x2 x3 x4) (grow (redrawn wr d) os) (hkey.regrown d os) 12 (tb 5) a bs.length cap ((hL.below hb (Nat.le_refl _)).below (below_regrown wr d os) (Nat.le_refl _)))
      have CF := hide (fun d os => first_any (.slice a bs.length cap) bs x0 x1 x2 x3 x4 best (grow (redrawn wr d) os) ((hB.below hb (Nat.le_refl _)).below (below_regrown wr d os) (Nat.le_refl _)) hlen (fun e he => ((hbe e he).below hb (hbe e he).lt).below (below_regrown wr d os) (Nat.lt_of_lt_of_le (hbe e he).lt hb.size)))
      have HF := hide (hbest.step (hT 5 (by omega)).2.1 hsub (fun e he hh => hin e he (Rl.hits_inHull hk ((hT 5 (by omega)).2.2.2 e he).2 hh)))
      have HE := hide (fun e (he : e ∈ bs) => ((hT 5 (by omega)).2.2.2 e (hsub.subset he)).1)
      obtain ⟨g0, g1, g2, g3, g4⟩ := hkey.facts
      have hklt := hkey.lt
      have HBE := hide hbe
      clear hL hB hB1 hB2 hv hT hin hsub hbest hbe
      generalize hpb : ptrO best = pb at *
      obtain ⟨pa, hpa⟩ := ptrO_pointer best
      rw [hpa] at hpb
      subst hpb
      go_wp2_with fail
      refine wp_region_quiet_below (by kernel_rfl) (by kernel_rfl) ?_
      repeat (quiet_step (first | exact Calls.regrown_of (CL.out _ _) | exact Calls.regrown_of (CF.out _ _)))
      refine wpQuiet_nil ?_; intro wq hwq; replace hwq := below_of_regrown hwq; obtain ⟨hcq, hfq⟩ := bcell hwq; have hzq := hwq.size
      go_wp2
      go_roundw
      case rel => exact ⟨6, _, by omega, rfl, rfl, hb.trans (hwq.mono hb.size), hkey.below hwq hkey.lt, Foremost.congr (fun e => ⟨fun h => h.elim (fun ⟨j, hj, he⟩ => ⟨j, by omega, he⟩) (fun he => ⟨5, by omega, he⟩), fun ⟨j, hj, he⟩ => if h : j = 5 then .inr (h ▸ he) else .inl ⟨j, by omega, he⟩⟩) HF.out, fun e he => (firstE_mem _ _ _ _ _ he).elim (fun h => HBE.out e h) (fun h => HE.out e h)⟩
      case measure => simp [intOf]
    | 6, _ =>
      have HF := hide hbest
      have HBE := hide hbe
      clear hT hbest hbe
      cases best with
      | none =>
        rw [ptrO_none]
        go_wp2
        go_ret2
        exact ⟨none, HF.out, rfl, hb⟩
      | some r =>
        have hid := ((HBE.out r rfl).below hb (HBE.out r rfl).lt).c0
        rw [ptrO_some]
        go_wp2
        go_ret2
        exact ⟨some r, HF.out, rfl, hb⟩

end Go.Proofs.YtaejpejfmpbinaaDoor

namespace Go.Proofs.YtaejpejfmpbinaaDoor
open Go.RowKit
open Go.Sort (grow)

theorem infoPE : (Tryd.prog.info? 50).map (fun i => (i.zero, i.size, i.bytes)) = some (some (.pointer none), 1, 8) := by kernel_rfl
theorem underBunch : Tryd.prog.underlying 80 = some (.slice 50) := by kernel_rfl

def ptrE (e : Ent) : Value := .pointer (some ⟨e.1, 0, none⟩)

theorem EntAt.lo {w : World} {b : Nat} {r : Rl} (h : EntAt w b r) {f : Nat} (hf : f < 5) : w.cell? ⟨b, 19 + f * 2, none⟩ = some (.int .i64 (r.lo f)) := by
  match f, hf with
  | 0, _ => exact h.c19
  | 1, _ => exact h.c21
  | 2, _ => exact h.c23
  | 3, _ => exact h.c25
  | 4, _ => exact h.c27
theorem EntAt.hi {w : World} {b : Nat} {r : Rl} (h : EntAt w b r) {f : Nat} (hf : f < 5) : w.cell? ⟨b, 19 + f * 2 + 1, none⟩ = some (.int .i64 (r.hi f)) := by
  match f, hf with
  | 0, _ => exact h.c20
  | 1, _ => exact h.c22
  | 2, _ => exact h.c24
  | 3, _ => exact h.c26
  | 4, _ => exact h.c28

def lows (f : Nat) (last : Int) (es : List Ent) : List Ent := es.filter fun e => decide (e.2.lo f ≤ last)
def highs (f : Nat) (last : Int) (es : List Ent) : List Ent := es.filter fun e => decide (last < e.2.hi f)

theorem ownsRow_below {B : Nat} {w w' : World} {base : Nat} {e : TypeId} {size : Nat} {v : Value} {n : Nat} {xs : List Value} (h : w.ownsRow base e size v n xs) (hb : Below B w w') (hB : w.heap.size ≤ B) : w'.ownsRow base e size v n xs := by
  refine h.kept (row := none) ⟨hb.os, hb.tape, hb.output, hb.size, fun k hk _ => hb.block k (Nat.lt_of_lt_of_le hk hB)⟩ ?_
  cases hv : v.ownBlock with
  | none => exact .inl rfl
  | some g => exact .inr (by simp)

/-- Behind an append to one of two rows of the call's own: the other one is as it was, and lies elsewhere. -/
theorem other_row {wq w1 : World} {B : Nat} {e : TypeId} {size : Nat} {v1 v2 : Value} {n2 : Nat} {xs2 : List Value} {o : Obj} {g : Nat}
    (o2 : wq.ownsRow B e size v2 n2 xs2) (hdis : ∀ g, v1.ownBlock = some g → v2.ownBlock ≠ some g) (hgrow : (wq.alloc o).grownBy w1 v1.ownBlock) (hat : v1.ownBlock = some g ∨ g = wq.heap.size + 1) :
    w1.ownsRow B e size v2 n2 xs2 ∧ v2.ownBlock ≠ some g := by
  refine ⟨(o2.alloc o).kept hgrow ?_, ?_⟩
  · cases h2 : v2.ownBlock with
    | none => exact .inl rfl
    | some g2 =>
      refine .inr fun h => ?_
      exact hdis g2 h.symm h2
  · intro h2
    rcases hat with h1 | h1
    · exact hdis g h1 h2
    · have := (o2.lt g h2).2
      omega

/-- Behind an append to a row of the call's own: below the base all is as it was. -/
theorem below_append {w wq w1 : World} {B b : Nat} {e : TypeId} {size : Nat} {v1 : Value} {n1 : Nat} {xs1 : List Value} {o : Obj} (hb : Below B w wq) (hB : B ≤ wq.heap.size)
    (o1 : wq.ownsRow b e size v1 n1 xs1) (hbB : B ≤ b) (hgrow : (wq.alloc o).grownBy w1 v1.ownBlock) : Below B w w1 :=
  Below.grown (hb.alloc hB o) hgrow (by simp; omega) fun k hk => by have := (o1.lt k hk).1; omega

theorem bunch_of_row {w : World} {B : Nat} {v : Value} {es : List Ent} (h : w.ownsRow B 50 1 v es.length (es.map ptrE)) (he : ∀ e ∈ es, EntAt w e.1 e.2) : BunchAt w v es := by
  rcases h.2 with ⟨hv, h0⟩ | ⟨g, cap, cur, hv, _⟩
  · exact ⟨none, 0, by rw [hv, h0], fun i hi => by omega, he⟩
  · refine ⟨some ⟨g, 0, none⟩, cap, hv, fun i hi => ⟨g, 0, ⟨rfl, rfl⟩, ?_⟩, he⟩
    rw [hv] at h
    rw [Nat.zero_add, h.cellAt i (by omega)]
    simp [hi, ptrE]

theorem lows_snoc (f : Nat) (last : Int) (es : List Ent) (e : Ent) : lows f last (es ++ [e]) = lows f last es ++ (if e.2.lo f ≤ last then [e] else []) := by
  unfold lows
  rw [List.filter_append]
  by_cases h : e.2.lo f ≤ last <;> simp [h]
theorem highs_snoc (f : Nat) (last : Int) (es : List Ent) (e : Ent) : highs f last (es ++ [e]) = highs f last es ++ (if last < e.2.hi f then [e] else []) := by
  unfold highs
  rw [List.filter_append]
  by_cases h : last < e.2.hi f <;> simp [h]
theorem lows_le (f : Nat) (last : Int) (es : List Ent) : (lows f last es).length ≤ es.length := List.length_filter_le _ _
theorem highs_le (f : Nat) (last : Int) (es : List Ent) : (highs f last es).length ≤ es.length := List.length_filter_le _ _

theorem own_eq {u : Value} {g1 g n c : Nat} (h1 : (Value.slice (some ⟨g1, 0, none⟩) n c).ownBlock = some g) (h5 : u.ownBlock = some g) : u.ownBlock = some g1 := by
  have e : g1 = g := by simpa [Value.ownBlock] using h1
  rw [e]
  exact h5

theorem row_snoc {w : World} {B : Nat} {v : Value} {L : List Ent} {e : Ent} (h : w.ownsRow B 50 1 v (L.length + 1) (L.map ptrE ++ [ptrE e])) : w.ownsRow B 50 1 v (L ++ [e]).length ((L ++ [e]).map ptrE) := by
  simpa using h

attribute [local go_sem] cell?_regrown

set_option maxRecDepth 100000 in
set_option maxHeartbeats 400000 in
theorem sides_walk (v : Value) (es : List Ent) (f : Nat) (last : Int) (w : World) (hes : BunchAt w v es) (hn : es.length ≤ 200) (hf : f < 5) :
    Calls Tryd.prog 63 #[v, .agg #[.int .i64 f, .int .i64 last]] w fun e w' => ∃ v1 v2, e = .returned (.tuple #[v1, v2]) ∧ BunchAt w' v1 (lows f last es) ∧ BunchAt w' v2 (highs f last es) ∧ Below w.heap.size w w' := by
  obtain ⟨a, cap, rfl, hc, he⟩ := hes
  obtain ⟨i0, hi, hz0, hz1, hz2⟩ := info_parts infoPE
  go_enter Tryd.func63, Tryd.ntmps63
  go_wp2
  go_loopw [4, 5, 12] (fun v1 v2 i wr => ∃ k : Nat, k ≤ es.length ∧ i = .int .i64 k ∧ wr.ownsRow (w.heap.size + 1) 50 1 v1 (lows f last (es.take k)).length ((lows f last (es.take k)).map ptrE) ∧ wr.ownsRow (w.heap.size + 1) 50 1 v2 (highs f last (es.take k)).length ((highs f last (es.take k)).map ptrE) ∧ (∀ g, v1.ownBlock = some g → v2.ownBlock ≠ some g) ∧ Below (w.heap.size + 1) (w.alloc (.cells #[.int .i64 f, .int .i64 last] 116)) wr) (fun _ _ i _ => es.length - (intOf i).toNat)
  case atStart => exact ⟨0, by omega, rfl, World.ownsRow_nil _ _ _ _, World.ownsRow_nil _ _ _ _, (fun g h => by cases h), Below.refl _ _⟩
  case round =>
    obtain ⟨k, hk, rfl, ho1, ho2, hdis, hb⟩ := hrel
    have hbw : Below w.heap.size w wr := Below.trans (by repeat (first | exact Below.refl _ _ | assumption | refine Below.drewN ?_ | refine Below.drew ?_ | refine Below.setCell ?_ (by first | exact Nat.le_refl _ | omega | (simp; done) | (simp; omega)) _ | refine Below.alloc ?_ (by first | exact Nat.le_refl _ | omega | (simp; done) | (simp; omega)) _)) (hb.mono (by omega))
    have hlt : w.heap.size < wr.heap.size := by have := hb.size; simp at this; omega
    have c0 : wr.cell? ⟨w.heap.size, 0, none⟩ = some (.int .i64 f) := (hb.cell (p := ⟨w.heap.size, 0, none⟩) (by exact Nat.lt_succ_self _)).trans (by simp)
    have c1 : wr.cell? ⟨w.heap.size, 1, none⟩ = some (.int .i64 last) := (hb.cell (p := ⟨w.heap.size, 1, none⟩) (by exact Nat.lt_succ_self _)).trans (by simp)
    have O1 := hide ho1
    have O2 := hide ho2
    have HD := hide hdis
    clear ho1 ho2 hdis
    by_cases hkl : k < es.length
    · obtain ⟨ab, off, ⟨rfl, hz00⟩, hcell⟩ := hc k hkl
      clear hz00
      have hcell' : wr.cell? ⟨ab, off + k, none⟩ = some (.pointer (some ⟨es[k].1, 0, none⟩)) := (hbw.cell (p := ⟨ab, off + k, none⟩) (block_lt_of_cell hcell)).trans hcell
      have hek := (he es[k] (List.getElem_mem hkl)).below hbw (he es[k] (List.getElem_mem hkl)).lt
      have hlo := hek.lo hf
      have hhi := hek.hi hf
      have heklt := hek.lt
      have hfi : (f : Int) < 5 := by omega
      generalize hee : es[k] = ek at *
      have HE := hide hee
      clear hcell hc he hee hek
      go_wp2_with fail
      refine wp_region_quiet_below (by kernel_rfl) (by kernel_rfl) ?_
      repeat (quiet_step (exact Calls.regrown_of (sides_any _ _ _ _)))
      refine wpQuiet_nil ?_; intro wq hwq; replace hwq := below_of_regrown hwq; obtain ⟨hcq, hfq⟩ := bcell hwq; have hzq := hwq.size
      have hbq : Below (w.heap.size + 1) (w.alloc (.cells #[.int .i64 f, .int .i64 last] 116)) wq := hb.trans (hwq.mono (by omega))
      have hltq : w.heap.size < wq.heap.size := Nat.lt_of_lt_of_le hlt hzq
      have o1 := hide (ownsRow_below O1.out hwq (Nat.le_refl _))
      have o2 := hide (ownsRow_below O2.out hwq (Nat.le_refl _))
      have l1 := lows_le f last (es.take k)
      have l2 := highs_le f last (es.take k)
      have lt' : (es.take k).length = k := by simp; omega
      rw [lt'] at l1 l2
      have HT : Hid (es.take (k + 1) = es.take k ++ [ek]) := by rw [List.take_succ_eq_append_getElem hkl, HE.out]; exact rfl
      clear hcq hfq hlo hhi hcell' c0 c1 hwq heklt lt'
      generalize hL : lows f last (es.take k) = L at *
      generalize hH : highs f last (es.take k) = H at *
      have HL := hide hL
      have HH := hide hH
      have HB := hide hbq
      clear hL hH O1 O2 hb hlt hbw hbq
      by_cases b1 : ek.2.lo f ≤ last
      · by_cases b2 : last < ek.2.hi f
        · go_wp2_with (first | (at_builtin; refine wpList_append_lies _ rfl _ _ 80 rfl (w.heap.size + 1) 50 i0 (.pointer none) 1 8 underBunch hi hz0 hz1 hz2 rfl (by decide) _ _ _ rfl (o1.out.alloc _) ⟨wq.heap.size, 0, none⟩ 1 1 [ptrE ek] rfl rfl (cell_one_new _ _ _) (by simp [ptrE, Value.oneCell']) (by decide) (by unfold maxLen; omega) (by omega) (by simp; omega) _ rfl ?_))
          intro g1 cap1 w1 hown1 hgrow1 hat1 hlt1
          have P1 := hide (other_row o2.out HD.out hgrow1 hat1)
          have B1 := hide (below_append HB.out hltq o1.out (Nat.le_refl _) hgrow1)
          have hlt1' : w.heap.size < w1.heap.size := by have := B1.out.size; simp at this; omega
          have H1 := hide hown1
          clear hown1 hgrow1 hat1
          go_wp2_with (first | (at_builtin; refine wpList_append_lies _ rfl _ _ 80 rfl (w.heap.size + 1) 50 i0 (.pointer none) 1 8 underBunch hi hz0 hz1 hz2 rfl (by decide) _ _ _ rfl (P1.out.1.alloc _) ⟨w1.heap.size, 0, none⟩ 1 1 [ptrE ek] rfl rfl (cell_one_new _ _ _) (by simp [ptrE, Value.oneCell']) (by decide) (by unfold maxLen; omega) (by omega) (by simp; omega) _ rfl ?_))
          intro g2 cap2 w2 hown2 hgrow2 hat2 hlt2
          have P2 := hide (other_row (v1 := u5) H1.out (fun g h5 h1 => P1.out.2 (own_eq h1 h5)) hgrow2 hat2)
          have B2 := hide (below_append B1.out hlt1' P1.out.1 (Nat.le_refl _) hgrow2)
          have H2 := hide hown2
          clear hown2 hgrow2 hat2
          go_wp2
          go_roundw
          case rel => exact ⟨k + 1, by omega, by go_num, by rw [HT.out, lows_snoc, HL.out, if_pos b1]; exact row_snoc P2.out.1, by rw [HT.out, highs_snoc, HH.out, if_pos b2]; exact row_snoc H2.out, fun g h1 h2 => P2.out.2 (h1.trans h2.symm |>.trans (by rfl)), B2.out⟩
          case measure => simp [intOf]; omega
        · go_wp2_with (first | (at_builtin; refine wpList_append_lies _ rfl _ _ 80 rfl (w.heap.size + 1) 50 i0 (.pointer none) 1 8 underBunch hi hz0 hz1 hz2 rfl (by decide) _ _ _ rfl (o1.out.alloc _) ⟨wq.heap.size, 0, none⟩ 1 1 [ptrE ek] rfl rfl (cell_one_new _ _ _) (by simp [ptrE, Value.oneCell']) (by decide) (by unfold maxLen; omega) (by omega) (by simp; omega) _ rfl ?_))
          intro g1 cap1 w1 hown1 hgrow1 hat1 hlt1
          have P1 := hide (other_row o2.out HD.out hgrow1 hat1)
          have B1 := hide (below_append HB.out hltq o1.out (Nat.le_refl _) hgrow1)
          have H1 := hide hown1
          clear hown1 hgrow1 hat1
          go_wp2
          go_roundw
          case rel => exact ⟨k + 1, by omega, by go_num, by rw [HT.out, lows_snoc, HL.out, if_pos b1]; exact row_snoc H1.out, by rw [HT.out, highs_snoc, HH.out, if_neg (by omega), List.append_nil]; exact P1.out.1, fun g h1 h2 => P1.out.2 (h2.trans h1.symm |>.trans (by rfl)), B1.out⟩
          case measure => simp [intOf]; omega
      · by_cases b2 : last < ek.2.hi f
        · go_wp2_with (first | (at_builtin; refine wpList_append_lies _ rfl _ _ 80 rfl (w.heap.size + 1) 50 i0 (.pointer none) 1 8 underBunch hi hz0 hz1 hz2 rfl (by decide) _ _ _ rfl (o2.out.alloc _) ⟨wq.heap.size, 0, none⟩ 1 1 [ptrE ek] rfl rfl (cell_one_new _ _ _) (by simp [ptrE, Value.oneCell']) (by decide) (by unfold maxLen; omega) (by omega) (by simp; omega) _ rfl ?_))
          intro g1 cap1 w1 hown1 hgrow1 hat1 hlt1
          have P1 := hide (other_row o1.out (fun g h5 h1 => HD.out g h1 h5) hgrow1 hat1)
          have B1 := hide (below_append HB.out hltq o2.out (Nat.le_refl _) hgrow1)
          have H1 := hide hown1
          clear hown1 hgrow1 hat1
          go_wp2
          go_roundw
          case rel => exact ⟨k + 1, by omega, by go_num, by rw [HT.out, lows_snoc, HL.out, if_neg (by omega), List.append_nil]; exact P1.out.1, by rw [HT.out, highs_snoc, HH.out, if_pos b2]; exact row_snoc H1.out, fun g h1 h2 => P1.out.2 (h1.trans h2.symm |>.trans (by rfl)), B1.out⟩
          case measure => simp [intOf]; omega
        · go_wp2
          go_roundw
          case rel => exact ⟨k + 1, by omega, by go_num, by rw [HT.out, lows_snoc, HL.out, if_neg (by omega), List.append_nil]; exact o1.out, by rw [HT.out, highs_snoc, HH.out, if_neg (by omega), List.append_nil]; exact o2.out, HD.out, HB.out⟩
          case measure => simp [intOf]; omega
    · have hke : k = es.length := by omega
      have hent : ∀ e ∈ es, EntAt wr e.1 e.2 := fun e hm => (he e hm).below hbw (he e hm).lt
      have o1 := O1.out
      have o2 := O2.out
      rw [hke, List.take_length] at o1 o2
      have HO1 := hide (bunch_of_row o1 fun e hm => hent e (List.mem_filter.1 hm).1)
      have HO2 := hide (bunch_of_row o2 fun e hm => hent e (List.mem_filter.1 hm).1)
      clear hc he o1 o2 O1 O2 hent
      go_wp2
      go_ret2
      exact ⟨_, _, rfl, HO1.out, HO2.out, hbw⟩

end Go.Proofs.YtaejpejfmpbinaaDoor
