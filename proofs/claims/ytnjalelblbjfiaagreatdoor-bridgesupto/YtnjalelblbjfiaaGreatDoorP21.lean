import Derived.Test.YtnjalelblbjfiaaGreatDoorP20
import Derived.Deep.RegionHeld3
import Derived.Shelf.RegionOpenPlain
import Derived.Deep.AppendLies
import Derived.Shelf.Abstract
import Derived.Test.YtnjalelblbjfiaaGreatDoorP9
import Derived.Laws.Cover1
import Derived.Test.YtnjalelblbjfiaaGreatDoorP10
import Derived.Test.YtnjalelblbjfiaaGreatDoorP18
namespace Go.Proofs.YtnjalelblbjfiaaGreatDoor
open Go.RowKit
open Go.Sort (grow)
attribute [local go_sem] cell?_regrown

theorem infoOut : (Tryz.prog.info? 66).map (fun i => (i.zero, i.size, i.bytes)) = some (some (.agg #[.int .i64 0, .string ⟨#[]⟩]), 2, 24) := by kernel_rfl
/-- The cells of what goes out. -/
def rowO (L : List (Int × ByteArray)) : List Value := L.flatMap fun e => [.int .i64 e.1, .string e.2]
theorem rowO_append (a b : List (Int × ByteArray)) : rowO (a ++ b) = rowO a ++ rowO b := List.flatMap_append
theorem ownsRow_blk {w w' : World} {B : Nat} {t : TypeId} {s n : Nat} {v : Value} {xs : List Value} (h : w.ownsRow B t s v n xs) (hk : ∀ b, v.ownBlock = some b → w'.heap[b]? = w.heap[b]?) : w'.ownsRow B t s v n xs := by
  refine ⟨h.1, h.2.imp id ?_⟩
  rintro ⟨g, cap, cur, e, h1, h2, h3⟩
  exact ⟨g, cap, cur, e, h1, (hk g (by rw [e]; rfl)).trans h2, h3⟩
theorem ownsRow_lt {w : World} {B : Nat} {t : TypeId} {s n : Nat} {v : Value} {xs : List Value} (h : w.ownsRow B t s v n xs) {b : Nat} (hb : v.ownBlock = some b) : B ≤ b ∧ b < w.heap.size := by
  rcases h.2 with ⟨e, _⟩ | ⟨g, cap, cur, e, h1, h2, _⟩
  · rw [e] at hb; cases hb
  · rw [e] at hb
    obtain rfl : g = b := by simpa [Value.ownBlock] using hb
    exact ⟨h1, by
      rcases Nat.lt_or_ge g w.heap.size with h | h
      · exact h
      · rw [Array.getElem?_eq_none h] at h2; cases h2⟩
theorem ownsRow_blw {w w' : World} {B : Nat} {t : TypeId} {s n : Nat} {v : Value} {xs : List Value} (h : w.ownsRow B t s v n xs) (hb : Below w.heap.size w w') : w'.ownsRow B t s v n xs :=
  ownsRow_blk h fun b hb' => hb.block b (ownsRow_lt h hb').2

/-- The blocks below B but g are as they were. -/
def OnlyB (B g : Nat) (w w' : World) : Prop := w'.os = w.os ∧ w'.tape = w.tape ∧ w'.output = w.output ∧ w.heap.size ≤ w'.heap.size ∧ ∀ b, b < B → b ≠ g → w'.heap[b]? = w.heap[b]?
theorem OnlyB.of_below {B g : Nat} {w w' : World} (h : Below w.heap.size w w') (hB : B ≤ w.heap.size) : OnlyB B g w w' := ⟨h.os, h.tape, h.output, h.size, fun b hb _ => h.block b (by omega)⟩
theorem OnlyB.trans {B g : Nat} {a b c : World} (h : OnlyB B g a b) (k : OnlyB B g b c) : OnlyB B g a c :=
  ⟨k.1.trans h.1, k.2.1.trans h.2.1, k.2.2.1.trans h.2.2.1, Nat.le_trans h.2.2.2.1 k.2.2.2.1, fun x hx hne => (k.2.2.2.2 x hx hne).trans (h.2.2.2.2 x hx hne)⟩
theorem OnlyB.set {B g : Nat} {w w' : World} (h : OnlyB B g w w') (b i : Nat) (v : Value) (hb : b = g ∨ B ≤ b) : OnlyB B g w (w'.setCell ⟨b, i, none⟩ v) :=
  ⟨h.1, h.2.1, h.2.2.1, by simp; exact h.2.2.2.1, fun x hx hne => (heap_setCell_other _ _ x _ (by rcases hb with rfl | hb; exact hne; exact fun (e : x = b) => by omega)).trans (h.2.2.2.2 x hx hne)⟩
theorem OnlyB.grown {B g : Nat} {w w' w2 : World} {row : Option Nat} (h : OnlyB B g w w') (hg : w'.grownBy w2 row) (hr : ∀ r, row = some r → B ≤ r) (hB : B ≤ w'.heap.size) : OnlyB B g w w2 :=
  ⟨hg.os.trans h.1, hg.tape.trans h.2.1, hg.output.trans h.2.2.1, Nat.le_trans h.2.2.2.1 hg.size, fun x hx hne => (hg.block x (by omega) (fun e => by have := hr x e.symm; omega)).trans (h.2.2.2.2 x hx hne)⟩
theorem OnlyB.onlyG {g : Nat} {w w' : World} (h : OnlyB w.heap.size g w w') : OnlyG g w w' := h

/-- A frame as it goes out at a port. -/
def outF (p : Prt) (f : Fr) : ByteArray := bytesF { f with tagged := f.vlan != p.nat }
/-- Whether a port is one of a VLAN. -/
def hasV (p : Prt) (v : Int) : Bool := v == p.nat || p.tg v

attribute [local go_sem] Oper.semAt_some
/-- append, not laid open by the walk. -/
def appN (ats : Array TypeId) (ty : TypeId) (args : Array Value) : Sem Value := Builtin.append_ ats ty args
theorem append_fold (ats : Array TypeId) (ty : TypeId) (args : Array Value) : Builtin.append_ ats ty args = appN ats ty args := rfl
theorem appN_run {P : Program} {ats : Array TypeId} {ty : TypeId} {args : Array Value} {w w' : World} {v : Value} (h : (Builtin.append_ ats ty args).run P w = .ok v w') : (appN ats ty args).run P w = .ok v w' := h
attribute [local go_sem ↓ high] append_fold
theorem tagS_size (g : Bool) (v k : Int) : (tagS g v k).size ≤ 4 := by
  unfold tagS
  cases g
  · exact Nat.zero_le _
  · simp [ByteArray.size]
set_option maxRecDepth 100000 in
set_option maxHeartbeats 2000000 in
theorem leave_any (s g B : Nat) (pv v : Value) (P : List Prt) (p : Pg) (outs : List (Int × ByteArray)) (k : Nat) (w : World) (h0 : w.cell? ⟨s, 0, none⟩ = some pv) (hp : PortsAt w pv P) (hg : PgAt w g p v) (hk : k < P.length)
    (hv : (Lit.int .i64 p.f.vlan).wf = true) (hown : w.ownsRow B 66 2 v outs.length (rowO outs)) (hB : B ≤ w.heap.size) (hn : outs.length ≤ 100) (hgB : ∀ b, v.ownBlock = some b → b ≠ g)
    (hl : p.f.to.size + p.f.fr.size + p.f.ty.size + p.f.rest.size ≤ 1000) :
    Calls Tryz.prog 111 #[.pointer (some ⟨s, 0, none⟩), .pointer (some ⟨g, 0, none⟩), .int .i64 k] w fun e w' => e = .returned (.tuple #[]) ∧ ∃ v', PgAt w' g p v' ∧ (let os' := if hasV P[k] p.f.vlan then outs ++ [((k : Int), outF P[k] p.f)] else outs; w'.ownsRow B 66 2 v' os'.length (rowO os')) ∧ (∀ b, v'.ownBlock = some b → b ≠ g) ∧ OnlyB B g w w' := by
  obtain ⟨a, cap, b, rfl, hc⟩ := hp
  obtain ⟨rfl, n0, mv, n1, ht⟩ := hc k hk
  obtain ⟨mo, rfl⟩ : ∃ mo, mv = .map mo := by rcases ht with ⟨rfl, _⟩ | ⟨b, n, D, rfl, _⟩ <;> exact ⟨_, rfl⟩
  have hkl : (k : Int) < P.length := by omega
  have hkl2 : (0 : Int) ≤ k := by omega
  obtain ⟨i0, hi0, hz0, hz1, hz2⟩ := info_parts infoOut
  generalize hat : P[k] = at_ at *
  clear hc hat
  have CH := hide fun (d : Nat) (os : Array Obj) => has_any at_.nat (.map mo) at_.tg p.f.vlan (grow (redrawn w d) os) (ht.below (below_regrown w d os)) hv
  have g5 : w.cell? ⟨g, 5, none⟩ = some (.int .i64 p.f.vlan) := hg.cell rfl
  have hglt := hg.lt
  have hslt := block_lt_of_cell h0
  have hblt := block_lt_of_cell n0
  have HG := hide hg
  have HO := hide hown
  have HGB := hide hgB
  have HH : hasV at_ p.f.vlan = (p.f.vlan == at_.nat || at_.tg p.f.vlan) := rfl
  generalize hasV at_ p.f.vlan = hv_ at HH
  rw [← HH] at CH
  clear hg hown hgB ht HH
  go_enter Tryz.func111, Tryz.ntmps111
  go_wp2
  refine wp_region_quiet_below (by kernel_rfl) (by kernel_rfl) ?_
  repeat (first | go_big_quiet_skip | quiet_step (exact Calls.regrown_of (CH.out _ _)))
  refine wpQuiet_nil ?_; intro wq hwq; replace hwq := below_of_regrown hwq; obtain ⟨hcq, hfq⟩ := bcell hwq; have hzq := hwq.size
  have HQ := hide hwq
  clear hcq hfq
  obtain ⟨nv, hnv⟩ : ∃ nv : Nat, nv = wq.heap.size := ⟨_, rfl⟩
  have PQ := HG.out.below hwq
  cases hv_ with
  | false =>
    go_wp2
    refine bodyPost_ret (results_none rfl _ _ _) rfl ?_
    exact ⟨rfl, v, PQ, ownsRow_blw HO.out HQ.out, HGB.out, OnlyB.of_below HQ.out hB⟩
  | true =>
    have q0 := cell_later hwq h0
    have q1 := cell_later hwq n0
    have d0 : wq.cell? ⟨g, 2, none⟩ = some (.string p.f.to) := PQ.cell rfl
    have d1 : wq.cell? ⟨g, 3, none⟩ = some (.string p.f.fr) := PQ.cell rfl
    have d2 : wq.cell? ⟨g, 4, none⟩ = some (.bool p.f.tagged) := PQ.cell rfl
    have d3 : wq.cell? ⟨g, 5, none⟩ = some (.int .i64 p.f.vlan) := PQ.cell rfl
    have d4 : wq.cell? ⟨g, 6, none⟩ = some (.int .i64 p.f.mark) := PQ.cell rfl
    have d5 : wq.cell? ⟨g, 7, none⟩ = some (.string p.f.ty) := PQ.cell rfl
    have d6 : wq.cell? ⟨g, 8, none⟩ = some (.string p.f.rest) := PQ.cell rfl
    have HPQ := hide PQ
    have HOQ := hide (ownsRow_blw HO.out HQ.out)
    clear PQ h0 n0 n1 g5 hwq HO HG
    have hsq : s < wq.heap.size := by omega
    have hbq : b < wq.heap.size := by omega
    have nsq : ¬ s = wq.heap.size := by omega
    have nbq : ¬ b = wq.heap.size := by omega
    have hfl : (tagS (p.f.vlan != at_.nat) p.f.vlan p.f.mark).size ≤ 4 := tagS_size _ _ _
    have CB := hide fun (W : World) => bytes_any { p.f with tagged := p.f.vlan != at_.nat } W (by show p.f.to.size + p.f.fr.size + (tagS (p.f.vlan != at_.nat) p.f.vlan p.f.mark).size + p.f.ty.size + p.f.rest.size ≤ _; omega)
    go_wp2
    go_region
    generalize hW2 : World.drew _ = W2
    have hB2 : Below wq.heap.size wq W2 := by rw [← hW2]; exact ((Below.refl _ wq).alloc (Nat.le_refl _) _).drew
    have hs2 : W2.heap.size = wq.heap.size + 1 := by rw [← hW2]; simp
    have b2 : W2.heap[wq.heap.size]? = some (.cells (frCells { p.f with tagged := p.f.vlan != at_.nat }) 146 (0, 0)) := by rw [← hW2]; exact allocN wq _
    clear hW2 q0 q1 d0 d1 d2 d3 d4 d5 d6
    have P2 := HPQ.out.below hB2
    have O2 := ownsRow_blw HOQ.out hB2
    have c14 : W2.cell? ⟨g, 14, none⟩ = some v := P2.cell rfl
    have f0 : W2.cell? ⟨wq.heap.size, 0, none⟩ = some (.string p.f.to) := cellRow b2 rfl
    have f1 : W2.cell? ⟨wq.heap.size, 1, none⟩ = some (.string p.f.fr) := cellRow b2 rfl
    have f2 : W2.cell? ⟨wq.heap.size, 2, none⟩ = some (.bool (p.f.vlan != at_.nat)) := cellRow b2 rfl
    have f3 : W2.cell? ⟨wq.heap.size, 3, none⟩ = some (.int .i64 p.f.vlan) := cellRow b2 rfl
    have f4 : W2.cell? ⟨wq.heap.size, 4, none⟩ = some (.int .i64 p.f.mark) := cellRow b2 rfl
    have f5 : W2.cell? ⟨wq.heap.size, 5, none⟩ = some (.string p.f.ty) := cellRow b2 rfl
    have f6 : W2.cell? ⟨wq.heap.size, 6, none⟩ = some (.string p.f.rest) := cellRow b2 rfl
    have ng : some g ≠ v.ownBlock := fun e => HGB.out g e.symm rfl
    have nfb : some wq.heap.size ≠ v.ownBlock := fun e => by have := (ownsRow_lt HOQ.out e.symm).2; omega
    have hgq : g < wq.heap.size := by have := HPQ.out.lt; omega
    have hzq' := HQ.out.size
    have HB2 := hide hB2
    have HO2 := hide O2
    have HP2 := hide P2
    clear b2 P2 O2 hB2
    go_wp2_with fail
    have hmx : Tryz.prog.follows .mixedOrders = true := by kernel_rfl
    go_region_with_o (first
        | (go_at_call 175; refine (CB.out _).mono ?_; rintro e w1 ⟨rfl, hb1⟩; have hB1 : Below W2.heap.size W2 w1 := Below.trans (b := _) (by repeat (first | exact Below.refl _ _ | assumption | refine Below.drewN ?_ | refine Below.drew ?_ | refine Below.setCell ?_ (by first | exact Nat.le_refl _ | omega | (simp; done) | (simp; omega)) _ | refine Below.alloc ?_ (by first | exact Nat.le_refl _ | omega | (simp; done) | (simp; omega)) _)) (hb1.mono (by first | exact Nat.le_refl _ | omega | (simp; done) | (simp; omega))); have k14 := cell_later hB1 c14; have hzw1 := hB1.size; have hgw1 : g < w1.heap.size := (by omega); have HO1 := hide (ownsRow_blw HO2.out hB1); have HP1 := hide (HP2.out.below hB1); have HB1 := hide hB1; obtain ⟨gg, cp, w3, hrun, hown3, hgrow, hatt, hlt⟩ := run_append_lies (P := Tryz.prog) (w1.alloc (.cells #[.int .i64 k, .string (bytesF { p.f with tagged := p.f.vlan != at_.nat })] 66)) 59 59 B 66 i0 _ 2 24 Tryz.underlying59 hi0 hz0 hz1 hz2 rfl (by omega) v outs.length (rowO outs) (HO1.out.alloc _) ⟨w1.heap.size, 0, none⟩ 1 1 [.int .i64 k, .string (outF at_ p.f)] (by rfl) (World.news_of_block (cs := #[.int .i64 k, .string (outF at_ p.f)]) (t := 66) (fr := (0, 0)) (allocN w1 _)) (by simp [Value.oneCell']) (by omega) (by unfold maxLen; omega) (by omega) (by simp; omega) (w1.heap.size + 1) (by simp); have hap := appN_run hrun; have PA := HP1.out.below ((Below.refl _ w1).alloc (Nat.le_refl _) (.cells #[.int .i64 k, .string (outF at_ p.f)] 66)); have P3 : PgAt w3 g p v := (hgrow.block g (by simp; omega) ng).trans PA; have hfz := P3.frozen 14; have hc3 : w3.cell? ⟨g, 14, none⟩ = some v := P3.cell rfl; have HA3 := hide hatt; have HG3 := hide hgrow; have HR3 := hide hown3; have HP3 := hide P3; clear hrun hb1 hB1 PA hatt hgrow hown3 P3))
    all_goals go_end0
    all_goals have hgg : gg ≠ g := HA3.out.elim (fun e => HGB.out gg e) (fun e => by omega)
    all_goals refine ⟨rfl, .slice (some ⟨gg, 0, none⟩) (outs.length + 1) cp, HP3.out.set 14 _ rfl, ?_, fun x hx => by obtain rfl : gg = x := (by simpa [Value.ownBlock] using hx); exact hgg, ?_⟩
    all_goals first
      | (have hown3 := HR3.out
         have hrow : rowO outs ++ [.int .i64 k, .string (outF at_ p.f)] = rowO (outs ++ [((k : Int), outF at_ p.f)]) := by rw [rowO_append]; rfl
         rw [hrow] at hown3
         show World.ownsRow _ B 66 2 _ (outs ++ [((k : Int), outF at_ p.f)]).length (rowO (outs ++ [((k : Int), outF at_ p.f)]))
         rw [List.length_append, List.length_singleton]
         exact ownsRow_blk hown3 fun x hx => by
           obtain rfl : gg = x := (by simpa [Value.ownBlock] using hx)
           exact heap_setCell_other _ _ _ _ hgg)
      | (refine OnlyB.set ?_ g 14 _ (.inl rfl)
         refine OnlyB.grown ?_ HG3.out (fun r hr => (ownsRow_lt HOQ.out hr).1) (by simp; omega)
         have hB3 : Below w.heap.size w w1 := HQ.out.trans ((HB2.out.trans (HB1.out.mono (by omega))).mono (by omega))
         exact OnlyB.of_below (hB3.alloc (by omega) _) hB)
end Go.Proofs.YtnjalelblbjfiaaGreatDoor

namespace Go.Proofs.YtnjalelblbjfiaaGreatDoor
open Go.RowKit
open Go.Sort (grow)

theorem bytesLess_irrefl : ∀ x : List UInt8, Op.bytesLess x x = false
  | [] => rfl
  | a :: x => by
    have h := bytesLess_irrefl x
    simp [Op.bytesLess, h]
theorem bytesLess_tri : ∀ x y : List UInt8, Op.bytesLess x y = true ∨ x = y ∨ Op.bytesLess y x = true
  | [], [] => .inr (.inl rfl)
  | [], _ :: _ => .inl rfl
  | _ :: _, [] => .inr (.inr rfl)
  | a :: x, b :: y => by
    rcases Nat.lt_trichotomy a.toNat b.toNat with h | h | h
    · left
      have : a < b := UInt8.lt_iff_toNat_lt.2 h
      simp [Op.bytesLess, this]
    · have e : a = b := UInt8.toNat_inj.1 h
      subst e
      rcases bytesLess_tri x y with h | h | h
      · left; simp [Op.bytesLess, h]
      · right; left; rw [h]
      · right; right; simp [Op.bytesLess, h]
    · right; right
      have : b < a := UInt8.lt_iff_toNat_lt.2 h
      simp [Op.bytesLess, this]
theorem bytesLess_cons {a b : UInt8} {x y : List UInt8} : Op.bytesLess (a :: x) (b :: y) = true ↔ a.toNat < b.toNat ∨ (a = b ∧ Op.bytesLess x y = true) := by
  simp [Op.bytesLess, UInt8.lt_iff_toNat_lt]
theorem bytesLess_trans : ∀ {x y z : List UInt8}, Op.bytesLess x y = true → Op.bytesLess y z = true → Op.bytesLess x z = true
  | [], [], _, h, _ => by cases h
  | [], _ :: _, [], _, h => by cases h
  | [], _ :: _, _ :: _, _, _ => rfl
  | _ :: _, [], _, h, _ => by cases h
  | _ :: _, _ :: _, [], _, h => by cases h
  | a :: x, b :: y, c :: z, h, k => by
    rw [bytesLess_cons] at h k ⊢
    rcases h with h | ⟨rfl, h⟩
    · rcases k with k | ⟨rfl, k⟩
      · exact .inl (by omega)
      · exact .inl h
    · rcases k with k | ⟨rfl, k⟩
      · exact .inl k
      · exact .inr ⟨rfl, bytesLess_trans h k⟩

/-- What cmp.Compare answers of two strings. -/
def cmpS (a b : List UInt8) : Int := if Op.bytesLess a b = true then -1 else if a = b then 0 else 1
theorem cmpS_neg {a b : List UInt8} : cmpS a b < 0 ↔ Op.bytesLess a b = true := by
  unfold cmpS
  split
  · simp [*]
  · split
    · rename_i h e
      simp [e, bytesLess_irrefl]
    · simp [*]
theorem cmpS_zero {a b : List UInt8} : cmpS a b = 0 ↔ a = b := by
  unfold cmpS
  split
  · rename_i h
    refine ⟨fun e => by omega, fun e => ?_⟩
    rw [e, bytesLess_irrefl] at h; cases h
  · split <;> simp [*]
/-- The order of places: by VLAN, then by MAC. -/
def cmpPl (v1 : Int) (m1 : List UInt8) (v2 : Int) (m2 : List UInt8) : Int := if cmpI v1 v2 = 0 then cmpS m1 m2 else cmpI v1 v2

set_option maxHeartbeats 400000 in
theorem isNaNS_any (a : ByteArray) (w : World) :
    Calls Tryz.prog 225 #[.string a] w fun e w' => e = .returned (.bool false) ∧ w' = w := by
  go_enter Tryz.func225, Tryz.ntmps225
  go_wp2
  go_ret
  exact ⟨by simp, rfl⟩

set_option maxHeartbeats 800000 in
theorem cmpStr_any (a b : ByteArray) (w : World) :
    Calls Tryz.prog 206 #[.string a, .string b] w fun e w' => e = .returned (.int .i64 (cmpS a.toList b.toList)) ∧ w' = w := by
  obtain ⟨x, hx⟩ : ∃ x, x = a.toList := ⟨_, rfl⟩
  obtain ⟨y, hy⟩ : ∃ y, y = b.toList := ⟨_, rfl⟩
  unfold cmpS
  by_cases h1 : Op.bytesLess a.toList b.toList = true
  · rw [if_pos h1]
    go_enter Tryz.func206, Tryz.ntmps206
    go_wp2_with (go_at_call 225; refine (isNaNS_any _ _).mono ?_; rintro e w' ⟨rfl, rfl⟩)
    go_ret
    exact ⟨rfl, rfl⟩
  · rw [if_neg h1]
    have h1' : Op.bytesLess a.toList b.toList = false := by simpa using h1
    by_cases h2 : a.toList = b.toList
    · rw [if_pos h2]
      have h2' : (a.toList == b.toList) = true := by simp [h2]
      clear h2
      go_enter Tryz.func206, Tryz.ntmps206
      go_wp2_with (go_at_call 225; refine (isNaNS_any _ _).mono ?_; rintro e w' ⟨rfl, rfl⟩)
      go_ret
      exact ⟨rfl, rfl⟩
    · rw [if_neg h2]
      have h2' : (a.toList == b.toList) = false := by simp [h2]
      clear h2
      go_enter Tryz.func206, Tryz.ntmps206
      go_wp2_with (go_at_call 225; refine (isNaNS_any _ _).mono ?_; rintro e w' ⟨rfl, rfl⟩)
      go_ret
      exact ⟨rfl, rfl⟩

set_option maxHeartbeats 800000 in
theorem cmpOr_any (g cap : Nat) (a b : Int) (w : World) (h0 : w.cell? ⟨g, 0, none⟩ = some (.int .i64 a)) (h1 : w.cell? ⟨g, 1, none⟩ = some (.int .i64 b)) :
    Calls Tryz.prog 165 #[.slice (some ⟨g, 0, none⟩) 2 cap] w fun e w' => e = .returned (.int .i64 (if a = 0 then b else a)) ∧ Below w.heap.size w w' := by
  have hg := block_lt_of_cell h0
  obtain ⟨res, hres⟩ : ∃ res : Int, res = if a = 0 then b else a := ⟨_, rfl⟩
  rw [← hres]
  have HRES := hide hres
  clear hres
  go_enter Tryz.func165, Tryz.ntmps165
  go_wp2
  go_loopw [8] (fun i wr => ∃ k : Nat, k ≤ 2 ∧ i = .int .i64 k ∧ (0 < k → a = 0) ∧ (1 < k → b = 0) ∧ Below w.heap.size w wr) (fun i _ => 2 - (intOf i).toNat)
  case atStart => exact ⟨0, by omega, rfl, by omega, by omega, Below.refl _ _⟩
  case round =>
    obtain ⟨k, hk, rfl, ha, hb, hbl⟩ := hrel
    have d0 := (hbl.cell (p := ⟨g, 0, none⟩) hg).trans h0
    have d1 := (hbl.cell (p := ⟨g, 1, none⟩) hg).trans h1
    match k, hk with
    | 0, _ =>
      by_cases hz : a = 0
      · have hz' : (a == 0) = true := by simp [hz]
        have HZ := hide hz
        have hn : (a != 0) = false := by simp [hz]
        clear hz ha hb
        go_wp2
        go_roundw
        case rel => exact ⟨1, by omega, rfl, fun _ => HZ.out, by omega, hbl⟩
        case measure => simp [intOf]
      · have hz' : (a == 0) = false := by simp [hz]
        have hn : (a != 0) = true := by simp [hz]
        have e := HRES.out
        rw [if_neg hz] at e
        subst e
        clear ha hb
        go_wp2
        go_ret
        exact ⟨rfl, hbl⟩
    | 1, _ =>
      have e := HRES.out
      rw [if_pos (ha (by omega))] at e
      by_cases hz : b = 0
      · have hn : (b != 0) = false := by simp [hz]
        have HZ := hide hz
        have HA := hide (ha (by omega))
        clear hz ha hb e
        go_wp2
        go_roundw
        case rel => exact ⟨2, by omega, rfl, fun _ => HA.out, fun _ => HZ.out, hbl⟩
        case measure => simp [intOf]
      · have hn : (b != 0) = true := by simp [hz]
        subst e
        clear ha hb
        go_wp2
        go_ret
        exact ⟨rfl, hbl⟩
    | 2, _ =>
      have e := HRES.out
      rw [if_pos (ha (by omega)), hb (by omega)] at e
      subst e
      clear ha hb
      go_wp2
      go_ret
      exact ⟨rfl, hbl⟩

set_option maxRecDepth 100000 in
set_option maxHeartbeats 1000000 in
theorem cmpP_any (v1 v2 : Int) (m1 m2 : ByteArray) (w : World) :
    Calls Tryz.prog 167 #[.agg #[.int .i64 v1, .string m1], .agg #[.int .i64 v2, .string m2]] w fun e w' => e = .returned (.int .i64 (cmpPl v1 m1.toList v2 m2.toList)) ∧ Below w.heap.size w w' := by
  obtain ⟨res, hres⟩ : ∃ res, res = cmpPl v1 m1.toList v2 m2.toList := ⟨_, rfl⟩
  rw [← hres]
  have COR : Hid (∀ (g : Nat) (W : World), W.cell? ⟨g, 0, none⟩ = some (.int .i64 (cmpI v1 v2)) → W.cell? ⟨g, 1, none⟩ = some (.int .i64 (cmpS m1.toList m2.toList)) → Calls Tryz.prog 165 #[.slice (some ⟨g, 0, none⟩) 2 2] W fun e w' => e = .returned (.int .i64 res) ∧ Below W.heap.size W w') := hide fun g W c0 c1 => by
    rw [hres]
    exact cmpOr_any g 2 _ _ W c0 c1
  clear hres
  have hs0 : w.heap.size < w.heap.size + 1 + 1 + 1 := by omega
  have hs1 : w.heap.size < w.heap.size + 1 + 1 := by omega
  go_enter Tryz.func167, Tryz.ntmps167
  go_wp2_with fail
  go_region_held3 (fun w' => w'.cell? ⟨w.heap.size, 0, none⟩ = some (.int .i64 v1) ∧ w'.cell? ⟨w.heap.size, 1, none⟩ = some (.string m1) ∧ w'.cell? ⟨w.heap.size + 1, 0, none⟩ = some (.int .i64 v2) ∧ w'.cell? ⟨w.heap.size + 1, 1, none⟩ = some (.string m2)) (go_keep)
    (first | (go_at_call 33; refine (cmpInt_any _ _ _).mono ?_; rintro e w' ⟨rfl, hww⟩; rw [hww]; clear hww) | (go_at_call 206; refine (cmpStr_any _ _ _).mono ?_; rintro e w' ⟨rfl, hww⟩; rw [hww]; clear hww) | (go_at_call 165; refine (COR.out _ _ ?_ ?_).mono ?_; (exact (World.cell?_alloc_at _ _ _ _ (by simp)).trans rfl); (exact (World.cell?_alloc_at _ _ _ _ (by simp)).trans rfl); rintro e w3 ⟨rfl, hb3⟩; obtain ⟨hcb, hfb⟩ := bcell hb3))
  all_goals
    go_wp2
    go_ret
    exact ⟨rfl, Below.trans (by repeat (first | exact Below.refl _ _ | assumption | refine Below.drewN ?_ | refine Below.drew ?_ | refine Below.setCell ?_ (by first | exact Nat.le_refl _ | omega | (simp; done) | (simp; omega)) _ | refine Below.alloc ?_ (by first | exact Nat.le_refl _ | omega | (simp; done) | (simp; omega)) _)) (hb3.mono (by first | exact Nat.le_refl _ | omega | (simp; done) | (simp; omega)))⟩

end Go.Proofs.YtnjalelblbjfiaaGreatDoor

namespace Go.Proofs.YtnjalelblbjfiaaGreatDoor
open Go.RowKit
open Go.Sort (grow)

attribute [local go_sem] cell?_regrown

/-- A MAC that is known: its VLAN, its bytes, the port, the age. -/
structure Mc where
  vlan : Int
  mac : ByteArray
  port : Int
  age : Int
/-- How an entry stands to a key. -/
def cmpM (e : Mc) (v : Int) (m : ByteArray) : Int := cmpPl e.vlan e.mac.toList v m.toList

set_option maxRecDepth 100000 in
set_option maxHeartbeats 1000000 in
theorem againstP_any (m : Nat) (e : Mc) (v : Int) (b : ByteArray) (w : World) (hm : w.cell? ⟨m, 0, none⟩ = some (.func (.func 167) #[] #[])) :
    Calls Tryz.prog 227 #[.pointer (some ⟨m, 0, none⟩), .agg #[.int .i64 e.vlan, .string e.mac, .int .i64 e.port, .int .i64 e.age], .agg #[.int .i64 v, .string b]] w fun r w' => r = .returned (.int .i64 (cmpM e v b)) ∧ Below w.heap.size w w' := by
  unfold cmpM
  have hlt : m < w.heap.size := block_lt_of_cell hm
  have hlt2 : m < w.heap.size + 1 + 1 := by omega
  go_enter Tryz.func227, Tryz.ntmps227
  go_wp2_with fail
  refine wp_region_quiet_below (by kernel_rfl) (by kernel_rfl) ?_
  repeat (quiet_step (exact Calls.regrown_of (cmpP_any _ _ _ _ _)))
  refine wpQuiet_nil ?_; intro wq hwq; replace hwq := below_of_regrown hwq; obtain ⟨hcq, hfq⟩ := bcell hwq; have hzq := hwq.size
  go_wp2
  go_ret
  exact ⟨rfl, Below.trans (by repeat (first | exact Below.refl _ _ | assumption | refine Below.drewN ?_ | refine Below.drew ?_ | refine Below.setCell ?_ (by first | exact Nat.le_refl _ | omega | (simp; done) | (simp; omega)) _ | refine Below.alloc ?_ (by first | exact Nat.le_refl _ | omega | (simp; done) | (simp; omega)) _)) (hwq.mono (by first | exact Nat.le_refl _ | omega | (simp; done) | (simp; omega)))⟩

set_option maxRecDepth 100000 in
set_option maxHeartbeats 1000000 in
theorem bsP_any (m g cap n : Nat) (a : Option Addr) (K : Nat → Mc) (x : Int) (x2 : ByteArray) (w : World) (hn : n ≤ 200) (hm : w.cell? ⟨m, 0, none⟩ = some (.func (.func 167) #[] #[]))
    (hc : ∀ j, j < n → a = some ⟨g, 0, none⟩ ∧ w.cell? ⟨g, j * 4, none⟩ = some (.int .i64 (K j).vlan) ∧ w.cell? ⟨g, j * 4 + 1, none⟩ = some (.string (K j).mac) ∧ w.cell? ⟨g, j * 4 + 2, none⟩ = some (.int .i64 (K j).port) ∧ w.cell? ⟨g, j * 4 + 3, none⟩ = some (.int .i64 (K j).age)) (hmono : ∀ i j, i ≤ j → j < n → cmpM (K j) x x2 < 0 → cmpM (K i) x x2 < 0) :
    Calls Tryz.prog 226 #[.slice a n cap, .agg #[.int .i64 x, .string x2], .func (.func 227) #[.pointer (some ⟨m, 0, none⟩)] #[]] w fun e w' => ∃ i : Nat, i ≤ n ∧ (∀ j, j < i → cmpM (K j) x x2 < 0) ∧ (∀ j, i ≤ j → j < n → 0 ≤ cmpM (K j) x x2) ∧ e = .returned (.tuple #[.int .i64 i, .bool (decide (i < n) && (cmpM (K i) x x2 == 0))]) ∧ Below w.heap.size w w' := by
  have hmlt : m < w.heap.size := block_lt_of_cell hm
  go_enter Tryz.func226, Tryz.ntmps226
  go_wp2
  go_loopw [9, 10] (fun vi vj wr => ∃ i j : Nat, i ≤ j ∧ j ≤ n ∧ vi = .int .i64 i ∧ vj = .int .i64 j ∧ (∀ q, q < i → cmpM (K q) x x2 < 0) ∧ (∀ q, j ≤ q → q < n → 0 ≤ cmpM (K q) x x2) ∧ Below w.heap.size w wr ∧ w.heap.size < wr.heap.size ∧ wr.cell? ⟨w.heap.size, 0, none⟩ = some (.int .i64 x) ∧ wr.cell? ⟨w.heap.size, 1, none⟩ = some (.string x2)) (fun vi vj _ => (intOf vj - intOf vi).toNat)
  case atStart => exact ⟨0, n, by omega, by omega, rfl, rfl, by omega, by omega, (by repeat (first | exact Below.refl _ _ | assumption | refine Below.drewN ?_ | refine Below.drew ?_ | refine Below.setCell ?_ (by first | exact Nat.le_refl _ | omega | (simp; done) | (simp; omega)) _ | refine Below.alloc ?_ (by first | exact Nat.le_refl _ | omega | (simp; done) | (simp; omega)) _)), (by first | exact Nat.le_refl _ | omega | (simp; done) | (simp; omega)), by simp, by simp⟩
  case round =>
    obtain ⟨i, j, hij, hjn, rfl, rfl, hL, hR, hb, hbl, x0, x1⟩ := hrel
    have hm' := (hb.cell (p := ⟨m, 0, none⟩) hmlt).trans hm
    have HL := hide hL
    have HR := hide hR
    clear hL hR
    by_cases hlt : i < j
    · obtain ⟨h, hh⟩ : ∃ h : Nat, h = (i + j) / 2 := ⟨_, rfl⟩
      have hh1 : i ≤ h := by omega
      have hh2 : h < j := by omega
      obtain ⟨rfl, c0, c1, c2, c3⟩ := hc h (by omega)
      have d0 := (hb.cell (p := ⟨g, h * 4, none⟩) (block_lt_of_cell c0)).trans c0
      have d1 := (hb.cell (p := ⟨g, h * 4 + 1, none⟩) (block_lt_of_cell c1)).trans c1
      have d2 := (hb.cell (p := ⟨g, h * 4 + 2, none⟩) (block_lt_of_cell c2)).trans c2
      have d3 := (hb.cell (p := ⟨g, h * 4 + 3, none⟩) (block_lt_of_cell c3)).trans c3
      have hglt : g < wr.heap.size := block_lt_of_cell d0
      have e1 : ((i : Int) + j) / 2 = h := by omega
      have hhn : (h : Int) < n := by omega
      have HM := hide fun q (hq : q ≤ h) (h' : cmpM (K h) x x2 < 0) => hmono q h hq (by omega) h'
      have HM2 := hide fun q (hq : h ≤ q) (hqn : q < n) (h' : cmpM (K q) x x2 < 0) => hmono h q hq hqn h'
      clear hh c0 c1 c2 c3
      have CA := hide fun (d : Nat) (os : Array Obj) => againstP_any m (K h) x x2 (grow (redrawn wr d) os) ((below_regrown wr d os).cell (p := ⟨m, 0, none⟩) (block_lt_of_cell hm') |>.trans hm')
      go_wp2_with fail
      refine wp_region_quiet_below (by kernel_rfl) (by kernel_rfl) ?_
      repeat (quiet_step (exact Calls.regrown_of (CA.out _ _)))
      refine wpQuiet_nil ?_; intro wq hwq; replace hwq := below_of_regrown hwq; obtain ⟨hcq, hfq⟩ := bcell hwq; have hzq := hwq.size
      have hbq : Below wr.heap.size wr wq := hwq
      clear hcq hfq hzq CA
      have HBQ := hide (hb.trans (hbq.mono hb.size))
      by_cases hneg : cmpM (K h) x x2 < 0
      · go_wp2
        go_roundw
        case rel => exact ⟨h + 1, j, by omega, by omega, by go_num, rfl, fun q hq => HM.out q (by omega) hneg, HR.out, HBQ.out, Nat.lt_of_lt_of_le hbl hbq.size, cell_later hbq x0, cell_later hbq x1⟩
        case measure => simp [intOf]; omega
      · have HN := hide hneg
        go_wp2
        go_roundw
        case rel => exact ⟨i, h, by omega, by omega, rfl, rfl, HL.out, fun q hq hqn => Int.not_lt.1 fun h' => absurd (HM2.out q hq hqn h') (by have := HN.out; omega), HBQ.out, Nat.lt_of_lt_of_le hbl hbq.size, cell_later hbq x0, cell_later hbq x1⟩
        case measure => simp [intOf]; omega
    · obtain rfl : i = j := by omega
      by_cases hin : i < n
      · obtain ⟨rfl, c0, c1, c2, c3⟩ := hc i hin
        have d0 := (hb.cell (p := ⟨g, i * 4, none⟩) (block_lt_of_cell c0)).trans c0
        have d1 := (hb.cell (p := ⟨g, i * 4 + 1, none⟩) (block_lt_of_cell c1)).trans c1
        have d2 := (hb.cell (p := ⟨g, i * 4 + 2, none⟩) (block_lt_of_cell c2)).trans c2
        have d3 := (hb.cell (p := ⟨g, i * 4 + 3, none⟩) (block_lt_of_cell c3)).trans c3
        have hglt : g < wr.heap.size := block_lt_of_cell d0
        have hini : (i : Int) < n := by omega
        clear c0 c1 c2 c3
        have CA := hide fun (d : Nat) (os : Array Obj) => againstP_any m (K i) x x2 (grow (redrawn wr d) os) ((below_regrown wr d os).cell (p := ⟨m, 0, none⟩) (block_lt_of_cell hm') |>.trans hm')
        go_wp2_with fail
        refine wp_region_quiet_below (by kernel_rfl) (by kernel_rfl) ?_
        repeat (first | go_big_quiet_skip | quiet_step (exact Calls.regrown_of (CA.out _ _)))
        refine wpQuiet_nil ?_; intro wq hwq; replace hwq := below_of_regrown hwq; obtain ⟨hcq, hfq⟩ := bcell hwq; have hzq := hwq.size
        have hbq : Below wr.heap.size wr wq := hwq
        clear hcq hfq hzq CA
        go_wp2
        go_ret2
        exact ⟨i, by omega, HL.out, HR.out, by simp [hin], hb.trans (hbq.mono hb.size)⟩
      · go_wp2_with fail
        refine wp_region_quiet_below (by kernel_rfl) (by kernel_rfl) ?_
        repeat (first | go_big_quiet_skip | quiet_step (fail))
        refine wpQuiet_nil ?_; intro wq hwq; replace hwq := below_of_regrown hwq; obtain ⟨hcq, hfq⟩ := bcell hwq; have hzq := hwq.size
        have hbq : Below wr.heap.size wr wq := hwq
        clear hcq hfq hzq
        go_wp2
        go_ret2
        exact ⟨i, by omega, HL.out, HR.out, by simp [hin], hb.trans (hbq.mono hb.size)⟩

end Go.Proofs.YtnjalelblbjfiaaGreatDoor

namespace Go.Proofs.YtnjalelblbjfiaaGreatDoor
open Go.RowKit
open Go.Sort (grow)
attribute [local go_sem] cell?_regrown

theorem cmpPl_neg {v1 v2 : Int} {m1 m2 : List UInt8} : cmpPl v1 m1 v2 m2 < 0 ↔ v1 < v2 ∨ (v1 = v2 ∧ Op.bytesLess m1 m2 = true) := by
  unfold cmpPl
  by_cases h : cmpI v1 v2 = 0
  · rw [if_pos h, cmpS_neg]
    rw [cmpI_zero] at h
    subst h
    simp
  · rw [if_neg h, cmpI_lt]
    rw [cmpI_zero] at h
    constructor
    · exact .inl
    · rintro (h' | ⟨h', _⟩)
      · exact h'
      · exact absurd h' h
theorem cmpPl_zero {v1 v2 : Int} {m1 m2 : List UInt8} : cmpPl v1 m1 v2 m2 = 0 ↔ v1 = v2 ∧ m1 = m2 := by
  unfold cmpPl
  by_cases h : cmpI v1 v2 = 0
  · rw [if_pos h, cmpS_zero]
    rw [cmpI_zero] at h
    simp [h]
  · rw [if_neg h]
    constructor
    · exact fun e => absurd e h
    · rintro ⟨e, _⟩
      exact cmpI_zero.2 e
theorem cmpPl_trans {v1 v2 v3 : Int} {m1 m2 m3 : List UInt8} (h : cmpPl v1 m1 v2 m2 < 0) (k : cmpPl v2 m2 v3 m3 < 0) : cmpPl v1 m1 v3 m3 < 0 := by
  rw [cmpPl_neg] at *
  rcases h with h | ⟨rfl, h⟩
  · rcases k with k | ⟨rfl, _⟩
    · exact .inl (by omega)
    · exact .inl h
  · rcases k with k | ⟨rfl, k⟩
    · exact .inl k
    · exact .inr ⟨rfl, bytesLess_trans h k⟩

/-- In order of VLANs, then of MACs. -/
abbrev SortedP (K : List Mc) : Prop := K.Pairwise fun a b => cmpM a b.vlan b.mac < 0
def kAt (K : List Mc) (j : Nat) : Mc := (K[j]?).getD ⟨0, ByteArray.empty, 0, 0⟩
theorem kAt_eq {K : List Mc} {j : Nat} (h : j < K.length) : kAt K j = K[j] := by simp [kAt, h]
/-- The cells of the entries. -/
def rowP (K : List Mc) : List Value := K.flatMap fun e => [.int .i64 e.vlan, .string e.mac, .int .i64 e.port, .int .i64 e.age]
theorem rowP_length (K : List Mc) : (rowP K).length = K.length * 4 := by
  induction K with
  | nil => rfl
  | cons e t ih => simp [rowP] at ih ⊢; omega
theorem rowP_append (a b : List Mc) : rowP (a ++ b) = rowP a ++ rowP b := List.flatMap_append
theorem rowP_get : ∀ (K : List Mc) (k : Nat) (hk : k < K.length), (rowP K)[k * 4]? = some (.int .i64 K[k].vlan) ∧ (rowP K)[k * 4 + 1]? = some (.string K[k].mac) ∧ (rowP K)[k * 4 + 2]? = some (.int .i64 K[k].port) ∧ (rowP K)[k * 4 + 3]? = some (.int .i64 K[k].age)
  | [], k, hk => absurd hk (by simp)
  | p :: t, 0, _ => ⟨rfl, rfl, rfl, rfl⟩
  | p :: t, k + 1, hk => by
    have := rowP_get t k (by simpa using hk)
    have e : (k + 1) * 4 = k * 4 + 4 := by omega
    rw [e]
    exact this

/-- A map of places: the order, the entries. -/
def MapP (w : World) (m : Nat) (sv : Value) (K : List Mc) : Prop :=
  w.cell? ⟨m, 0, none⟩ = some (.func (.func 167) #[] #[]) ∧ w.cell? ⟨m, 1, none⟩ = some sv ∧ w.ownsRow 0 308 4 sv K.length (rowP K) ∧ (∀ j, w.frozen? ⟨m, j, none⟩ = false) ∧ K.length ≤ 200
theorem rowP_cells {w : World} {sv : Value} {K : List Mc} (h : w.ownsRow 0 308 4 sv K.length (rowP K)) : ∃ a cap g, sv = .slice a K.length cap ∧ ∀ j, j < K.length → a = some ⟨g, 0, none⟩ ∧ w.cell? ⟨g, j * 4, none⟩ = some (.int .i64 (kAt K j).vlan) ∧ w.cell? ⟨g, j * 4 + 1, none⟩ = some (.string (kAt K j).mac) ∧ w.cell? ⟨g, j * 4 + 2, none⟩ = some (.int .i64 (kAt K j).port) ∧ w.cell? ⟨g, j * 4 + 3, none⟩ = some (.int .i64 (kAt K j).age) := by
  rcases h.2 with ⟨hv, h0⟩ | ⟨g, cap, cur, hv, _⟩
  · exact ⟨none, 0, 0, by rw [hv, h0], fun j hj => by omega⟩
  · refine ⟨_, cap, g, hv, fun j hj => ⟨rfl, ?_⟩⟩
    rw [hv] at h
    have := rowP_get K j hj
    rw [kAt_eq hj]
    exact ⟨(h.cellAt _ (by omega)).trans this.1, (h.cellAt _ (by omega)).trans this.2.1, (h.cellAt _ (by omega)).trans this.2.2.1, (h.cellAt _ (by omega)).trans this.2.2.2⟩

theorem sortedP_mono {K : List Mc} (hs : SortedP K) (x : Int) (b : ByteArray) : ∀ i j, i ≤ j → j < K.length → cmpM (kAt K j) x b < 0 → cmpM (kAt K i) x b < 0 := fun i j hij hj h => by
  rcases Nat.lt_or_eq_of_le hij with hlt | rfl
  · rw [kAt_eq hj] at h
    rw [kAt_eq (by omega)]
    exact cmpPl_trans (List.pairwise_iff_getElem.1 hs i j _ _ hlt) h
  · exact h

set_option maxRecDepth 100000 in
set_option maxHeartbeats 1000000 in
theorem placeP_any (m : Nat) (sv : Value) (K : List Mc) (x : Int) (b : ByteArray) (w : World) (hm : MapP w m sv K) (hs : SortedP K) :
    Calls Tryz.prog 207 #[.pointer (some ⟨m, 0, none⟩), .agg #[.int .i64 x, .string b]] w fun e w' => ∃ i : Nat, i ≤ K.length ∧ (∀ j, j < i → cmpM (kAt K j) x b < 0) ∧ (∀ j, i ≤ j → j < K.length → 0 ≤ cmpM (kAt K j) x b) ∧ e = .returned (.tuple #[.int .i64 i, .bool (decide (i < K.length) && (cmpM (kAt K i) x b == 0))]) ∧ Below w.heap.size w w' := by
  obtain ⟨h0, h1, h2, h3, h4⟩ := hm
  have hmlt : m < w.heap.size := block_lt_of_cell h0
  have hlt1 : m < w.heap.size + 1 := by omega
  obtain ⟨i0, a1, a2, a3⟩ := cut_exists K.length (fun j => cmpM (kAt K j) x b) (sortedP_mono hs x b)
  obtain ⟨a, cap, g, rfl, hc⟩ := rowP_cells h2
  have CB := hide fun (W : World) (hb : Below w.heap.size w W) => ((bsP_any m g cap K.length a (kAt K) x b W h4 ((hb.cell (p := ⟨m, 0, none⟩) hmlt).trans h0) (fun j hj => by
      obtain ⟨e, c0, c1, c2, c3⟩ := hc j hj
      exact ⟨e, (hb.cell (p := ⟨g, j * 4, none⟩) (block_lt_of_cell c0)).trans c0, (hb.cell (p := ⟨g, j * 4 + 1, none⟩) (block_lt_of_cell c1)).trans c1, (hb.cell (p := ⟨g, j * 4 + 2, none⟩) (block_lt_of_cell c2)).trans c2, (hb.cell (p := ⟨g, j * 4 + 3, none⟩) (block_lt_of_cell c3)).trans c3⟩) (sortedP_mono hs x b)).mono
    fun e w' ⟨i, b1, b2, b3, he, hb'⟩ => by
      have e1 := cut_unique b1 b2 b3 a1 a2 a3
      subst e1
      exact (⟨he, hb'⟩ : e = .returned (.tuple #[.int .i64 i, .bool (decide (i < K.length) && (cmpM (kAt K i) x b == 0))]) ∧ Below W.heap.size W w'))
  have A2 := hide a2
  have A3 := hide a3
  clear h2 h3 hc hs a2 a3
  go_enter Tryz.func207, Tryz.ntmps207
  go_wp2_with fail
  refine wp_region_quiet_below (by kernel_rfl) (by kernel_rfl) ?_
  repeat (quiet_step (exact Calls.regrown_of (CB.out _ (Below.trans ((Below.refl w.heap.size w).alloc (Nat.le_refl _) _) ((below_regrown _ _ _).mono (by simp))))))
  refine wpQuiet_nil ?_; intro wq hwq; replace hwq := below_of_regrown hwq; obtain ⟨hcq, hfq⟩ := bcell hwq; have hzq := hwq.size
  go_wp2
  go_ret2
  exact ⟨i0, a1, A2.out, A3.out, rfl, Below.trans (by repeat (first | exact Below.refl _ _ | assumption | refine Below.drewN ?_ | refine Below.drew ?_ | refine Below.setCell ?_ (by first | exact Nat.le_refl _ | omega | (simp; done) | (simp; omega)) _ | refine Below.alloc ?_ (by first | exact Nat.le_refl _ | omega | (simp; done) | (simp; omega)) _)) (hwq.mono (by first | exact Nat.le_refl _ | omega | (simp; done) | (simp; omega)))⟩

theorem lenP_any (m : Nat) (a : Option Addr) (n cap : Nat) (w : World) (h1 : w.cell? ⟨m, 1, none⟩ = some (.slice a n cap)) :
    Calls Tryz.prog 119 #[.pointer (some ⟨m, 0, none⟩)] w fun e w' => e = .returned (.int .i64 n) ∧ w' = w := by
  go_enter Tryz.func119, Tryz.ntmps119
  go_wp2
  go_ret
  exact ⟨rfl, rfl⟩

set_option maxRecDepth 100000 in
set_option maxHeartbeats 400000 in
theorem newP_any (w : World) : Calls Tryz.prog 166 #[.func (.func 167) #[] #[]] w fun e w' => e = .returned (.pointer (some ⟨w.heap.size, 0, none⟩)) ∧ w' = w.alloc (.cells #[.func (.func 167) #[] #[], .slice none 0 0] 305) := by
  go_enter Tryz.func166, Tryz.ntmps166
  go_wp2
  go_ret
  exact ⟨rfl, rfl⟩

/-- What is known of a MAC in a VLAN. -/
def known (K : List Mc) (x : Int) (b : ByteArray) : Option Mc := K.find? fun e => e.vlan == x && e.mac.toList == b.toList
theorem cmpM_zero {e : Mc} {x : Int} {b : ByteArray} : cmpM e x b = 0 ↔ (e.vlan == x && e.mac.toList == b.toList) = true := by
  unfold cmpM
  rw [cmpPl_zero]
  simp
theorem after_pos {K : List Mc} {x : Int} {b : ByteArray} {i : Nat} (hR : ∀ j, i ≤ j → j < K.length → 0 ≤ cmpM (kAt K j) x b) (hs : SortedP K) (h : ¬ (i < K.length ∧ cmpM (kAt K i) x b = 0)) : ∀ j, i ≤ j → j < K.length → 0 < cmpM (kAt K j) x b := fun j h1 h2 => by
  have a := hR j h1 h2
  rcases Int.lt_or_eq_of_le a with h' | h'
  · exact h'
  · exfalso
    rcases Nat.lt_or_eq_of_le h1 with h3 | rfl
    · have e := h'.symm
      unfold cmpM at e
      rw [cmpPl_zero] at e
      have c := List.pairwise_iff_getElem.1 hs i j (by omega) h2 h3
      have d := hR i (Nat.le_refl _) (by omega)
      rw [kAt_eq h2] at e
      rw [kAt_eq (by omega)] at d
      unfold cmpM at c d
      rw [e.1, e.2] at c
      omega
    · exact h ⟨h2, h'.symm⟩
theorem known_get {K : List Mc} {x : Int} {b : ByteArray} {i : Nat} (hL : ∀ j, j < i → cmpM (kAt K j) x b < 0) (hR : ∀ j, i ≤ j → j < K.length → 0 ≤ cmpM (kAt K j) x b) (hs : SortedP K) :
    known K x b = if h : i < K.length ∧ cmpM (kAt K i) x b = 0 then some (K[i]'h.1) else none := by
  unfold known
  split
  · rename_i h
    rw [List.find?_eq_some_iff_getElem]
    refine ⟨by rw [← kAt_eq h.1]; exact cmpM_zero.1 h.2, i, h.1, rfl, fun j hj => ?_⟩
    have := hL j hj
    rw [kAt_eq (by omega)] at this
    rw [Bool.not_eq_true', ← Bool.not_eq_true, ← cmpM_zero]
    omega
  · rename_i h
    have h2 := after_pos hR hs h
    rw [List.find?_eq_none]
    intro e he
    obtain ⟨j, hj, rfl⟩ := List.getElem_of_mem he
    rw [← cmpM_zero, ← kAt_eq hj]
    rcases Nat.lt_or_ge j i with h1 | h1
    · have := hL j h1; omega
    · have := h2 j h1 hj; omega

theorem ownsRow_keep {w w' : World} {B : Nat} {t : TypeId} {s n : Nat} {sv : Value} {xs : List Value} (h : w.ownsRow B t s sv n xs) (hs : ∀ g, sv.ownBlock = some g → w'.heap[g]? = w.heap[g]?) : w'.ownsRow B t s sv n xs := by
  refine ⟨h.1, ?_⟩
  rcases h.2 with hn | ⟨g, cap, cur, rfl, hb, hg, rest⟩
  · exact .inl hn
  · exact .inr ⟨g, cap, cur, rfl, hb, (hs g rfl).trans hg, rest⟩
theorem MapP.below {w w' : World} {m : Nat} {sv : Value} {K : List Mc} (hm : MapP w m sv K) (hb : Below w.heap.size w w') : MapP w' m sv K :=
  ⟨(hb.cell (p := ⟨m, 0, none⟩) (block_lt_of_cell hm.1)).trans hm.1, (hb.cell (p := ⟨m, 1, none⟩) (block_lt_of_cell hm.2.1)).trans hm.2.1, ownsRow_keep hm.2.2.1 (fun g hg => hb.block g (hm.2.2.1.lt g hg).2), fun j => (hb.frozen (p := ⟨m, j, none⟩) (show m < w.heap.size from block_lt_of_cell hm.1)).trans (hm.2.2.2.1 j), hm.2.2.2.2⟩

theorem underSeen : ∃ d, Tryz.prog.underlying 238 = some d ∧ d.isRow = true := isRow_of (by kernel_rfl)
theorem sizeSeen : (Tryz.prog.info? 238).map (·.size) = some 2 := by kernel_rfl
theorem results_mid_tmp {P : Program} {fn : Func} {p t : Tmp} {ty : TypeId} (h : fn.results = #[.cell p ty, .tmp t]) (tmps : Array Value) (w : World) (b o : Nat) (cs : List Value) (d : TypeDesc) (hp : tmps.getD p undef = .pointer (some ⟨b, o, none⟩)) (hc : w.rangeAt b o cs)
    (hu : P.underlying ty = some d) (hd : d.isRow = true) (hi : (P.info? ty).map (·.size) = some cs.length) : (results fn tmps).run P w = .ok (.tuple #[.agg cs.toArray, tmps.getD t undef]) w := by
  have hp' : tmps[p]?.getD undef = .pointer (some ⟨b, o, none⟩) := by simpa using hp
  simp [results, h, hp', asAddr, run_loadVar_mid w b o ty cs d hc hu hd hi]
theorem range2 {W : World} {b : Nat} {x0 x1 : Value} (g0 : W.cell? ⟨b, 0, none⟩ = some x0) (g1 : W.cell? ⟨b, 1, none⟩ = some x1) : W.rangeAt b 0 [x0, x1] := fun j v hv => by
  rw [Nat.zero_add]
  match j with
  | 0 => rw [g0]; exact hv
  | 1 => rw [g1]; exact hv
  | j + 2 => cases hv
def seenV (o : Option Mc) : Value := match o with | some e => .agg #[.int .i64 e.port, .int .i64 e.age] | none => .agg #[.int .i64 0, .int .i64 0]

set_option maxRecDepth 100000 in
set_option maxHeartbeats 1000000 in
theorem getP_any (m : Nat) (sv : Value) (K : List Mc) (x : Int) (b : ByteArray) (w : World) (hm : MapP w m sv K) (hs : SortedP K) :
    Calls Tryz.prog 180 #[.pointer (some ⟨m, 0, none⟩), .agg #[.int .i64 x, .string b]] w fun e w' => e = .returned (.tuple #[seenV (known K x b), .bool (known K x b).isSome]) ∧ Below w.heap.size w w' := by
  have CP := hide fun (W : World) (hb : Below w.heap.size w W) => placeP_any m sv K x b W (hm.below hb) hs
  obtain ⟨h0, h1, h2, h3, h4⟩ := hm
  obtain ⟨a, cap, g, rfl, hc⟩ := rowP_cells h2
  obtain ⟨ds, hus, hds⟩ := underSeen
  have hmlt : m < w.heap.size := block_lt_of_cell h0
  clear h2 h3
  go_enter Tryz.func180, Tryz.ntmps180
  obtain ⟨res, hres⟩ : ∃ res, res = known K x b := ⟨_, rfl⟩
  rw [← hres]
  go_wp2_with fail
  obtain ⟨W, hW⟩ : ∃ W, W = (w.alloc (.cells #[.int .i64 x, .string b] 236)).alloc (.cells #[.int .i64 0, .int .i64 0] 238) := ⟨_, rfl⟩
  rw [← hW]
  have hbW : Below w.heap.size w W := by rw [hW]; exact ((Below.refl _ w).alloc (Nat.le_refl _) _).alloc (by simp) _
  have hsW : W.heap.size = w.heap.size + 2 := by rw [hW]; simp
  have r0 : W.cell? ⟨w.heap.size + 1, 0, none⟩ = some (.int .i64 0) := by rw [hW]; exact (World.cell?_alloc_at _ _ _ _ (by simp)).trans rfl
  have r1 : W.cell? ⟨w.heap.size + 1, 1, none⟩ = some (.int .i64 0) := by rw [hW]; exact (World.cell?_alloc_at _ _ _ _ (by simp)).trans rfl
  have f0 : ∀ j, W.frozen? ⟨w.heap.size + 1, j, none⟩ = false := fun j => by rw [hW]; exact World.frozen?_alloc_at _ _ _ _ (by simp)
  refine (CP.out W hbW).mono ?_
  rintro e w1 ⟨i, hi, hL, hR, rfl, hb⟩
  have HF := hide (known_get hL hR hs)
  have q0 := cell_later hb r0
  have q1 := cell_later hb r1
  have f1 : w1.frozen? ⟨w.heap.size + 1, 0, none⟩ = false := (hb.frozen (p := ⟨w.heap.size + 1, 0, none⟩) (show w.heap.size + 1 < W.heap.size by omega)).trans (f0 0)
  have f2 : w1.frozen? ⟨w.heap.size + 1, 1, none⟩ = false := (hb.frozen (p := ⟨w.heap.size + 1, 1, none⟩) (show w.heap.size + 1 < W.heap.size by omega)).trans (f0 1)
  have hsz1 : w.heap.size + 1 < w1.heap.size := by have := hb.size; omega
  have hszn : ¬ w1.heap.size = w.heap.size + 1 := by omega
  have hszm : ¬ w.heap.size + 1 = w1.heap.size := by omega
  have HB := hide (hbW.trans (hb.mono hbW.size))
  have HRES := hide hres
  clear CP hL hR hs r0 r1 f0 hW hres
  by_cases h : i < K.length ∧ cmpM (kAt K i) x b = 0
  · obtain ⟨ha, c0, c1, c2, c3⟩ := hc i h.1
    subst ha
    have hx : (cmpM (kAt K i) x b == 0) = true := by simp [h.2]
    have hd : decide (i < K.length) = true := by simp [h.1]
    have d2 := (HB.out.cell (p := ⟨g, i * 4 + 2, none⟩) (block_lt_of_cell c2)).trans c2
    have d3 := (HB.out.cell (p := ⟨g, i * 4 + 3, none⟩) (block_lt_of_cell c3)).trans c3
    have e1 := (HB.out.cell (p := ⟨m, 1, none⟩) hmlt).trans h1
    have hil : (i : Int) < K.length := by omega
    have hF : res = some (kAt K i) := by rw [HRES.out, HF.out, dif_pos h]; exact congrArg some (kAt_eq h.1).symm
    have HFF := hide hF
    have hglt : g < w.heap.size := block_lt_of_cell c0
    have hgne : ¬ g = w.heap.size + 1 := by omega
    have hgne2 : ¬ w.heap.size + 1 = g := by omega
    have hmne : ¬ m = w.heap.size + 1 := by omega
    generalize kAt K i = ei at *
    clear hc hF c0 c1 c2 c3 h
    go_wp2
    refine bodyPost_ret (results_mid_tmp rfl _ _ (w.heap.size + 1) 0 [.int .i64 ei.port, .int .i64 ei.age] ds rfl (range2 ?_ ?_) hus hds sizeSeen) rfl ?_
    · go_simp
    · go_simp
    · exact ⟨by rw [HFF.out]; rfl, (HB.out.setCell (by simp) _).setCell (by simp) _⟩
  · have hx : (decide (i < K.length) && (cmpM (kAt K i) x b == 0)) = false := by
      rw [← Bool.not_eq_true, Bool.and_eq_true, decide_eq_true_eq, beq_iff_eq]; exact h
    have hF : res = none := by rw [HRES.out, HF.out, dif_neg h]
    have HFF := hide hF
    clear hc hF h
    go_wp2
    refine bodyPost_ret (results_mid_tmp rfl _ _ (w.heap.size + 1) 0 [.int .i64 0, .int .i64 0] ds rfl (range2 ?_ ?_) hus hds sizeSeen) rfl ?_
    · go_simp
    · go_simp
    · exact ⟨by rw [HFF.out]; rfl, by have hb := HB.out; exact (by repeat (first | exact Below.refl _ _ | assumption | refine Below.drewN ?_ | refine Below.drew ?_ | refine Below.setCell ?_ (by first | exact Nat.le_refl _ | omega | (simp; done) | (simp; omega)) _ | refine Below.alloc ?_ (by first | exact Nat.le_refl _ | omega | (simp; done) | (simp; omega)) _))⟩

end Go.Proofs.YtnjalelblbjfiaaGreatDoor
