import Derived.Test.YtaejpejfmpbinaaGreatDoorP7
import Derived.Deep.RegionHeld3
import Derived.Shelf.RegionOpenPlain
import Derived.Deep.AppendLies
import Derived.Shelf.Abstract
namespace Go.Proofs.YtaejpejfmpbinaaGreatDoor
open Go.RowKit
open Go.Sort (grow)
attribute [local go_sem] cell?_regrown

theorem infoOut : (Tryz.prog.info? 32).map (fun i => (i.zero, i.size, i.bytes)) = some (some (.agg #[.int .i64 0, .string ⟨#[]⟩]), 2, 24) := by kernel_rfl
/-- The cells of what goes out. -/
def rowO (L : List (Int × ByteArray)) : List Value := L.flatMap fun e => [.int .i64 e.1, .string e.2]
theorem rowO_append (a b : List (Int × ByteArray)) : rowO (a ++ b) = rowO a ++ rowO b := List.flatMap_append
theorem ownsRow_blk {w w' : World} {B : Nat} {t : TypeId} {s n : Nat} {v : Value} {xs : List Value} (h : w.ownsRow B t s v n xs) (hk : ∀ b, v.ownBlock = some b → w'.heap[b]? = w.heap[b]?) : w'.ownsRow B t s v n xs := by
  refine ⟨h.1, h.2.imp id ?_⟩
  rintro ⟨g, cap, cur, e, h1, h2, h3⟩
  exact ⟨g, cap, cur, e, h1, (hk g (by rw [e]; rfl)).trans h2, h3⟩
theorem ownsRow_lt {w : World} {B : Nat} {t : TypeId} {s n : Nat} {v : Value} {xs : List Value} (h : w.ownsRow B t s v n xs) {b : Nat} (hb : v.ownBlock = some b) : B ≤ b ∧ b < w.heap.size := by
  rcases h.2 with ⟨e, _⟩ | ⟨g, cap, cur, e, h1, h2, _⟩
  · rw [e] at hb; cases hb
  · rw [e] at hb
    obtain rfl : g = b := by simpa [Value.ownBlock] using hb
    exact ⟨h1, by
      rcases Nat.lt_or_ge g w.heap.size with h | h
      · exact h
      · rw [Array.getElem?_eq_none h] at h2; cases h2⟩
theorem ownsRow_blw {w w' : World} {B : Nat} {t : TypeId} {s n : Nat} {v : Value} {xs : List Value} (h : w.ownsRow B t s v n xs) (hb : Below w.heap.size w w') : w'.ownsRow B t s v n xs :=
  ownsRow_blk h fun b hb' => hb.block b (ownsRow_lt h hb').2

/-- The blocks below B but g are as they were. -/
def OnlyB (B g : Nat) (w w' : World) : Prop := w'.os = w.os ∧ w'.tape = w.tape ∧ w'.output = w.output ∧ w.heap.size ≤ w'.heap.size ∧ ∀ b, b < B → b ≠ g → w'.heap[b]? = w.heap[b]?
theorem OnlyB.of_below {B g : Nat} {w w' : World} (h : Below w.heap.size w w') (hB : B ≤ w.heap.size) : OnlyB B g w w' := ⟨h.os, h.tape, h.output, h.size, fun b hb _ => h.block b (by omega)⟩
theorem OnlyB.trans {B g : Nat} {a b c : World} (h : OnlyB B g a b) (k : OnlyB B g b c) : OnlyB B g a c :=
  ⟨k.1.trans h.1, k.2.1.trans h.2.1, k.2.2.1.trans h.2.2.1, Nat.le_trans h.2.2.2.1 k.2.2.2.1, fun x hx hne => (k.2.2.2.2 x hx hne).trans (h.2.2.2.2 x hx hne)⟩
theorem OnlyB.set {B g : Nat} {w w' : World} (h : OnlyB B g w w') (b i : Nat) (v : Value) (hb : b = g ∨ B ≤ b) : OnlyB B g w (w'.setCell ⟨b, i, none⟩ v) :=
  ⟨h.1, h.2.1, h.2.2.1, by simp; exact h.2.2.2.1, fun x hx hne => (heap_setCell_other _ _ x _ (by rcases hb with rfl | hb; exact hne; exact fun (e : x = b) => by omega)).trans (h.2.2.2.2 x hx hne)⟩
theorem OnlyB.grown {B g : Nat} {w w' w2 : World} {row : Option Nat} (h : OnlyB B g w w') (hg : w'.grownBy w2 row) (hr : ∀ r, row = some r → B ≤ r) (hB : B ≤ w'.heap.size) : OnlyB B g w w2 :=
  ⟨hg.os.trans h.1, hg.tape.trans h.2.1, hg.output.trans h.2.2.1, Nat.le_trans h.2.2.2.1 hg.size, fun x hx hne => (hg.block x (by omega) (fun e => by have := hr x e.symm; omega)).trans (h.2.2.2.2 x hx hne)⟩
theorem OnlyB.onlyG {g : Nat} {w w' : World} (h : OnlyB w.heap.size g w w') : OnlyG g w w' := h

/-- A frame as it goes out at a port. -/
def outF (p : Prt) (f : Fr) : ByteArray := bytesF { f with tagged := f.vlan != p.nat }
/-- Whether a port is one of a VLAN. -/
def hasV (p : Prt) (v : Int) : Bool := v == p.nat || p.tg v

attribute [local go_sem] Oper.semAt_some
/-- append, not laid open by the walk. -/
def appN (ats : Array TypeId) (ty : TypeId) (args : Array Value) : Sem Value := Builtin.append_ ats ty args
theorem append_fold (ats : Array TypeId) (ty : TypeId) (args : Array Value) : Builtin.append_ ats ty args = appN ats ty args := rfl
theorem appN_run {P : Program} {ats : Array TypeId} {ty : TypeId} {args : Array Value} {w w' : World} {v : Value} (h : (Builtin.append_ ats ty args).run P w = .ok v w') : (appN ats ty args).run P w = .ok v w' := h
attribute [local go_sem ↓ high] append_fold
theorem tagS_size (g : Bool) (v k : Int) : (tagS g v k).size ≤ 4 := by
  unfold tagS
  cases g
  · exact Nat.zero_le _
  · simp [ByteArray.size]
set_option maxRecDepth 100000 in
set_option maxHeartbeats 2000000 in
theorem leave_any (s g B : Nat) (pv v : Value) (P : List Prt) (p : Pg) (outs : List (Int × ByteArray)) (k : Nat) (w : World) (h0 : w.cell? ⟨s, 0, none⟩ = some pv) (hp : PortsAt w pv P) (hg : PgAt w g p v) (hk : k < P.length)
    (hv : (Lit.int .i64 p.f.vlan).wf = true) (hown : w.ownsRow B 32 2 v outs.length (rowO outs)) (hB : B ≤ w.heap.size) (hn : outs.length ≤ 100) (hgB : ∀ b, v.ownBlock = some b → b ≠ g)
    (hl : p.f.to.size + p.f.fr.size + p.f.ty.size + p.f.rest.size ≤ 1000) :
    Calls Tryz.prog 57 #[.pointer (some ⟨s, 0, none⟩), .pointer (some ⟨g, 0, none⟩), .int .i64 k] w fun e w' => e = .returned (.tuple #[]) ∧ ∃ v', PgAt w' g p v' ∧ (let os' := if hasV P[k] p.f.vlan then outs ++ [((k : Int), outF P[k] p.f)] else outs; w'.ownsRow B 32 2 v' os'.length (rowO os')) ∧ (∀ b, v'.ownBlock = some b → b ≠ g) ∧ OnlyB B g w w' := by
  obtain ⟨a, cap, b, rfl, hc⟩ := hp
  obtain ⟨rfl, n0, mv, n1, ht⟩ := hc k hk
  obtain ⟨mo, rfl⟩ : ∃ mo, mv = .map mo := by rcases ht with ⟨rfl, _⟩ | ⟨b, n, D, rfl, _⟩ <;> exact ⟨_, rfl⟩
  have hkl : (k : Int) < P.length := by omega
  have hkl2 : (0 : Int) ≤ k := by omega
  obtain ⟨i0, hi0, hz0, hz1, hz2⟩ := info_parts infoOut
  generalize hat : P[k] = at_ at *
  clear hc hat
  have CH := hide fun (d : Nat) (os : Array Obj) => has_any at_.nat (.map mo) at_.tg p.f.vlan (grow (redrawn w d) os) (ht.below (below_regrown w d os)) hv
  have g5 : w.cell? ⟨g, 5, none⟩ = some (.int .i64 p.f.vlan) := hg.cell rfl
  have hglt := hg.lt
  have hslt := block_lt_of_cell h0
  have hblt := block_lt_of_cell n0
  have HG := hide hg
  have HO := hide hown
  have HGB := hide hgB
  have HH : hasV at_ p.f.vlan = (p.f.vlan == at_.nat || at_.tg p.f.vlan) := rfl
  generalize hasV at_ p.f.vlan = hv_ at HH
  rw [← HH] at CH
  clear hg hown hgB ht HH
  go_enter Tryz.func57, Tryz.ntmps57
  go_wp2
  refine wp_region_quiet_below (by kernel_rfl) (by kernel_rfl) ?_
  repeat (first | go_big_quiet_skip | quiet_step (exact Calls.regrown_of (CH.out _ _)))
  refine wpQuiet_nil ?_; intro wq hwq; replace hwq := below_of_regrown hwq; obtain ⟨hcq, hfq⟩ := bcell hwq; have hzq := hwq.size
  have HQ := hide hwq
  clear hcq hfq
  obtain ⟨nv, hnv⟩ : ∃ nv : Nat, nv = wq.heap.size := ⟨_, rfl⟩
  have PQ := HG.out.below hwq
  cases hv_ with
  | false =>
    go_wp2
    refine bodyPost_ret (results_none rfl _ _ _) rfl ?_
    exact ⟨rfl, v, PQ, ownsRow_blw HO.out HQ.out, HGB.out, OnlyB.of_below HQ.out hB⟩
  | true =>
    have q0 := cell_later hwq h0
    have q1 := cell_later hwq n0
    have d0 : wq.cell? ⟨g, 2, none⟩ = some (.string p.f.to) := PQ.cell rfl
    have d1 : wq.cell? ⟨g, 3, none⟩ = some (.string p.f.fr) := PQ.cell rfl
    have d2 : wq.cell? ⟨g, 4, none⟩ = some (.bool p.f.tagged) := PQ.cell rfl
    have d3 : wq.cell? ⟨g, 5, none⟩ = some (.int .i64 p.f.vlan) := PQ.cell rfl
    have d4 : wq.cell? ⟨g, 6, none⟩ = some (.int .i64 p.f.mark) := PQ.cell rfl
    have d5 : wq.cell? ⟨g, 7, none⟩ = some (.string p.f.ty) := PQ.cell rfl
    have d6 : wq.cell? ⟨g, 8, none⟩ = some (.string p.f.rest) := PQ.cell rfl
    have HPQ := hide PQ
    have HOQ := hide (ownsRow_blw HO.out HQ.out)
    clear PQ h0 n0 n1 g5 hwq HO HG
    have hsq : s < wq.heap.size := by omega
    have hbq : b < wq.heap.size := by omega
    have nsq : ¬ s = wq.heap.size := by omega
    have nbq : ¬ b = wq.heap.size := by omega
    have hfl : (tagS (p.f.vlan != at_.nat) p.f.vlan p.f.mark).size ≤ 4 := tagS_size _ _ _
    have CB := hide fun (W : World) => bytes_any { p.f with tagged := p.f.vlan != at_.nat } W (by show p.f.to.size + p.f.fr.size + (tagS (p.f.vlan != at_.nat) p.f.vlan p.f.mark).size + p.f.ty.size + p.f.rest.size ≤ _; omega)
    go_wp2
    go_region
    generalize hW2 : World.drew _ = W2
    have hB2 : Below wq.heap.size wq W2 := by rw [← hW2]; exact ((Below.refl _ wq).alloc (Nat.le_refl _) _).drew
    have hs2 : W2.heap.size = wq.heap.size + 1 := by rw [← hW2]; simp
    have b2 : W2.heap[wq.heap.size]? = some (.cells (frCells { p.f with tagged := p.f.vlan != at_.nat }) 61 (0, 0)) := by rw [← hW2]; exact allocN wq _
    clear hW2 q0 q1 d0 d1 d2 d3 d4 d5 d6
    have P2 := HPQ.out.below hB2
    have O2 := ownsRow_blw HOQ.out hB2
    have c14 : W2.cell? ⟨g, 14, none⟩ = some v := P2.cell rfl
    have f0 : W2.cell? ⟨wq.heap.size, 0, none⟩ = some (.string p.f.to) := cellRow b2 rfl
    have f1 : W2.cell? ⟨wq.heap.size, 1, none⟩ = some (.string p.f.fr) := cellRow b2 rfl
    have f2 : W2.cell? ⟨wq.heap.size, 2, none⟩ = some (.bool (p.f.vlan != at_.nat)) := cellRow b2 rfl
    have f3 : W2.cell? ⟨wq.heap.size, 3, none⟩ = some (.int .i64 p.f.vlan) := cellRow b2 rfl
    have f4 : W2.cell? ⟨wq.heap.size, 4, none⟩ = some (.int .i64 p.f.mark) := cellRow b2 rfl
    have f5 : W2.cell? ⟨wq.heap.size, 5, none⟩ = some (.string p.f.ty) := cellRow b2 rfl
    have f6 : W2.cell? ⟨wq.heap.size, 6, none⟩ = some (.string p.f.rest) := cellRow b2 rfl
    have ng : some g ≠ v.ownBlock := fun e => HGB.out g e.symm rfl
    have nfb : some wq.heap.size ≠ v.ownBlock := fun e => by have := (ownsRow_lt HOQ.out e.symm).2; omega
    have hgq : g < wq.heap.size := by have := HPQ.out.lt; omega
    have hzq' := HQ.out.size
    have HB2 := hide hB2
    have HO2 := hide O2
    have HP2 := hide P2
    clear b2 P2 O2 hB2
    go_wp2_with fail
    have hmx : Tryz.prog.follows .mixedOrders = true := by kernel_rfl
    go_region_with_o (first
        | (go_at_call 105; refine (CB.out _).mono ?_; rintro e w1 ⟨rfl, hb1⟩; have hB1 : Below W2.heap.size W2 w1 := Below.trans (b := _) (by repeat (first | exact Below.refl _ _ | assumption | refine Below.drewN ?_ | refine Below.drew ?_ | refine Below.setCell ?_ (by first | exact Nat.le_refl _ | omega | (simp; done) | (simp; omega)) _ | refine Below.alloc ?_ (by first | exact Nat.le_refl _ | omega | (simp; done) | (simp; omega)) _)) (hb1.mono (by first | exact Nat.le_refl _ | omega | (simp; done) | (simp; omega))); have k14 := cell_later hB1 c14; have hzw1 := hB1.size; have hgw1 : g < w1.heap.size := (by omega); have HO1 := hide (ownsRow_blw HO2.out hB1); have HP1 := hide (HP2.out.below hB1); have HB1 := hide hB1; obtain ⟨gg, cp, w3, hrun, hown3, hgrow, hatt, hlt⟩ := run_append_lies (P := Tryz.prog) (w1.alloc (.cells #[.int .i64 k, .string (bytesF { p.f with tagged := p.f.vlan != at_.nat })] 32)) 27 27 B 32 i0 _ 2 24 Tryz.underlying27 hi0 hz0 hz1 hz2 rfl (by omega) v outs.length (rowO outs) (HO1.out.alloc _) ⟨w1.heap.size, 0, none⟩ 1 1 [.int .i64 k, .string (outF at_ p.f)] (by rfl) (World.news_of_block (cs := #[.int .i64 k, .string (outF at_ p.f)]) (t := 32) (fr := (0, 0)) (allocN w1 _)) (by simp [Value.oneCell']) (by omega) (by unfold maxLen; omega) (by omega) (by simp; omega) (w1.heap.size + 1) (by simp); have hap := appN_run hrun; have PA := HP1.out.below ((Below.refl _ w1).alloc (Nat.le_refl _) (.cells #[.int .i64 k, .string (outF at_ p.f)] 32)); have P3 : PgAt w3 g p v := (hgrow.block g (by simp; omega) ng).trans PA; have hfz := P3.frozen 14; have hc3 : w3.cell? ⟨g, 14, none⟩ = some v := P3.cell rfl; have HA3 := hide hatt; have HG3 := hide hgrow; have HR3 := hide hown3; have HP3 := hide P3; clear hrun hb1 hB1 PA hatt hgrow hown3 P3))
    all_goals go_end0
    all_goals have hgg : gg ≠ g := HA3.out.elim (fun e => HGB.out gg e) (fun e => by omega)
    all_goals refine ⟨rfl, .slice (some ⟨gg, 0, none⟩) (outs.length + 1) cp, HP3.out.set 14 _ rfl, ?_, fun x hx => by obtain rfl : gg = x := (by simpa [Value.ownBlock] using hx); exact hgg, ?_⟩
    all_goals first
      | (have hown3 := HR3.out
         have hrow : rowO outs ++ [.int .i64 k, .string (outF at_ p.f)] = rowO (outs ++ [((k : Int), outF at_ p.f)]) := by rw [rowO_append]; rfl
         rw [hrow] at hown3
         show World.ownsRow _ B 32 2 _ (outs ++ [((k : Int), outF at_ p.f)]).length (rowO (outs ++ [((k : Int), outF at_ p.f)]))
         rw [List.length_append, List.length_singleton]
         exact ownsRow_blk hown3 fun x hx => by
           obtain rfl : gg = x := (by simpa [Value.ownBlock] using hx)
           exact heap_setCell_other _ _ _ _ hgg)
      | (refine OnlyB.set ?_ g 14 _ (.inl rfl)
         refine OnlyB.grown ?_ HG3.out (fun r hr => (ownsRow_lt HOQ.out hr).1) (by simp; omega)
         have hB3 : Below w.heap.size w w1 := HQ.out.trans ((HB2.out.trans (HB1.out.mono (by omega))).mono (by omega))
         exact OnlyB.of_below (hB3.alloc (by omega) _) hB)
end Go.Proofs.YtaejpejfmpbinaaGreatDoor
