import Derived.Test.YtnjalelblbjfiaaGreatDoorP32
import Derived.Deep.WholeRow
import Derived.Lib.QuietBelow
import Derived.BigQuiet
import Derived.Test.YtnjalelblbjfiaaGreatDoorP13
import Derived.Test.YtnjalelblbjfiaaGreatDoorP30
import Derived.Test.YtnjalelblbjfiaaGreatDoorP27
import Derived.Test.YtnjalelblbjfiaaGreatDoorP25
import Derived.Test.YtnjalelblbjfiaaGreatDoorP28
namespace Go.Proofs.YtnjalelblbjfiaaGreatDoor
open Go.RowKit
attribute [local go_sem] Oper.semAt_some
attribute [local go_sem ↓ high] append_fold

theorem infoXPort : (Tryz.prog.info? 159).map (fun i => (i.zero, i.size, i.bytes)) = some (some (.agg #[.int .i64 0, .slice none 0 0]), 2, 32) := by kernel_rfl
theorem underXPorts : Tryz.prog.underlying 85 = some (.slice 159) := by kernel_rfl
/-- A port at first. -/
def newPt : XPt := ⟨1, .slice none 0 0, []⟩
/-- append of a port. -/
theorem append_pt {w : World} {B : Nat} {v : Value} {L : List XPt} (h : RecOwn XPt.row B w 159 2 v L) (hB : B ≤ w.heap.size) (hn : L.length ≤ 1000) (_hone : ∀ q ∈ L, q.tv.oneCell' = true) : ∃ g cap w', (Builtin.append_ #[85, 85] 85 #[v, .slice (some ⟨w.heap.size, 0, none⟩) 1 1]).run Tryz.prog (w.alloc (.cells #[.int .i64 1, .slice none 0 0] 159)) = .ok (.slice (some ⟨g, 0, none⟩) (L.length + 1) cap) w' ∧ RecOwn XPt.row B w' 159 2 (.slice (some ⟨g, 0, none⟩) (L.length + 1) cap) (L ++ [newPt]) ∧ Chg (fun b => v.ownBlock = some b) w w' := by
  obtain ⟨i0, hi, hz0, hz1, hz2⟩ := info_parts infoXPort
  have hb : Below w.heap.size w (w.alloc (.cells #[.int .i64 1, .slice none 0 0] 159)) := (Below.refl _ w).alloc (Nat.le_refl _) _
  have hcn : ∀ j u, (recs XPt.row [newPt])[j]? = some u → (w.alloc (.cells #[.int .i64 1, .slice none 0 0] 159)).cell? ((⟨w.heap.size, 0, none⟩ : Addr).add j) = some u := fun q u hu => by rw [Addr.add_mid]; exact range_new w #[.int .i64 1, .slice none 0 0] 159 q u hu
  have h1 : ∀ u ∈ recs XPt.row [newPt], u.oneCell' = true := by simp [recs, XPt.row, newPt, Value.oneCell']
  have hO := (h.below hb).1
  obtain ⟨v', w', hap, hown', hgr, hiff⟩ := run_append_own (P := Tryz.prog) (w.alloc (.cells #[.int .i64 1, .slice none 0 0] 159)) B 85 85 159 i0 _ 2 32 underXPorts hi hz0 hz1 hz2 rfl (by decide) v L.length (recs XPt.row L) hO ⟨w.heap.size, 0, none⟩ 1 1 (recs XPt.row [newPt]) rfl hcn h1 (by unfold maxLen; omega) (by omega) (by simp; omega)
  have hv' : ∃ g cap, v' = .slice (some ⟨g, 0, none⟩) (L.length + 1) cap := by
    rcases hown'.2 with ⟨e, e2⟩ | ⟨g, cap, _, e, _⟩
    · omega
    · exact ⟨g, cap, e⟩
  obtain ⟨g, cap, rfl⟩ := hv'
  refine ⟨g, cap, w', hap, ⟨?_, fun e => by simp at e⟩, (Chg.of_below hb).trans (Chg.grown hgr fun _ hk => hk)⟩
  rw [List.length_append, recs_append]
  exact hown'
theorem xFresh_bad (n : Int) (w : World) (hn : n < 1 ∨ 8 < n) : Calls Tryz.prog 24 #[.int .i64 n] w fun e W => e = .returned (.pointer none) ∧ W = w := by
  by_cases h : n < 1
  · go_enter Tryz.func24, Tryz.ntmps24
    go_wp2
    go_ret
    exact ⟨rfl, rfl⟩
  · have h2 : (8 : Int) < n := by omega
    go_enter Tryz.func24, Tryz.ntmps24
    go_wp2
    go_ret
    exact ⟨rfl, rfl⟩
def freshX (pv : Value) (n : Nat) : XSt := ⟨pv, List.replicate n newPt, .slice none 0 0, [], .slice none 0 0, [], .slice none 0 0, [], .slice none 0 0, [], 0⟩
set_option maxRecDepth 100000 in
set_option maxHeartbeats 2000000 in
theorem xFresh_any (n : Nat) (w : World) (hn : 1 ≤ n ∧ n ≤ 8) (hp : 0 < w.heap.size) : Calls Tryz.prog 24 #[.int .i64 n] w fun e W => e = .returned (.pointer (some ⟨w.heap.size, 0, none⟩)) ∧ ∃ pv, XSw W w.heap.size (freshX pv n) ∧ Below w.heap.size w W ∧ ∀ b, pv.ownBlock = some b → w.heap.size < b := by
  have a1 : ¬ (n : Int) < 1 := by omega
  have a2 : ¬ (8 : Int) < n := by omega
  obtain ⟨W1, hW1⟩ : ∃ W1, W1 = w.alloc (.cells #[.slice none 0 0, .slice none 0 0, .slice none 0 0, .slice none 0 0, .slice none 0 0, .int .i64 0] 90) := ⟨_, rfl⟩
  obtain ⟨y, hy⟩ : ∃ y, y = w.heap.size := ⟨_, rfl⟩
  have hb1 : Below w.heap.size w W1 := by rw [hW1]; exact (Below.refl _ w).alloc (Nat.le_refl _) _
  have hyb : W1.heap[y]? = some (.cells #[.slice none 0 0, .slice none 0 0, .slice none 0 0, .slice none 0 0, .slice none 0 0, .int .i64 0] 90 (0, 0)) := by rw [hW1, hy]; exact allocN _ _
  have HB1 := hide hb1
  have HYB := hide hyb
  have HY := hide hy
  have HP := hide hp
  have HS1 : Hid (y + 1 ≤ W1.heap.size) := hide (Array.getElem?_eq_some_iff.1 hyb).1
  clear hb1 hyb hp
  go_enter Tryz.func24, Tryz.ntmps24
  go_wp2_with fail
  rw [← hW1, ← hy]
  clear hW1 hy
  go_loopw [4] (fun i wr => ∃ (k : Nat) (pv : Value), k ≤ n ∧ i = .int .i64 k ∧ wr.heap[y]? = some (.cells #[pv, .slice none 0 0, .slice none 0 0, .slice none 0 0, .slice none 0 0, .int .i64 0] 90 (0, 0)) ∧ RecOwn XPt.row (y + 1) wr 159 2 pv (List.replicate k newPt) ∧ Below w.heap.size w wr ∧ y + 1 ≤ wr.heap.size) (fun i _ => n - (intOf i).toNat)
  case atStart => exact ⟨0, .slice none 0 0, by omega, rfl, HYB.out, RecOwn.nil _ _ _ _ _, HB1.out, HS1.out⟩
  case round =>
    obtain ⟨k, pv, hk, rfl, hby, hown, hb, hsz⟩ := hrel
    by_cases hkl : k < n
    · have hki : (k : Int) < n := by omega
      obtain ⟨g3, cp3, w3, hap, hown3, hch3⟩ := append_pt hown hsz (by simp; omega) (fun q hq => by rw [List.eq_of_mem_replicate hq]; rfl)
      obtain ⟨la, lcap, lg, hlv, -⟩ := hown.row XPt.row_length
      have hap3 := appN_run hap
      rw [hlv] at hap3
      have c0 : wr.cell? ⟨y, 0, none⟩ = some pv := cellRow hby rfl
      have npv : pv.ownBlock ≠ some y := fun e => by have := hown.base e; omega
      have b3 := (hch3.block y (Array.getElem?_eq_some_iff.1 hby).1 npv).trans hby
      have c3 : w3.cell? ⟨y, 0, none⟩ = some pv := cellRow b3 rfl
      have f3 : w3.frozen? ⟨y, 0, none⟩ = false := frzRow b3 0
      have ly : y < wr.heap.size := block_lt_of_cell c0
      have ly3 : y < w3.heap.size := block_lt_of_cell c3
      have hb3 : Below w.heap.size w w3 := hb.trans (hch3.below hb.size fun b hb' => by have := hown.base hb'; have := HY.out; omega)
      rw [hlv] at c0 c3
      have HREL : Hid (∃ (k' : Nat) (pv' : Value), k' ≤ n ∧ Value.int IntKind.i64 ((k : Int) + 1) = .int .i64 k' ∧ (w3.setCell ⟨y, 0, none⟩ (.slice (some ⟨g3, 0, none⟩) ((List.replicate k newPt).length + 1) cp3)).heap[y]? = some (.cells #[pv', .slice none 0 0, .slice none 0 0, .slice none 0 0, .slice none 0 0, .int .i64 0] 90 (0, 0)) ∧ RecOwn XPt.row (y + 1) (w3.setCell ⟨y, 0, none⟩ (.slice (some ⟨g3, 0, none⟩) ((List.replicate k newPt).length + 1) cp3)) 159 2 pv' (List.replicate k' newPt) ∧ Below w.heap.size w (w3.setCell ⟨y, 0, none⟩ (.slice (some ⟨g3, 0, none⟩) ((List.replicate k newPt).length + 1) cp3)) ∧ y + 1 ≤ (w3.setCell ⟨y, 0, none⟩ (.slice (some ⟨g3, 0, none⟩) ((List.replicate k newPt).length + 1) cp3)).heap.size) := hide (by
        refine ⟨k + 1, .slice (some ⟨g3, 0, none⟩) ((List.replicate k newPt).length + 1) cp3, by omega, by go_num, (heap_setCell_same w3 y 0 _ 90 _ b3).trans (by simp), ?_, hb3.setCell (by show w.heap.size ≤ y; rw [HY.out]; exact Nat.le_refl _) _, by simp; omega⟩
        rw [List.replicate_succ']
        exact hown3.same fun b hb' => Below.heap_setCell w3 ⟨y, 0, none⟩ _ b fun (e : b = y) => by
          have := hown3.base hb'
          omega)
      clear hap hown3 hch3 b3 hb3 hown hby hb npv hlv
      simp only [List.length_replicate] at *
      go_wp2_with fail
      go_roundw
      case rel => exact HREL.out
      case measure => simp [intOf]; omega
    · have hki : ¬ (k : Int) < n := by omega
      have hke : k = n := by omega
      subst hke
      have FIN : Hid (∃ pv, XSw wr w.heap.size (freshX pv k) ∧ Below w.heap.size w wr ∧ ∀ b, pv.ownBlock = some b → w.heap.size < b) := hide (by
        rw [← HY.out]
        refine ⟨pv, ⟨⟨_, hby⟩, cellRow hby rfl, cellRow hby rfl, cellRow hby rfl, cellRow hby rfl, cellRow hby rfl, cellRow hby rfl, hown.lower (by omega), RecOwn.nil _ _ _ _ _, RecOwn.nil _ _ _ _ _, RulesOwn.nil _ (by decide), RecOwn.nil _ _ _ _ _, fun q hq => ?_⟩, by rw [HY.out]; exact hb, fun b hb' => by have := hown.base hb'; omega⟩
        have : q = newPt := List.eq_of_mem_replicate hq
        rw [this]
        exact World.ownsRow_nil _ _ _ _)
      clear hown hby hb
      go_wp2
      go_ret
      exact ⟨by rw [HY.out]; rfl, FIN.out⟩
end Go.Proofs.YtnjalelblbjfiaaGreatDoor

namespace Go.Proofs.YtnjalelblbjfiaaGreatDoor
open Go.RowKit

theorem mcRec_one (now : Int) (e : Mc) : ∀ u ∈ mcRec now e, u.oneCell' = true := by simp [mcRec, Value.oneCell']
theorem infoKnown : (Tryz.prog.info? 92).map (fun i => (i.zero, i.size, i.bytes)) = some (some (.agg #[.int .i64 0, .string ⟨#[]⟩, .int .i64 0, .int .i64 0]), 4, 40) := by kernel_rfl
theorem underKnowns : Tryz.prog.underlying 88 = some (.slice 92) := by kernel_rfl
theorem underKnown : ∃ d, Tryz.prog.underlying 92 = some d ∧ d.isRow = true := isRow_of (by kernel_rfl)
theorem sizeKnown : (Tryz.prog.info? 92).map (·.size) = some 4 := by kernel_rfl
/-- append of one that is known. -/
theorem append_mc {w : World} {B : Nat} {v : Value} {now : Int} {L : List Mc} {e : Mc} (h : RecOwn (mcRec now) B w 92 4 v L) (hB : B ≤ w.heap.size) (hn : L.length ≤ 1000) : ∃ g cap w', (Builtin.append_ #[88, 88] 88 #[v, .slice (some ⟨w.heap.size, 0, none⟩) 1 1]).run Tryz.prog (w.alloc (.cells #[.int .i64 e.vlan, .string e.mac, .int .i64 e.port, .int .i64 (now - e.age)] 92)).drew = .ok (.slice (some ⟨g, 0, none⟩) (L.length + 1) cap) w' ∧ RecOwn (mcRec now) B w' 92 4 (.slice (some ⟨g, 0, none⟩) (L.length + 1) cap) (L ++ [e]) ∧ Chg (fun b => v.ownBlock = some b) w w' ∧ (v.ownBlock = some g ∨ w.heap.size ≤ g) := by
  obtain ⟨i0, hi, hz0, hz1, hz2⟩ := info_parts infoKnown
  have hb : Below w.heap.size w (w.alloc (.cells #[.int .i64 e.vlan, .string e.mac, .int .i64 e.port, .int .i64 (now - e.age)] 92)).drew := ((Below.refl _ w).alloc (Nat.le_refl _) _).drew
  obtain ⟨g, cap, w', hap, hr, hc, hg⟩ := (h.below hb).append (P := Tryz.prog) (tl := 88) (c := 1) (mcRec_length now) (mcRec_one now) underKnowns hi hz0 hz1 hz2 rfl (by decide) [e] (by simp) (a := ⟨w.heap.size, 0, none⟩) (fun q u hu => by rw [Addr.add_mid]; exact range_new w #[.int .i64 e.vlan, .string e.mac, .int .i64 e.port, .int .i64 (now - e.age)] 92 q u hu) (by unfold maxLen; simp; omega) (by simp; omega) (by simp; omega)
  exact ⟨g, cap, w', hap, hr, (Chg.of_below hb).trans hc, hg.imp id fun h => by simp at h; omega⟩
/-- The new one on its way to the front. -/
structure KBub (y g cap : Nat) (now : Int) (K : List Mc) (e0 : Mc) (w : World) (k : Nat) (W : World) : Prop where
  own : RecOwn (mcRec now) 1 W 92 4 (.slice (some ⟨g, 0, none⟩) (K.length + 1) cap) (K.take k ++ e0 :: K.drop k)
  cell : W.cell? ⟨y, 4, none⟩ = some (.slice (some ⟨g, 0, none⟩) (K.length + 1) cap)
  bef : ∀ j (hj : j < K.length), k ≤ j → cmpM e0 K[j].vlan K[j].mac < 0
  chg : Chg (fun b => b = g) w W
  ne : g ≠ y
section
variable {y g cap k : Nat} {now : Int} {K : List Mc} {e0 : Mc} {w W : World}
theorem KBub.below (h : KBub y g cap now K e0 w k W) {W' : World} (hb : Below W.heap.size W W') : KBub y g cap now K e0 w k W' :=
  ⟨h.own.below hb, cell_later hb h.cell, h.bef, h.chg.trans (Chg.of_below hb), h.ne⟩
theorem KBub.range (h : KBub y g cap now K e0 w k W) (hk : k ≤ K.length) : W.rangeAt g (k * 4) (mcRec now e0) := by
  obtain ⟨a, c, g', e, hr⟩ := h.own.row (mcRec_length now)
  injection e with e0 _ _
  subst e0
  obtain ⟨e1, e2⟩ := hr k (by rw [mid_length hk]; omega)
  cases e1
  rwa [mid_at hk] at e2
theorem KBub.range0 {j : Nat} (h : KBub y g cap now K e0 w (j + 1) W) (hk : j + 1 ≤ K.length) : W.rangeAt g (j * 4) (mcRec now (K[j]'(by omega))) := by
  obtain ⟨a, c, g', e, hr⟩ := h.own.row (mcRec_length now)
  injection e with e0 _ _
  subst e0
  obtain ⟨e1, e2⟩ := hr j (by rw [mid_length hk]; omega)
  cases e1
  rwa [mid_at0 hk] at e2
theorem KBub.there (h : KBub y g cap now K e0 w k W) (hk : k ≤ K.length) {i : Nat} (hi : i ≤ K.length) : W.there g (i * 4) 4 :=
  h.own.there (by rw [mid_length hk]) (by rw [mid_length hk]; omega)
theorem chg_cells {X : Nat → Prop} {a : World} {g : Nat} : ∀ (vs : List Value) (o : Nat) {b : World}, X g → Chg X a b → Chg X a (b.setCells g o vs)
  | [], _, _, _, h => h
  | v :: vs, o, _, hx, h => chg_cells vs (o + 1) hx (Chg.setCell (p := ⟨g, o, none⟩) h (.inl hx) v)
/-- One place ahead. -/
theorem KBub.swap {j : Nat} (h : KBub y g cap now K e0 w (j + 1) W) (hk : j + 1 ≤ K.length) (hb : cmpM e0 (K[j]'(by omega)).vlan (K[j]'(by omega)).mac < 0) : KBub y g cap now K e0 w j ((W.setCells g ((j + 1) * 4) (mcRec now (K[j]'(by omega)))).setCells g (j * 4) (mcRec now e0)) := by
  have hl := mid_length (r := e0) hk
  have h1 := h.own.store (mcRec_length now) (by rw [hl]) (i := j + 1) (by rw [hl]; omega) (K[j]'(by omega))
  have h2 := h1.store (mcRec_length now) (by rw [List.length_set, hl]) (i := j) (by rw [List.length_set, hl]; omega) e0
  rw [mid_step hk] at h2
  refine ⟨h2, ?_, fun i hi hji => ?_, ?_, h.ne⟩
  · rw [(cell?_setCells_ne _ _ _ _ (Ne.symm h.ne)).1, (cell?_setCells_ne _ _ _ _ (Ne.symm h.ne)).1]; exact h.cell
  · rcases Nat.lt_or_eq_of_le hji with h' | h'
    · exact h.bef i hi h'
    · subst h'; exact hb
  · exact chg_cells (mcRec now e0) (j * 4) rfl (chg_cells (mcRec now (K[j]'(by omega))) ((j + 1) * 4) rfl h.chg)
theorem KBub.there2 {j : Nat} (h : KBub y g cap now K e0 w (j + 1) W) (hk : j + 1 ≤ K.length) : (W.setCells g ((j + 1) * 4) (mcRec now (K[j]'(by omega)))).there g (j * 4) 4 := by
  have hl := mid_length (r := e0) hk
  have h1 := h.own.store (mcRec_length now) (by rw [hl]) (i := j + 1) (by rw [hl]; omega) (K[j]'(by omega))
  exact h1.there (by rw [List.length_set, hl]) (by rw [List.length_set, hl]; omega)
theorem KBub.drew (h : KBub y g cap now K e0 w k W) : KBub y g cap now K e0 w k W.drew := h.below ((Below.refl _ W).drew)
end
end Go.Proofs.YtnjalelblbjfiaaGreatDoor

namespace Go.Proofs.YtnjalelblbjfiaaGreatDoor
open Go.RowKit
open Go.Sort (grow)
def kLoad (v : Value) : Sem Value := Instr.loadAt 92 v
theorem kLoad_fold (v : Value) : Instr.loadAt 92 v = kLoad v := rfl
def kStore (p v : Value) : Sem Unit := Instr.storeAt 92 p v
theorem kStore_fold (p v : Value) : Instr.storeAt 92 p v = kStore p v := rfl
attribute [local go_sem] Oper.semAt_some cell?_regrown
attribute [local go_sem ↓ high] kLoad_fold kStore_fold append_fold

theorem kbub_swapped {y g cap j : Nat} {now : Int} {K : List Mc} {e0 q : Mc} {w W Wb Wc : World} (h : KBub y g cap now K e0 w (j + 1) W) (hk : j + 1 ≤ K.length) (hq : q = K[j]'(by omega)) (hb : cmpM e0 q.vlan q.mac < 0) (hWb : Wb = W.setCells g ((j + 1) * 4) (mcRec now q)) (hWc : Wc = Wb.drew.setCells g (j * 4) (mcRec now e0)) : KBub y g cap now K e0 w j Wc := by
  subst hq
  have h1 := h.swap hk hb
  rw [← hWb] at h1
  rw [hWc, setCells_drew]
  exact h1.drew
theorem e0_rec (now vl port : Int) (mac : ByteArray) : mcRec now ⟨vl, mac, port, 0⟩ = [.int .i64 vl, .string mac, .int .i64 port, .int .i64 now] := by simp [mcRec]
theorem range_drew_ne {g o b ob : Nat} {vs cs : List Value} {W : World} (hne : b ≠ g) (h : W.rangeAt b ob cs) : (W.setCells g o vs).drew.rangeAt b ob cs := fun i u hu => (cell?_setCells_ne vs o W ⟨b, ob + i, none⟩ hne).1.trans (h i u hu)
theorem Chg.trans2 {X Y : Nat → Prop} {a b c : World} (h : Chg X a b) (k : Chg Y b c) (hXY : ∀ x, Y x → x < a.heap.size → X x) : Chg X a c :=
  ⟨k.os.trans h.os, k.tape.trans h.tape, k.output.trans h.output, Nat.le_trans h.size k.size, fun i hi hx => (k.block i (Nat.lt_of_lt_of_le hi h.size) fun hy => hx (hXY i hy hi)).trans (h.block i hi hx)⟩
theorem learn_keep {K : List Mc} {e0 : Mc} (hs : SortedP K) (hk : known K e0.vlan e0.mac = none) (hn : ¬ K.length < 64) : LearnK K e0 K := by
  refine ⟨hs, ?_⟩
  rw [hk, if_neg (by simp; omega)]
theorem XSw.block {w : World} {y : Nat} {x : XSt} (h : XSw w y x) {t : TypeId} {s n B g : Nat} {v : Value} {xs : List Value} (ho : w.ownsRow B t s v n xs) (ht : t ≠ 90) (hg : v.ownBlock = some g) : g ≠ y := fun e => by
  obtain ⟨cs, hb⟩ := h.blk
  rw [e] at hg
  exact own_block ho hb ht hg
set_option maxRecDepth 100000 in
set_option maxHeartbeats 4000000 in
theorem xlearn_any (y : Nat) (x : XSt) (vl port : Int) (mac : ByteArray) (w : World) (h : XSw w y x) (hs : SortedP x.K) (hK : x.K.length ≤ 64) :
    Calls Tryz.prog 131 #[.pointer (some ⟨y, 0, none⟩), .int .i64 vl, .string mac, .int .i64 port] w (XLearn y x ⟨vl, mac, port, 0⟩ w) := by
  obtain ⟨dk, huk, hdk⟩ := underKnown
  obtain ⟨now, hnow⟩ : ∃ now, now = x.now := ⟨_, rfl⟩
  obtain ⟨K, hKe⟩ : ∃ K, K = x.K := ⟨_, rfl⟩
  obtain ⟨a, cap, g, ekv, hr⟩ := h.knowns
  have hyl := h.lt
  have c4 := h.c4
  have c5 := h.c5
  have hrk := h.rk
  rw [← hnow] at c5 hr hrk
  rw [← hKe] at hr hs hK ekv hrk
  rw [ekv] at c4 hrk
  obtain ⟨W1, hW1⟩ : ∃ W1, W1 = w.alloc (.cells #[.int .i64 vl, .string mac, .int .i64 port, .int .i64 now] 92) := ⟨_, rfl⟩
  obtain ⟨bx, hbx⟩ : ∃ bx, bx = w.heap.size := ⟨_, rfl⟩
  have hb1 : Below w.heap.size w W1 := by rw [hW1]; exact (Below.refl _ w).alloc (Nat.le_refl _) _
  have hst0 : (kStore (.pointer (some ⟨w.heap.size, 0, none⟩)) (.agg #[.int .i64 vl, .string mac, .int .i64 port, .int .i64 now])).run Tryz.prog (w.alloc (.cells #[.int .i64 0, .string ⟨#[]⟩, .int .i64 0, .int .i64 0] 92)) = .ok () W1 := by
    rw [hW1]
    exact run_storeAt_new (P := Tryz.prog) w 92 #[.int .i64 0, .string ⟨#[]⟩, .int .i64 0, .int .i64 0] #[.int .i64 vl, .string mac, .int .i64 port, .int .i64 now] sizeKnown rfl (by simp [Value.oneCell'])
  have hbr : W1.rangeAt bx 0 [.int .i64 vl, .string mac, .int .i64 port, .int .i64 now] := by rw [hW1, hbx]; exact range_new _ _ _
  have yc := cell_later hb1 c4
  have ly : y < W1.heap.size := block_lt_of_cell yc
  have lx : bx < W1.heap.size := block_lt_of_cell (cell_at0 hbr)
  have HX := hide h
  have HX1 := hide (h.below hb1)
  have HB1 := hide hb1
  have HR := hide hr
  have HS := hide hs
  have HRK := hide hrk
  have HEKV := hide ekv
  have HBR := hide hbr
  have HKE := hide hKe
  have HNOW := hide hnow
  have HBX := hide hbx
  have HK64 := hide hK
  clear h hr hs hrk ekv hbr hKe hnow hb1 hW1
  go_enter Tryz.func131, Tryz.ntmps131
  go_wp2_with fail
  rw [← hbx]
  clear hst0 hbx c4 c5 hyl
  go_loopw [9] (fun i wr => wr = W1 ∧ ∃ k : Nat, k ≤ K.length ∧ i = .int .i64 k ∧ ∀ j (hj : j < K.length), j < k → (K[j].vlan == vl && K[j].mac.toList == mac.toList) = false) (fun i _ => K.length - (intOf i).toNat)
  case atStart => exact ⟨rfl, 0, by omega, rfl, fun j _ h => absurd h (Nat.not_lt_zero j)⟩
  case round =>
    obtain ⟨rfl, k, hk, rfl, hno⟩ := hrel
    have HNO := hide hno
    clear hno
    by_cases hkl : k < K.length
    · have hki : (k : Int) < K.length := by omega
      obtain ⟨rfl, q0, q1, q2, -⟩ := HR.out k hkl
      have q0 := cell_later HB1.out q0
      have q1 := cell_later HB1.out q1
      have hbl := block_lt_of_cell q0
      obtain ⟨z, hz⟩ : ∃ z, z = K[k] := ⟨_, rfl⟩
      rw [← hz] at q0 q1
      have HZ := hide hz
      clear hz q2
      have next : ((z.vlan == vl && z.mac.toList == mac.toList) = false) → ∀ j (hj : j < K.length), j < k + 1 → (K[j].vlan == vl && K[j].mac.toList == mac.toList) = false := fun hf j hj hjk => by
        by_cases e : j = k
        · subst e; rw [← HZ.out]; exact hf
        · exact HNO.out j hj (by omega)
      have HNX := hide next
      clear next
      cases h1 : (z.vlan == vl) with
      | false =>
        have H1 := hide h1
        go_wp2_with fail
        go_roundw
        case rel => exact ⟨by trivial, k + 1, by omega, by go_num, HNX.out (by rw [H1.out]; rfl)⟩
        case measure => simp [intOf]; omega
      | true =>
        cases h2 : (z.mac.toList == mac.toList) with
        | false =>
          have H2 := hide h2
          go_wp2_with fail
          go_roundw
          case rel => exact ⟨by trivial, k + 1, by omega, by go_num, HNX.out (by rw [H2.out, Bool.and_false])⟩
          case measure => simp [intOf]; omega
        | true =>
          have hrk1 := HRK.out.below HB1.out
          have hth := hrk1.there rfl hkl
          have hld5 : (kLoad (.pointer (some ⟨bx, 0, none⟩))).run Tryz.prog wr.drew = .ok (.agg #[.int .i64 vl, .string mac, .int .i64 port, .int .i64 now]) wr.drew := run_loadAt_mid wr.drew bx 0 92 [.int .i64 vl, .string mac, .int .i64 port, .int .i64 now] dk HBR.out huk hdk sizeKnown
          obtain ⟨Wb, hWb⟩ : ∃ Wb, Wb = wr.drew.setCells g (k * 4) [.int .i64 vl, .string mac, .int .i64 port, .int .i64 now] := ⟨_, rfl⟩
          have hst5 : (kStore (.pointer (some ⟨g, k * 4, none⟩)) (.agg #[.int .i64 vl, .string mac, .int .i64 port, .int .i64 now])).run Tryz.prog wr.drew = .ok () Wb := by
            rw [hWb]
            exact run_storeAt_mid (P := Tryz.prog) wr.drew g (k * 4) 92 #[.int .i64 vl, .string mac, .int .i64 port, .int .i64 now] hth sizeKnown (by simp [Value.oneCell'])
          have FIN : Hid (XLearn y x ⟨vl, mac, port, 0⟩ w (.returned (.tuple #[])) Wb) := hide (by
            have hne : g ≠ y := HX1.out.block hrk1.1 (by decide) rfl
            have hst := hrk1.store (mcRec_length now) rfl hkl ⟨vl, mac, port, 0⟩
            rw [e0_rec] at hst
            rw [hWb, setCells_drew]
            have hcw : Chg (fun b => b = y ∨ x.kv.ownBlock = some b) w (wr.setCells g (k * 4) [.int .i64 vl, .string mac, .int .i64 port, .int .i64 now]).drew := (chg_cells _ _ (.inr (by rw [HEKV.out]; rfl)) (Chg.of_below HB1.out)).drew
            obtain ⟨cs, hcs⟩ := HX1.out.blk
            refine ⟨rfl, x.kv, K.set k ⟨vl, mac, port, 0⟩, ?_, HX.out.setK hcw ⟨cs, ?_⟩ (fun j _ => ?_) ?_ ?_, hcw, fun b hb => .inl hb⟩
            · rw [← HKE.out]
              exact learn_set HS.out hkl (cmpM_zero.2 (by show (K[k].vlan == vl && K[k].mac.toList == mac.toList) = true; rw [← HZ.out, h1, h2]; rfl))
            · show (wr.setCells g (k * 4) _).heap[y]? = _
              exact ((chg_cells (X := fun b => b = g) [.int .i64 vl, .string mac, .int .i64 port, .int .i64 now] (k * 4) rfl (Chg.refl _ wr)).block y ly (Ne.symm hne)).trans hcs
            · show (wr.setCells g (k * 4) _).cell? _ = _
              rw [(cell?_setCells_ne _ _ _ _ (Ne.symm hne)).1]
              exact HB1.out.cell (p := ⟨y, j, none⟩) HX.out.lt
            · show (wr.setCells g (k * 4) _).cell? _ = _
              rw [(cell?_setCells_ne _ _ _ _ (Ne.symm hne)).1]
              exact cell_later HB1.out HX.out.c4
            · rw [HEKV.out, ← HNOW.out]
              exact hst)
          clear hrk1 hth hWb
          go_wp2_with fail
          go_region
          go_wp2
          refine bodyPost_ret (results_none rfl _ _ _) rfl ?_
          exact FIN.out
    · have hki : ¬ (k : Int) < K.length := by omega
      have hkn : known K vl mac = none := by
        unfold known
        rw [find_nobody (p := fun e => e.vlan == vl && e.mac.toList == mac.toList) fun j hj => HNO.out j hj (by omega)]
      have HKN := hide hkn
      clear hkn
      by_cases hfull : K.length < 64
      · have hfi : ¬ (64 : Int) ≤ K.length := by omega
        have hld7 : (kLoad (.pointer (some ⟨bx, 0, none⟩))).run Tryz.prog wr.drew = .ok (.agg #[.int .i64 vl, .string mac, .int .i64 port, .int .i64 now]) wr.drew := run_loadAt_mid wr.drew bx 0 92 [.int .i64 vl, .string mac, .int .i64 port, .int .i64 now] dk HBR.out huk hdk sizeKnown
        have hrk1 := HRK.out.below HB1.out
        obtain ⟨g9, cap9, w9, hap, hO9, hC9, hg9⟩ := append_mc (e := ⟨vl, mac, port, 0⟩) hrk1 (by omega) (by omega)
        simp only [Int.sub_zero] at hap
        have hap9 := appN_run hap
        have nky : (Value.slice a K.length cap).ownBlock ≠ some y := fun e => HX1.out.block hrk1.1 (by decide) e rfl
        have y9 := hC9.block.cell nky yc
        have f9 : w9.frozen? ⟨y, 4, none⟩ = false := by
          rw [(OnlyAt.of_block (hC9.block y ly nky) 4).2]
          exact HX1.out.frz 4
        have hy9 := block_lt_of_cell y9
        obtain ⟨W2, hW2⟩ : ∃ W2, W2 = w9.setCell ⟨y, 4, none⟩ (.slice (some ⟨g9, 0, none⟩) (K.length + 1) cap9) := ⟨_, rfl⟩
        obtain ⟨cs, hcs⟩ := HX1.out.blk
        have b9 : w9.heap[y]? = some (.cells cs 90 (0, 0)) := (hC9.block y ly nky).trans hcs
        have hne : g9 ≠ y := fun e => own_block hO9.1 b9 (by decide) (by rw [← e]; rfl)
        have BS : Hid (KBub y g9 cap9 now K ⟨vl, mac, port, 0⟩ W2 K.length W2) := hide (by
          refine ⟨?_, by rw [hW2]; exact World.cell?_setCell_same _ _ _ y9, fun j hj hjk => by omega, Chg.refl _ _, hne⟩
          rw [List.take_length, List.drop_length, hW2]
          exact hO9.same fun b hb => by cases hb; exact Below.heap_setCell _ _ _ _ hne)
        have FIN : Hid (∀ (i : Nat) (W : World), KBub y g9 cap9 now K ⟨vl, mac, port, 0⟩ W2 i W → (hi : i ≤ K.length) → (∀ (h : 0 < i), ¬ cmpM ⟨vl, mac, port, 0⟩ (K[i - 1]'(by omega)).vlan (K[i - 1]'(by omega)).mac < 0) → XLearn y x ⟨vl, mac, port, 0⟩ w (.returned (.tuple #[])) W) := hide fun i W hB hi hL => by
          have c29 : Chg (fun b => b = y ∨ x.kv.ownBlock = some b) wr W2 := by
            rw [hW2]
            exact Chg.setCell (p := ⟨y, 4, none⟩) (hC9.mono fun b _ hb => .inr (by rw [HEKV.out]; exact hb)) (.inl (.inl rfl)) _
          have hsz : w.heap.size ≤ wr.heap.size := HB1.out.size
          have c0W : Chg (fun b => b = y ∨ x.kv.ownBlock = some b) w W := by
            refine ((Chg.of_below HB1.out).trans c29).trans2 hB.chg fun b hb hlt => ?_
            subst hb
            rcases hg9 with e | e
            · exact .inr (by rw [HEKV.out]; exact e)
            · omega
          have hyW : W.heap[y]? = W2.heap[y]? := hB.chg.block y (by rw [hW2]; simpa using hy9) (Ne.symm hne)
          have hyc : ∀ j, W.cell? ⟨y, j, none⟩ = W2.cell? ⟨y, j, none⟩ := fun j => (OnlyAt.of_block hyW j).1
          refine ⟨rfl, .slice (some ⟨g9, 0, none⟩) (K.length + 1) cap9, K.take i ++ ⟨vl, mac, port, 0⟩ :: K.drop i, ?_, HX.out.setK c0W ?_ (fun j hj => ?_) hB.cell ?_, c0W, fun b hb => ?_⟩
          · rw [← HKE.out]
            exact learn_new HS.out hi hfull HKN.out hB.bef hL
          · have h2 : W2.heap[y]? = some (.cells (cs.setIfInBounds 4 (.slice (some ⟨g9, 0, none⟩) (K.length + 1) cap9)) 90 (0, 0)) := by rw [hW2]; exact heap_setCell_same w9 y 4 cs 90 _ b9
            exact ⟨_, hyW.trans h2⟩
          · rw [hyc j, hW2, World.cell?_setCell_other _ _ _ _ (fun e => hj (congrArg Addr.off e).symm), (OnlyAt.of_block (hC9.block y ly nky) j).1]
            exact HB1.out.cell (p := ⟨y, j, none⟩) HX.out.lt
          · rw [← HNOW.out]
            exact hB.own
          · have hbg : g9 = b := Option.some.inj hb
            subst hbg
            rcases hg9 with e | e
            · exact .inl (by rw [HEKV.out]; exact e)
            · exact .inr (by omega)
        have CAH := hide fun (q : Mc) (W : World) => xbefore_any vl q.vlan port q.port now (now - q.age) mac q.mac W
        clear hap hO9 hC9 hg9 hrk1 nky b9 hcs hfull hne
        go_wp2_with fail
        go_region
        rw [← hW2]
        have b0 := BS.out.cell
        have by0 := block_lt_of_cell b0
        clear hW2 hld7 hap9 y9 f9 hy9
        go_wp2_with fail
        clear b0 by0 yc ly lx
        go_loopw [10] (fun i W => ∃ k : Nat, k ≤ K.length ∧ i = .int .i64 k ∧ KBub y g9 cap9 now K ⟨vl, mac, port, 0⟩ W2 k W) (fun i _ => (intOf i).toNat)
        case atStart => exact ⟨K.length, Nat.le_refl _, rfl, BS.out⟩
        case round =>
          obtain ⟨k, hk, rfl, hbub⟩ := hrel
          have HBUB := hide hbub
          clear hbub
          cases k with
          | zero =>
            go_wp2
            go_end0
            exact FIN.out 0 wr HBUB.out (Nat.zero_le _) (fun h => absurd h (Nat.lt_irrefl 0))
          | succ j =>
            obtain ⟨q, hq⟩ : ∃ q, q = K[j]'(by omega) := ⟨_, rfl⟩
            have hr0 : wr.rangeAt g9 ((j + 1) * 4) [.int .i64 vl, .string mac, .int .i64 port, .int .i64 now] := by have := HBUB.out.range hk; rw [e0_rec] at this; exact this
            have hq0 : wr.rangeAt g9 (j * 4) [.int .i64 q.vlan, .string q.mac, .int .i64 q.port, .int .i64 (now - q.age)] := by have := HBUB.out.range0 hk; rw [← hq] at this; exact this
            have k0 := HBUB.out.cell
            have hyl : y < wr.heap.size := block_lt_of_cell k0
            have hgl : g9 < wr.heap.size := block_lt_of_cell (cell_at0 hr0)
            have hj1 : (j : Int) + 1 < K.length + 1 := by omega
            have hj2 : (j : Int) < K.length := by omega
            have hj3 : j < K.length := by omega
            have hj4 : (0 : Int) ≤ (j : Int) + 1 := by omega
            have hj6 : j ≤ K.length := by omega
            have hj7 : (j : Int) ≤ K.length := by omega
            have hj8 : j < K.length + 1 := by omega
            have hwj : IntKind.i64.wrap (j : Int) = j := by rw [IntKind.wrap_i64]; omega
            have hj5 : ¬ (j : Int) + 1 < 0 := by omega
            have hj0 : (j : Int) < K.length + 1 := by omega
            obtain ⟨bb, hbb⟩ : ∃ bb, bb = decide (cmpPl vl mac.toList q.vlan q.mac.toList < 0) := ⟨_, rfl⟩
            have CA : Hid (∀ (d : Nat) (os : Array Obj), Calls Tryz.prog 184 #[.agg #[.int .i64 vl, .string mac, .int .i64 port, .int .i64 now], .agg #[.int .i64 q.vlan, .string q.mac, .int .i64 q.port, .int .i64 (now - q.age)]] (grow (redrawn wr d) os) fun e w' => e = .returned (.bool bb) ∧ Below (grow (redrawn wr d) os).heap.size (grow (redrawn wr d) os) w') := hide fun d os => by rw [hbb]; exact CAH.out q (grow (redrawn wr d) os)
            have HQ := hide hq
            have HBB := hide hbb
            clear hq hbb
            go_wp2_with fail
            refine wp_region_quiet_below (by kernel_rfl) (by kernel_rfl) ?_
            repeat (first | (refine wpQuiet_load_mid rfl 92 _ rfl g9 ((j + 1) * 4) rfl [.int .i64 vl, .string mac, .int .i64 port, .int .i64 now] dk (fun w' h => range_regrown hr0 h) huk hdk sizeKnown ?_) | (refine wpQuiet_load_mid rfl 92 _ rfl g9 (j * 4) rfl [.int .i64 q.vlan, .string q.mac, .int .i64 q.port, .int .i64 (now - q.age)] dk (fun w' h => range_regrown hq0 h) huk hdk sizeKnown ?_) | quiet_step (exact Calls.regrown_of (CA.out _ _)))
            refine wpQuiet_nil ?_; intro wq hwq; replace hwq := below_of_regrown hwq; obtain ⟨hcq, hfq⟩ := bcell hwq; have hzq := hwq.size
            have BQ := hide (HBUB.out.below hwq)
            have kq : wq.cell? ⟨y, 4, none⟩ = some (.slice (some ⟨g9, 0, none⟩) (K.length + 1) cap9) := BQ.out.cell
            have hylq : y < wq.heap.size := block_lt_of_cell kq
            have hrq : wq.rangeAt g9 ((j + 1) * 4) [.int .i64 vl, .string mac, .int .i64 port, .int .i64 now] := by have := BQ.out.range hk; rw [e0_rec] at this; exact this
            clear hr0 hq0 k0 hyl hgl hcq hfq hzq hwq CA HBUB
            cases bb with
            | false =>
              go_wp2
              refine bodyPost_ret (results_none rfl _ _ _) rfl ?_
              have hh : ¬ cmpM ⟨vl, mac, port, 0⟩ (K[j]'(by omega)).vlan (K[j]'(by omega)).mac < 0 := by
                rw [← HQ.out]
                exact of_decide_eq_false HBB.out.symm
              exact FIN.out (j + 1) wq BQ.out hk (fun _ => by first | exact hh | exact Int.not_lt.1 hh)
            | true =>
              have hld2 : (kLoad (.pointer (some ⟨g9, (j + 1) * 4, none⟩))).run Tryz.prog wq = .ok (.agg #[.int .i64 vl, .string mac, .int .i64 port, .int .i64 now]) wq := run_loadAt_mid wq g9 ((j + 1) * 4) 92 [.int .i64 vl, .string mac, .int .i64 port, .int .i64 now] dk hrq huk hdk sizeKnown
              have hst2 : (kStore (.pointer (some ⟨wq.heap.size, 0, none⟩)) (.agg #[.int .i64 vl, .string mac, .int .i64 port, .int .i64 now])).run Tryz.prog (wq.alloc (.cells #[.int .i64 0, .string ⟨#[]⟩, .int .i64 0, .int .i64 0] 92)) = .ok () (wq.alloc (.cells #[.int .i64 vl, .string mac, .int .i64 port, .int .i64 now] 92)) := run_storeAt_new (P := Tryz.prog) wq 92 #[.int .i64 0, .string ⟨#[]⟩, .int .i64 0, .int .i64 0] #[.int .i64 vl, .string mac, .int .i64 port, .int .i64 now] sizeKnown rfl (by simp [Value.oneCell'])
              have BA := hide (BQ.out.below (W' := (wq.alloc (.cells #[.int .i64 vl, .string mac, .int .i64 port, .int .i64 now] 92)).drew) (((Below.refl _ wq).alloc (Nat.le_refl _) _).drew))
              have hla : (wq.alloc (.cells #[.int .i64 vl, .string mac, .int .i64 port, .int .i64 now] 92)).drew.rangeAt wq.heap.size 0 [.int .i64 vl, .string mac, .int .i64 port, .int .i64 now] := range_new _ _ _
              have ba0 : (wq.alloc (.cells #[.int .i64 vl, .string mac, .int .i64 port, .int .i64 now] 92)).cell? ⟨y, 4, none⟩ = some (.slice (some ⟨g9, 0, none⟩) (K.length + 1) cap9) := BA.out.cell
              have hya : y < (wq.alloc (.cells #[.int .i64 vl, .string mac, .int .i64 port, .int .i64 now] 92)).heap.size := block_lt_of_cell ba0
              have hqa : (wq.alloc (.cells #[.int .i64 vl, .string mac, .int .i64 port, .int .i64 now] 92)).drew.rangeAt g9 (j * 4) [.int .i64 q.vlan, .string q.mac, .int .i64 q.port, .int .i64 (now - q.age)] := by have h := BA.out.range0 hk; rw [← HQ.out] at h; exact h
              have hld3 : (kLoad (.pointer (some ⟨g9, j * 4, none⟩))).run Tryz.prog (wq.alloc (.cells #[.int .i64 vl, .string mac, .int .i64 port, .int .i64 now] 92)).drew = .ok (.agg #[.int .i64 q.vlan, .string q.mac, .int .i64 q.port, .int .i64 (now - q.age)]) (wq.alloc (.cells #[.int .i64 vl, .string mac, .int .i64 port, .int .i64 now] 92)).drew := run_loadAt_mid _ g9 (j * 4) 92 [.int .i64 q.vlan, .string q.mac, .int .i64 q.port, .int .i64 (now - q.age)] dk hqa huk hdk sizeKnown
              obtain ⟨Wb, hWb⟩ : ∃ Wb, Wb = (wq.alloc (.cells #[.int .i64 vl, .string mac, .int .i64 port, .int .i64 now] 92)).drew.setCells g9 ((j + 1) * 4) (mcRec now q) := ⟨_, rfl⟩
              have hst3 : (kStore (.pointer (some ⟨g9, (j + 1) * 4, none⟩)) (.agg #[.int .i64 q.vlan, .string q.mac, .int .i64 q.port, .int .i64 (now - q.age)])).run Tryz.prog (wq.alloc (.cells #[.int .i64 vl, .string mac, .int .i64 port, .int .i64 now] 92)).drew = .ok () Wb := by
                rw [hWb]
                exact run_storeAt_mid (P := Tryz.prog) _ g9 ((j + 1) * 4) 92 #[.int .i64 q.vlan, .string q.mac, .int .i64 q.port, .int .i64 (now - q.age)] (BA.out.there hk hk) sizeKnown (by simp [Value.oneCell'])
              have hng : wq.heap.size ≠ g9 := fun e => by
                have := block_lt_of_cell (cell_at0 hrq)
                rw [e] at this
                exact Nat.lt_irrefl _ this
              have hlb : Wb.drew.rangeAt wq.heap.size 0 [.int .i64 vl, .string mac, .int .i64 port, .int .i64 now] := by
                rw [hWb]
                exact range_drew_ne hng hla
              have bb0 : Wb.cell? ⟨y, 4, none⟩ = some (.slice (some ⟨g9, 0, none⟩) (K.length + 1) cap9) := by
                rw [hWb]
                exact (cell?_setCells_ne _ _ _ _ (Ne.symm BQ.out.ne)).1.trans ba0
              have hyb : y < Wb.heap.size := block_lt_of_cell bb0
              have hnb : wq.heap.size < Wb.heap.size := block_lt_of_cell (cell_at0 hlb)
              have hld4 : (kLoad (.pointer (some ⟨wq.heap.size, 0, none⟩))).run Tryz.prog Wb.drew = .ok (.agg #[.int .i64 vl, .string mac, .int .i64 port, .int .i64 now]) Wb.drew := run_loadAt_mid _ wq.heap.size 0 92 [.int .i64 vl, .string mac, .int .i64 port, .int .i64 now] dk hlb huk hdk sizeKnown
              obtain ⟨Wc, hWc⟩ : ∃ Wc, Wc = Wb.drew.setCells g9 (j * 4) (mcRec now ⟨vl, mac, port, 0⟩) := ⟨_, rfl⟩
              have hst4 : (kStore (.pointer (some ⟨g9, j * 4, none⟩)) (.agg #[.int .i64 vl, .string mac, .int .i64 port, .int .i64 now])).run Tryz.prog Wb.drew = .ok () Wc := by
                rw [hWc, e0_rec]
                refine run_storeAt_mid (P := Tryz.prog) _ g9 (j * 4) 92 #[.int .i64 vl, .string mac, .int .i64 port, .int .i64 now] ?_ sizeKnown (by simp [Value.oneCell'])
                have h := BA.out.there2 hk
                rw [← HQ.out] at h
                rw [hWb]
                exact h
              have BC : Hid (KBub y g9 cap9 now K ⟨vl, mac, port, 0⟩ W2 j Wc) := hide (kbub_swapped BA.out hk HQ.out (of_decide_eq_true HBB.out.symm) hWb hWc)
              clear hWb hWc hqa hla hlb hrq BA BQ
              go_wp2_with fail
              go_region
              go_wp2_with fail
              go_region
              go_wp2_with fail
              go_roundw
              case rel => exact ⟨j, by omega, by go_num, BC.out⟩
              case measure => first | (simp [intOf]; done) | (simp [intOf]; omega)
      · have hfi : (64 : Int) ≤ K.length := by omega
        have FIN : Hid (XLearn y x ⟨vl, mac, port, 0⟩ w (.returned (.tuple #[])) wr) := hide (by
          refine ⟨rfl, x.kv, x.K, ?_, HX1.out, Chg.of_below HB1.out, fun b hb => .inl hb⟩
          rw [← HKE.out]
          exact learn_keep HS.out HKN.out hfull)
        clear hfull
        go_wp2
        refine bodyPost_ret (results_none rfl _ _ _) rfl ?_
        exact FIN.out
end Go.Proofs.YtnjalelblbjfiaaGreatDoor

namespace Go.Proofs.YtnjalelblbjfiaaGreatDoor
open Go.RowKit
open Go.Sort (grow)
attribute [local go_sem] Oper.semAt_some cell?_regrown

/-- What the document's Frame leaves. -/
def XFramed (y : Nat) (x : XSt) (R : Int → List (Int × ByteArray) → List Mc → Prop) (w : World) (e : Ending) (W : World) : Prop := ∃ lv r L kv' K', e = .returned (.tuple #[lv, .int .i64 r]) ∧ R r L K' ∧ RecOwn outRec w.heap.size W 66 2 lv L ∧ XSw W y { x with kv := kv', K := K' } ∧ Chg (fun b => b = y ∨ x.kv.ownBlock = some b) w W ∧ (∀ b, kv'.ownBlock = some b → x.kv.ownBlock = some b ∨ w.heap.size ≤ b) ∧ (K' = [] → kv' = x.kv)
theorem LearnK.ne {K K' : List Mc} {e0 : Mc} (h : LearnK K e0 K') : K' ≠ [] := by
  rintro rfl
  obtain ⟨-, h⟩ := h
  split at h
  · exact absurd ((h.1 e0).2 (.inl rfl)) List.not_mem_nil
  · rename_i hc
    rw [← h] at hc
    simp at hc
theorem XFramed.none {y : Nat} {x : XSt} {R : Int → List (Int × ByteArray) → List Mc → Prop} {w W : World} {r : Int} (h : XSw w y x) (hR : R r [] x.K) (hb : Below w.heap.size w W) : XFramed y x R w (.returned (.tuple #[.slice none 0 0, .int .i64 r])) W :=
  ⟨_, r, [], x.kv, x.K, rfl, hR, RecOwn.nil _ _ _ _ _, h.below hb, ⟨hb.os, hb.tape, hb.output, hb.size, fun b hl _ => hb.block b hl⟩, fun _ hb => .inl hb, fun _ => rfl⟩

theorem tagNum_lt (b : ByteArray) : tagNum b < 65536 := by
  unfold tagNum
  split
  · rename_i h
    have := (b[0]'(by omega)).toNat_lt
    have := (b[1]'(by omega)).toNat_lt
    omega
  · omega
theorem read_is {d : ByteArray} {f : Fr} (h : readF d = some f) (hd : d.size ≤ 600) : f.to.size = 6 ∧ f.fr.size = 6 ∧ f.ty.size = 2 ∧ (0 ≤ f.vlan ∧ f.vlan < 4096) ∧ (0 ≤ f.mark ∧ f.mark < 16) ∧ f.rest.size ≤ 600 := by
  unfold readF at h
  have ht := tagNum_lt (d.extract 14 16)
  split at h
  · cases h
  · split at h
    · split at h
      · cases h
      · cases h
        dsimp only
        refine ⟨?_, ?_, ?_, ⟨by omega, by omega⟩, ⟨by omega, by omega⟩, ?_⟩ <;> (simp only [ByteArray.size_extract]; omega)
    · cases h
      dsimp only
      refine ⟨?_, ?_, ?_, ⟨by omega, by omega⟩, ⟨by omega, by omega⟩, ?_⟩ <;> (simp only [ByteArray.size_extract]; omega)

theorem framed_end {y : Nat} {x : XSt} {R : Int → List (Int × ByteArray) → List Mc → Prop} {w wq W4 W5 W6 : World} {kv' lv : Value} {K' : List Mc} {r : Int} {L : List (Int × ByteArray)} (hb3 : Below w.heap.size w wq) (hch : Chg (fun b => b = y ∨ x.kv.ownBlock = some b) wq W4) (hx : XSw W4 y { x with kv := kv', K := K' }) (how : ∀ b, kv'.ownBlock = some b → x.kv.ownBlock = some b ∨ wq.heap.size ≤ b) (hb5 : Below W4.heap.size W4 W5) (hb6 : Below W5.heap.size W5 W6) (hr : RecOwn outRec W5.heap.size W6 66 2 lv L) (hR : R r L K') (hne : K' ≠ []) : XFramed y x R w (.returned (.tuple #[lv, .int .i64 r])) W6 := by
  have s3 := hb3.size
  have s4 := hch.size
  have s5 := hb5.size
  have s6 := hb6.size
  refine ⟨lv, r, L, kv', K', rfl, hR, hr.lower (by omega), (hx.below hb5).below hb6, ⟨?_, ?_, ?_, by omega, fun b hl hn => ?_⟩, fun b hb => (how b hb).imp id (by omega), fun e => absurd e hne⟩
  · rw [hb6.os, hb5.os, hch.os, hb3.os]
  · rw [hb6.tape, hb5.tape, hch.tape, hb3.tape]
  · rw [hb6.output, hb5.output, hch.output, hb3.output]
  · rw [hb6.block b (by omega), hb5.block b (by omega), hch.block b (by omega) hn, hb3.block b hl]
theorem first_nil {x0 x1 x2 x3 x4 z : Int} (h : XFirst [] x0 x1 x2 x3 x4 z) : z = -1 := by
  rcases h with ⟨h, -⟩ | ⟨k, hk, -⟩
  · exact h
  · exact absurd hk (by simp)
theorem isRt_is {b : ByteArray} (h : isRt b = true) : 20 ≤ b.size ∧ w16 b 2 ≤ b.size := by
  unfold isRt at h
  simp only [Bool.and_eq_true, decide_eq_true_eq] at h
  omega

theorem no_mac {b : ByteArray} (h : b.size = 6) : (b.toList == []) = false ∧ b.toList.isEmpty = false := by
  have hl : b.toList.length = 6 := by rw [ByteArray.toList_eq, Array.length_toList]; exact h
  cases e : b.toList with
  | nil => rw [e] at hl; cases hl
  | cons a l => exact ⟨rfl, rfl⟩
set_option maxRecDepth 100000 in
set_option maxHeartbeats 1000000 in
theorem xFrame_unknown (y : Nat) (x : XSt) (port : Int) (d : ByteArray) (w : World) (h : XSw w y x) (R : Int → List (Int × ByteArray) → List Mc → Prop) (hp : ¬ (0 ≤ port ∧ port < x.Q.length)) (hR : R 9 [] x.K) :
    Calls Tryz.prog 71 #[.pointer (some ⟨y, 0, none⟩), .int .i64 port, .string d] w (XFramed y x R w) := by
  have E := hide (fun W hb => XFramed.none (W := W) h hR hb)
  obtain ⟨pa, pcap, pg, hpv, -⟩ := h.ports
  have c0 := h.c0
  rw [hpv] at c0
  clear h hpv hR
  by_cases h0 : port < 0
  · clear hp
    go_enter Tryz.func71, Tryz.ntmps71
    go_wp2
    go_ret2
    exact E.out _ (Below.refl _ _)
  · have h1 : (x.Q.length : Int) ≤ port := by omega
    clear hp
    go_enter Tryz.func71, Tryz.ntmps71
    go_wp2
    go_ret2
    exact E.out _ (Below.refl _ _)
set_option maxRecDepth 100000 in
set_option maxHeartbeats 1000000 in
theorem xFrame_bad (y : Nat) (x : XSt) (port : Int) (d : ByteArray) (w : World) (h : XSw w y x) (R : Int → List (Int × ByteArray) → List Mc → Prop) (hp : 0 ≤ port ∧ port < x.Q.length) (hr : fateRead d ≠ -1) (hR : R (fateRead d) [] x.K) :
    Calls Tryz.prog 71 #[.pointer (some ⟨y, 0, none⟩), .int .i64 port, .string d] w (XFramed y x R w) := by
  have E : Hid (∀ r, fateRead d = r → ∀ W, Below w.heap.size w W → XFramed y x R w (.returned (.tuple #[.slice none 0 0, .int .i64 r])) W) := hide (fun r hrr W hb => hrr ▸ XFramed.none (W := W) h hR hb)
  obtain ⟨pa, pcap, pg, hpv, -⟩ := h.ports
  have c0 := h.c0
  rw [hpv] at c0
  clear h hpv hR
  obtain ⟨hp0, hp1⟩ := hp
  have hp2 : ¬ port < 0 := by omega
  have hp3 : ¬ (x.Q.length : Int) ≤ port := by omega
  by_cases hd : 600 < d.size
  · have hf : fateRead d = 10 := by unfold fateRead; rw [if_pos hd]
    have E1 := hide (E.out 10 hf)
    have hdi : (600 : Int) < d.size := by omega
    clear hr hf E hd
    go_enter Tryz.func71, Tryz.ntmps71
    go_wp2
    go_ret2
    exact E1.out _ (Below.refl _ _)
  · have hdi : ¬ (600 : Int) < d.size := by omega
    have hdi' : (d.size : Int) ≤ 600 := by omega
    have CC := hide (xcut_any d w (by omega))
    cases hrd : readF d with
    | none =>
      have hf : fateRead d = 1 := by unfold fateRead; rw [if_neg hd, hrd]
      have E1 := hide (E.out 1 hf)
      have CC1 := CC
      rw [hrd] at CC1
      clear hr hf E hd CC hrd
      go_enter Tryz.func71, Tryz.ntmps71
      go_wp2_with fail
      refine CC1.out.mono ?_
      rintro e W ⟨⟨cs, rfl, hcs⟩, hb⟩
      obtain ⟨⟨⟨ft, ff, fg, fv, fk, fy, fz⟩, rfl⟩, -⟩ := hcs
      simp only [Option.isSome, xfCells]
      have HB := hide hb
      clear hb CC1
      go_wp2
      go_ret2
      exact E1.out _ (HB.out.alloc HB.out.size _)
    | some f =>
      by_cases hgr : isGrp f.fr = true
      · have hf : fateRead d = 2 := by unfold fateRead; rw [if_neg hd, hrd]; exact if_pos hgr
        have E1 := hide (E.out 2 hf)
        have hz := (read_is hrd (by omega)).2.1
        have CC1 := CC
        rw [hrd] at CC1
        have HRD := hide hrd
        have HGR := hide hgr
        clear hr hf E hd CC hrd hgr
        go_enter Tryz.func71, Tryz.ntmps71
        go_wp2_with fail
        refine CC1.out.mono ?_
        rintro e W ⟨⟨cs, rfl, hcs⟩, hb⟩
        obtain rfl := hcs.2 _ HRD.out
        obtain ⟨ft, ff, fg, fv, fk, fy, fz⟩ := f
        simp only [Option.isSome, xfCells]
        have CG := xgroup_any ff (W.alloc (.cells #[.string ft, .string ff, .int .i64 fv, .int .i64 fk, .bool fg, .string fy, .string fz] 248)) (by simp only at hz; omega)
        rw [HGR.out] at CG
        have CG1 := hide CG
        have HB := hide hb
        clear hb CC1 CG hcs
        go_wp2_with fail
        refine CG1.out.mono ?_
        rintro e W0 ⟨rfl, hww⟩
        rw [hww]
        clear hww W0 CG1
        go_wp2
        go_ret2
        exact E1.out _ (HB.out.alloc HB.out.size _)
      · exact absurd (by unfold fateRead; rw [if_neg hd, hrd]; exact if_neg hgr) hr
-- MAIN
set_option maxRecDepth 100000 in
set_option maxHeartbeats 4000000 in
theorem xFrame_main (y : Nat) (x : XSt) (k : Nat) (d : ByteArray) (f : Fr) (w : World) (h : XSw w y x) (hk : k < x.Q.length) (hT : ∀ q ∈ x.Q, q.T.length < 1000000000000) (hQ : x.Q.length ≤ 8) (hK : x.K.length ≤ 64) (hs : SortedP x.K) (hKp : ∀ e ∈ x.K, (0 ≤ e.port ∧ e.port < x.Q.length) ∧ isGrp e.mac = false) (hN : ∀ q ∈ x.Q, 0 ≤ q.nat ∧ q.nat < 4096) (hFl : x.Fl = []) (hrs : x.rs = []) (hd : d.size ≤ 600) (hf : readF d = some f) (hg : isGrp f.fr = false) (R : Int → List (Int × ByteArray) → List Mc → Prop)
    (hR3 : barredAt (pAt x.P k) f = true → R 3 [] x.K)
    (hR0 : barredAt (pAt x.P k) f = false → ∀ kv' K', LearnK x.K ⟨vlanAt (pAt x.P k) f, f.fr, k, 0⟩ K' → R (if (carL { x with kv := kv', K := K' } (pIn x.P k d f)).length = 0 then 8 else 0) (carL { x with kv := kv', K := K' } (pIn x.P k d f)) K') :
    Calls Tryz.prog 71 #[.pointer (some ⟨y, 0, none⟩), .int .i64 k, .string d] w (XFramed y x R w) := by
  obtain ⟨z1, z2, z3, z4, z5, z6⟩ := read_is hf hd
  obtain ⟨ft, ff, fg, fv, fk, fy, fz⟩ := f
  simp only at z1 z2 z3 z4 z5 z6 hg hR3 hR0
  obtain ⟨pa, pcap, pg, hpv, hpr⟩ := h.ports
  obtain ⟨rfl, q0, q1, hn⟩ := hpr k hk
  have c0 := h.c0
  rw [hpv] at c0
  have HC0 := hide c0
  have HQ0 := hide q0
  have HQ1 := hide q1
  have HNM := hide hn
  obtain ⟨a1, cp1, b1, htn, -⟩ := hn
  have HX := hide h
  have hbar := x.pAt_eq hk
  obtain ⟨nt, hnt⟩ : ∃ nt, nt = x.Q[k].nat := ⟨_, rfl⟩
  obtain ⟨T, hTe⟩ : ∃ T, T = x.Q[k].T := ⟨_, rfl⟩
  have hnt' := hN _ (List.getElem_mem hk)
  have hT' := hT _ (List.getElem_mem hk)
  rw [hbar] at hR3 hR0
  simp only [XPt.prt, barredAt, vlanAt] at hR3 hR0
  rw [← hnt] at hR3 hR0 hnt' HQ0 q0
  rw [← hTe] at hR3 hR0 hT' HNM htn
  rw [htn] at HQ1 q1 HNM
  have HPIN : Hid (pIn x.P k d ⟨ft, ff, fg, fv, fk, fy, fz⟩ = ⟨k, d, ⟨ft, ff, fg, if fg then fv else nt, fk, fy, fz⟩, ⟨#[]⟩, 0, 0, false, false⟩) := hide (by
    unfold pIn
    rw [show ((k : Int).toNat) = k from rfl, hbar]
    simp only [vlanAt, XPt.prt]
    rw [← hnt])
  rw [HPIN.out] at hR0
  have HR3 := hide hR3
  have HR0 := hide hR0
  have HTT := hide hT
  have HQ8 := hide hQ
  have HKL := hide hK
  have HKP := hide hKp
  have HSK := hide hs
  have HFL := hide hFl
  have HRS := hide hrs
  have HG := hide hg
  have HT6 : Hid ((ft.toList == []) = false ∧ ft.toList.isEmpty = false) := hide (no_mac z1)
  have HT1 := hide hT'
  have hki : (k : Int) < x.Q.length := by omega
  have hki0 : ¬ (k : Int) < 0 := by omega
  have hki1 : ¬ (x.Q.length : Int) ≤ k := by omega
  have hq8 : (x.Q.length : Int) ≤ 8 := by omega
  have hdi : ¬ (600 : Int) < d.size := by omega
  have hdi' : (d.size : Int) ≤ 600 := by omega
  have hyl := h.lt
  have HLY := hide hyl
  have CC := xcut_any d w hd
  rw [hf] at CC
  have CC1 := hide CC
  have HF := hide hf
  clear h hT hQ hK hs hKp hN hFl hrs hd hf hg hR3 hR0 hpv hpr hbar hnt hTe hT' htn CC
  go_enter Tryz.func71, Tryz.ntmps71
  go_wp2_with fail
  refine CC1.out.mono ?_
  rintro e W ⟨⟨cs, rfl, hcs⟩, hb⟩
  obtain rfl := hcs.2 _ HF.out
  simp only [Option.isSome, xfCells]
  obtain ⟨bf, hbf⟩ : ∃ bf, bf = W.heap.size := ⟨_, rfl⟩
  obtain ⟨W1, hW1⟩ : ∃ W1, W1 = W.alloc (.cells #[.string ft, .string ff, .int .i64 fv, .int .i64 fk, .bool fg, .string fy, .string fz] 248) := ⟨_, rfl⟩
  have hb1 : Below w.heap.size w W1 := by rw [hW1]; exact hb.alloc hb.size _
  have hfr1 : W1.heap[bf]? = some (.cells #[.string ft, .string ff, .int .i64 fv, .int .i64 fk, .bool fg, .string fy, .string fz] 248 (0, 0)) := by rw [hW1, hbf]; exact allocN _ _
  have hwb : w.heap.size ≤ bf := by rw [hbf]; exact hb.size
  have HB1 := hide hb1
  have HFR1 := hide hfr1
  have HWB := hide hwb
  have HW1 := hide hW1
  have HBF := hide hbf
  have CG := xgroup_any ff W1 (by omega)
  rw [HG.out] at CG
  have CG1 := hide CG
  have i0 := cellRow (j := 0) hfr1 rfl
  have i1 := cellRow (j := 1) hfr1 rfl
  have i2 := cellRow (j := 2) hfr1 rfl
  have i4 := cellRow (j := 4) hfr1 rfl
  have if2 := frzRow hfr1 2
  have lb1 := lt_of_heap hfr1
  have p0 := cell_later hb1 c0
  have p1 := cell_later hb1 q0
  have p2 := cell_later hb1 q1
  have ly1 := block_lt_of_cell p0
  have lp1 := block_lt_of_cell p1
  clear hb hb1 hfr1 hwb hW1 hbf hcs CC1 CG c0 q0 q1 hyl
  go_wp2_with fail
  rw [← HW1.out, ← HBF.out]
  refine CG1.out.mono ?_
  rintro e W0 ⟨rfl, hww⟩
  rw [hww]
  clear hww W0 CG1
  cases fg with
  | true =>
    obtain ⟨W2, hW2⟩ : ∃ W2, W2 = W1 := ⟨_, rfl⟩
    have HB2 := HB1
    have HFR2 := HFR1
    rw [← hW2] at HB2 HFR2 i0 i1 i2 i4 if2 lb1 p0 p1 p2 ly1 lp1 ⊢
    clear hW2 HW1 HBF HB1 HFR1
    have CI : Hid (∀ dd os, Calls Tryz.prog 128 #[.slice a1 T.length cp1, .int .i64 fv] (grow (redrawn W2 dd) os) fun e w' => e = .returned (.bool (tgOf T fv)) ∧ Below (grow (redrawn W2 dd) os).heap.size (grow (redrawn W2 dd) os) w') := hide fun dd os => (xin_any T (.slice a1 T.length cp1) fv (grow (redrawn W2 dd) os) ((HNM.out.below HB2.out).below (below_regrown W2 dd os)) HT1.out).mono fun e w' hh => ⟨hh.1, hh.2 ▸ Below.refl _ _⟩
    obtain ⟨tw, htw⟩ : ∃ tw, tw = tgOf T fv := ⟨_, rfl⟩
    rw [← htw] at CI
    have HTW := hide htw
    have HR3a := HR3
    have HR0a := HR0
    simp only [if_true, Bool.true_and, ← htw] at HR3a HR0a
    clear htw
    go_wp2_with fail
    refine wp_region_quiet_below (by kernel_rfl) (by kernel_rfl) ?_
    repeat (quiet_step (exact Calls.regrown_of (CI.out _ _)))
    refine wpQuiet_nil ?_; intro wq hwq; replace hwq := below_of_regrown hwq; obtain ⟨hcq, hfq⟩ := bcell hwq; have hzq := hwq.size
    have hb3 := HB2.out.trans (hwq.mono HB2.out.size)
    have hfr3 := (hwq.block bf lb1).trans HFR2.out
    have HB3 := hide hb3
    have HFR3 := hide hfr3
    have j2 := cellRow (j := 2) hfr3 rfl
    have j4 := cellRow (j := 4) hfr3 rfl
    have j1 := cellRow (j := 1) hfr3 rfl
    have lb3 := lt_of_heap hfr3
    have HBAR : Hid (R 3 [] x.K → XFramed y x R w (.returned (.tuple #[.slice none 0 0, .int .i64 3])) wq) := hide fun hR => XFramed.none HX.out hR HB3.out
    have CL := hide (xlearn_any y x fv k ff wq (HX.out.below hb3) HSK.out HKL.out)
    clear hwq hcq hfq hzq hb3 hfr3 i0 i1 i2 i4 if2 lb1 p0 p1 p2 ly1 lp1 CI
    cases tw with
    | false =>
      have HE := hide (HBAR.out (HR3a.out (by first | (rw [Bool.not_false, Bool.or_true]) | rfl | (rw [hv0]; rfl) | exact hv0)))
      clear HBAR CL HR0a HR3a
      go_wp2
      go_ret2
      exact HE.out
    | true =>
      cases hv0 : (fv == 0) with
      | true =>
        have HE := hide (HBAR.out (HR3a.out (by first | rfl | (rw [hv0]; rfl) | exact hv0)))
        clear HBAR CL HR0a HR3a
        go_wp2
        go_ret2
        exact HE.out
      | false =>
        have HR0b := hide (HR0a.out (by first | (rw [hv0]; rfl) | exact hv0))
        clear HBAR HR0a HR3a
        go_wp2_with fail
        refine CL.out.mono ?_
        rintro e W4 ⟨rfl, kv', K', hl, hx4, hch, how⟩
        have HX4 := hide hx4
        have HCH := hide hch
        have HOW := hide how
        have HR0c := hide (HR0b.out kv' K' hl)
        have HL := hide hl
        have hfr4 : W4.heap[bf]? = some (.cells #[.string ft, .string ff, .int .i64 fv, .int .i64 fk, .bool true, .string fy, .string fz] 248 (0, 0)) := (hch.block bf lb3 (by
          rintro (e | e)
          · have := HLY.out; have := HWB.out; omega
          · have := HX.out.rk.lt e; have := HWB.out; omega)).trans HFR3.out
        have HFR4 := hide hfr4
        have k0 := cellRow (j := 0) hfr4 rfl
        have k1 := cellRow (j := 1) hfr4 rfl
        have k2 := cellRow (j := 2) hfr4 rfl
        have k3 := cellRow (j := 3) hfr4 rfl
        have k4 := cellRow (j := 4) hfr4 rfl
        have k5 := cellRow (j := 5) hfr4 rfl
        have k6 := cellRow (j := 6) hfr4 rfl
        have lb4 := lt_of_heap hfr4
        have ly4 := hx4.lt
        clear hl hx4 hch how hfr4 CL HR0b j1 j2 j4 lb3 hv0
        cases hip : (fy.toList == [8, 0]) with
        | false =>
          obtain ⟨W5, hW5⟩ : ∃ W5, W5 = W4 := ⟨_, rfl⟩
          have HB5 : Hid (Below W4.heap.size W4 W5) := hide (by rw [hW5]; exact Below.refl _ _)
          have HFR5 := HFR4
          rw [← hW5] at HFR5 ⊢
          clear k0 k1 k2 k3 k4 k6 lb4 ly4
          rw [← hW5] at k5
          clear hW5
          have k0 := cellRow (j := 0) HFR5.out rfl
          have k1 := cellRow (j := 1) HFR5.out rfl
          have k2 := cellRow (j := 2) HFR5.out rfl
          have k3 := cellRow (j := 3) HFR5.out rfl
          have k4 := cellRow (j := 4) HFR5.out rfl
          have k5 := cellRow (j := 5) HFR5.out rfl
          have k6 := cellRow (j := 6) HFR5.out rfl
          have lb5 := lt_of_heap HFR5.out
          have ly5 := (HX4.out.below HB5.out).lt
          have CF := xface_any y { x with kv := kv', K := K' } fv W5 (HX4.out.below HB5.out) (by show x.Fl.length ≤ 1000; rw [HFL.out]; simp)
          rw [show faceIn ({ x with kv := kv', K := K' } : XSt).Fl fv = ⟨#[]⟩ by show faceIn x.Fl fv = _; rw [HFL.out]; rfl] at CF
          have CF1 := hide CF
          clear CF
          go_wp2_with fail
          refine CF1.out.mono ?_
          rintro e W0 ⟨rfl, hww⟩
          rw [hww]
          clear hww W0 CF1
          have CX := hide (xcarry_any y { x with kv := kv', K := K' } ⟨k, d, ⟨ft, ff, true, fv, fk, fy, fz⟩, ⟨#[]⟩, 0, 0, false, false⟩ W5 (HX4.out.below HB5.out) HTT.out HQ8.out (HL.out.length HKL.out) (fun e he => (HL.out.mem he).elim (fun e1 => by rw [e1]; exact ⟨⟨Int.natCast_nonneg k, hki⟩, HG.out⟩) (fun h1 => HKP.out e h1)) (by show 0 < ft.size; omega) z4 z5 (by show ft.size + ff.size + fy.size + fz.size ≤ 10000; omega))
          simp only [xfCells] at CX
          go_wp2_with fail
          refine CX.out.mono ?_
          rintro e W6 ⟨lv, he, hr6, hb6⟩
          have hRR := HR0c.out
          obtain ⟨rr, hrr⟩ : ∃ rr : Int, rr = (if (carL { x with kv := kv', K := K' } ⟨k, d, ⟨ft, ff, true, fv, fk, fy, fz⟩, ⟨#[]⟩, 0, 0, false, false⟩).length = 0 then 8 else 0) := ⟨_, rfl⟩
          rw [← hrr] at he hRR
          subst he
          have HE := hide (framed_end HB3.out HCH.out HX4.out HOW.out HB5.out hb6 hr6 hRR HL.out.ne)
          clear hr6 hb6 hrr hRR
          go_wp2
          go_ret2
          exact HE.out
        | true =>
          have t0 := HT6.out.1
          have t1 := HT6.out.2
          have CR := hide (xisRight_any fz W4 (by omega))
          go_wp2_with fail
          refine CR.out.mono ?_
          rintro e W5 ⟨rfl, hb5⟩
          have HB5 := hide hb5
          have HFR5 := hide ((hb5.block bf lb4).trans HFR4.out)
          clear hb5 k0 k1 k2 k3 k4 k5 k6 lb4 ly4 CR
          cases hrt : isRt fz with
          | false =>
            have k0 := cellRow (j := 0) HFR5.out rfl
            have k1 := cellRow (j := 1) HFR5.out rfl
            have k2 := cellRow (j := 2) HFR5.out rfl
            have k3 := cellRow (j := 3) HFR5.out rfl
            have k4 := cellRow (j := 4) HFR5.out rfl
            have k5 := cellRow (j := 5) HFR5.out rfl
            have k6 := cellRow (j := 6) HFR5.out rfl
            have lb5 := lt_of_heap HFR5.out
            have ly5 := (HX4.out.below HB5.out).lt
            have CF := xface_any y { x with kv := kv', K := K' } fv W5 (HX4.out.below HB5.out) (by show x.Fl.length ≤ 1000; rw [HFL.out]; simp)
            rw [show faceIn ({ x with kv := kv', K := K' } : XSt).Fl fv = ⟨#[]⟩ by show faceIn x.Fl fv = _; rw [HFL.out]; rfl] at CF
            have CF1 := hide CF
            clear CF
            go_wp2_with fail
            refine CF1.out.mono ?_
            rintro e W0 ⟨rfl, hww⟩
            rw [hww]
            clear hww W0 CF1
            have CX := hide (xcarry_any y { x with kv := kv', K := K' } ⟨k, d, ⟨ft, ff, true, fv, fk, fy, fz⟩, ⟨#[]⟩, 0, 0, false, false⟩ W5 (HX4.out.below HB5.out) HTT.out HQ8.out (HL.out.length HKL.out) (fun e he => (HL.out.mem he).elim (fun e1 => by rw [e1]; exact ⟨⟨Int.natCast_nonneg k, hki⟩, HG.out⟩) (fun h1 => HKP.out e h1)) (by show 0 < ft.size; omega) z4 z5 (by show ft.size + ff.size + fy.size + fz.size ≤ 10000; omega))
            simp only [xfCells] at CX
            go_wp2_with fail
            refine CX.out.mono ?_
            rintro e W6 ⟨lv, he, hr6, hb6⟩
            have hRR := HR0c.out
            obtain ⟨rr, hrr⟩ : ∃ rr : Int, rr = (if (carL { x with kv := kv', K := K' } ⟨k, d, ⟨ft, ff, true, fv, fk, fy, fz⟩, ⟨#[]⟩, 0, 0, false, false⟩).length = 0 then 8 else 0) := ⟨_, rfl⟩
            rw [← hrr] at he hRR
            subst he
            have HE := hide (framed_end HB3.out HCH.out HX4.out HOW.out HB5.out hb6 hr6 hRR HL.out.ne)
            clear hr6 hb6 hrr hRR
            go_wp2
            go_ret2
            exact HE.out
          | true =>
            obtain ⟨r20, rw2⟩ := isRt_is hrt
            have g6 := cellRow (j := 6) HFR5.out rfl
            have gb := lt_of_heap HFR5.out
            have gy := (HX4.out.below HB5.out).lt
            have CK : Hid (∀ dd os, Calls Tryz.prog 134 #[.string fz] (grow (redrawn W5 dd) os) fun e w' => e = .returned (.agg #[.int .i64 (a32 fz 12), .int .i64 (a32 fz 16), .int .i64 (b8 fz 9), .int .i64 (pt0 fz), .int .i64 (pt1 fz)]) ∧ Below (grow (redrawn W5 dd) os).heap.size (grow (redrawn W5 dd) os) w') := hide fun dd os => xkey_any fz _ r20 (by omega) rw2
            have CFI : Hid (∀ dd os, Calls Tryz.prog 133 #[.pointer (some ⟨y, 3, none⟩), .agg #[.int .i64 (a32 fz 12), .int .i64 (a32 fz 16), .int .i64 (b8 fz 9), .int .i64 (pt0 fz), .int .i64 (pt1 fz)]] (grow (redrawn W5 dd) os) fun e w' => e = .returned (.int .i64 (-1)) ∧ Below (grow (redrawn W5 dd) os).heap.size (grow (redrawn W5 dd) os) w') := hide fun dd os => by
              have hx := (HX4.out.below HB5.out).below (below_regrown W5 dd os)
              refine (xFirst_any 1 y 3 _ _ _ _ _ _ _ _ ⟨hx.c3, hx.frz 3, hx.rt, by show x.rs.length ≤ 200; rw [HRS.out]; simp, by omega⟩ (by show ∀ r ∈ x.rs, _; rw [HRS.out]; simp)).mono ?_
              rintro e w' ⟨⟨z, rfl, hz⟩, hb⟩
              have hz' : XFirst x.rs _ _ _ _ _ z := hz
              rw [HRS.out] at hz'
              rw [first_nil hz']
              exact ⟨rfl, hb⟩
            clear hrt r20 rw2
            go_wp2_with fail
            refine wp_region_quiet_below (by kernel_rfl) (by kernel_rfl) ?_
            repeat (quiet_step (first | exact Calls.regrown_of (CK.out _ _) | exact Calls.regrown_of (CFI.out _ _)))
            refine wpQuiet_nil ?_; intro wq hwq; replace hwq := below_of_regrown hwq; obtain ⟨hcq, hfq⟩ := bcell hwq; have hzq := hwq.size
            have HB5b := hide (HB5.out.trans (hwq.mono HB5.out.size))
            have HFR5b := hide ((hwq.block bf gb).trans HFR5.out)
            clear hwq hcq hfq hzq g6 gb gy CK CFI HB5 HFR5
            have HB5 := HB5b
            have HFR5 := HFR5b
            clear HB5b HFR5b
            have k0 := cellRow (j := 0) HFR5.out rfl
            have k1 := cellRow (j := 1) HFR5.out rfl
            have k2 := cellRow (j := 2) HFR5.out rfl
            have k3 := cellRow (j := 3) HFR5.out rfl
            have k4 := cellRow (j := 4) HFR5.out rfl
            have k5 := cellRow (j := 5) HFR5.out rfl
            have k6 := cellRow (j := 6) HFR5.out rfl
            have lb5 := lt_of_heap HFR5.out
            have ly5 := (HX4.out.below HB5.out).lt
            have CF := xface_any y { x with kv := kv', K := K' } fv wq (HX4.out.below HB5.out) (by show x.Fl.length ≤ 1000; rw [HFL.out]; simp)
            rw [show faceIn ({ x with kv := kv', K := K' } : XSt).Fl fv = ⟨#[]⟩ by show faceIn x.Fl fv = _; rw [HFL.out]; rfl] at CF
            have CF1 := hide CF
            clear CF
            go_wp2_with fail
            refine CF1.out.mono ?_
            rintro e W0 ⟨rfl, hww⟩
            rw [hww]
            clear hww W0 CF1
            have CX := hide (xcarry_any y { x with kv := kv', K := K' } ⟨k, d, ⟨ft, ff, true, fv, fk, fy, fz⟩, ⟨#[]⟩, 0, 0, false, false⟩ wq (HX4.out.below HB5.out) HTT.out HQ8.out (HL.out.length HKL.out) (fun e he => (HL.out.mem he).elim (fun e1 => by rw [e1]; exact ⟨⟨Int.natCast_nonneg k, hki⟩, HG.out⟩) (fun h1 => HKP.out e h1)) (by show 0 < ft.size; omega) z4 z5 (by show ft.size + ff.size + fy.size + fz.size ≤ 10000; omega))
            simp only [xfCells] at CX
            go_wp2_with fail
            refine CX.out.mono ?_
            rintro e W6 ⟨lv, he, hr6, hb6⟩
            have hRR := HR0c.out
            obtain ⟨rr, hrr⟩ : ∃ rr : Int, rr = (if (carL { x with kv := kv', K := K' } ⟨k, d, ⟨ft, ff, true, fv, fk, fy, fz⟩, ⟨#[]⟩, 0, 0, false, false⟩).length = 0 then 8 else 0) := ⟨_, rfl⟩
            rw [← hrr] at he hRR
            subst he
            have HE := hide (framed_end HB3.out HCH.out HX4.out HOW.out HB5.out hb6 hr6 hRR HL.out.ne)
            clear hr6 hb6 hrr hRR
            go_wp2
            go_ret2
            exact HE.out
  | false =>
    obtain ⟨W2, hW2⟩ : ∃ W2, W2 = W1.setCell ⟨bf, 2, none⟩ (.int .i64 nt) := ⟨_, rfl⟩
    have hb2 : Below w.heap.size w W2 := by rw [hW2]; exact HB1.out.setCell HWB.out _
    have hfr2 : W2.heap[bf]? = some (.cells #[.string ft, .string ff, .int .i64 nt, .int .i64 fk, .bool false, .string fy, .string fz] 248 (0, 0)) := by rw [hW2]; exact (heap_setCell_same _ _ 2 _ _ _ HFR1.out).trans (by simp)
    have HB2 := hide hb2
    have HFR2 := hide hfr2
    have HW2 := hide hW2
    clear hb2 hfr2 hW2
    go_wp2_with fail
    rw [← HW2.out]
    clear i0 i1 i2 i4 if2 lb1 p0 p1 p2 ly1 lp1
    have i0 := cellRow (j := 0) HFR2.out rfl
    have i1 := cellRow (j := 1) HFR2.out rfl
    have i2 := cellRow (j := 2) HFR2.out rfl
    have i4 := cellRow (j := 4) HFR2.out rfl
    have if2 := frzRow HFR2.out 2
    have lb1 := lt_of_heap HFR2.out
    have p0 := cell_later HB2.out HC0.out
    have p1 := cell_later HB2.out HQ0.out
    have p2 := cell_later HB2.out HQ1.out
    have ly1 := block_lt_of_cell p0
    have lp1 := block_lt_of_cell p1
    clear HW2 HW1 HBF HB1 HFR1
    have CI : Hid (∀ dd os, Calls Tryz.prog 128 #[.slice a1 T.length cp1, .int .i64 nt] (grow (redrawn W2 dd) os) fun e w' => e = .returned (.bool (tgOf T nt)) ∧ Below (grow (redrawn W2 dd) os).heap.size (grow (redrawn W2 dd) os) w') := hide fun dd os => (xin_any T (.slice a1 T.length cp1) nt (grow (redrawn W2 dd) os) ((HNM.out.below HB2.out).below (below_regrown W2 dd os)) HT1.out).mono fun e w' hh => ⟨hh.1, hh.2 ▸ Below.refl _ _⟩
    obtain ⟨tw, htw⟩ : ∃ tw, tw = tgOf T nt := ⟨_, rfl⟩
    rw [← htw] at CI
    have HTW := hide htw
    have HR3a := HR3
    have HR0a := HR0
    simp only [if_false, Bool.false_and, Bool.or_false, Bool.false_eq_true, ← htw] at HR3a HR0a
    clear htw
    go_wp2_with fail
    refine wp_region_quiet_below (by kernel_rfl) (by kernel_rfl) ?_
    repeat (quiet_step (exact Calls.regrown_of (CI.out _ _)))
    refine wpQuiet_nil ?_; intro wq hwq; replace hwq := below_of_regrown hwq; obtain ⟨hcq, hfq⟩ := bcell hwq; have hzq := hwq.size
    have hb3 := HB2.out.trans (hwq.mono HB2.out.size)
    have hfr3 := (hwq.block bf lb1).trans HFR2.out
    have HB3 := hide hb3
    have HFR3 := hide hfr3
    have j2 := cellRow (j := 2) hfr3 rfl
    have j4 := cellRow (j := 4) hfr3 rfl
    have j1 := cellRow (j := 1) hfr3 rfl
    have lb3 := lt_of_heap hfr3
    have HBAR : Hid (R 3 [] x.K → XFramed y x R w (.returned (.tuple #[.slice none 0 0, .int .i64 3])) wq) := hide fun hR => XFramed.none HX.out hR HB3.out
    have CL := hide (xlearn_any y x nt k ff wq (HX.out.below hb3) HSK.out HKL.out)
    clear hwq hcq hfq hzq hb3 hfr3 i0 i1 i2 i4 if2 lb1 p0 p1 p2 ly1 lp1 CI
    cases hv0 : (nt == 0) with
    | true =>
      have HE := hide (HBAR.out (HR3a.out (by first | rfl | (rw [hv0]; rfl) | exact hv0)))
      clear HBAR CL HR0a HR3a
      go_wp2
      go_ret2
      exact HE.out
    | false =>
      have HR0b := hide (HR0a.out (by first | (rw [hv0]; rfl) | exact hv0))
      clear HBAR HR0a HR3a
      go_wp2_with fail
      refine CL.out.mono ?_
      rintro e W4 ⟨rfl, kv', K', hl, hx4, hch, how⟩
      have HX4 := hide hx4
      have HCH := hide hch
      have HOW := hide how
      have HR0c := hide (HR0b.out kv' K' hl)
      have HL := hide hl
      have hfr4 : W4.heap[bf]? = some (.cells #[.string ft, .string ff, .int .i64 nt, .int .i64 fk, .bool false, .string fy, .string fz] 248 (0, 0)) := (hch.block bf lb3 (by
        rintro (e | e)
        · have := HLY.out; have := HWB.out; omega
        · have := HX.out.rk.lt e; have := HWB.out; omega)).trans HFR3.out
      have HFR4 := hide hfr4
      have k0 := cellRow (j := 0) hfr4 rfl
      have k1 := cellRow (j := 1) hfr4 rfl
      have k2 := cellRow (j := 2) hfr4 rfl
      have k3 := cellRow (j := 3) hfr4 rfl
      have k4 := cellRow (j := 4) hfr4 rfl
      have k5 := cellRow (j := 5) hfr4 rfl
      have k6 := cellRow (j := 6) hfr4 rfl
      have lb4 := lt_of_heap hfr4
      have ly4 := hx4.lt
      clear hl hx4 hch how hfr4 CL HR0b j1 j2 j4 lb3 hv0
      cases hip : (fy.toList == [8, 0]) with
      | false =>
        obtain ⟨W5, hW5⟩ : ∃ W5, W5 = W4 := ⟨_, rfl⟩
        have HB5 : Hid (Below W4.heap.size W4 W5) := hide (by rw [hW5]; exact Below.refl _ _)
        have HFR5 := HFR4
        rw [← hW5] at HFR5 ⊢
        clear k0 k1 k2 k3 k4 k6 lb4 ly4
        rw [← hW5] at k5
        clear hW5
        have k0 := cellRow (j := 0) HFR5.out rfl
        have k1 := cellRow (j := 1) HFR5.out rfl
        have k2 := cellRow (j := 2) HFR5.out rfl
        have k3 := cellRow (j := 3) HFR5.out rfl
        have k4 := cellRow (j := 4) HFR5.out rfl
        have k5 := cellRow (j := 5) HFR5.out rfl
        have k6 := cellRow (j := 6) HFR5.out rfl
        have lb5 := lt_of_heap HFR5.out
        have ly5 := (HX4.out.below HB5.out).lt
        have CF := xface_any y { x with kv := kv', K := K' } nt W5 (HX4.out.below HB5.out) (by show x.Fl.length ≤ 1000; rw [HFL.out]; simp)
        rw [show faceIn ({ x with kv := kv', K := K' } : XSt).Fl nt = ⟨#[]⟩ by show faceIn x.Fl nt = _; rw [HFL.out]; rfl] at CF
        have CF1 := hide CF
        clear CF
        go_wp2_with fail
        refine CF1.out.mono ?_
        rintro e W0 ⟨rfl, hww⟩
        rw [hww]
        clear hww W0 CF1
        have CX := hide (xcarry_any y { x with kv := kv', K := K' } ⟨k, d, ⟨ft, ff, false, nt, fk, fy, fz⟩, ⟨#[]⟩, 0, 0, false, false⟩ W5 (HX4.out.below HB5.out) HTT.out HQ8.out (HL.out.length HKL.out) (fun e he => (HL.out.mem he).elim (fun e1 => by rw [e1]; exact ⟨⟨Int.natCast_nonneg k, hki⟩, HG.out⟩) (fun h1 => HKP.out e h1)) (by show 0 < ft.size; omega) hnt' z5 (by show ft.size + ff.size + fy.size + fz.size ≤ 10000; omega))
        simp only [xfCells] at CX
        go_wp2_with fail
        refine CX.out.mono ?_
        rintro e W6 ⟨lv, he, hr6, hb6⟩
        have hRR := HR0c.out
        obtain ⟨rr, hrr⟩ : ∃ rr : Int, rr = (if (carL { x with kv := kv', K := K' } ⟨k, d, ⟨ft, ff, false, nt, fk, fy, fz⟩, ⟨#[]⟩, 0, 0, false, false⟩).length = 0 then 8 else 0) := ⟨_, rfl⟩
        rw [← hrr] at he hRR
        subst he
        have HE := hide (framed_end HB3.out HCH.out HX4.out HOW.out HB5.out hb6 hr6 hRR HL.out.ne)
        clear hr6 hb6 hrr hRR
        go_wp2
        go_ret2
        exact HE.out
      | true =>
        have t0 := HT6.out.1
        have t1 := HT6.out.2
        have CR := hide (xisRight_any fz W4 (by omega))
        go_wp2_with fail
        refine CR.out.mono ?_
        rintro e W5 ⟨rfl, hb5⟩
        have HB5 := hide hb5
        have HFR5 := hide ((hb5.block bf lb4).trans HFR4.out)
        clear hb5 k0 k1 k2 k3 k4 k5 k6 lb4 ly4 CR
        cases hrt : isRt fz with
        | false =>
          have k0 := cellRow (j := 0) HFR5.out rfl
          have k1 := cellRow (j := 1) HFR5.out rfl
          have k2 := cellRow (j := 2) HFR5.out rfl
          have k3 := cellRow (j := 3) HFR5.out rfl
          have k4 := cellRow (j := 4) HFR5.out rfl
          have k5 := cellRow (j := 5) HFR5.out rfl
          have k6 := cellRow (j := 6) HFR5.out rfl
          have lb5 := lt_of_heap HFR5.out
          have ly5 := (HX4.out.below HB5.out).lt
          have CF := xface_any y { x with kv := kv', K := K' } nt W5 (HX4.out.below HB5.out) (by show x.Fl.length ≤ 1000; rw [HFL.out]; simp)
          rw [show faceIn ({ x with kv := kv', K := K' } : XSt).Fl nt = ⟨#[]⟩ by show faceIn x.Fl nt = _; rw [HFL.out]; rfl] at CF
          have CF1 := hide CF
          clear CF
          go_wp2_with fail
          refine CF1.out.mono ?_
          rintro e W0 ⟨rfl, hww⟩
          rw [hww]
          clear hww W0 CF1
          have CX := hide (xcarry_any y { x with kv := kv', K := K' } ⟨k, d, ⟨ft, ff, false, nt, fk, fy, fz⟩, ⟨#[]⟩, 0, 0, false, false⟩ W5 (HX4.out.below HB5.out) HTT.out HQ8.out (HL.out.length HKL.out) (fun e he => (HL.out.mem he).elim (fun e1 => by rw [e1]; exact ⟨⟨Int.natCast_nonneg k, hki⟩, HG.out⟩) (fun h1 => HKP.out e h1)) (by show 0 < ft.size; omega) hnt' z5 (by show ft.size + ff.size + fy.size + fz.size ≤ 10000; omega))
          simp only [xfCells] at CX
          go_wp2_with fail
          refine CX.out.mono ?_
          rintro e W6 ⟨lv, he, hr6, hb6⟩
          have hRR := HR0c.out
          obtain ⟨rr, hrr⟩ : ∃ rr : Int, rr = (if (carL { x with kv := kv', K := K' } ⟨k, d, ⟨ft, ff, false, nt, fk, fy, fz⟩, ⟨#[]⟩, 0, 0, false, false⟩).length = 0 then 8 else 0) := ⟨_, rfl⟩
          rw [← hrr] at he hRR
          subst he
          have HE := hide (framed_end HB3.out HCH.out HX4.out HOW.out HB5.out hb6 hr6 hRR HL.out.ne)
          clear hr6 hb6 hrr hRR
          go_wp2
          go_ret2
          exact HE.out
        | true =>
          obtain ⟨r20, rw2⟩ := isRt_is hrt
          have g6 := cellRow (j := 6) HFR5.out rfl
          have gb := lt_of_heap HFR5.out
          have gy := (HX4.out.below HB5.out).lt
          have CK : Hid (∀ dd os, Calls Tryz.prog 134 #[.string fz] (grow (redrawn W5 dd) os) fun e w' => e = .returned (.agg #[.int .i64 (a32 fz 12), .int .i64 (a32 fz 16), .int .i64 (b8 fz 9), .int .i64 (pt0 fz), .int .i64 (pt1 fz)]) ∧ Below (grow (redrawn W5 dd) os).heap.size (grow (redrawn W5 dd) os) w') := hide fun dd os => xkey_any fz _ r20 (by omega) rw2
          have CFI : Hid (∀ dd os, Calls Tryz.prog 133 #[.pointer (some ⟨y, 3, none⟩), .agg #[.int .i64 (a32 fz 12), .int .i64 (a32 fz 16), .int .i64 (b8 fz 9), .int .i64 (pt0 fz), .int .i64 (pt1 fz)]] (grow (redrawn W5 dd) os) fun e w' => e = .returned (.int .i64 (-1)) ∧ Below (grow (redrawn W5 dd) os).heap.size (grow (redrawn W5 dd) os) w') := hide fun dd os => by
            have hx := (HX4.out.below HB5.out).below (below_regrown W5 dd os)
            refine (xFirst_any 1 y 3 _ _ _ _ _ _ _ _ ⟨hx.c3, hx.frz 3, hx.rt, by show x.rs.length ≤ 200; rw [HRS.out]; simp, by omega⟩ (by show ∀ r ∈ x.rs, _; rw [HRS.out]; simp)).mono ?_
            rintro e w' ⟨⟨z, rfl, hz⟩, hb⟩
            have hz' : XFirst x.rs _ _ _ _ _ z := hz
            rw [HRS.out] at hz'
            rw [first_nil hz']
            exact ⟨rfl, hb⟩
          clear hrt r20 rw2
          go_wp2_with fail
          refine wp_region_quiet_below (by kernel_rfl) (by kernel_rfl) ?_
          repeat (quiet_step (first | exact Calls.regrown_of (CK.out _ _) | exact Calls.regrown_of (CFI.out _ _)))
          refine wpQuiet_nil ?_; intro wq hwq; replace hwq := below_of_regrown hwq; obtain ⟨hcq, hfq⟩ := bcell hwq; have hzq := hwq.size
          have HB5b := hide (HB5.out.trans (hwq.mono HB5.out.size))
          have HFR5b := hide ((hwq.block bf gb).trans HFR5.out)
          clear hwq hcq hfq hzq g6 gb gy CK CFI HB5 HFR5
          have HB5 := HB5b
          have HFR5 := HFR5b
          clear HB5b HFR5b
          have k0 := cellRow (j := 0) HFR5.out rfl
          have k1 := cellRow (j := 1) HFR5.out rfl
          have k2 := cellRow (j := 2) HFR5.out rfl
          have k3 := cellRow (j := 3) HFR5.out rfl
          have k4 := cellRow (j := 4) HFR5.out rfl
          have k5 := cellRow (j := 5) HFR5.out rfl
          have k6 := cellRow (j := 6) HFR5.out rfl
          have lb5 := lt_of_heap HFR5.out
          have ly5 := (HX4.out.below HB5.out).lt
          have CF := xface_any y { x with kv := kv', K := K' } nt wq (HX4.out.below HB5.out) (by show x.Fl.length ≤ 1000; rw [HFL.out]; simp)
          rw [show faceIn ({ x with kv := kv', K := K' } : XSt).Fl nt = ⟨#[]⟩ by show faceIn x.Fl nt = _; rw [HFL.out]; rfl] at CF
          have CF1 := hide CF
          clear CF
          go_wp2_with fail
          refine CF1.out.mono ?_
          rintro e W0 ⟨rfl, hww⟩
          rw [hww]
          clear hww W0 CF1
          have CX := hide (xcarry_any y { x with kv := kv', K := K' } ⟨k, d, ⟨ft, ff, false, nt, fk, fy, fz⟩, ⟨#[]⟩, 0, 0, false, false⟩ wq (HX4.out.below HB5.out) HTT.out HQ8.out (HL.out.length HKL.out) (fun e he => (HL.out.mem he).elim (fun e1 => by rw [e1]; exact ⟨⟨Int.natCast_nonneg k, hki⟩, HG.out⟩) (fun h1 => HKP.out e h1)) (by show 0 < ft.size; omega) hnt' z5 (by show ft.size + ff.size + fy.size + fz.size ≤ 10000; omega))
          simp only [xfCells] at CX
          go_wp2_with fail
          refine CX.out.mono ?_
          rintro e W6 ⟨lv, he, hr6, hb6⟩
          have hRR := HR0c.out
          obtain ⟨rr, hrr⟩ : ∃ rr : Int, rr = (if (carL { x with kv := kv', K := K' } ⟨k, d, ⟨ft, ff, false, nt, fk, fy, fz⟩, ⟨#[]⟩, 0, 0, false, false⟩).length = 0 then 8 else 0) := ⟨_, rfl⟩
          rw [← hrr] at he hRR
          subst he
          have HE := hide (framed_end HB3.out HCH.out HX4.out HOW.out HB5.out hb6 hr6 hRR HL.out.ne)
          clear hr6 hb6 hrr hRR
          go_wp2
          go_ret2
          exact HE.out
end Go.Proofs.YtnjalelblbjfiaaGreatDoor
