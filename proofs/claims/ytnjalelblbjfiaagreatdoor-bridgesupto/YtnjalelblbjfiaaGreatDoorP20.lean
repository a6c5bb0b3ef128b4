import Derived.Test.YtnjalelblbjfiaaGreatDoorP19
import Derived.Laws.IdiomStrings
import Derived.Lib.QuietBelow
import Derived.BigQuiet
namespace Go.Proofs.YtnjalelblbjfiaaGreatDoor
open Go.RowKit

theorem wrap64_nat (n : Nat) (h : n < 9223372036854775808) : wrap64 (n : Int) = n := by unfold wrap64; omega
theorem tagRaw_eq (b : ByteArray) (h : b.size = 2) : tagRaw b h = (((b[0]'(by omega)).toNat * 256 + (b[1]'(by omega)).toNat : Nat) : Int) := by
  have h0 := (b[0]'(by omega)).toNat_lt
  have h1 := (b[1]'(by omega)).toNat_lt
  unfold tagRaw
  generalize (b[0]'(by omega)).toNat = x at *
  generalize (b[1]'(by omega)).toNat = y at *
  rw [wrap64_nat x (by omega), wrap64_nat y (by omega)]
  have e : (x : Int) * 256 = ((x * 256 : Nat) : Int) := by omega
  rw [e, wrap64_nat _ (by omega), i64_or_nat _ _ (by omega) (by omega)]
  congr 1
  have := Nat.shiftLeft_add_eq_or_of_lt (i := 8) (b := y) (by omega) x
  rw [Nat.shiftLeft_eq] at this
  exact this.symm
theorem and_low (n : Nat) (h : n < 65536) : bits BinOp.and IntKind.i64 (n : Int) 4095 = ((n % 4096 : Nat) : Int) := by
  have := i64_and_nat n 4095 (by omega) (by omega)
  rw [show ((4095 : Nat) : Int) = 4095 from rfl] at this
  rw [this]
  congr 1
  exact Nat.and_two_pow_sub_one_eq_mod n 12
end Go.Proofs.YtnjalelblbjfiaaGreatDoor

namespace Go.Proofs.YtnjalelblbjfiaaGreatDoor
open Go.RowKit

theorem allocS (w : World) (o : Obj) : (w.alloc o).heap.size = w.heap.size + 1 := by simp
theorem allocN (w : World) (o : Obj) : (w.alloc o).heap[w.heap.size]? = some o := World.alloc_heap_new w o
theorem cellRow {w : World} {g j : Nat} {cur : Array Value} {t : TypeId} {fr : Nat × Nat} {v : Value} (hg : w.heap[g]? = some (.cells cur t fr)) (hv : cur[j]? = some v) : w.cell? ⟨g, j, none⟩ = some v := by simp [World.cell?, hg, hv]
theorem frzRow {w : World} {b : Nat} {c : Array Value} {t : TypeId} (h : w.heap[b]? = some (.cells c t (0, 0))) (j : Nat) : w.frozen? ⟨b, j, none⟩ = false := by
  unfold World.frozen?; simp only [h]; rfl

/-- The number that a tag's bytes hold, as the program reckons it. -/
def tagN (v k : Int) : Int := bits BinOp.or IntKind.i64 (wrap64 (k * 4096)) v
/-- The bytes of a tag. -/
def tagS (g : Bool) (v k : Int) : ByteArray := if g then ⟨#[129, 0]⟩ ++ ⟨#[UInt8.ofNat (tagN v k / 256 % 256).toNat, UInt8.ofNat (tagN v k % 256).toNat]⟩ else ⟨#[]⟩
theorem conv2 (W : World) (g : Nat) (x y : Int) (hx : 0 ≤ x ∧ x < 256) (hy : 0 ≤ y ∧ y < 256) (h0 : W.cell? ⟨g, 0, none⟩ = some (.int .u8 x)) (h1 : W.cell? ⟨g, 1, none⟩ = some (.int .u8 y)) :
    (convert 334 9 (.slice (some ⟨g, 0, none⟩) 2 2)).run Tryz.prog W = .ok (.string ⟨#[UInt8.ofNat x.toNat, UInt8.ofNat y.toNat]⟩) W := by
  refine run_convert_bytes_back W 334 9 5 ⟨g, 0, none⟩ 2 [UInt8.ofNat x.toNat, UInt8.ofNat y.toNat] Tryz.underlying334 Tryz.underlying5 Tryz.underlying9 ?_
  intro j hj
  match j, hj with
  | 0, _ =>
    have e : ((UInt8.ofNat x.toNat).toNat : Int) = x := by simp; omega
    show W.cell? ⟨g, 0, none⟩ = some (.int .u8 ((UInt8.ofNat x.toNat).toNat : Int))
    rw [e]; exact h0
  | 1, _ =>
    have e : ((UInt8.ofNat y.toNat).toNat : Int) = y := by simp; omega
    show W.cell? ⟨g, 1, none⟩ = some (.int .u8 ((UInt8.ofNat y.toNat).toNat : Int))
    rw [e]; exact h1
set_option maxRecDepth 100000 in
set_option maxHeartbeats 1000000 in
theorem tag_any (t f y r : ByteArray) (g : Bool) (v k : Int) (w : World)  :
    Calls Tryz.prog 209 #[.agg #[.string t, .string f, .bool g, .int .i64 v, .int .i64 k, .string y, .string r]] w fun e w' => e = .returned (.string (tagS g v k)) ∧ Below w.heap.size w w' := by
  cases g
  · have hs : tagS false v k = ⟨#[]⟩ := rfl
    rw [hs]
    go_enter Tryz.func209, Tryz.ntmps209
    go_wp2
    all_goals go_ret
    all_goals exact ⟨rfl, (Below.refl _ w).alloc (Nat.le_refl _) _⟩
  · have hcv := conv2 ((w.alloc (.cells #[.string t, .string f, .bool true, .int .i64 v, .int .i64 k, .string y, .string r] 146)).alloc (.cells #[.int .u8 (bits BinOp.or IntKind.i64 (wrap64 (k * 4096)) v / 256 % 256), .int .u8 (bits BinOp.or IntKind.i64 (wrap64 (k * 4096)) v % 256)] 5)) (w.heap.size + 1) (bits BinOp.or IntKind.i64 (wrap64 (k * 4096)) v / 256 % 256) (bits BinOp.or IntKind.i64 (wrap64 (k * 4096)) v % 256) (by omega) (by omega) (by rw [← allocS w (.cells #[.string t, .string f, .bool true, .int .i64 v, .int .i64 k, .string y, .string r] 146)]; exact cellRow (allocN _ _) rfl) (by rw [← allocS w (.cells #[.string t, .string f, .bool true, .int .i64 v, .int .i64 k, .string y, .string r] 146)]; exact cellRow (allocN _ _) rfl)
    go_enter Tryz.func209, Tryz.ntmps209
    go_wp2
    all_goals go_ret
    all_goals exact ⟨rfl, ((Below.refl _ w).alloc (Nat.le_refl _) _).alloc (by simp) _⟩
end Go.Proofs.YtnjalelblbjfiaaGreatDoor

namespace Go.Proofs.YtnjalelblbjfiaaGreatDoor
open Go.RowKit
open Go.Sort (grow)
attribute [local go_sem] cell?_regrown

/-- The bytes of a frame. -/
def bytesF (f : Fr) : ByteArray := f.to ++ f.fr ++ tagS f.tagged f.vlan f.mark ++ f.ty ++ f.rest
set_option maxRecDepth 100000 in
set_option maxHeartbeats 1000000 in
theorem bytes_any (x : Fr) (w : World) (hl : x.to.size + x.fr.size + (tagS x.tagged x.vlan x.mark).size + x.ty.size + x.rest.size ≤ 4611686018427387904) :
    Calls Tryz.prog 175 #[.agg (frCells x)] w fun e w' => e = .returned (.string (bytesF x)) ∧ Below w.heap.size w w' := by
  obtain ⟨t, f, g, v, k, y, r⟩ := x
  unfold bytesF
  simp only [frCells] at hl ⊢
  obtain ⟨w0, hw0⟩ : ∃ w0, w0 = w.alloc (.cells #[.string t, .string f, .bool g, .int .i64 v, .int .i64 k, .string y, .string r] 146) := ⟨_, rfl⟩
  have hb0 : Below w.heap.size w w0 := by rw [hw0]; exact (Below.refl _ w).alloc (Nat.le_refl _) _
  have b0 : w0.heap[w.heap.size]? = some (.cells #[.string t, .string f, .bool g, .int .i64 v, .int .i64 k, .string y, .string r] 146 (0, 0)) := by rw [hw0]; exact World.alloc_heap_new _ _
  have hww : w.heap.size < w0.heap.size := by rw [hw0]; simp
  have c0 : w0.cell? ⟨w.heap.size, 0, none⟩ = some (.string t) := by simp [World.cell?, b0]
  have c1 : w0.cell? ⟨w.heap.size, 1, none⟩ = some (.string f) := by simp [World.cell?, b0]
  have c2 : w0.cell? ⟨w.heap.size, 2, none⟩ = some (.bool g) := by simp [World.cell?, b0]
  have c3 : w0.cell? ⟨w.heap.size, 3, none⟩ = some (.int .i64 v) := by simp [World.cell?, b0]
  have c4 : w0.cell? ⟨w.heap.size, 4, none⟩ = some (.int .i64 k) := by simp [World.cell?, b0]
  have c5 : w0.cell? ⟨w.heap.size, 5, none⟩ = some (.string y) := by simp [World.cell?, b0]
  have c6 : w0.cell? ⟨w.heap.size, 6, none⟩ = some (.string r) := by simp [World.cell?, b0]
  have CT := hide fun (d : Nat) (os : Array Obj) => tag_any t f y r g v k (grow (redrawn w0 d) os)
  have HW0 := hide hw0
  generalize tagS g v k = ts at *
  have l1 : ¬ 9223372036854775807 < t.size + f.size := by omega
  have l2 : ¬ 9223372036854775807 < t.size + f.size + ts.size := by omega
  have l3 : ¬ 9223372036854775807 < t.size + f.size + ts.size + y.size := by omega
  have l4 : ¬ 9223372036854775807 < t.size + f.size + ts.size + y.size + r.size := by omega
  have HB0 := hide hb0
  clear b0 hw0 hb0
  go_enter Tryz.func175, Tryz.ntmps175
  go_wp2_with fail
  rw [← HW0.out]
  refine wp_region_quiet_below (by kernel_rfl) (by kernel_rfl) ?_
  repeat (first | go_big_quiet_skip | quiet_step (exact Calls.regrown_of (CT.out _ _)))
  refine wpQuiet_nil ?_; intro wq hwq; replace hwq := below_of_regrown hwq; obtain ⟨hcq, hfq⟩ := bcell hwq; have hzq := hwq.size
  go_wp2
  go_ret
  exact ⟨rfl, HB0.out.trans (hwq.mono (by omega))⟩
end Go.Proofs.YtnjalelblbjfiaaGreatDoor

namespace Go.Proofs.YtnjalelblbjfiaaGreatDoor
open Go.RowKit
open Go.Sort (grow)
attribute [local go_sem] cell?_regrown

/-- All blocks but one are as they were. -/
def OnlyG (g : Nat) (w w' : World) : Prop := w'.os = w.os ∧ w'.tape = w.tape ∧ w'.output = w.output ∧ w.heap.size ≤ w'.heap.size ∧ ∀ b, b < w.heap.size → b ≠ g → w'.heap[b]? = w.heap[b]?
theorem OnlyG.of_below {g : Nat} {w w' : World} (h : Below w.heap.size w w') : OnlyG g w w' := ⟨h.os, h.tape, h.output, h.size, fun b hb _ => h.block b hb⟩
theorem OnlyG.trans {g : Nat} {a b c : World} (h : OnlyG g a b) (k : OnlyG g b c) : OnlyG g a c :=
  ⟨k.1.trans h.1, k.2.1.trans h.2.1, k.2.2.1.trans h.2.2.1, Nat.le_trans h.2.2.2.1 k.2.2.2.1, fun x hx hne => (k.2.2.2.2 x (Nat.lt_of_lt_of_le hx h.2.2.2.1) hne).trans (h.2.2.2.2 x hx hne)⟩
theorem OnlyG.set {g : Nat} {w w' : World} (h : OnlyG g w w') (i : Nat) (v : Value) : OnlyG g w (w'.setCell ⟨g, i, none⟩ v) :=
  ⟨h.1, h.2.1, h.2.2.1, by simp; exact h.2.2.2.1, fun b hb hne => (heap_setCell_other _ _ b _ hne).trans (h.2.2.2.2 b hb hne)⟩

theorem OnlyG.drewN {g : Nat} {w w' : World} (h : OnlyG g w w') (n : Nat) : OnlyG g w (w'.drewN n) := h.trans (OnlyG.of_below (below_drewN (Below.refl _ _) n))
theorem PgAt.drewN {w : World} {g : Nat} {p : Pg} {ov : Value} (h : PgAt w g p ov) (n : Nat) : PgAt (w.drewN n) g p ov := h.below (below_drewN (Below.refl _ _) n)

/-- The VLAN that a frame is of at a port. -/
def vlanAt (p : Prt) (f : Fr) : Int := if f.tagged then f.vlan else p.nat
/-- Whether it may not come in. -/
def barredAt (p : Prt) (f : Fr) : Bool := vlanAt p f == 0 || (f.tagged && !p.tg (vlanAt p f))

set_option maxRecDepth 100000 in
set_option maxHeartbeats 1000000 in
theorem admit_any (s g : Nat) (pv : Value) (P : List Prt) (p : Pg) (ov : Value) (k : Nat) (w : World) (h0 : w.cell? ⟨s, 0, none⟩ = some pv) (hp : PortsAt w pv P) (hg : PgAt w g p ov) (hk : k < P.length) (hpk : p.port = k) (_hsg : s ≠ g)
    (hw1 : (Lit.int .i64 p.f.vlan).wf = true) (_hw2 : (Lit.int .i64 (P[k]).nat).wf = true) :
    Calls Tryz.prog 58 #[.pointer (some ⟨s, 0, none⟩), .pointer (some ⟨g, 0, none⟩)] w fun e w' => e = .returned (.int .i64 (if barredAt (P[k]) p.f then 3 else -1)) ∧ PgAt w' g { p with f := { p.f with vlan := vlanAt (P[k]) p.f } } ov ∧ OnlyG g w w' := by
  obtain ⟨a, cap, b, rfl, hc⟩ := hp
  obtain ⟨rfl, n0, mv, n1, ht⟩ := hc k hk
  have g0 : w.cell? ⟨g, 0, none⟩ = some (.int .i64 k) := by rw [← hpk]; exact hg.cell rfl
  have hglt := hg.lt
  have hslt := block_lt_of_cell h0
  have hblt := block_lt_of_cell n0
  have hkl : (k : Int) < P.length := by omega
  generalize hat : P[k] = at_ at *
  clear hc hat
  obtain ⟨mo, rfl⟩ : ∃ mo, mv = .map mo := by rcases ht with ⟨rfl, _⟩ | ⟨b, n, D, rfl, _⟩ <;> exact ⟨_, rfl⟩
  obtain ⟨rs, hrs⟩ : ∃ rs : Int, rs = if barredAt at_ p.f then 3 else -1 := ⟨_, rfl⟩
  obtain ⟨vl, hvl⟩ : ∃ vl : Int, vl = vlanAt at_ p.f := ⟨_, rfl⟩
  rw [← hrs, ← hvl]
  have HR := hide hrs
  have HV := hide hvl
  have HG := hide hg
  have HT := hide ht
  clear hrs hvl hpk
  have d4 : w.cell? ⟨g, 4, none⟩ = some (.bool p.f.tagged) := hg.cell rfl
  have d5 : w.cell? ⟨g, 5, none⟩ = some (.int .i64 p.f.vlan) := hg.cell rfl
  clear hg ht
  go_enter Tryz.func58, Tryz.ntmps58
  go_wp2
  go_region
  obtain ⟨W0, hW0⟩ : ∃ W0, W0 = (w.alloc (.cells #[.int .i64 at_.nat, .map mo] 143)).drew := ⟨_, rfl⟩
  rw [← hW0]
  have hb0 : Below w.heap.size w W0 := by rw [hW0]; exact ((Below.refl _ w).alloc (Nat.le_refl _) _).drew
  have hs0 : W0.heap.size = w.heap.size + 1 := by rw [hW0]; simp
  have hblk : W0.heap[w.heap.size]? = some (.cells #[.int .i64 at_.nat, .map mo] 143 (0, 0)) := by rw [hW0]; exact World.alloc_heap_new w _
  have p0 : W0.cell? ⟨w.heap.size, 0, none⟩ = some (.int .i64 at_.nat) := by simp [World.cell?, hblk]
  have p1 : W0.cell? ⟨w.heap.size, 1, none⟩ = some (.map mo) := by simp [World.cell?, hblk]
  have e4 := cell_later hb0 d4
  have e5 := cell_later hb0 d5
  have f5 : W0.frozen? ⟨g, 5, none⟩ = false := (HG.out.below hb0).frozen 5
  have HB0 := hide hb0
  have HPG := hide (HG.out.below hb0)
  have HTW := hide (HT.out.below hb0)
  have hgw : ¬ g = w.heap.size := by omega
  have hgw2 : ¬ w.heap.size = g := by omega
  have hg0 : g < W0.heap.size := by omega
  have hw0 : w.heap.size < W0.heap.size := by omega
  clear hW0 hblk hb0 d4 d5 g0 h0 n0 n1 HG HT hs0
  cases htg : p.f.tagged with
  | false =>
    rw [htg] at e4
    obtain rfl : vl = at_.nat := by rw [HV.out]; unfold vlanAt; rw [htg]; rfl
    have eb : Hid (rs = if (at_.nat == 0) = true then 3 else -1) := hide (by rw [HR.out]; unfold barredAt vlanAt; rw [htg]; simp)
    obtain ⟨W1, hW1⟩ : ∃ W1, W1 = W0.setCell ⟨g, 5, none⟩ (.int .i64 at_.nat) := ⟨_, rfl⟩
    have HQ : Hid (PgAt W1 g { p with f := { p.f with vlan := at_.nat } } ov) := hide (hW1 ▸ HPG.out.set 5 _ rfl)
    have q4 : W1.cell? ⟨g, 4, none⟩ = some (.bool false) := by rw [← htg]; exact HQ.out.cell rfl
    have q5 : W1.cell? ⟨g, 5, none⟩ = some (.int .i64 at_.nat) := HQ.out.cell rfl
    have HO : Hid (OnlyG g w W1) := hide (hW1 ▸ (OnlyG.of_below HB0.out).set 5 _)
    have HW1 := hide hW1
    clear htg HR HV hW1
    go_wp2
    rw [← HW1.out]
    by_cases hz : at_.nat = 0
    · have hd : (at_.nat == 0) = true := by simpa using hz
      have er := eb.out
      rw [hd] at er
      have ER := hide er
      clear er hz eb
      go_quiet (fail)
      go_wp2
      go_ret
      exact ⟨by rw [ER.out]; rfl, HQ.out.drewN _, HO.out.drewN _⟩
    · have hd : (at_.nat == 0) = false := by simpa using hz
      have er := eb.out
      rw [hd] at er
      have ER := hide er
      clear er hz eb
      go_quiet (fail)
      go_wp2
      go_ret
      exact ⟨by rw [ER.out]; rfl, HQ.out.drewN _, HO.out.drewN _⟩
  | true =>
    rw [htg] at e4
    obtain rfl : vl = p.f.vlan := by rw [HV.out]; unfold vlanAt; rw [htg]; rfl
    have eb : Hid (rs = if (p.f.vlan == 0 || !at_.tg p.f.vlan) = true then 3 else -1) := hide (by rw [HR.out]; unfold barredAt vlanAt; rw [htg]; simp)
    have CT := hide fun (d : Nat) (os : Array Obj) => hasTagged_any at_.nat (.map mo) at_.tg p.f.vlan (Go.Sort.grow (redrawn W0 d) os) (HTW.out.below (below_regrown W0 d os)) hw1
    have HO : Hid (OnlyG g w W0) := hide (OnlyG.of_below HB0.out)
    clear htg HR HV
    by_cases hz : p.f.vlan = 0
    · have hd : (p.f.vlan == 0) = true := by simpa using hz
      have er := eb.out
      rw [hd, Bool.true_or] at er
      have ER := hide er
      clear er hz eb
      go_wp2
      go_quiet (fail)
      go_wp2
      go_ret
      exact ⟨by rw [ER.out]; rfl, HPG.out.drewN _, HO.out.drewN _⟩
    · have hd : (p.f.vlan == 0) = false := by simpa using hz
      have er := eb.out
      rw [hd, Bool.false_or] at er
      have ER := hide er
      clear er hz eb
      go_wp2
      refine wp_region_quiet_below (by kernel_rfl) (by kernel_rfl) ?_
      repeat (first | go_big_quiet_skip | quiet_step (exact Calls.regrown_of (CT.out _ _)))
      refine wpQuiet_nil ?_; intro wq hwq; replace hwq := below_of_regrown hwq; obtain ⟨hcq, hfq⟩ := bcell hwq; have hzq := hwq.size
      have HQW := hide hwq
      clear hcq hfq hwq
      generalize at_.tg p.f.vlan = ok at *
      cases ok
      · go_wp2
        go_ret
        exact ⟨by rw [ER.out]; rfl, HPG.out.below HQW.out, HO.out.trans (OnlyG.of_below HQW.out)⟩
      · go_wp2
        go_ret
        exact ⟨by rw [ER.out]; rfl, HPG.out.below HQW.out, HO.out.trans (OnlyG.of_below HQW.out)⟩
end Go.Proofs.YtnjalelblbjfiaaGreatDoor
