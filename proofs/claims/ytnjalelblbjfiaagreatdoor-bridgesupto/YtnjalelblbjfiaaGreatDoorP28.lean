import Derived.Test.YtnjalelblbjfiaaGreatDoorP27
import Derived.Test.YtnjalelblbjfiaaGreatDoorP16
namespace Go.Proofs.YtnjalelblbjfiaaGreatDoor
open Go.RowKit

theorem NewI.swP {w Wb W : World} {fb rb hb t vb k m : Nat} {F : Nat → Prop} {n : Nat} (h : NewI w fb rb hb t vb k m F Wb n W) (hm : Means w) : ∃ pv Q, SwP W Wb.heap.size pv (List.replicate n ⟨1, fun _ => false⟩) k m (.slice none 0 0) [] ∧ PortsO W pv (List.replicate n ⟨1, fun _ => false⟩) Q ∧ (∀ p ∈ Q, p = ((1 : Int), Value.map none)) ∧ W.heap[Wb.heap.size]? = some (.cells (swCells pv fb rb t vb k) 140 (0, 0)) ∧ (∀ b, pv.ownBlock = some b → Wb.heap.size < b) := by
  obtain ⟨pv, h1, h2⟩ := h.s
  have hp : PortsO W pv (List.replicate n ⟨1, fun _ => false⟩) (List.replicate n (1, .map none)) :=
    ⟨by simp, by rw [List.length_replicate]; exact ownsRow_base h2 (Nat.zero_le _), fun j hj => by simp; exact .inl ⟨rfl, fun _ => rfl⟩⟩
  refine ⟨pv, _, ⟨?_, hp.at, ?_, h.n.nk.below h.lo, (hm.below h.n.lo).below h.lo⟩, hp, fun p hp' => List.eq_of_mem_replicate hp', h1, fun b hb => (ownsRow_lt h2 hb).1⟩
  · exact cellRow h1 rfl
  · exact cellRow h1 rfl

theorem LearnK.mem {K K' : List Mc} {e0 : Mc} (h : LearnK K e0 K') {e : Mc} (he : e ∈ K') : e = e0 ∨ e ∈ K := by
  obtain ⟨h1, h2⟩ := h
  split at h2
  · exact ((h2.1 e).1 he).imp id fun h => h.1
  · rw [h2] at he; exact .inr he
end Go.Proofs.YtnjalelblbjfiaaGreatDoor

namespace Go.Proofs.YtnjalelblbjfiaaGreatDoor
open Go.RowKit

/-- Frame of a plain frame at a port whose native VLAN is 1. -/
theorem frameP (s k m : Nat) (pv sv : Value) (P : List Prt) (K : List Mc) (port : Int) (to fr rest : List UInt8) (a b : UInt8) (w : World) (h : SwP w s pv P k m sv K) (h8 : P.length ≤ 8) (hnat : ∀ p ∈ P, (Lit.int .i64 p.nat).wf = true) (hn : K.length ≤ 64) (hp : 0 ≤ port ∧ port < P.length) (hv1 : (pAt P port.toNat).nat = 1) (ht : to.length = 6) (hf : fr.length = 6) (hk : ¬ (a = 129 ∧ b = 0)) (hk2 : ¬ (a = 8 ∧ b = 0)) (hl : rest.length ≤ 500) (hg : isGrp (ofL fr) = false) :
    Calls Tryz.prog 20 #[.pointer (some ⟨s, 0, none⟩), .int .i64 port, .string (ofL (to ++ fr ++ [a, b] ++ rest))] w (FrameEnd w k m sv fun r L K' => LearnK K ⟨1, ofL fr, port, 0⟩ K' ∧ L = fwdO P ⟨port, ofL (to ++ fr ++ [a, b] ++ rest), ⟨ofL to, ofL fr, false, 1, 0, ofL [a, b], ofL rest⟩, ⟨#[]⟩, 0, 0, false, false⟩ (portOf (known K' 1 (ofL to))) (known K' 1 (ofL to)).isSome P.length ∧ r = if L.length = 0 then 8 else 0) := by
  have hrd := read_plain to fr rest a b ht hf hk
  refine (sFrame_of s k m pv sv P K port _ w h h8 hn hnat _ _ _ (middleN s k m pv sv P K port _ w h hnat (kind_plain to fr rest a b ht hf hk hk2))).mono ?_
  rintro e W ⟨r, L, K', ov, sv', rfl, hR, h1, h2, h3, h4, h5⟩
  have hb : barredAt (pAt P port.toNat) ⟨ofL to, ofL fr, false, 0, 0, ofL [a, b], ofL rest⟩ = false := by
    unfold barredAt vlanAt
    simp [hv1]
  obtain ⟨q1, q2, q3⟩ := frame_plain hR hp (fate_plain to fr rest a b ht hf hk hl hg) hrd hb
  have hpi : pIn P port (ofL (to ++ fr ++ [a, b] ++ rest)) ⟨ofL to, ofL fr, false, 0, 0, ofL [a, b], ofL rest⟩ = ⟨port, ofL (to ++ fr ++ [a, b] ++ rest), ⟨ofL to, ofL fr, false, 1, 0, ofL [a, b], ofL rest⟩, ⟨#[]⟩, 0, 0, false, false⟩ := by
    unfold pIn vlanAt
    simp [hv1]
  rw [hpi] at q1 q2
  exact ⟨r, L, K', ov, sv', rfl, ⟨q1, q2, q3⟩, h1, h2, h3, h4, h5⟩
/-- The two of the document's second example. -/
def mA : List UInt8 := [2, 97, 97, 97, 97, 97]
def mB : List UInt8 := [2, 98, 98, 98, 98, 98]
def sText : List UInt8 := [116, 101, 120, 116]
def sBack : List UInt8 := [98, 97, 99, 107]
def eA : Mc := ⟨1, ofL mA, 0, 0⟩
def eB : Mc := ⟨1, ofL mB, 1, 0⟩
def P2 : List Prt := List.replicate 2 ⟨1, fun _ => false⟩
def P2' : List Prt := [⟨1, fun _ => false⟩, ⟨0, tgOf [5, 1]⟩]
theorem grpA : isGrp (ofL mA) = false := by decide
theorem grpB : isGrp (ofL mB) = false := by decide
theorem cmp_AB : cmpM eA 1 (ofL mB) < 0 := by
  unfold cmpM eA
  rw [ofL_toList, ofL_toList]
  decide
theorem learn1 : LearnK [] eA [eA] := by
  refine ⟨List.pairwise_singleton _ _, ?_⟩
  rw [if_pos (by simp)]
  exact ⟨fun q => by simp, by simp [known]⟩
theorem sorted2 : SortedP [eA, eB] := List.Pairwise.cons (fun q hq => by rw [List.mem_singleton.1 hq]; exact cmp_AB) (List.pairwise_singleton _ _)
theorem known2 (x : List UInt8) (K : List Mc) : known K 1 (ofL x) = K.find? fun e => e.vlan == 1 && e.mac.toList == x := by
  unfold known
  rw [ofL_toList]
theorem known_A1 : known [eA] 1 (ofL mB) = none := by
  rw [known2]
  simp [List.find?, eA, ofL_toList, mA, mB]
theorem known_A2 : known [eA, eB] 1 (ofL mA) = some eA := by
  rw [known2]
  simp [List.find?, eA, ofL_toList, mA]
theorem known_B2 : known [eA, eB] 1 (ofL mB) = some eB := by
  rw [known2]
  simp [List.find?, eA, eB, ofL_toList, mA, mB]
theorem cmp_BA : cmpM eB 1 (ofL mA) ≠ 0 := fun h => by
  have := cmpM_zero.1 h
  simp [eB, ofL_toList, mA, mB] at this
theorem learn2 : LearnK [eA] eB [eA, eB] := by
  refine ⟨sorted2, ?_⟩
  have hk : known [eA] eB.vlan eB.mac = none := known_A1
  rw [hk, if_pos (by simp)]
  refine ⟨fun q => ?_, by simp⟩
  simp only [List.mem_cons, List.not_mem_nil, or_false]
  have := cmp_AB
  constructor
  · rintro (rfl | rfl)
    · exact .inr ⟨rfl, fun e => by have e' : cmpM eA 1 (ofL mB) = 0 := e; omega⟩
    · exact .inl rfl
  · rintro (rfl | ⟨rfl, _⟩)
    · exact .inr rfl
    · exact .inl rfl
theorem learn3 : LearnK [eA, eB] eA [eA, eB] := by
  refine ⟨sorted2, ?_⟩
  have hk : known [eA, eB] eA.vlan eA.mac = some eA := known_A2
  rw [hk, if_pos (by simp)]
  refine ⟨fun q => ?_, by simp⟩
  simp only [List.mem_cons, List.not_mem_nil, or_false]
  constructor
  · rintro (rfl | rfl)
    · exact .inl rfl
    · exact .inr ⟨.inr rfl, fun e => cmp_BA e⟩
  · rintro (rfl | ⟨rfl | rfl, _⟩)
    · exact .inl rfl
    · exact .inl rfl
    · exact .inr rfl
theorem tag1 : tgOf [5, 1] 1 = true := by decide
theorem out1 (d : ByteArray) : fwdO P2 ⟨0, d, ⟨ofL mB, ofL mA, false, 1, 0, ofL [18, 52], ofL sText⟩, ⟨#[]⟩, 0, 0, false, false⟩ 0 false 2 = [(1, ofL (mB ++ mA ++ [18, 52] ++ sText))] := by
  have e : outF ⟨1, fun _ => false⟩ ⟨ofL mB, ofL mA, false, 1, 0, ofL [18, 52], ofL sText⟩ = ofL (mB ++ mA ++ [18, 52] ++ sText) := by
    rw [out_plain _ _ rfl]
    show ofL mB ++ ofL mA ++ ofL [18, 52] ++ ofL sText = _
    rw [ofL_append, ofL_append, ofL_append]
  simp [fwdO, List.range, List.range.loop, goesTo, hasV, P2, pAt, e]
theorem out2 (d : ByteArray) : fwdO P2 ⟨1, d, ⟨ofL mA, ofL mB, false, 1, 0, ofL [18, 52], ofL sBack⟩, ⟨#[]⟩, 0, 0, false, false⟩ 0 true 2 = [(0, ofL (mA ++ mB ++ [18, 52] ++ sBack))] := by
  have e : outF ⟨1, fun _ => false⟩ ⟨ofL mA, ofL mB, false, 1, 0, ofL [18, 52], ofL sBack⟩ = ofL (mA ++ mB ++ [18, 52] ++ sBack) := by
    rw [out_plain _ _ rfl]
    show ofL mA ++ ofL mB ++ ofL [18, 52] ++ ofL sBack = _
    rw [ofL_append, ofL_append, ofL_append]
  simp [fwdO, List.range, List.range.loop, goesTo, hasV, P2, pAt, e]
theorem out3 (d : ByteArray) : fwdO P2' ⟨0, d, ⟨ofL mB, ofL mA, false, 1, 0, ofL [18, 52], ofL sText⟩, ⟨#[]⟩, 0, 0, false, false⟩ 1 true 2 = [(1, ofL (mB ++ mA ++ [129, 0, 0, 1] ++ [18, 52] ++ sText))] := by
  have e : outF ⟨0, tgOf [5, 1]⟩ ⟨ofL mB, ofL mA, false, 1, 0, ofL [18, 52], ofL sText⟩ = ofL (mB ++ mA ++ [129, 0, 0, 1] ++ [18, 52] ++ sText) := by
    have e1 : tagS true 1 0 = ofL [129, 0, 0, 1] := by
      have h1 : tagN 1 0 = 1 := by kernel_rfl
      unfold tagS
      rw [h1, if_pos rfl]
      show ofL [129, 0] ++ ofL [UInt8.ofNat ((1 : Int) / 256 % 256).toNat, UInt8.ofNat ((1 : Int) % 256).toNat] = _
      rw [ofL_append, show UInt8.ofNat ((1 : Int) / 256 % 256).toNat = 0 by decide, show UInt8.ofNat ((1 : Int) % 256).toNat = 1 by decide]
      rfl
    unfold outF bytesF
    show ofL mB ++ ofL mA ++ tagS true 1 0 ++ ofL [18, 52] ++ ofL sText = _
    rw [e1]
    rw [ofL_append, ofL_append, ofL_append, ofL_append]
  simp [fwdO, List.range, List.range.loop, goesTo, hasV, P2', pAt, e, tag1]
theorem port2 : portRes P2 1 0 [5, 1] = 0 := by decide
theorem portset2 : portSet P2 1 0 [5, 1] = P2' := by
  unfold portSet
  rw [if_pos port2]
  rfl
end Go.Proofs.YtnjalelblbjfiaaGreatDoor

namespace Go.Proofs.YtnjalelblbjfiaaGreatDoor
open Go.RowKit
attribute [local go_sem] Oper.semAt_some cell?_regrown

def qMLoad (v : Value) : Sem Value := Instr.loadAt 68 v
theorem qMLoad_fold (v : Value) : Instr.loadAt 68 v = qMLoad v := rfl
def qMStore (p v : Value) : Sem Unit := Instr.storeAt 68 p v
theorem qMStore_fold (p v : Value) : Instr.storeAt 68 p v = qMStore p v := rfl
theorem underMz : ∃ d, Tryz.prog.underlying 68 = some d ∧ d.isRow = true := isRow_of (by kernel_rfl)
theorem sizeMz : (Tryz.prog.info? 68).map (·.size) = some 4 := by kernel_rfl
theorem infoMz : (Tryz.prog.info? 68).map (fun i => (i.zero, i.size, i.bytes)) = some (some (.agg #[.int .i64 0, .string ⟨#[]⟩, .int .i64 0, .int .i64 0]), 4, 40) := by kernel_rfl
theorem underMs : Tryz.prog.underlying 62 = some (.slice 68) := by kernel_rfl
def markAM (x : Int) (j : Nat) : Array Value := (rep [.int .i64 0, .string ⟨#[]⟩, .int .i64 x, .int .i64 0] j).toArray
theorem buildKeptM (x : Int) (a1 a2 a3 a4 : Option Addr) (l1 l2 l3 l4 c1 c2 c3 c4 : Nat) (w : World) : (Instr.buildSlice 29 4 #[(0, .agg #[.int .i64 x, .slice none 0 0, .slice none 0 0, .slice a1 l1 c1, .slice none 0 0]), (1, .agg #[.int .i64 x, .slice none 0 0, .slice none 0 0, .slice a2 l2 c2, .slice none 0 0]), (2, .agg #[.int .i64 x, .slice none 0 0, .slice none 0 0, .slice a3 l3 c3, .slice none 0 0]), (3, .agg #[.int .i64 x, .slice none 0 0, .slice none 0 0, .slice a4 l4 c4, .slice none 0 0])]).run Tryz.prog w = .ok (.slice (some ⟨w.heap.size, 0, none⟩) 4 4) (w.alloc (.cells #[.int .i64 x, .slice none 0 0, .slice none 0 0, .slice a1 l1 c1, .slice none 0 0, .int .i64 x, .slice none 0 0, .slice none 0 0, .slice a2 l2 c2, .slice none 0 0, .int .i64 x, .slice none 0 0, .slice none 0 0, .slice a3 l3 c3, .slice none 0 0, .int .i64 x, .slice none 0 0, .slice none 0 0, .slice a4 l4 c4, .slice none 0 0] 78)) := by kernel_rfl
def keptM (m : Nat) (u : Value) : KeptD := ⟨m, .slice none 0 0, .slice none 0 0, u, .slice none 0 0⟩
theorem keptM_ok {m : Nat} (hm : m ≤ 1000000000) (W : World) (c : Nat → Nat) (u : Value) (h : Full W c 4 u (markM m)) : (keptM m u).Ok W c := ⟨hm, Full.nil _ _, Full.nil _ _, h, Full.nil _ _⟩
attribute [local go_sem ↓ high] buildKeptM
attribute [local go_sem ↓ high] qMLoad_fold qMStore_fold xApp_fold
theorem news_markM (W : World) (x : Int) (j : Nat) : ∀ q u, (rep [.int .i64 0, .string ⟨#[]⟩, .int .i64 x, .int .i64 0] j)[q]? = some u → (W.alloc (.cells (markAM x j) 68)).cell? ((⟨W.heap.size, 0, none⟩ : Addr).add q) = some u := fun q u hu => by
  rw [Addr.add_mid]
  exact range_new W (markAM x j) 68 q u (by unfold markAM; rw [List.toList_toArray]; exact hu)
/-- One append of marks, as the walk needs it. -/
theorem mark_appendM {W : World} {x : Int} {v : Value} {len : Nat} (h : Hld W 68 4 [.int .i64 0, .string ⟨#[]⟩, .int .i64 x, .int .i64 0] v len) (j : Nat) (hj : 0 < j ∧ j ≤ 3) (hl : len ≤ 1000) : ∃ b cap W', (xApp #[62, 62] 62 #[v, .slice (some ⟨W.heap.size, 0, none⟩) j j]).run Tryz.prog (W.alloc (.cells (markAM x j) 68)) = .ok (.value (.slice (some ⟨b, 0, none⟩) (len + j) cap)) W' ∧ Grew W W' 68 4 [.int .i64 0, .string ⟨#[]⟩, .int .i64 x, .int .i64 0] v len j b := by
  obtain ⟨i0, hi, hz0, hz1, hz2⟩ := info_parts infoMz
  have hb0 : Below W.heap.size W (W.alloc (.cells (markAM x j) 68)) := (Below.refl _ W).alloc (Nat.le_refl _) _
  obtain ⟨b, cap, W', hr, G⟩ := grow_marks (P := Tryz.prog) (ty := 62) (c := j) underMs hi hz0 hz1 hz2 (M := [.int .i64 0, .string ⟨#[]⟩, .int .i64 x, .int .i64 0]) rfl (by simp [Value.oneCell']) (h.alloc (.cells (markAM x j) 68)) j (news_markM W x j) hj.1 (by unfold maxLen; omega) (by omega)
  refine ⟨b, cap, W', xApp_run hr, ⟨(Chg.of_below hb0).trans G.chg, G.blk.imp id fun h => Nat.le_trans hb0.size h, G.lt, G.full, G.hld, fun g k h => G.still g k (rangeAt_below h hb0)⟩⟩

set_option maxRecDepth 100000 in
set_option maxHeartbeats 2000000 in
theorem lmacs_any (w : World) (wb : Nat) (tv sv kv v : Value) (n len : Nat) (Ks : List KeptD) (col : Nat → Nat) (h : WS w wb tv sv kv n Ks col) (hv : Lst w 68 4 v len) (hc : ∀ x, v.ownBlock = some x → col x = 0) (hl : len ≤ 1000) (hn : n < 1000000000) (hK : Ks.length + 4 ≤ 1000000000) :
    Calls Tryz.prog 31 #[.pointer (some ⟨wb, 0, none⟩), v] w fun e W => e = .returned (.tuple #[]) ∧ ∃ kv' Ks' col', Ks'.length = Ks.length + 4 ∧ WS W wb tv sv kv' (n + 1) Ks' col' ∧ Chg (fun x => x = wb ∨ kv.ownBlock = some x ∨ v.ownBlock = some x) w W ∧ ∀ x, x < w.heap.size → col x ≠ 0 → col' x = col x := by
  obtain ⟨dr, hur, hdr⟩ := underMz
  obtain ⟨m, hm⟩ : ∃ m : Nat, m = n + 1 := ⟨_, rfl⟩
  have hw1 : IntKind.i64.wrap ((n : Int) + 1) = (m : Int) := by rw [IntKind.wrap_i64]; omega
  have hw2 : IntKind.i64.wrap (-(m : Int)) = -(m : Int) := by rw [IntKind.wrap_i64]; omega
  have h2 := h.c2
  have h3 := h.c3
  have hwl : wb < w.heap.size := block_lt_of_cell h2
  have f2 := h.frz 2
  have hsv : (∃ a c, v = .slice a len c) ∧ ∀ x, v.ownBlock = some x → x < w.heap.size := by
    rcases hv with ⟨rfl, rfl⟩ | ⟨g, cap, cur, rfl, hg, -⟩
    · exact ⟨⟨_, _, rfl⟩, fun x hx => by cases hx⟩
    · exact ⟨⟨_, _, rfl⟩, fun x hx => by cases hx; exact (Array.getElem?_eq_some_iff.1 hg).1⟩
  obtain ⟨⟨av, cv, hve⟩, hvl⟩ := hsv
  have hvw : v.ownBlock ≠ some wb := fun e => by have := hc wb e; rw [h.cw] at this; omega
  obtain ⟨W2, hW2⟩ : ∃ W2, W2 = (w.setCell ⟨wb, 2, none⟩ (.int .i64 m)).alloc (.cells #[.int .i64 0, .string ⟨#[]⟩, .int .i64 (-(m : Int)), .int .i64 0] 68) := ⟨_, rfl⟩
  have hsz : (w.setCell ⟨wb, 2, none⟩ (.int .i64 m)).heap.size = w.heap.size := by simp
  have hst : (qMStore (.pointer (some ⟨w.heap.size, 0, none⟩)) (.agg #[.int .i64 0, .string ⟨#[]⟩, .int .i64 (-(m : Int)), .int .i64 0])).run Tryz.prog ((w.setCell ⟨wb, 2, none⟩ (.int .i64 m)).alloc (.cells #[.int .i64 0, .string ⟨#[]⟩, .int .i64 0, .int .i64 0] 68)) = .ok () W2 := by
    have := run_storeAt_new (P := Tryz.prog) (w.setCell ⟨wb, 2, none⟩ (.int .i64 m)) 68 #[.int .i64 0, .string ⟨#[]⟩, .int .i64 0, .int .i64 0] #[.int .i64 0, .string ⟨#[]⟩, .int .i64 (-(m : Int)), .int .i64 0] sizeMz rfl (by simp [Value.oneCell'])
    rw [hsz] at this
    rw [hW2]
    exact this
  have c1 : Chg (fun x => x = wb) w (w.setCell ⟨wb, 2, none⟩ (.int .i64 m)) := Chg.setCell (X := fun x => x = wb) (p := ⟨wb, 2, none⟩) (Chg.refl _ w) (.inl rfl) _
  have c2 : Chg (fun x => x = wb) w W2 := by rw [hW2]; exact c1.trans (Chg.of_below ((Below.refl _ _).alloc (Nat.le_refl _) _))
  have o1 : OnlyAt w (w.setCell ⟨wb, 2, none⟩ (.int .i64 m)) wb 2 := OnlyAt.set (fun _ => ⟨rfl, rfl⟩) _
  have ob : ∀ j, W2.cell? ⟨wb, j, none⟩ = (w.setCell ⟨wb, 2, none⟩ (.int .i64 m)).cell? ⟨wb, j, none⟩ ∧ W2.frozen? ⟨wb, j, none⟩ = (w.setCell ⟨wb, 2, none⟩ (.int .i64 m)).frozen? ⟨wb, j, none⟩ := fun j => by
    rw [hW2]
    exact OnlyAt.of_block (heap_alloc_old _ _ (by rw [hsz]; exact hwl)) j
  have d0 := (ob 0).1.trans ((o1 0 (by decide)).1.trans h.c0)
  have d1 := (ob 1).1.trans ((o1 1 (by decide)).1.trans h.c1)
  have d2 := (ob 2).1.trans (World.cell?_setCell_same _ _ _ h2)
  have d3 := (ob 3).1.trans ((o1 3 (by decide)).1.trans h3)
  have df : ∀ j, W2.frozen? ⟨wb, j, none⟩ = false := fun j => (ob j).2.trans ((World.frozen?_setCell _ _ _ _).trans (h.frz j))
  have bx : W2.rangeAt w.heap.size 0 [.int .i64 0, .string ⟨#[]⟩, .int .i64 (-(m : Int)), .int .i64 0] := by
    rw [hW2, ← hsz]
    exact range_new _ _ _
  have s2 : w.heap.size < W2.heap.size := by rw [hW2]; simp
  have mk0 : Mkd W2 68 4 [.int .i64 0, .string ⟨#[]⟩, .int .i64 (-(m : Int)), .int .i64 0] v len 0 := by
    rcases hv with h | ⟨g, cap, cur, e, hg, h2, h3⟩
    · exact .inl h
    · refine .inr ⟨g, cap, cur, e, ?_, h2, h3, fun k hk => absurd hk (Nat.not_lt_zero k)⟩
      have hgw : g ≠ wb := fun e' => hvw (by rw [e, ← e']; rfl)
      exact (c2.block g (Array.getElem?_eq_some_iff.1 hg).1 hgw).trans hg
  have HH := hide h
  have HV := hide fun x (hx : v.ownBlock = some x) => And.intro (hc x hx) (hvl x hx)
  have HC2 := hide c2
  have HD := hide (And.intro d0 (And.intro d1 (And.intro d2 (And.intro d3 df))))
  have HBX := hide bx
  have HMK := hide mk0
  have HVW := hide hvw
  have HM := hide hm
  have HL := hide hl
  have HKL := hide hK
  have HN := hide hn
  have HS2 := hide s2
  have hlen : (len : Int) ≤ 1000 := by omega
  subst hve
  clear h hv hc hvl hvw hsz c1 c2 o1 ob d0 d1 d2 d3 df bx mk0 hW2 hm hl hK hn s2 h3
  go_enter Tryz.func31, Tryz.ntmps31
  go_wp2_with fail
  clear hst hw1 h2 f2 hwl
  go_loopw [5] (fun i wr => ∃ j : Nat, j ≤ len ∧ i = .int .i64 j ∧ Chg (fun x => (Value.slice av len cv).ownBlock = some x) W2 wr ∧ Mkd wr 68 4 [.int .i64 0, .string ⟨#[]⟩, .int .i64 (-(m : Int)), .int .i64 0] (.slice av len cv) len j) (fun i _ => len - (intOf i).toNat)
  case atStart => exact ⟨0, by omega, rfl, ⟨rfl, rfl, rfl, Nat.le_refl _, fun _ _ _ => rfl⟩, HMK.out⟩
  case round =>
    obtain ⟨j, hj, rfl, hcg, hmk⟩ := hrel
    have hnb : (Value.slice av len cv).ownBlock ≠ some w.heap.size := fun e => by have := (HV.out _ e).2; omega
    have bxr : wr.rangeAt w.heap.size 0 [.int .i64 0, .string ⟨#[]⟩, .int .i64 (-(m : Int)), .int .i64 0] := fun i u hu => hcg.block.cell hnb (HBX.out i u hu)
    have hld : (qMLoad (.pointer (some ⟨w.heap.size, 0, none⟩))).run Tryz.prog wr = .ok (.agg #[.int .i64 0, .string ⟨#[]⟩, .int .i64 (-(m : Int)), .int .i64 0]) wr := run_loadAt_mid wr w.heap.size 0 68 [.int .i64 0, .string ⟨#[]⟩, .int .i64 (-(m : Int)), .int .i64 0] dr bxr hur hdr sizeMz
    have hxl : w.heap.size < wr.heap.size := block_lt_of_cell (cell_at0 bxr)
    have HCG := hide hcg
    have HMJ := hide hmk
    clear hcg hmk
    by_cases hjl : j < len
    · have hji : (j : Int) < len := by omega
      obtain ⟨g, hav⟩ : ∃ g, av = some ⟨g, 0, none⟩ := by
        rcases HMJ.out with ⟨-, e⟩ | ⟨g, cap, cur, e, -⟩
        · omega
        · cases e; exact ⟨g, rfl⟩
      subst hav
      obtain ⟨ht, hmk'⟩ := HMJ.out.step rfl hjl
      obtain ⟨Wn, hWn⟩ : ∃ Wn, Wn = wr.setCells g (j * 4) [.int .i64 0, .string ⟨#[]⟩, .int .i64 (-(m : Int)), .int .i64 0] := ⟨_, rfl⟩
      have hsto : (qMStore (.pointer (some ⟨g, j * 4, none⟩)) (.agg #[.int .i64 0, .string ⟨#[]⟩, .int .i64 (-(m : Int)), .int .i64 0])).run Tryz.prog wr = .ok () Wn := by
        rw [hWn]
        exact run_storeAt_mid (P := Tryz.prog) wr g (j * 4) 68 #[.int .i64 0, .string ⟨#[]⟩, .int .i64 (-(m : Int)), .int .i64 0] ht sizeMz (by simp [Value.oneCell'])
      have HCN : Hid (Chg (fun x => (Value.slice (some ⟨g, 0, none⟩) len cv).ownBlock = some x) W2 Wn) := hide (by
        rw [hWn]
        exact Chg.setCells [.int .i64 0, .string ⟨#[]⟩, .int .i64 (-(m : Int)), .int .i64 0] (j * 4) (.inl rfl) HCG.out)
      have HMN : Hid (Mkd Wn 68 4 [.int .i64 0, .string ⟨#[]⟩, .int .i64 (-(m : Int)), .int .i64 0] (.slice (some ⟨g, 0, none⟩) len cv) len (j + 1)) := hide (by rw [hWn]; exact hmk')
      have hgl : g < wr.heap.size := by
        rcases HMJ.out with ⟨e, -⟩ | ⟨g', cap, cur, e, hg, -⟩
        · cases e
        · cases e; exact (Array.getElem?_eq_some_iff.1 hg).1
      clear hWn ht hmk' bxr
      go_wp2_with fail
      go_roundw
      case rel => exact ⟨j + 1, by omega, by go_num, HCN.out, HMN.out⟩
      case measure => simp [intOf]; omega
    · have hji : ¬ (j : Int) < len := by omega
      have hje : j = len := by omega
      have hH : Hld wr 68 4 [.int .i64 0, .string ⟨#[]⟩, .int .i64 (-(m : Int)), .int .i64 0] (.slice av len cv) len := by
        have := HMJ.out
        rw [hje] at this
        exact this
      obtain ⟨ba, ca, W3, ha, GA⟩ := mark_appendM hH 1 (by omega) HL.out
      obtain ⟨bb, cb, W5, hb, GB⟩ := mark_appendM GA.hld 2 (by omega) HL.out
      obtain ⟨bc, cc, W7, hcc, GC⟩ := mark_appendM GB.hld 3 (by omega) HL.out
      have ha' : (xApp #[62, 62] 62 #[.slice av len cv, .slice (some ⟨wr.heap.size, 0, none⟩) 1 1]).run Tryz.prog (wr.alloc (.cells #[.int .i64 0, .string ⟨#[]⟩, .int .i64 (-(m : Int)), .int .i64 0] 68)) = .ok (.value (.slice (some ⟨ba, 0, none⟩) (len + 1) ca)) W3 := ha
      have hb' : (xApp #[62, 62] 62 #[.slice av len cv, .slice (some ⟨W3.heap.size, 0, none⟩) 2 2]).run Tryz.prog (W3.alloc (.cells #[.int .i64 0, .string ⟨#[]⟩, .int .i64 (-(m : Int)), .int .i64 0, .int .i64 0, .string ⟨#[]⟩, .int .i64 (-(m : Int)), .int .i64 0] 68)) = .ok (.value (.slice (some ⟨bb, 0, none⟩) (len + 2) cb)) W5 := hb
      have hc' : (xApp #[62, 62] 62 #[.slice av len cv, .slice (some ⟨W5.heap.size, 0, none⟩) 3 3]).run Tryz.prog (W5.alloc (.cells #[.int .i64 0, .string ⟨#[]⟩, .int .i64 (-(m : Int)), .int .i64 0, .int .i64 0, .string ⟨#[]⟩, .int .i64 (-(m : Int)), .int .i64 0, .int .i64 0, .string ⟨#[]⟩, .int .i64 (-(m : Int)), .int .i64 0] 68)) = .ok (.value (.slice (some ⟨bc, 0, none⟩) (len + 3) cc)) W7 := hcc
      clear ha hb hcc
      have bx3 : W3.rangeAt w.heap.size 0 [.int .i64 0, .string ⟨#[]⟩, .int .i64 (-(m : Int)), .int .i64 0] := fun i u hu => GA.chg.block.cell hnb (bxr i u hu)
      have bx5 : W5.rangeAt w.heap.size 0 [.int .i64 0, .string ⟨#[]⟩, .int .i64 (-(m : Int)), .int .i64 0] := fun i u hu => GB.chg.block.cell hnb (bx3 i u hu)
      have hld3 : (qMLoad (.pointer (some ⟨w.heap.size, 0, none⟩))).run Tryz.prog W3 = .ok (.agg #[.int .i64 0, .string ⟨#[]⟩, .int .i64 (-(m : Int)), .int .i64 0]) W3 := run_loadAt_mid W3 w.heap.size 0 68 [.int .i64 0, .string ⟨#[]⟩, .int .i64 (-(m : Int)), .int .i64 0] dr bx3 hur hdr sizeMz
      have hld5 : (qMLoad (.pointer (some ⟨w.heap.size, 0, none⟩))).run Tryz.prog W5 = .ok (.agg #[.int .i64 0, .string ⟨#[]⟩, .int .i64 (-(m : Int)), .int .i64 0]) W5 := run_loadAt_mid W5 w.heap.size 0 68 [.int .i64 0, .string ⟨#[]⟩, .int .i64 (-(m : Int)), .int .i64 0] dr bx5 hur hdr sizeMz
      have c7 : Chg (fun x => (Value.slice av len cv).ownBlock = some x) W2 W7 := ((HCG.out.trans GA.chg).trans GB.chg).trans GC.chg
      have hwl2 : wb < W2.heap.size := block_lt_of_cell HD.out.1
      have e2 : W7.cell? ⟨wb, 2, none⟩ = some (.int .i64 m) := c7.block.cell HVW.out HD.out.2.2.1
      have e3 : W7.cell? ⟨wb, 3, none⟩ = some kv := c7.block.cell HVW.out HD.out.2.2.2.1
      have hwl7 : wb < W7.heap.size := block_lt_of_cell e2
      have rk7 : RowIs W7 78 5 kv Ks.length (rowK Ks) := by
        have hkw : kv.ownBlock ≠ some wb := fun e => by have := HH.out.cK wb e; rw [HH.out.cw] at this; omega
        refine HH.out.rK.keep fun x hx => (c7.block x (Nat.lt_of_lt_of_le (HH.out.rK.lt hx) HC2.out.size) fun e => ?_).trans (HC2.out.block x (HH.out.rK.lt hx) fun e => hkw (by rw [hx, e]))
        have := (HV.out x e).1
        rw [HH.out.cK x hx] at this
        omega
      obtain ⟨g8, cap8, W8, hap, hown8, c8, hg8⟩ := append_kept (N := [keptM m (.slice av len cv), keptM m (.slice (some ⟨ba, 0, none⟩) (len + 1) ca), keptM m (.slice (some ⟨bb, 0, none⟩) (len + 2) cb), keptM m (.slice (some ⟨bc, 0, none⟩) (len + 3) cc)]) (A := #[.int .i64 m, .slice none 0 0, .slice none 0 0, .slice av len cv, .slice none 0 0, .int .i64 m, .slice none 0 0, .slice none 0 0, .slice (some ⟨ba, 0, none⟩) (len + 1) ca, .slice none 0 0, .int .i64 m, .slice none 0 0, .slice none 0 0, .slice (some ⟨bb, 0, none⟩) (len + 2) cb, .slice none 0 0, .int .i64 m, .slice none 0 0, .slice none 0 0, .slice (some ⟨bc, 0, none⟩) (len + 3) cc, .slice none 0 0]) rk7 HKL.out (by omega) rfl rfl (by simp [rowK, keptM, KeptD.cells, Value.oneCell'])
      have hap8 := xApp_run hap
      have hkw : kv.ownBlock ≠ some wb := fun e => by have := HH.out.cK wb e; rw [HH.out.cw] at this; omega
      have e8 : W8.cell? ⟨wb, 3, none⟩ = some kv := c8.block.cell hkw e3
      have hwl8 : wb < W8.heap.size := block_lt_of_cell e8
      have f8 : W8.frozen? ⟨wb, 3, none⟩ = false := by
        rw [(OnlyAt.of_block (c8.block wb hwl7 hkw) 3).2, (OnlyAt.of_block (c7.block wb hwl2 HVW.out) 3).2]
        exact HD.out.2.2.2.2 3
      have hx3 : w.heap.size < W3.heap.size := block_lt_of_cell (cell_at0 bx3)
      have hx5 : w.heap.size < W5.heap.size := block_lt_of_cell (cell_at0 bx5)
      have FIN := hide (marks_done (keptM m) HH.out HV.out HC2.out HD.out.1 HD.out.2.1 HD.out.2.2.1 HD.out.2.2.2.1 HD.out.2.2.2.2 c7 GC.hld (by have := HL.out; omega) (GA.blk.imp id fun h => Nat.le_trans HCG.out.size h) (GB.blk.imp id fun h => Nat.le_trans HCG.out.size (Nat.le_trans GA.chg.size h)) (GC.blk.imp id fun h => Nat.le_trans HCG.out.size (Nat.le_trans GA.chg.size (Nat.le_trans GB.chg.size h))) (Nat.lt_of_lt_of_le GA.lt (Nat.le_trans GB.chg.size GC.chg.size)) (Nat.lt_of_lt_of_le GB.lt GC.chg.size) GC.lt (ca := ca) (cb := cb) (cc := cc) (fun k hk => GC.still _ _ (GB.still _ _ (GA.full k hk))) (fun k hk => GC.still _ _ (GB.full k hk)) GC.full c8 (kv' := .slice (some ⟨g8, 0, none⟩) (Ks.length + 4) cap8) (fun x hx => by cases hx; exact hg8) hown8 (keptM_ok (by have := HN.out; have := HM.out; omega)))
      clear hH GA GB GC bx3 bx5 c7 rk7 hap hown8 c8 hg8 hkw bxr HCG HMJ
      go_wp2_with fail
      go_region
      go_end0
      refine ⟨rfl, _, _, _, ?_, HM.out ▸ FIN.out.2.1, FIN.out.1, FIN.out.2.2⟩
      simp
end Go.Proofs.YtnjalelblbjfiaaGreatDoor

namespace Go.Proofs.YtnjalelblbjfiaaGreatDoor
open Go.RowKit
attribute [local go_sem] Oper.semAt_some cell?_regrown

def qOLoad (v : Value) : Sem Value := Instr.loadAt 66 v
theorem qOLoad_fold (v : Value) : Instr.loadAt 66 v = qOLoad v := rfl
def qOStore (p v : Value) : Sem Unit := Instr.storeAt 66 p v
theorem qOStore_fold (p v : Value) : Instr.storeAt 66 p v = qOStore p v := rfl
theorem underOz : ∃ d, Tryz.prog.underlying 66 = some d ∧ d.isRow = true := isRow_of (by kernel_rfl)
theorem sizeOz : (Tryz.prog.info? 66).map (·.size) = some 2 := by kernel_rfl
theorem infoOz : (Tryz.prog.info? 66).map (fun i => (i.zero, i.size, i.bytes)) = some (some (.agg #[.int .i64 0, .string ⟨#[]⟩]), 2, 24) := by kernel_rfl
theorem underOs : Tryz.prog.underlying 59 = some (.slice 66) := by kernel_rfl
def markAO (x : Int) (j : Nat) : Array Value := (rep [.int .i64 x, .string ⟨#[]⟩] j).toArray
theorem buildKeptO (x : Int) (a1 a2 a3 a4 : Option Addr) (l1 l2 l3 l4 c1 c2 c3 c4 : Nat) (w : World) : (Instr.buildSlice 29 4 #[(0, .agg #[.int .i64 x, .slice none 0 0, .slice a1 l1 c1, .slice none 0 0, .slice none 0 0]), (1, .agg #[.int .i64 x, .slice none 0 0, .slice a2 l2 c2, .slice none 0 0, .slice none 0 0]), (2, .agg #[.int .i64 x, .slice none 0 0, .slice a3 l3 c3, .slice none 0 0, .slice none 0 0]), (3, .agg #[.int .i64 x, .slice none 0 0, .slice a4 l4 c4, .slice none 0 0, .slice none 0 0])]).run Tryz.prog w = .ok (.slice (some ⟨w.heap.size, 0, none⟩) 4 4) (w.alloc (.cells #[.int .i64 x, .slice none 0 0, .slice a1 l1 c1, .slice none 0 0, .slice none 0 0, .int .i64 x, .slice none 0 0, .slice a2 l2 c2, .slice none 0 0, .slice none 0 0, .int .i64 x, .slice none 0 0, .slice a3 l3 c3, .slice none 0 0, .slice none 0 0, .int .i64 x, .slice none 0 0, .slice a4 l4 c4, .slice none 0 0, .slice none 0 0] 78)) := by kernel_rfl
def keptO (m : Nat) (u : Value) : KeptD := ⟨m, .slice none 0 0, u, .slice none 0 0, .slice none 0 0⟩
theorem keptO_ok {m : Nat} (hm : m ≤ 1000000000) (W : World) (c : Nat → Nat) (u : Value) (h : Full W c 2 u (markO m)) : (keptO m u).Ok W c := ⟨hm, Full.nil _ _, h, Full.nil _ _, Full.nil _ _⟩
attribute [local go_sem ↓ high] buildKeptO
attribute [local go_sem ↓ high] qOLoad_fold qOStore_fold xApp_fold
theorem news_markO (W : World) (x : Int) (j : Nat) : ∀ q u, (rep [.int .i64 x, .string ⟨#[]⟩] j)[q]? = some u → (W.alloc (.cells (markAO x j) 66)).cell? ((⟨W.heap.size, 0, none⟩ : Addr).add q) = some u := fun q u hu => by
  rw [Addr.add_mid]
  exact range_new W (markAO x j) 66 q u (by unfold markAO; rw [List.toList_toArray]; exact hu)
/-- One append of marks, as the walk needs it. -/
theorem mark_appendO {W : World} {x : Int} {v : Value} {len : Nat} (h : Hld W 66 2 [.int .i64 x, .string ⟨#[]⟩] v len) (j : Nat) (hj : 0 < j ∧ j ≤ 3) (hl : len ≤ 1000) : ∃ b cap W', (xApp #[59, 59] 59 #[v, .slice (some ⟨W.heap.size, 0, none⟩) j j]).run Tryz.prog (W.alloc (.cells (markAO x j) 66)) = .ok (.value (.slice (some ⟨b, 0, none⟩) (len + j) cap)) W' ∧ Grew W W' 66 2 [.int .i64 x, .string ⟨#[]⟩] v len j b := by
  obtain ⟨i0, hi, hz0, hz1, hz2⟩ := info_parts infoOz
  have hb0 : Below W.heap.size W (W.alloc (.cells (markAO x j) 66)) := (Below.refl _ W).alloc (Nat.le_refl _) _
  obtain ⟨b, cap, W', hr, G⟩ := grow_marks (P := Tryz.prog) (ty := 59) (c := j) underOs hi hz0 hz1 hz2 (M := [.int .i64 x, .string ⟨#[]⟩]) rfl (by simp [Value.oneCell']) (h.alloc (.cells (markAO x j) 66)) j (news_markO W x j) hj.1 (by unfold maxLen; omega) (by omega)
  refine ⟨b, cap, W', xApp_run hr, ⟨(Chg.of_below hb0).trans G.chg, G.blk.imp id fun h => Nat.le_trans hb0.size h, G.lt, G.full, G.hld, fun g k h => G.still g k (rangeAt_below h hb0)⟩⟩

set_option maxRecDepth 100000 in
set_option maxHeartbeats 2000000 in
theorem louts_any (w : World) (wb : Nat) (tv sv kv v : Value) (n len : Nat) (Ks : List KeptD) (col : Nat → Nat) (h : WS w wb tv sv kv n Ks col) (hv : Lst w 66 2 v len) (hc : ∀ x, v.ownBlock = some x → col x = 0) (hl : len ≤ 1000) (hn : n < 1000000000) (hK : Ks.length + 4 ≤ 1000000000) :
    Calls Tryz.prog 72 #[.pointer (some ⟨wb, 0, none⟩), v] w fun e W => e = .returned (.tuple #[]) ∧ ∃ kv' Ks' col', Ks'.length = Ks.length + 4 ∧ WS W wb tv sv kv' (n + 1) Ks' col' ∧ Chg (fun x => x = wb ∨ kv.ownBlock = some x ∨ v.ownBlock = some x) w W ∧ ∀ x, x < w.heap.size → col x ≠ 0 → col' x = col x := by
  obtain ⟨dr, hur, hdr⟩ := underOz
  obtain ⟨m, hm⟩ : ∃ m : Nat, m = n + 1 := ⟨_, rfl⟩
  have hw1 : IntKind.i64.wrap ((n : Int) + 1) = (m : Int) := by rw [IntKind.wrap_i64]; omega
  have hw2 : IntKind.i64.wrap (-(m : Int)) = -(m : Int) := by rw [IntKind.wrap_i64]; omega
  have h2 := h.c2
  have h3 := h.c3
  have hwl : wb < w.heap.size := block_lt_of_cell h2
  have f2 := h.frz 2
  have hsv : (∃ a c, v = .slice a len c) ∧ ∀ x, v.ownBlock = some x → x < w.heap.size := by
    rcases hv with ⟨rfl, rfl⟩ | ⟨g, cap, cur, rfl, hg, -⟩
    · exact ⟨⟨_, _, rfl⟩, fun x hx => by cases hx⟩
    · exact ⟨⟨_, _, rfl⟩, fun x hx => by cases hx; exact (Array.getElem?_eq_some_iff.1 hg).1⟩
  obtain ⟨⟨av, cv, hve⟩, hvl⟩ := hsv
  have hvw : v.ownBlock ≠ some wb := fun e => by have := hc wb e; rw [h.cw] at this; omega
  obtain ⟨W2, hW2⟩ : ∃ W2, W2 = (w.setCell ⟨wb, 2, none⟩ (.int .i64 m)).alloc (.cells #[.int .i64 (-(m : Int)), .string ⟨#[]⟩] 66) := ⟨_, rfl⟩
  have hsz : (w.setCell ⟨wb, 2, none⟩ (.int .i64 m)).heap.size = w.heap.size := by simp
  have hst : (qOStore (.pointer (some ⟨w.heap.size, 0, none⟩)) (.agg #[.int .i64 (-(m : Int)), .string ⟨#[]⟩])).run Tryz.prog ((w.setCell ⟨wb, 2, none⟩ (.int .i64 m)).alloc (.cells #[.int .i64 0, .string ⟨#[]⟩] 66)) = .ok () W2 := by
    have := run_storeAt_new (P := Tryz.prog) (w.setCell ⟨wb, 2, none⟩ (.int .i64 m)) 66 #[.int .i64 0, .string ⟨#[]⟩] #[.int .i64 (-(m : Int)), .string ⟨#[]⟩] sizeOz rfl (by simp [Value.oneCell'])
    rw [hsz] at this
    rw [hW2]
    exact this
  have c1 : Chg (fun x => x = wb) w (w.setCell ⟨wb, 2, none⟩ (.int .i64 m)) := Chg.setCell (X := fun x => x = wb) (p := ⟨wb, 2, none⟩) (Chg.refl _ w) (.inl rfl) _
  have c2 : Chg (fun x => x = wb) w W2 := by rw [hW2]; exact c1.trans (Chg.of_below ((Below.refl _ _).alloc (Nat.le_refl _) _))
  have o1 : OnlyAt w (w.setCell ⟨wb, 2, none⟩ (.int .i64 m)) wb 2 := OnlyAt.set (fun _ => ⟨rfl, rfl⟩) _
  have ob : ∀ j, W2.cell? ⟨wb, j, none⟩ = (w.setCell ⟨wb, 2, none⟩ (.int .i64 m)).cell? ⟨wb, j, none⟩ ∧ W2.frozen? ⟨wb, j, none⟩ = (w.setCell ⟨wb, 2, none⟩ (.int .i64 m)).frozen? ⟨wb, j, none⟩ := fun j => by
    rw [hW2]
    exact OnlyAt.of_block (heap_alloc_old _ _ (by rw [hsz]; exact hwl)) j
  have d0 := (ob 0).1.trans ((o1 0 (by decide)).1.trans h.c0)
  have d1 := (ob 1).1.trans ((o1 1 (by decide)).1.trans h.c1)
  have d2 := (ob 2).1.trans (World.cell?_setCell_same _ _ _ h2)
  have d3 := (ob 3).1.trans ((o1 3 (by decide)).1.trans h3)
  have df : ∀ j, W2.frozen? ⟨wb, j, none⟩ = false := fun j => (ob j).2.trans ((World.frozen?_setCell _ _ _ _).trans (h.frz j))
  have bx : W2.rangeAt w.heap.size 0 [.int .i64 (-(m : Int)), .string ⟨#[]⟩] := by
    rw [hW2, ← hsz]
    exact range_new _ _ _
  have s2 : w.heap.size < W2.heap.size := by rw [hW2]; simp
  have mk0 : Mkd W2 66 2 [.int .i64 (-(m : Int)), .string ⟨#[]⟩] v len 0 := by
    rcases hv with h | ⟨g, cap, cur, e, hg, h2, h3⟩
    · exact .inl h
    · refine .inr ⟨g, cap, cur, e, ?_, h2, h3, fun k hk => absurd hk (Nat.not_lt_zero k)⟩
      have hgw : g ≠ wb := fun e' => hvw (by rw [e, ← e']; rfl)
      exact (c2.block g (Array.getElem?_eq_some_iff.1 hg).1 hgw).trans hg
  have HH := hide h
  have HV := hide fun x (hx : v.ownBlock = some x) => And.intro (hc x hx) (hvl x hx)
  have HC2 := hide c2
  have HD := hide (And.intro d0 (And.intro d1 (And.intro d2 (And.intro d3 df))))
  have HBX := hide bx
  have HMK := hide mk0
  have HVW := hide hvw
  have HM := hide hm
  have HL := hide hl
  have HKL := hide hK
  have HN := hide hn
  have HS2 := hide s2
  have hlen : (len : Int) ≤ 1000 := by omega
  subst hve
  clear h hv hc hvl hvw hsz c1 c2 o1 ob d0 d1 d2 d3 df bx mk0 hW2 hm hl hK hn s2 h3
  go_enter Tryz.func72, Tryz.ntmps72
  go_wp2_with fail
  clear hst hw1 h2 f2 hwl
  go_loopw [5] (fun i wr => ∃ j : Nat, j ≤ len ∧ i = .int .i64 j ∧ Chg (fun x => (Value.slice av len cv).ownBlock = some x) W2 wr ∧ Mkd wr 66 2 [.int .i64 (-(m : Int)), .string ⟨#[]⟩] (.slice av len cv) len j) (fun i _ => len - (intOf i).toNat)
  case atStart => exact ⟨0, by omega, rfl, ⟨rfl, rfl, rfl, Nat.le_refl _, fun _ _ _ => rfl⟩, HMK.out⟩
  case round =>
    obtain ⟨j, hj, rfl, hcg, hmk⟩ := hrel
    have hnb : (Value.slice av len cv).ownBlock ≠ some w.heap.size := fun e => by have := (HV.out _ e).2; omega
    have bxr : wr.rangeAt w.heap.size 0 [.int .i64 (-(m : Int)), .string ⟨#[]⟩] := fun i u hu => hcg.block.cell hnb (HBX.out i u hu)
    have hld : (qOLoad (.pointer (some ⟨w.heap.size, 0, none⟩))).run Tryz.prog wr = .ok (.agg #[.int .i64 (-(m : Int)), .string ⟨#[]⟩]) wr := run_loadAt_mid wr w.heap.size 0 66 [.int .i64 (-(m : Int)), .string ⟨#[]⟩] dr bxr hur hdr sizeOz
    have hxl : w.heap.size < wr.heap.size := block_lt_of_cell (cell_at0 bxr)
    have HCG := hide hcg
    have HMJ := hide hmk
    clear hcg hmk
    by_cases hjl : j < len
    · have hji : (j : Int) < len := by omega
      obtain ⟨g, hav⟩ : ∃ g, av = some ⟨g, 0, none⟩ := by
        rcases HMJ.out with ⟨-, e⟩ | ⟨g, cap, cur, e, -⟩
        · omega
        · cases e; exact ⟨g, rfl⟩
      subst hav
      obtain ⟨ht, hmk'⟩ := HMJ.out.step rfl hjl
      obtain ⟨Wn, hWn⟩ : ∃ Wn, Wn = wr.setCells g (j * 2) [.int .i64 (-(m : Int)), .string ⟨#[]⟩] := ⟨_, rfl⟩
      have hsto : (qOStore (.pointer (some ⟨g, j * 2, none⟩)) (.agg #[.int .i64 (-(m : Int)), .string ⟨#[]⟩])).run Tryz.prog wr = .ok () Wn := by
        rw [hWn]
        exact run_storeAt_mid (P := Tryz.prog) wr g (j * 2) 66 #[.int .i64 (-(m : Int)), .string ⟨#[]⟩] ht sizeOz (by simp [Value.oneCell'])
      have HCN : Hid (Chg (fun x => (Value.slice (some ⟨g, 0, none⟩) len cv).ownBlock = some x) W2 Wn) := hide (by
        rw [hWn]
        exact Chg.setCells [.int .i64 (-(m : Int)), .string ⟨#[]⟩] (j * 2) (.inl rfl) HCG.out)
      have HMN : Hid (Mkd Wn 66 2 [.int .i64 (-(m : Int)), .string ⟨#[]⟩] (.slice (some ⟨g, 0, none⟩) len cv) len (j + 1)) := hide (by rw [hWn]; exact hmk')
      have hgl : g < wr.heap.size := by
        rcases HMJ.out with ⟨e, -⟩ | ⟨g', cap, cur, e, hg, -⟩
        · cases e
        · cases e; exact (Array.getElem?_eq_some_iff.1 hg).1
      clear hWn ht hmk' bxr
      go_wp2_with fail
      go_roundw
      case rel => exact ⟨j + 1, by omega, by go_num, HCN.out, HMN.out⟩
      case measure => simp [intOf]; omega
    · have hji : ¬ (j : Int) < len := by omega
      have hje : j = len := by omega
      have hH : Hld wr 66 2 [.int .i64 (-(m : Int)), .string ⟨#[]⟩] (.slice av len cv) len := by
        have := HMJ.out
        rw [hje] at this
        exact this
      obtain ⟨ba, ca, W3, ha, GA⟩ := mark_appendO hH 1 (by omega) HL.out
      obtain ⟨bb, cb, W5, hb, GB⟩ := mark_appendO GA.hld 2 (by omega) HL.out
      obtain ⟨bc, cc, W7, hcc, GC⟩ := mark_appendO GB.hld 3 (by omega) HL.out
      have ha' : (xApp #[59, 59] 59 #[.slice av len cv, .slice (some ⟨wr.heap.size, 0, none⟩) 1 1]).run Tryz.prog (wr.alloc (.cells #[.int .i64 (-(m : Int)), .string ⟨#[]⟩] 66)) = .ok (.value (.slice (some ⟨ba, 0, none⟩) (len + 1) ca)) W3 := ha
      have hb' : (xApp #[59, 59] 59 #[.slice av len cv, .slice (some ⟨W3.heap.size, 0, none⟩) 2 2]).run Tryz.prog (W3.alloc (.cells #[.int .i64 (-(m : Int)), .string ⟨#[]⟩, .int .i64 (-(m : Int)), .string ⟨#[]⟩] 66)) = .ok (.value (.slice (some ⟨bb, 0, none⟩) (len + 2) cb)) W5 := hb
      have hc' : (xApp #[59, 59] 59 #[.slice av len cv, .slice (some ⟨W5.heap.size, 0, none⟩) 3 3]).run Tryz.prog (W5.alloc (.cells #[.int .i64 (-(m : Int)), .string ⟨#[]⟩, .int .i64 (-(m : Int)), .string ⟨#[]⟩, .int .i64 (-(m : Int)), .string ⟨#[]⟩] 66)) = .ok (.value (.slice (some ⟨bc, 0, none⟩) (len + 3) cc)) W7 := hcc
      clear ha hb hcc
      have bx3 : W3.rangeAt w.heap.size 0 [.int .i64 (-(m : Int)), .string ⟨#[]⟩] := fun i u hu => GA.chg.block.cell hnb (bxr i u hu)
      have bx5 : W5.rangeAt w.heap.size 0 [.int .i64 (-(m : Int)), .string ⟨#[]⟩] := fun i u hu => GB.chg.block.cell hnb (bx3 i u hu)
      have hld3 : (qOLoad (.pointer (some ⟨w.heap.size, 0, none⟩))).run Tryz.prog W3 = .ok (.agg #[.int .i64 (-(m : Int)), .string ⟨#[]⟩]) W3 := run_loadAt_mid W3 w.heap.size 0 66 [.int .i64 (-(m : Int)), .string ⟨#[]⟩] dr bx3 hur hdr sizeOz
      have hld5 : (qOLoad (.pointer (some ⟨w.heap.size, 0, none⟩))).run Tryz.prog W5 = .ok (.agg #[.int .i64 (-(m : Int)), .string ⟨#[]⟩]) W5 := run_loadAt_mid W5 w.heap.size 0 66 [.int .i64 (-(m : Int)), .string ⟨#[]⟩] dr bx5 hur hdr sizeOz
      have c7 : Chg (fun x => (Value.slice av len cv).ownBlock = some x) W2 W7 := ((HCG.out.trans GA.chg).trans GB.chg).trans GC.chg
      have hwl2 : wb < W2.heap.size := block_lt_of_cell HD.out.1
      have e2 : W7.cell? ⟨wb, 2, none⟩ = some (.int .i64 m) := c7.block.cell HVW.out HD.out.2.2.1
      have e3 : W7.cell? ⟨wb, 3, none⟩ = some kv := c7.block.cell HVW.out HD.out.2.2.2.1
      have hwl7 : wb < W7.heap.size := block_lt_of_cell e2
      have rk7 : RowIs W7 78 5 kv Ks.length (rowK Ks) := by
        have hkw : kv.ownBlock ≠ some wb := fun e => by have := HH.out.cK wb e; rw [HH.out.cw] at this; omega
        refine HH.out.rK.keep fun x hx => (c7.block x (Nat.lt_of_lt_of_le (HH.out.rK.lt hx) HC2.out.size) fun e => ?_).trans (HC2.out.block x (HH.out.rK.lt hx) fun e => hkw (by rw [hx, e]))
        have := (HV.out x e).1
        rw [HH.out.cK x hx] at this
        omega
      obtain ⟨g8, cap8, W8, hap, hown8, c8, hg8⟩ := append_kept (N := [keptO m (.slice av len cv), keptO m (.slice (some ⟨ba, 0, none⟩) (len + 1) ca), keptO m (.slice (some ⟨bb, 0, none⟩) (len + 2) cb), keptO m (.slice (some ⟨bc, 0, none⟩) (len + 3) cc)]) (A := #[.int .i64 m, .slice none 0 0, .slice av len cv, .slice none 0 0, .slice none 0 0, .int .i64 m, .slice none 0 0, .slice (some ⟨ba, 0, none⟩) (len + 1) ca, .slice none 0 0, .slice none 0 0, .int .i64 m, .slice none 0 0, .slice (some ⟨bb, 0, none⟩) (len + 2) cb, .slice none 0 0, .slice none 0 0, .int .i64 m, .slice none 0 0, .slice (some ⟨bc, 0, none⟩) (len + 3) cc, .slice none 0 0, .slice none 0 0]) rk7 HKL.out (by omega) rfl rfl (by simp [rowK, keptO, KeptD.cells, Value.oneCell'])
      have hap8 := xApp_run hap
      have hkw : kv.ownBlock ≠ some wb := fun e => by have := HH.out.cK wb e; rw [HH.out.cw] at this; omega
      have e8 : W8.cell? ⟨wb, 3, none⟩ = some kv := c8.block.cell hkw e3
      have hwl8 : wb < W8.heap.size := block_lt_of_cell e8
      have f8 : W8.frozen? ⟨wb, 3, none⟩ = false := by
        rw [(OnlyAt.of_block (c8.block wb hwl7 hkw) 3).2, (OnlyAt.of_block (c7.block wb hwl2 HVW.out) 3).2]
        exact HD.out.2.2.2.2 3
      have hx3 : w.heap.size < W3.heap.size := block_lt_of_cell (cell_at0 bx3)
      have hx5 : w.heap.size < W5.heap.size := block_lt_of_cell (cell_at0 bx5)
      have FIN := hide (marks_done (keptO m) HH.out HV.out HC2.out HD.out.1 HD.out.2.1 HD.out.2.2.1 HD.out.2.2.2.1 HD.out.2.2.2.2 c7 GC.hld (by have := HL.out; omega) (GA.blk.imp id fun h => Nat.le_trans HCG.out.size h) (GB.blk.imp id fun h => Nat.le_trans HCG.out.size (Nat.le_trans GA.chg.size h)) (GC.blk.imp id fun h => Nat.le_trans HCG.out.size (Nat.le_trans GA.chg.size (Nat.le_trans GB.chg.size h))) (Nat.lt_of_lt_of_le GA.lt (Nat.le_trans GB.chg.size GC.chg.size)) (Nat.lt_of_lt_of_le GB.lt GC.chg.size) GC.lt (ca := ca) (cb := cb) (cc := cc) (fun k hk => GC.still _ _ (GB.still _ _ (GA.full k hk))) (fun k hk => GC.still _ _ (GB.full k hk)) GC.full c8 (kv' := .slice (some ⟨g8, 0, none⟩) (Ks.length + 4) cap8) (fun x hx => by cases hx; exact hg8) hown8 (keptO_ok (by have := HN.out; have := HM.out; omega)))
      clear hH GA GB GC bx3 bx5 c7 rk7 hap hown8 c8 hg8 hkw bxr HCG HMJ
      go_wp2_with fail
      go_region
      go_end0
      refine ⟨rfl, _, _, _, ?_, HM.out ▸ FIN.out.2.1, FIN.out.1, FIN.out.2.2⟩
      simp
end Go.Proofs.YtnjalelblbjfiaaGreatDoor
