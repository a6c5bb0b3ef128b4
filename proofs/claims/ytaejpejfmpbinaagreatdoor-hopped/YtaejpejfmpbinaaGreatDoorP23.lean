import Derived.Test.YtaejpejfmpbinaaGreatDoorP22
import Derived.Test.YtaejpejfmpbinaaGreatDoorRows
import Derived.WalkKit
import Derived.ProofKit
import Derived.OpenShut
import Derived.Deep.Slices
import Derived.SizedLaws
namespace Go.Proofs.YtaejpejfmpbinaaGreatDoor
open Go.RowKit

theorem NewI.swP {w Wb W : World} {fb rb hb t vb k m : Nat} {F : Nat → Prop} {n : Nat} (h : NewI w fb rb hb t vb k m F Wb n W) (hm : Means w) : ∃ pv Q, SwP W Wb.heap.size pv (List.replicate n ⟨1, fun _ => false⟩) k m (.slice none 0 0) [] ∧ PortsO W pv (List.replicate n ⟨1, fun _ => false⟩) Q ∧ (∀ p ∈ Q, p = ((1 : Int), Value.map none)) ∧ W.heap[Wb.heap.size]? = some (.cells (swCells pv fb rb t vb k) 76 (0, 0)) ∧ (∀ b, pv.ownBlock = some b → Wb.heap.size < b) := by
  obtain ⟨pv, h1, h2⟩ := h.s
  have hp : PortsO W pv (List.replicate n ⟨1, fun _ => false⟩) (List.replicate n (1, .map none)) :=
    ⟨by simp, by rw [List.length_replicate]; exact ownsRow_base h2 (Nat.zero_le _), fun j hj => by simp; exact .inl ⟨rfl, fun _ => rfl⟩⟩
  refine ⟨pv, _, ⟨?_, hp.at, ?_, h.n.nk.below h.lo, (hm.below h.n.lo).below h.lo⟩, hp, fun p hp' => List.eq_of_mem_replicate hp', h1, fun b hb => (ownsRow_lt h2 hb).1⟩
  · exact cellRow h1 rfl
  · exact cellRow h1 rfl

/-- A frame without IPv4 at four ports of one VLAN. -/
theorem frame4 (s k m : Nat) (pv sv : Value) (K : List Mc) (port : Int) (to fr rest : List UInt8) (a b : UInt8) (w : World) (h : SwP w s pv P4 k m sv K) (hn : K.length ≤ 64) (hp : 0 ≤ port ∧ port < 4) (ht : to.length = 6) (hf : fr.length = 6) (hk : ¬ (a = 129 ∧ b = 0)) (hk2 : ¬ (a = 8 ∧ b = 0)) (hl : rest.length ≤ 500) (hg : isGrp (ofL fr) = false) :
    Calls Tryz.prog 9 #[.pointer (some ⟨s, 0, none⟩), .int .i64 port, .string (ofL (to ++ fr ++ [a, b] ++ rest))] w (FrameEnd w k m sv fun r L K' => LearnK K ⟨1, ofL fr, port, 0⟩ K' ∧ L = (to4 port (portOf (known K' 1 (ofL to))) (known K' 1 (ofL to)).isSome).map (fun (j : Nat) => ((j : Int), ofL (to ++ fr ++ [a, b] ++ rest))) ∧ r = if L.length = 0 then 8 else 0) := by
  have hnat : ∀ p ∈ P4, (Lit.int .i64 p.nat).wf = true := fun p hp' => by rw [List.eq_of_mem_replicate hp']; rfl
  have hrd := read_plain to fr rest a b ht hf hk
  refine (sFrame_of s k m pv sv P4 K port _ w h (by decide) hn hnat _ _ _ (middleN s k m pv sv P4 K port _ w h hnat (kind_plain to fr rest a b ht hf hk hk2))).mono ?_
  rintro e W ⟨r, L, K', ov, sv', rfl, hR, h1, h2, h3, h4, h5⟩
  have hpt : pAt P4 port.toNat = ⟨1, fun _ => false⟩ := pAt_P4 (by omega)
  have hb : barredAt (pAt P4 port.toNat) ⟨ofL to, ofL fr, false, 0, 0, ofL [a, b], ofL rest⟩ = false := by rw [hpt]; rfl
  obtain ⟨q1, q2, q3⟩ := frame_plain hR (show 0 ≤ port ∧ port < P4.length from hp) (fate_plain to fr rest a b ht hf hk hl hg) hrd hb
  have hv : (pIn P4 port (ofL (to ++ fr ++ [a, b] ++ rest)) ⟨ofL to, ofL fr, false, 0, 0, ofL [a, b], ofL rest⟩).f.vlan = 1 := by
    simp only [pIn]
    rw [hpt]; rfl
  rw [hv] at q1 q2
  refine ⟨r, L, K', ov, sv', rfl, ⟨q1, ?_, q3⟩, h1, h2, h3, h4, h5⟩
  rw [q2, show P4.length = 4 from rfl, fwd_P4 _ _ _ hv rfl]
  have hby : ofL to ++ ofL fr ++ ofL [a, b] ++ ofL rest = ofL (to ++ fr ++ [a, b] ++ rest) := by rw [ofL_append, ofL_append, ofL_append]
  show (to4 port _ _).map (fun (j : Nat) => ((j : Int), ofL to ++ ofL fr ++ ofL [a, b] ++ ofL rest)) = _
  rw [hby]

theorem known_nil (x : Int) (b : ByteArray) : known [] x b = none := rfl
theorem known_iff {K : List Mc} (hs : SortedP K) (x : Int) (b : ByteArray) (e : Mc) : known K x b = some e ↔ e ∈ K ∧ e.vlan = x ∧ e.mac = b := by
  constructor
  · intro h
    have h1 := List.mem_of_find?_eq_some h
    have h2 := List.find?_some h
    simp only [Bool.and_eq_true, beq_iff_eq] at h2
    exact ⟨h1, h2.1, ba_ext h2.2⟩
  · rintro ⟨h1, rfl, rfl⟩
    cases hk : known K e.vlan e.mac with
    | none =>
      have := List.find?_eq_none.1 hk e h1
      simp at this
    | some e' =>
      have h3 := List.mem_of_find?_eq_some hk
      have h4 := List.find?_some hk
      simp only [Bool.and_eq_true, beq_iff_eq] at h4
      have hc : cmpM e' e.vlan e.mac = 0 := cmpM_zero.2 (by simp [h4.1, h4.2])
      congr 1
      obtain ⟨i, hi, rfl⟩ := List.getElem_of_mem h1
      obtain ⟨j, hj, rfl⟩ := List.getElem_of_mem h3
      rcases Nat.lt_trichotomy i j with h5 | h5 | h5
      · have := List.pairwise_iff_getElem.1 hs i j hi hj h5
        have h6 := cmpM_asymm this
        have h7 : cmpM K[i] K[j].vlan K[j].mac = 0 := cmpM_zero.2 (by simp [h4.1, h4.2])
        omega
      · subst h5; rfl
      · have := List.pairwise_iff_getElem.1 hs j i hj hi h5
        omega
theorem LearnK.known {K K' : List Mc} {e0 : Mc} (h : LearnK K e0 K') (hs : SortedP K) (hn : K.length < 64) (x : Int) (b : ByteArray) : known K' x b = if x = e0.vlan ∧ b = e0.mac then some e0 else known K x b := by
  obtain ⟨h1, h2⟩ := h
  rw [if_pos (by simp [hn])] at h2
  have hz : ∀ q : Mc, cmpM q e0.vlan e0.mac ≠ 0 ↔ ¬ (q.vlan = e0.vlan ∧ q.mac = e0.mac) := by
    intro q
    rw [ne_eq, cmpM_zero]
    simp only [Bool.and_eq_true, beq_iff_eq]
    exact not_congr ⟨fun h => ⟨h.1, ba_ext h.2⟩, fun h => ⟨h.1, by rw [h.2]⟩⟩
  apply Option.ext
  intro e
  rw [known_iff h1, h2.1, hz]
  by_cases hc : x = e0.vlan ∧ b = e0.mac
  · rw [if_pos hc]
    constructor
    · rintro ⟨h3 | h3, h4, h5⟩
      · rw [h3]
      · exact absurd ⟨h4.trans hc.1, h5.trans hc.2⟩ h3.2
    · intro h3
      cases h3
      exact ⟨.inl rfl, hc.1.symm, hc.2.symm⟩
  · rw [if_neg hc, known_iff hs]
    constructor
    · rintro ⟨h3 | h3, h4, h5⟩
      · subst h3
        exact absurd ⟨h4.symm, h5.symm⟩ hc
      · exact ⟨h3.1, h4, h5⟩
    · rintro ⟨h3, h4, h5⟩
      exact ⟨.inr ⟨h3, fun h6 => hc ⟨h4.symm.trans h6.1, h5.symm.trans h6.2⟩⟩, h4, h5⟩
theorem LearnK.mem {K K' : List Mc} {e0 : Mc} (h : LearnK K e0 K') {e : Mc} (he : e ∈ K') : e = e0 ∨ e ∈ K := by
  obtain ⟨h1, h2⟩ := h
  split at h2
  · exact ((h2.1 e).1 he).imp id fun h => h.1
  · rw [h2] at he; exact .inr he
theorem LearnK.le {K K' : List Mc} {e0 : Mc} (h : LearnK K e0 K') : K'.length ≤ K.length + 1 := by
  obtain ⟨h1, h2⟩ := h
  split at h2
  · rw [h2.2]; split <;> omega
  · rw [h2]; omega
end Go.Proofs.YtaejpejfmpbinaaGreatDoor

namespace Go.Proofs.YtaejpejfmpbinaaGreatDoor
open Go.RowKit

/-- A switch of four ports that works: what was made, and what has turned since. -/
def HallAt (w : World) (s : Nat) (w' : World) : Prop :=
  ∃ fb rb hb t vb k m0 F Wb W1 pv Q m, s = Wb.heap.size ∧ NewI w fb rb hb t vb k m0 F Wb 4 W1 ∧ PortsO W1 pv P4 Q ∧ (∀ p ∈ Q, p = ((1 : Int), Value.map none)) ∧ W1.heap[s]? = some (.cells (swCells pv fb rb t vb k) 76 (0, 0)) ∧ (∀ b, pv.ownBlock = some b → s < b) ∧ Chg (fun b => b = k ∨ b = m0) W1 w' ∧ SwP w' s pv P4 k m (.slice none 0 0) [] ∧ W1.heap.size ≤ m

theorem tickL_nil (sec : Int) {K : List Mc} (h : ∀ e ∈ K, 300 < e.age + sec) : tickL sec K = [] := by
  unfold tickL
  rw [List.filter_eq_nil_iff]
  intro e he
  obtain ⟨x, hx, rfl⟩ := List.mem_map.1 he
  have := h x hx
  simp
  omega
theorem slice_of {w : World} {B : Nat} {t : TypeId} {s n : Nat} {v : Value} {xs : List Value} (h : w.ownsRow B t s v n xs) : ∃ a cap, v = .slice a n cap := by
  rcases h.2 with ⟨e, e0⟩ | ⟨g, cap, cur, e, _⟩
  · exact ⟨none, 0, by rw [e, e0]⟩
  · exact ⟨_, cap, e⟩
theorem rowO_get : ∀ (L : List (Int × ByteArray)) (k : Nat) (hk : k < L.length), (rowO L)[k * 2]? = some (.int .i64 L[k].1) ∧ (rowO L)[k * 2 + 1]? = some (.string L[k].2)
  | [], k, hk => absurd hk (by simp)
  | p :: t, 0, _ => ⟨rfl, rfl⟩
  | p :: t, k + 1, hk => by
    have ih := rowO_get t k (by simpa using hk)
    have e1 : (k + 1) * 2 = k * 2 + 1 + 1 := by omega
    have e2 : (k + 1) * 2 + 1 = (k * 2 + 1) + 1 + 1 := by omega
    rw [e2, e1]
    exact ih
/-- The cells of what went out. -/
theorem outs_cells {w : World} {B : Nat} {v : Value} {L : List (Int × ByteArray)} (h : w.ownsRow B 32 2 v L.length (rowO L)) : ∃ a cap g, v = .slice a L.length cap ∧ ∀ j (hj : j < L.length), a = some ⟨g, 0, none⟩ ∧ v.ownBlock = some g ∧ w.cell? ⟨g, j * 2, none⟩ = some (.int .i64 L[j].1) ∧ w.cell? ⟨g, j * 2 + 1, none⟩ = some (.string L[j].2) := by
  rcases h.2 with ⟨hv, h0⟩ | ⟨g, cap, cur, hv, _⟩
  · exact ⟨none, 0, 0, by rw [hv, h0], fun j hj => by omega⟩
  · refine ⟨_, cap, g, hv, fun j hj => ⟨rfl, by rw [hv]; rfl, ?_⟩⟩
    rw [hv] at h
    have := rowO_get L j hj
    exact ⟨(h.cellAt _ (by omega)).trans this.1, (h.cellAt _ (by omega)).trans this.2⟩

theorem FrameEnd.mono {w W : World} {k m : Nat} {sv : Value} {R R' : Int → List (Int × ByteArray) → List Mc → Prop} {e : Ending} (h : FrameEnd w k m sv R e W) (hr : ∀ r L K', R r L K' → R' r L K') : FrameEnd w k m sv R' e W := by
  obtain ⟨r, L, K', ov, sv', h0, h1, h2⟩ := h
  exact ⟨r, L, K', ov, sv', h0, hr _ _ _ h1, h2⟩

theorem SwP.below {w W : World} {s k m : Nat} {pv sv : Value} {P : List Prt} {K : List Mc} (h : SwP w s pv P k m sv K) (hb : Below w.heap.size w W) : SwP W s pv P k m sv K := by
  obtain ⟨a, b, c, d⟩ := h.kept (Chg.of_below hb)
  exact ⟨a, b, c, h.hK.below hb, d⟩
theorem SwP.ne_k {w : World} {s k m : Nat} {pv sv : Value} {P : List Prt} {K : List Mc} (h : SwP w s pv P k m sv K) : s ≠ k := by
  rintro rfl
  obtain ⟨a, cap, b, e, _⟩ := h.hp
  have := h.h0
  rw [h.hK.1, e] at this
  cases this
theorem SwP.ticked {w W : World} {s k m m' : Nat} {pv sv sv' : Value} {P : List Prt} {K K' : List Mc} (h : SwP w s pv P k m sv K) (hc : Chg (fun b => b = k) w W) (hk : KnownAt W k m' sv' K') : SwP W s pv P k m' sv' K' := by
  have hk0 := h.hK.1
  have hm1 : (1 : Nat) ≠ k := by
    rintro rfl
    have := h.hm.1
    rw [hk0] at this
    cases this
  refine ⟨hc.block.cell h.ne_k h.h0, ?_, hc.block.cell h.ne_k h.h5, hk, hc.block.cell hm1 h.hm.1, hc.block.cell hm1 h.hm.2.1, hc.block.cell hm1 h.hm.2.2.1, hc.block.cell hm1 h.hm.2.2.2⟩
  obtain ⟨a, cap, b, e, hcs⟩ := h.hp
  refine ⟨a, cap, b, e, fun j hj => ?_⟩
  obtain ⟨q0, q1, mv, q2, q3⟩ := hcs j hj
  have hb : b ≠ k := by
    rintro rfl
    obtain ⟨_, c0, _⟩ := hcs 0 (by omega)
    rw [Nat.zero_mul, hk0] at c0
    cases c0
  refine ⟨q0, hc.block.cell hb q1, mv, hc.block.cell hb q2, q3.same fun x o ho hco => ?_⟩
  have hx : x ≠ k := by
    rintro rfl
    rw [noCell ho hco] at hk0
    cases hk0
  rw [hc.block x (lt_of_heap ho) hx, ho]

theorem hall_frame (s k m : Nat) (pv : Value) (w : World) (h : SwP w s pv P4 k m (.slice none 0 0) []) :
    Calls Tryz.prog 9 #[.pointer (some ⟨s, 0, none⟩), .int .i64 0, .string (ofL (macL 900) ++ ofL (macL 901) ++ ⟨#[18, 52]⟩)] w (FrameEnd w k m (.slice none 0 0) fun r L K' => r = 0 ∧ (∃ a b c, L = [(1, a), (2, b), (3, c)]) ∧ K'.length ≤ 1 ∧ ∀ e ∈ K', e.age = 0) := by
  have hd : ofL (macL 900) ++ ofL (macL 901) ++ ⟨#[18, 52]⟩ = ofL (macL 900 ++ macL 901 ++ [18, 52] ++ []) := by
    show ofL (macL 900) ++ ofL (macL 901) ++ ofL [18, 52] = _
    rw [ofL_append, ofL_append, List.append_nil]
  rw [hd]
  refine (frame4 s k m pv (.slice none 0 0) [] 0 (macL 900) (macL 901) [] 18 52 w h (by simp) (by omega) rfl rfl (by decide) (by decide) (by simp) (mac_grp _)).mono fun e W h => h.mono ?_
  rintro r L K' ⟨h1, h2, h3⟩
  have hk : known K' 1 (ofL (macL 900)) = none := by
    rw [h1.known List.Pairwise.nil (by simp), if_neg, known_nil]
    rintro ⟨_, e⟩
    have := macL_inj (by omega) (by omega) (ofL_inj e)
    omega
  rw [hk] at h2
  have hL : L = [(1, ofL (macL 900 ++ macL 901 ++ [18, 52] ++ [])), (2, ofL (macL 900 ++ macL 901 ++ [18, 52] ++ [])), (3, ofL (macL 900 ++ macL 901 ++ [18, 52] ++ []))] := h2
  refine ⟨by rw [h3, hL]; rfl, ⟨_, _, _, hL⟩, h1.le, fun e he => ?_⟩
  rcases h1.mem he with e1 | e1
  · rw [e1]
  · cases e1

set_option maxRecDepth 100000 in
set_option maxHeartbeats 4000000 in
theorem hall_any (w : World) (hl : Laid w) (hm : Means w) : Calls Tryz.prog 7 #[] w fun e w' => ∃ s, e = .returned (.pointer (some ⟨s, 0, none⟩)) ∧ HallAt w s w' := by
  have CN := hide (sNew_any 4 w (by omega) (by omega) hl)
  have CK := hide fun (n : Int) (W : World) (h0 : 0 ≤ n) (h1 : n ≤ 9223372036854775807) => kmac_any n W h0 h1
  have hz1 : (ofL (macL 900)).size = 6 := by rw [ofL_size, macL_length]
  have hz2 : (ofL (macL 901)).size = 6 := by rw [ofL_size, macL_length]
  have HM := hide hm
  clear hl hm
  go_enter Tryz.func7, Tryz.ntmps7
  go_wp2_with fail
  refine CN.out.mono ?_
  rintro e W1 ⟨fb, rb, hb, t, vb, k, m0, F, Wb, rfl, hI⟩
  obtain ⟨pv, Q, hS, hP, hQ, hC, hpb⟩ := hI.swP HM.out
  have HI := hide hI
  have HS := hide hS
  have HP := hide (And.intro hP (And.intro hQ (And.intro hC hpb)))
  clear hI hS hP hQ hC hpb CN
  go_wp2_with fail
  refine (CK.out 900 _ (by omega) (by omega)).mono ?_
  rintro e W2 ⟨rfl, hb2⟩
  go_wp2_with fail
  refine (CK.out 901 _ (by omega) (by omega)).mono ?_
  rintro e W3 ⟨rfl, hb3⟩
  have hb13 : Below W1.heap.size W1 W3 := hb2.trans (hb3.mono hb2.size)
  obtain ⟨s0, sp, s5, sm⟩ := HS.out.kept (Chg.of_below hb13)
  have CF := hide (hall_frame Wb.heap.size k m0 pv W3 ⟨s0, sp, s5, HS.out.hK.below hb13, sm⟩)
  have HS3 : Hid (SwP W3 Wb.heap.size pv P4 k m0 (.slice none 0 0) []) := hide ⟨s0, sp, s5, HS.out.hK.below hb13, sm⟩
  have HB13 := hide hb13
  clear hb13 hb2 hb3 s0 sp s5 sm
  generalize ofL (macL 900) = m900 at *
  generalize ofL (macL 901) = m901 at *
  go_wp2_with fail
  refine CF.out.mono ?_
  rintro e W4 ⟨r, L, K', ov, sv', rfl, ⟨rfl, ⟨x1, x2, x3, rfl⟩, hK1, hK2⟩, h1, h2, h3, h4, h5⟩
  obtain ⟨q0, qp, q5, qm⟩ := HS3.out.kept h5
  have CT := hide (sTick_any Wb.heap.size k m0 sv' K' 301 W4 q5 h2 (by omega) (by omega) (fun e he => ⟨by rw [hK2 e he]; decide, by rw [hK2 e he]; decide⟩))
  rw [tickL_nil 301 (fun e he => by rw [hK2 e he]; decide)] at CT
  obtain ⟨oa, ocap, og, rfl, hoc⟩ := outs_cells h1
  obtain ⟨rfl, ob, c4, _⟩ := hoc 2 (by simp)
  have hogk : og ≠ k := by
    have h6 := (ownsRow_lt h1 ob).1
    have : k < W3.heap.size := block_lt_of_cell HS3.out.hK.1
    omega
  have H5 := hide h5
  have HS4 : Hid (SwP W4 Wb.heap.size pv P4 k m0 sv' K') := hide ⟨q0, qp, q5, h2, qm⟩
  clear CF h1 h3 h4 h5 hoc q0 qp qm ob hK1 hK2
  go_wp2_with fail
  refine CT.out.mono ?_
  rintro e W5 ⟨rfl, m', sv2, hk5, hm5, hs5, h6⟩
  have c5 : W5.cell? ⟨Wb.heap.size, 5, none⟩ = some (.pointer (some ⟨k, 0, none⟩)) := h6.block.cell (fun e => by
    have h7 : W3.cell? ⟨k, 0, none⟩ = some (.pointer (some ⟨m0, 0, none⟩)) := HS3.out.hK.1
    have h8 := HS3.out.h0
    obtain ⟨a, cap, b, e', _⟩ := HS3.out.hp
    rw [← e, h8, e'] at h7
    cases h7) q5
  have CM := hide (sMacs_any Wb.heap.size k m' sv2 [] W5 c5 hk5)
  have d4 : W5.cell? ⟨og, 4, none⟩ = some (.int .i64 3) := h6.block.cell hogk c4
  have H6 := hide h6
  obtain rfl : sv2 = .slice none 0 0 := hk5.2.2.1.2 rfl
  have HS5 := hide (HS4.out.ticked H6.out hk5)
  clear h6 hk5 CT c4 q5 h2
  go_wp2_with fail
  refine CM.out.mono ?_
  rintro e W6 ⟨gg, gc, rfl, _, hb6⟩
  have e4 := cell_later hb6 d4
  have hogl := block_lt_of_cell e4
  have HB6 := hide hb6
  clear hb6 d4 CM
  go_wp2
  go_ret
  refine ⟨_, rfl, fb, rb, hb, t, vb, k, m0, F, Wb, W1, pv, Q, m', rfl, HI.out, HP.out.1, HP.out.2.1, HP.out.2.2.1, HP.out.2.2.2, ?_, HS5.out.below HB6.out, ?_⟩
  · refine (((Chg.of_below HB13.out).trans (H5.out.mono fun x _ hx => ?_)).trans (H6.out.mono fun x _ hx => .inl hx)).trans (Chg.of_below HB6.out)
    rcases hx with e | e
    · exact .inr e
    · cases e
  · have := HB13.out.size
    have := H5.out.size
    omega
end Go.Proofs.YtaejpejfmpbinaaGreatDoor

namespace Go.Proofs.YtaejpejfmpbinaaGreatDoor
open Go.RowKit

/-- A list of numbers of the caller's. -/
def IntsAt (w : World) (a : Option Addr) (n : Nat) (g off : Nat) : Prop := (0 < n → a = some ⟨g, off, none⟩) ∧ ∀ j, j < n → ∃ x, w.cell? ⟨g, off + j, none⟩ = some (.int .i64 x) ∧ -9223372036854775808 ≤ x ∧ x ≤ 9223372036854775807
theorem IntsAt.low {w w' : World} {a : Option Addr} {n g off : Nat} (h : IntsAt w a n g off) {B : Nat} (hb : Below B w w') (hB : w.heap.size ≤ B) : IntsAt w' a n g off :=
  ⟨h.1, fun j hj => by
    obtain ⟨x, h1, h2⟩ := h.2 j hj
    exact ⟨x, (hb.cell (p := ⟨g, off + j, none⟩) (Nat.lt_of_lt_of_le (block_lt_of_cell h1) hB)).trans h1, h2⟩⟩

/-- Twenty numbers in a row. -/
def arr20 (c : Nat → Int) : Array Value := ((List.range 20).map fun i => Value.int .i64 (c i)).toArray
theorem arr20_get (c : Nat → Int) {j : Nat} (hj : j < 20) : (arr20 c)[j]? = some (.int .i64 (c j)) := by
  simp [arr20, hj]
theorem arr20_set (c : Nat → Int) {j : Nat} (_hj : j < 20) (v : Int) : (arr20 c).setIfInBounds j (.int .i64 v) = arr20 fun i => if i = j then v else c i := by
  apply Array.ext
  · simp [arr20]
  · intro i h1 h2
    have hi : i < 20 := by simpa [arr20] using h2
    rw [Array.getElem_setIfInBounds (by simpa [arr20] using hi)]
    simp only [arr20, List.getElem_toArray, List.getElem_map, List.getElem_range]
    by_cases e : j = i
    · subst e; simp
    · simp [e, Ne.symm e]

theorem to4_self : ∀ i : Nat, i < 4 → to4 i i true = [] := by decide
theorem to4_one : ∀ i : Nat, i < 4 → ∀ j : Nat, j < 4 → i ≠ j → to4 i j true = [j] := by decide
theorem to4_all : ∀ i : Nat, i < 4 → (to4 i 0 false).length = 3 := by decide

/-- Who is known where. -/
structure WhereI (c : Nat → Int) (K : List Mc) : Prop where
  age : ∀ e ∈ K, e.age = 0
  kn : ∀ j : Nat, j < 20 → known K 1 (ofL (macL j)) = if c j = -1 then none else some ⟨1, ofL (macL j), c j, 0⟩
  rg : ∀ j : Nat, j < 20 → -1 ≤ c j ∧ c j < 4
theorem WhereI.learn {c : Nat → Int} {K K' : List Mc} {kk : Nat} {p : Int} (h : WhereI c K) (hs : SortedP K) (hn : K.length < 64) (hp : 0 ≤ p ∧ p < 4) (hk : kk < 20) (hl : LearnK K ⟨1, ofL (macL kk), p, 0⟩ K') : WhereI (fun i => if i = kk then p else c i) K' := by
  refine ⟨fun e he => ?_, fun j hj => ?_, fun j hj => ?_⟩
  · rcases hl.mem he with e1 | e1
    · rw [e1]
    · exact h.age e e1
  · rw [hl.known hs hn]
    by_cases e : j = kk
    · subst e
      rw [if_pos ⟨rfl, rfl⟩, if_pos rfl, if_neg (by omega)]
    · rw [if_neg, h.kn j hj, if_neg e]
      rintro ⟨_, e'⟩
      have := macL_inj (by omega) (by omega) (ofL_inj e')
      omega
  · split
    · omega
    · exact h.rg j hj

/-- What stands while frames come in. -/
structure LearnI (w W0 : World) (s k m wb i : Nat) (pv : Value) (c : Nat → Int) (wr : World) : Prop where
  sw : ∃ sv K, SwP wr s pv P4 k m sv K ∧ K.length ≤ i ∧ WhereI c K ∧ ∀ b, sv.ownBlock = some b → wb < b
  ar : wr.heap[wb]? = some (.cells (arr20 c) 25 (0, 0))
  lo : Below w.heap.size w wr
  hm : w.heap.size ≤ m
  hmw : m < wb
  hw : w.heap.size ≤ wb
end Go.Proofs.YtaejpejfmpbinaaGreatDoor

namespace Go.Proofs.YtaejpejfmpbinaaGreatDoor
open Go.ChangeShapes Go.WideShapes Go.ChangeAt Go.RowKit

theorem cells1 : Tryz.prog.cellsOf 3 = 1 := by kernel_rfl
theorem cells2 : Tryz.prog.cellsOf 137 = 2 := by kernel_rfl
theorem cells3 : Tryz.prog.cellsOf 141 = 3 := by kernel_rfl
theorem cells15 : Tryz.prog.cellsOf 213 = 15 := by kernel_rfl
theorem bytes8 : Tryz.prog.bytesOf 3 = 8 := by kernel_rfl
section
variable {H : Type} {enc : TypeId × Value → H} {w : World} {base : Nat} {spare : Nat → Bool} {held : Bool}

theorem trodI {fuel : Nat} {cs : List Value} {x : DataW H × List MemPlace} (h : DataW.trod enc Tryz.prog w base spare held fuel 3 cs = some x) : ∃ n, cs = [.int .i64 n] ∧ x.1 = .lit (.int .i64 n) ∧ -9223372036854775808 ≤ n ∧ n ≤ 9223372036854775807 := by
  obtain ⟨n, h1, h2, h3⟩ := DataW.trod_int Tryz.underlying3 h
  exact ⟨n, h1, by rw [h2], bounds_i64 h3⟩

theorem trodS {fuel : Nat} {cs : List Value} {x : DataW H × List MemPlace} (h : DataW.trod enc Tryz.prog w base spare held fuel 137 cs = some x) : ∃ b c : Int, cs = [.int .i64 b, .int .i64 c] ∧ x.1 = .agg [.lit (.int .i64 b), .lit (.int .i64 c)] := by
  obtain ⟨xs, m, rfl, rfl, hl, hx, hf⟩ := DataW.trod_struct Tryz.underlying137 h
  rw [cells2] at hl
  clear h
  have f0 : DataW.trod enc Tryz.prog w base spare held m 3 ((cs.drop 0).take (Tryz.prog.cellsOf 3)) = xs[0]? := hf 0 _ rfl
  have f1 : DataW.trod enc Tryz.prog w base spare held m 3 ((cs.drop 1).take (Tryz.prog.cellsOf 3)) = xs[1]? := hf 1 _ rfl
  rw [cells1] at f0 f1
  clear hf
  match cs, hl, xs, hx, f0, f1 with
  | [v0, v1], _, [x0, x1], _, f0, f1 =>
    obtain ⟨b, e0, d0, _⟩ := trodI (cs := [v0]) (x := x0) f0
    obtain ⟨c, e1, d1, _⟩ := trodI (cs := [v1]) (x := x1) f1
    cases e0; cases e1
    exact ⟨b, c, rfl, by simp [d0, d1]⟩
theorem trodF {fuel : Nat} {cs : List Value} {x : DataW H × List MemPlace} (h : DataW.trod enc Tryz.prog w base spare held fuel 141 cs = some x) : ∃ a b c : Int, cs = [.int .i64 a, .int .i64 b, .int .i64 c] ∧ x.1 = .agg [.lit (.int .i64 a), .agg [.lit (.int .i64 b), .lit (.int .i64 c)]] := by
  obtain ⟨xs, m, rfl, rfl, hl, hx, hf⟩ := DataW.trod_struct Tryz.underlying141 h
  rw [cells3] at hl
  clear h
  have f0 : DataW.trod enc Tryz.prog w base spare held m 3 ((cs.drop 0).take (Tryz.prog.cellsOf 3)) = xs[0]? := hf 0 _ rfl
  have f1 : DataW.trod enc Tryz.prog w base spare held m 137 ((cs.drop 1).take (Tryz.prog.cellsOf 137)) = xs[1]? := hf 1 _ rfl
  rw [cells1] at f0
  rw [cells2] at f1
  clear hf
  match cs, hl, xs, hx, f0, f1 with
  | [v0, v1, v2], _, [x0, x1], _, f0, f1 =>
    obtain ⟨a, e0, d0, _⟩ := trodI (cs := [v0]) (x := x0) f0
    obtain ⟨b, c, e1, d1⟩ := trodS (cs := [v1, v2]) (x := x1) f1
    cases e0; cases e1
    exact ⟨a, b, c, rfl, by simp [d0, d1]⟩
theorem trodFields {fuel : Nat} {cs : List Value} {p : List MemPlace} (h : DataW.trod enc Tryz.prog w base spare held fuel 213 cs = some (Rows.laid_portico_table_fields, p)) : cs = [.int .i64 32, .int .i64 0, .int .i64 4294967295, .int .i64 32, .int .i64 0, .int .i64 4294967295, .int .i64 8, .int .i64 0, .int .i64 255, .int .i64 16, .int .i64 0, .int .i64 65535, .int .i64 16, .int .i64 0, .int .i64 65535] := by
  obtain ⟨xs, m, rfl, hd, hl, hx, hf⟩ := DataW.trod_array Tryz.underlying213 h
  rw [cells15] at hl
  simp only [cells3] at hf
  have hd1 := congrArg Prod.fst hd
  clear h hd
  match cs, hl, xs, hx, hf, hd1 with
  | [v0, v1, v2, v3, v4, v5, v6, v7, v8, v9, v10, v11, v12, v13, v14], _, [x0, x1, x2, x3, x4], _, hf, hd1 =>
    obtain ⟨a0, b0, c0, e0, d0⟩ := trodF (cs := [v0, v1, v2]) (x := x0) (hf 0 (by omega))
    obtain ⟨a1, b1, c1, e1, d1⟩ := trodF (cs := [v3, v4, v5]) (x := x1) (hf 1 (by omega))
    obtain ⟨a2, b2, c2, e2, d2⟩ := trodF (cs := [v6, v7, v8]) (x := x2) (hf 2 (by omega))
    obtain ⟨a3, b3, c3, e3, d3⟩ := trodF (cs := [v9, v10, v11]) (x := x3) (hf 3 (by omega))
    obtain ⟨a4, b4, c4, e4, d4⟩ := trodF (cs := [v12, v13, v14]) (x := x4) (hf 4 (by omega))
    cases e0; cases e1; cases e2; cases e3; cases e4
    simp only [Rows.laid_portico_table_fields, List.map_cons, List.map_nil, d0, d1, d2, d3, d4, DataW.agg.injEq, List.cons.injEq, DataW.lit.injEq, Lit.int.injEq, true_and, and_true] at hd1
    obtain ⟨⟨rfl, rfl, rfl⟩, ⟨rfl, rfl, rfl⟩, ⟨rfl, rfl, rfl⟩, ⟨rfl, rfl, rfl⟩, rfl, rfl, rfl⟩ := hd1
    rfl
end

theorem gFields : Tryz.prog.globalNamed "portico/table.fields" = some 0 := by kernel_rfl
theorem gFieldsType : (Tryz.prog.globals[0]?).map (·.type) = some 213 := by kernel_rfl
theorem gMeans : Tryz.prog.globalNamed "portico/frame.meanings" = some 1 := by kernel_rfl
theorem gMeansType : (Tryz.prog.globals[1]?).map (·.type) = some 242 := by kernel_rfl
theorem cellsM : Tryz.prog.cellsOf 241 = 2 := by kernel_rfl
theorem cellsMM : Tryz.prog.cellsOf 242 = 4 := by kernel_rfl
theorem cellsSt : Tryz.prog.cellsOf 9 = 1 := by kernel_rfl
theorem cellsKd : Tryz.prog.cellsOf 172 = 1 := by kernel_rfl
section
variable {H : Type} {enc : TypeId × Value → H} {w : World} {base : Nat} {spare : Nat → Bool} {held : Bool}
theorem trodM {fuel : Nat} {cs : List Value} {x : DataW H × List MemPlace} (h : DataW.trod enc Tryz.prog w base spare held fuel 241 cs = some x) : ∃ (b : ByteArray) (c : Int), cs = [.string b, .int .i64 c] ∧ x.1 = .agg [.lit (.string b.toList), .lit (.int .i64 c)] := by
  obtain ⟨xs, m, rfl, rfl, hl, hx, hf⟩ := DataW.trod_struct Tryz.underlying241 h
  rw [cellsM] at hl
  clear h
  have f0 : DataW.trod enc Tryz.prog w base spare held m 9 ((cs.drop 0).take (Tryz.prog.cellsOf 9)) = xs[0]? := hf 0 _ rfl
  have f1 : DataW.trod enc Tryz.prog w base spare held m 172 ((cs.drop 1).take (Tryz.prog.cellsOf 172)) = xs[1]? := hf 1 _ rfl
  rw [cellsSt] at f0
  rw [cellsKd] at f1
  clear hf
  match cs, hl, xs, hx, f0, f1 with
  | [v0, v1], _, [x0, x1], _, f0, f1 =>
    obtain ⟨b, e0, d0, _⟩ := DataW.trod_string Tryz.underlying9 f0
    obtain ⟨c, e1, d1, _⟩ := DataW.trod_int Tryz.underlying172 f1
    cases e0; cases e1
    exact ⟨b, c, rfl, by simp [d0, d1, ByteArray.toList_eq]⟩
theorem trodMeans {fuel : Nat} {cs : List Value} {p : List MemPlace} (h : DataW.trod enc Tryz.prog w base spare held fuel 242 cs = some (Rows.laid_portico_frame_meanings, p)) : cs = [.string ⟨#[129, 0]⟩, .int .i64 1, .string ⟨#[8, 0]⟩, .int .i64 2] := by
  obtain ⟨xs, m, rfl, hd, hl, hx, hf⟩ := DataW.trod_array Tryz.underlying242 h
  rw [cellsMM] at hl
  simp only [cellsM] at hf
  have hd1 := congrArg Prod.fst hd
  clear h hd
  match cs, hl, xs, hx, hf, hd1 with
  | [v0, v1, v2, v3], _, [x0, x1], _, hf, hd1 =>
    obtain ⟨b0, c0, e0, d0⟩ := trodM (cs := [v0, v1]) (x := x0) (hf 0 (by omega))
    obtain ⟨b1, c1, e1, d1⟩ := trodM (cs := [v2, v3]) (x := x1) (hf 1 (by omega))
    cases e0; cases e1
    simp only [Rows.laid_portico_frame_meanings, List.map_cons, List.map_nil, d0, d1, DataW.agg.injEq, List.cons.injEq, DataW.lit.injEq, Lit.int.injEq, Lit.string.injEq, true_and, and_true] at hd1
    obtain ⟨⟨h0, rfl⟩, h1, rfl⟩ := hd1
    obtain rfl : b0 = ⟨#[129, 0]⟩ := ba_ext (h0.symm.trans (ofL_toList [129, 0]).symm)
    obtain rfl : b1 = ⟨#[8, 0]⟩ := ba_ext (h1.symm.trans (ofL_toList [8, 0]).symm)
    rfl
end
/-- What the row's list gives: the table of the types, and that of the fields. -/
theorem laid2_of {W : World} {rest : List (String × DataW Unit)} (h : laidMet Tryz.prog (("portico/frame.meanings", Rows.laid_portico_frame_meanings) :: ("portico/table.fields", Rows.laid_portico_table_fields) :: rest) W) : Means W ∧ Laid W := by
  obtain ⟨ps, ⟨g1, t1, cs1, fuel1, p1, q1, hg1, ht1, hvar1, hd1, h2, _⟩, _⟩ := h
  obtain ⟨g', t', cs, fuel, p, q, hg', ht', hvar, hd, _, _⟩ := h2
  obtain rfl := Option.some.inj (gFields.symm.trans hg')
  obtain rfl := Option.some.inj (gFieldsType.symm.trans ht')
  obtain rfl := Option.some.inj (gMeans.symm.trans hg1)
  obtain rfl := Option.some.inj (gMeansType.symm.trans ht1)
  have hcs := trodFields hd
  have hcs1 := trodMeans hd1
  have c := fun i => World.var?_cell gFields hvar i
  have c' : ∀ i, W.cell? ⟨0, i, none⟩ = ([Value.int .i64 32, Value.int .i64 0, Value.int .i64 4294967295, Value.int .i64 32, Value.int .i64 0, Value.int .i64 4294967295, Value.int .i64 8, Value.int .i64 0, Value.int .i64 255, Value.int .i64 16, Value.int .i64 0, Value.int .i64 65535, Value.int .i64 16, Value.int .i64 0, Value.int .i64 65535] : List Value)[i]? := fun i => by rw [c i, ← hcs]; simp
  have k := fun i => World.var?_cell gMeans hvar1 i
  have k' : ∀ i, W.cell? ⟨1, i, none⟩ = ([.string ⟨#[129, 0]⟩, .int .i64 1, .string ⟨#[8, 0]⟩, .int .i64 2] : List Value)[i]? := fun i => by rw [k i, ← hcs1]; simp
  exact ⟨⟨k' 0, k' 1, k' 2, k' 3⟩, c' 0, c' 1, c' 2, c' 3, c' 4, c' 5, c' 6, c' 7, c' 8, c' 9, c' 10, c' 11, c' 12, c' 13, c' 14⟩

set_option maxRecDepth 100000 in
theorem int_arg {H : Type} {enc : TypeId × Value → H} {W : World} {base : Nat} {v : Value} {d : DataW H} {p : List MemPlace} (hok : Value.okWide Tryz.prog W .any base 3 v) (h : DataW.Trod enc Tryz.prog W 0 (fun _ => true) true 3 v d p) : ∃ n, v = .int .i64 n ∧ -9223372036854775808 ≤ n ∧ n ≤ 9223372036854775807 := by
  obtain ⟨n, rfl⟩ := okWide_int Tryz.underlying3 hok
  obtain ⟨fuel, hf⟩ := h
  obtain ⟨m, h1, _, h3⟩ := trodI hf
  simp [Value.cells] at h1
  subst h1
  exact ⟨n, rfl, h3⟩

section
variable {H : Type} {enc : TypeId × Value → H} {W : World} {base : Nat} {v : Value} {d : DataW H} {p : List MemPlace}
set_option maxRecDepth 100000 in
theorem ints_arg (hok : Value.okWide Tryz.prog W .any base 22 v) (h : DataW.Trod enc Tryz.prog W 0 (fun _ => true) true 22 v d p) (hz : ∀ elems spare, d = .slice elems spare → (elems.length + spare.length) * Tryz.prog.bytesOf 3 ≤ reachBytes) :
    ∃ a n c g off, v = .slice a n c ∧ n ≤ 9223372036854775000 ∧ IntsAt W a n g off := by
  have hrb := reachBytes_lt
  obtain ⟨a0, n, c, rfl⟩ := okWide_slice Tryz.underlying22 hok
  obtain ⟨fuel, hf⟩ := h
  rcases open_ints Tryz.underlying22 Tryz.underlying3 cells1 hf with ⟨hcs, _⟩ | ⟨a, len, cap, zs, hcs, _, hle, _, hall, hx, hc, hwf⟩
  · simp [Value.cells] at hcs
    obtain ⟨rfl, rfl, rfl⟩ := hcs
    exact ⟨_, _, _, 0, 0, rfl, by omega, fun h => absurd h (by omega), fun j hj => absurd hj (by omega)⟩
  · simp [Value.cells] at hcs
    obtain ⟨rfl, rfl, rfl⟩ := hcs
    simp only [if_true] at hall
    have hsz := hz _ _ (congrArg Prod.fst hx)
    rw [bytes8] at hsz
    simp only [ChangeShapes.lits, List.length_map, List.length_take, List.length_drop] at hsz
    by_cases hn : n = 0
    · subst hn
      exact ⟨_, _, _, 0, 0, rfl, by omega, fun h => absurd h (by omega), fun j hj => absurd hj (by omega)⟩
    · obtain ⟨b, off, rfl, hcell⟩ := ints_at hc (by omega)
      refine ⟨_, _, _, b, off, rfl, by omega, fun _ => rfl, fun j hj => ⟨zs.getD j 0, hcell j (by omega), ?_⟩⟩
      have hm : zs.getD j 0 ∈ zs := by
        rw [List.getD_eq_getElem?_getD, List.getElem?_eq_getElem (by omega)]
        exact List.getElem_mem _
      exact bounds_i64 (hwf _ hm)
end

end Go.Proofs.YtaejpejfmpbinaaGreatDoor
