import Derived.Test.YtaejpejfmpbinaaGreatDoorP28
import Derived.Test.YtaejpejfmpbinaaGreatDoorP24
namespace Go.Proofs.YtaejpejfmpbinaaGreatDoor
open Go.RowKit

/-- What pick answers. -/
def pickV (c n : Int) : Int := (if c < 0 then -(c + 1) else c).tmod n
theorem pickV_range (c : Int) {n : Int} (hn : 0 < n) : 0 ≤ pickV c n ∧ pickV c n < n := by
  unfold pickV
  have h : 0 ≤ (if c < 0 then -(c + 1) else c) := by split <;> omega
  generalize (if c < 0 then -(c + 1) else c) = d at h
  rw [Int.tmod_eq_emod_of_nonneg h]
  exact ⟨Int.emod_nonneg _ (by omega), Int.emod_lt_of_pos _ hn⟩

set_option maxHeartbeats 1000000 in
theorem pick_any (c n : Int) (w : World) (h1 : -9223372036854775808 ≤ c) (h2 : c ≤ 9223372036854775807) (hn : 0 < n) (hn2 : n ≤ 9223372036854775807) :
    Calls Tryz.prog 8 #[.int .i64 c, .int .i64 n] w fun e w' => e = .returned (.int .i64 (pickV c n)) ∧ w' = w := by
  have hn0 : ¬ (n = 0) := by omega
  have hr := pickV_range c hn
  unfold pickV at hr ⊢
  by_cases hc : c < 0
  · rw [if_pos hc] at hr ⊢
    have e1 : IntKind.i64.wrap (c + 1) = c + 1 := by rw [IntKind.wrap_i64]; omega
    have e2 : IntKind.i64.wrap (-(c + 1)) = -(c + 1) := by rw [IntKind.wrap_i64]; omega
    have e3 : IntKind.i64.wrap ((-(c + 1)).tmod n) = (-(c + 1)).tmod n := by rw [IntKind.wrap_i64]; omega
    obtain ⟨d, hd⟩ : ∃ d, d = -(c + 1) := ⟨_, rfl⟩
    rw [← hd] at e2 e3 hr ⊢
    go_enter Tryz.func8, Tryz.ntmps8
    go_wp2
    go_ret
    simp [← hd]
    rw [hd, Int.neg_tmod]
  · rw [if_neg hc] at hr ⊢
    have e3 : IntKind.i64.wrap (c.tmod n) = c.tmod n := by rw [IntKind.wrap_i64]; omega
    go_enter Tryz.func8, Tryz.ntmps8
    go_wp2
    go_ret
    simp
    exact (Int.tmod_eq_emod_of_nonneg hc).symm

end Go.Proofs.YtaejpejfmpbinaaGreatDoor

namespace Go.Proofs.YtaejpejfmpbinaaGreatDoor
open Go.RowKit

/-- A MAC of a number. -/
def macL (n : Int) : List UInt8 := [2, 109, 97, 99, UInt8.ofNat (n / 256 % 256).toNat, UInt8.ofNat (n % 256).toNat]
theorem macL_length (n : Int) : (macL n).length = 6 := rfl
theorem macL_inj {a b : Int} (ha : 0 ≤ a ∧ a < 65536) (hb : 0 ≤ b ∧ b < 65536) (h : macL a = macL b) : a = b := by
  simp only [macL, List.cons.injEq, true_and, and_true] at h
  have h1 := congrArg UInt8.toNat h.1
  have h2 := congrArg UInt8.toNat h.2
  simp only [UInt8.toNat_ofNat'] at h1 h2
  omega
theorem mac_grp (n : Int) : isGrp (ofL (macL n)) = false := by
  unfold isGrp
  rw [dif_pos (by rw [ofL_size, macL_length]; omega)]
  rw [ofL_get]
  show (((2 : UInt8).toNat % 2 == 1) = false)
  decide

set_option maxRecDepth 100000 in
set_option maxHeartbeats 1000000 in
theorem kmac_any (n : Int) (w : World) (h0 : 0 ≤ n) (h1 : n ≤ 9223372036854775807) : Calls Tryz.prog 10 #[.int .i64 n] w fun e w' => e = .returned (.string (ofL (macL n))) ∧ Below w.heap.size w w' := by
  have hcv := conv2 (w.alloc (.cells #[.int .u8 (n / 256 % 256), .int .u8 (n % 256)] 5)) w.heap.size (n / 256 % 256) (n % 256) (by omega) (by omega) (cellRow (allocN _ _) rfl) (cellRow (allocN _ _) rfl)
  have hd : (ofL (macL n)) = ⟨#[2, 109, 97, 99]⟩ ++ ⟨#[UInt8.ofNat (n / 256 % 256).toNat, UInt8.ofNat (n % 256).toNat]⟩ := by
    show _ = ofL [2, 109, 97, 99] ++ ofL [UInt8.ofNat (n / 256 % 256).toNat, UInt8.ofNat (n % 256).toNat]
    rw [ofL_append]; rfl
  rw [hd]
  have HD := hide hd
  clear hd
  go_enter Tryz.func10, Tryz.ntmps10
  go_wp2
  all_goals go_ret
  all_goals exact ⟨rfl, (Below.refl _ w).alloc (Nat.le_refl _) _⟩

theorem frame_plain {P : List Prt} {K K' : List Mc} {port r : Int} {d : ByteArray} {L : List (Int × ByteArray)} (h : FrameR P K id (fun _ => none) .inr port d r L K') (hp : 0 ≤ port ∧ port < P.length) (hr : fateRead d = -1) {f : Fr} (hf : readF d = some f) (hb : barredAt (pAt P port.toNat) f = false) :
    LearnK K ⟨(pIn P port d f).f.vlan, f.fr, port, 0⟩ K' ∧ L = fwdO P (pIn P port d f) (portOf (known K' (pIn P port d f).f.vlan f.to)) (known K' (pIn P port d f).f.vlan f.to).isSome P.length ∧ r = if L.length = 0 then 8 else 0 := by
  cases h with
  | unknown h => exact absurd hp h
  | bad _ h => exact absurd hr h
  | barred f' _ _ hf' hb' =>
    rw [hf] at hf'
    cases hf'
    rw [hb] at hb'
    cases hb'
  | judged f' K2 r2 L2 _ _ _ _ _ hj => cases hj
  | stopped f' K2 r2 _ _ _ _ _ _ ho => cases ho
  | out f' K2 q _ _ hf' _ hl _ ho =>
    rw [hf] at hf'
    cases hf'
    cases ho
    exact ⟨hl, rfl, rfl⟩

theorem fate_plain (to fr rest : List UInt8) (a b : UInt8) (ht : to.length = 6) (hf : fr.length = 6) (hk : ¬ (a = 129 ∧ b = 0)) (hl : rest.length ≤ 500) (hg : isGrp (ofL fr) = false) : fateRead (ofL (to ++ fr ++ [a, b] ++ rest)) = -1 := by
  unfold fateRead
  rw [if_neg (by rw [ofL_size]; simp; omega), read_plain to fr rest a b ht hf hk]
  show (if isGrp (ofL fr) = true then (2 : Int) else -1) = -1
  rw [hg]; rfl
theorem kind_plain (to fr rest : List UInt8) (a b : UInt8) (ht : to.length = 6) (hf : fr.length = 6) (hk : ¬ (a = 129 ∧ b = 0)) (hk2 : ¬ (a = 8 ∧ b = 0)) : ∀ f, readF (ofL (to ++ fr ++ [a, b] ++ rest)) = some f → (kind2 f.ty == 2) = false := by
  intro f h
  rw [read_plain to fr rest a b ht hf hk] at h
  cases h
  show (kind2 (ofL [a, b]) == 2) = false
  have h1 : ((⟨#[8, 0]⟩ : ByteArray).toList == [a, b]) = false := by
    rw [show (⟨#[8, 0]⟩ : ByteArray) = ofL [8, 0] from rfl, ofL_toList]
    simp only [beq_eq_false_iff_ne, ne_eq, List.cons.injEq, and_true]
    rintro ⟨rfl, rfl⟩
    exact hk2 ⟨rfl, rfl⟩
  unfold kind2 kindN
  rw [ofL_toList, h1]
  simp only [Bool.false_eq_true, if_false]
  split <;> rfl

/-- Four ports of one VLAN. -/
def P4 : List Prt := List.replicate 4 ⟨1, fun _ => false⟩
theorem pAt_P4 {j : Nat} (h : j < 4) : pAt P4 j = ⟨1, fun _ => false⟩ := by
  rw [pAt_eq (show j < P4.length from h)]
  exact List.getElem_replicate _
/-- Where a frame goes out of four. -/
def to4 (port bh : Int) (kn : Bool) : List Nat := (List.range 4).filter fun j => ((j : Int) != port) && ((j : Int) == bh || !kn)
theorem fwd_P4 (q : Pg) (bh : Int) (kn : Bool) (hv : q.f.vlan = 1) (hr : q.routed = false) : fwdO P4 q bh kn 4 = (to4 q.port bh kn).map fun (j : Nat) => ((j : Int), q.f.to ++ q.f.fr ++ q.f.ty ++ q.f.rest) := by
  have e : ∀ j : Nat, j < 4 → (if goesTo q bh kn j && hasV (pAt P4 j) q.f.vlan then [((j : Int), outF (pAt P4 j) q.f)] else []) = if (((j : Int) != q.port) && ((j : Int) == bh || !kn)) = true then [((j : Int), q.f.to ++ q.f.fr ++ q.f.ty ++ q.f.rest)] else [] := by
    intro j hj
    rw [pAt_P4 hj]
    have h1 : hasV ⟨1, fun _ => false⟩ q.f.vlan = true := by rw [hv]; rfl
    have h2 : goesTo q bh kn j = (((j : Int) != q.port) && ((j : Int) == bh || !kn)) := by unfold goesTo; rw [hr, Bool.or_false]
    rw [h1, h2, Bool.and_true, out_plain _ _ hv]
  unfold fwdO to4
  rw [show List.range 4 = [0, 1, 2, 3] from rfl]
  simp only [List.flatMap_cons, List.flatMap_nil, List.append_nil]
  rw [e 0 (by omega), e 1 (by omega), e 2 (by omega), e 3 (by omega)]
  simp only [List.filter_cons, List.filter_nil]
  cases hA : (((0 : Nat) : Int) != q.port && (((0 : Nat) : Int) == bh || !kn)) <;> cases hB : (((1 : Nat) : Int) != q.port && (((1 : Nat) : Int) == bh || !kn)) <;> cases hC : (((2 : Nat) : Int) != q.port && (((2 : Nat) : Int) == bh || !kn)) <;> cases hD : (((3 : Nat) : Int) != q.port && (((3 : Nat) : Int) == bh || !kn)) <;> rfl
end Go.Proofs.YtaejpejfmpbinaaGreatDoor

namespace Go.Proofs.YtaejpejfmpbinaaGreatDoor
open Go.RowKit

theorem NewI.swP {w Wb W : World} {fb rb hb t vb k m : Nat} {F : Nat → Prop} {n : Nat} (h : NewI w fb rb hb t vb k m F Wb n W) (hm : Means w) : ∃ pv Q, SwP W Wb.heap.size pv (List.replicate n ⟨1, fun _ => false⟩) k m (.slice none 0 0) [] ∧ PortsO W pv (List.replicate n ⟨1, fun _ => false⟩) Q ∧ (∀ p ∈ Q, p = ((1 : Int), Value.map none)) ∧ W.heap[Wb.heap.size]? = some (.cells (swCells pv fb rb t vb k) 76 (0, 0)) ∧ (∀ b, pv.ownBlock = some b → Wb.heap.size < b) := by
  obtain ⟨pv, h1, h2⟩ := h.s
  have hp : PortsO W pv (List.replicate n ⟨1, fun _ => false⟩) (List.replicate n (1, .map none)) :=
    ⟨by simp, by rw [List.length_replicate]; exact ownsRow_base h2 (Nat.zero_le _), fun j hj => by simp; exact .inl ⟨rfl, fun _ => rfl⟩⟩
  refine ⟨pv, _, ⟨?_, hp.at, ?_, h.n.nk.below h.lo, (hm.below h.n.lo).below h.lo⟩, hp, fun p hp' => List.eq_of_mem_replicate hp', h1, fun b hb => (ownsRow_lt h2 hb).1⟩
  · exact cellRow h1 rfl
  · exact cellRow h1 rfl

/-- A frame without IPv4 at four ports of one VLAN. -/
theorem frame4 (s k m : Nat) (pv sv : Value) (K : List Mc) (port : Int) (to fr rest : List UInt8) (a b : UInt8) (w : World) (h : SwP w s pv P4 k m sv K) (hn : K.length ≤ 64) (hp : 0 ≤ port ∧ port < 4) (ht : to.length = 6) (hf : fr.length = 6) (hk : ¬ (a = 129 ∧ b = 0)) (hk2 : ¬ (a = 8 ∧ b = 0)) (hl : rest.length ≤ 500) (hg : isGrp (ofL fr) = false) :
    Calls Tryz.prog 9 #[.pointer (some ⟨s, 0, none⟩), .int .i64 port, .string (ofL (to ++ fr ++ [a, b] ++ rest))] w (FrameEnd w k m sv fun r L K' => LearnK K ⟨1, ofL fr, port, 0⟩ K' ∧ L = (to4 port (portOf (known K' 1 (ofL to))) (known K' 1 (ofL to)).isSome).map (fun (j : Nat) => ((j : Int), ofL (to ++ fr ++ [a, b] ++ rest))) ∧ r = if L.length = 0 then 8 else 0) := by
  have hnat : ∀ p ∈ P4, (Lit.int .i64 p.nat).wf = true := fun p hp' => by rw [List.eq_of_mem_replicate hp']; rfl
  have hrd := read_plain to fr rest a b ht hf hk
  refine (sFrame_of s k m pv sv P4 K port _ w h (by decide) hn hnat _ _ _ (middleN s k m pv sv P4 K port _ w h hnat (kind_plain to fr rest a b ht hf hk hk2))).mono ?_
  rintro e W ⟨r, L, K', ov, sv', rfl, hR, h1, h2, h3, h4, h5⟩
  have hpt : pAt P4 port.toNat = ⟨1, fun _ => false⟩ := pAt_P4 (by omega)
  have hb : barredAt (pAt P4 port.toNat) ⟨ofL to, ofL fr, false, 0, 0, ofL [a, b], ofL rest⟩ = false := by rw [hpt]; rfl
  obtain ⟨q1, q2, q3⟩ := frame_plain hR (show 0 ≤ port ∧ port < P4.length from hp) (fate_plain to fr rest a b ht hf hk hl hg) hrd hb
  have hv : (pIn P4 port (ofL (to ++ fr ++ [a, b] ++ rest)) ⟨ofL to, ofL fr, false, 0, 0, ofL [a, b], ofL rest⟩).f.vlan = 1 := by
    simp only [pIn]
    rw [hpt]; rfl
  rw [hv] at q1 q2
  refine ⟨r, L, K', ov, sv', rfl, ⟨q1, ?_, q3⟩, h1, h2, h3, h4, h5⟩
  rw [q2, show P4.length = 4 from rfl, fwd_P4 _ _ _ hv rfl]
  have hby : ofL to ++ ofL fr ++ ofL [a, b] ++ ofL rest = ofL (to ++ fr ++ [a, b] ++ rest) := by rw [ofL_append, ofL_append, ofL_append]
  show (to4 port _ _).map (fun (j : Nat) => ((j : Int), ofL to ++ ofL fr ++ ofL [a, b] ++ ofL rest)) = _
  rw [hby]

theorem known_nil (x : Int) (b : ByteArray) : known [] x b = none := rfl
theorem known_iff {K : List Mc} (hs : SortedP K) (x : Int) (b : ByteArray) (e : Mc) : known K x b = some e ↔ e ∈ K ∧ e.vlan = x ∧ e.mac = b := by
  constructor
  · intro h
    have h1 := List.mem_of_find?_eq_some h
    have h2 := List.find?_some h
    simp only [Bool.and_eq_true, beq_iff_eq] at h2
    exact ⟨h1, h2.1, ba_ext h2.2⟩
  · rintro ⟨h1, rfl, rfl⟩
    cases hk : known K e.vlan e.mac with
    | none =>
      have := List.find?_eq_none.1 hk e h1
      simp at this
    | some e' =>
      have h3 := List.mem_of_find?_eq_some hk
      have h4 := List.find?_some hk
      simp only [Bool.and_eq_true, beq_iff_eq] at h4
      have hc : cmpM e' e.vlan e.mac = 0 := cmpM_zero.2 (by simp [h4.1, h4.2])
      congr 1
      obtain ⟨i, hi, rfl⟩ := List.getElem_of_mem h1
      obtain ⟨j, hj, rfl⟩ := List.getElem_of_mem h3
      rcases Nat.lt_trichotomy i j with h5 | h5 | h5
      · have := List.pairwise_iff_getElem.1 hs i j hi hj h5
        have h6 := cmpM_asymm this
        have h7 : cmpM K[i] K[j].vlan K[j].mac = 0 := cmpM_zero.2 (by simp [h4.1, h4.2])
        omega
      · subst h5; rfl
      · have := List.pairwise_iff_getElem.1 hs j i hj hi h5
        omega
theorem LearnK.known {K K' : List Mc} {e0 : Mc} (h : LearnK K e0 K') (hs : SortedP K) (hn : K.length < 64) (x : Int) (b : ByteArray) : known K' x b = if x = e0.vlan ∧ b = e0.mac then some e0 else known K x b := by
  obtain ⟨h1, h2⟩ := h
  rw [if_pos (by simp [hn])] at h2
  have hz : ∀ q : Mc, cmpM q e0.vlan e0.mac ≠ 0 ↔ ¬ (q.vlan = e0.vlan ∧ q.mac = e0.mac) := by
    intro q
    rw [ne_eq, cmpM_zero]
    simp only [Bool.and_eq_true, beq_iff_eq]
    exact not_congr ⟨fun h => ⟨h.1, ba_ext h.2⟩, fun h => ⟨h.1, by rw [h.2]⟩⟩
  apply Option.ext
  intro e
  rw [known_iff h1, h2.1, hz]
  by_cases hc : x = e0.vlan ∧ b = e0.mac
  · rw [if_pos hc]
    constructor
    · rintro ⟨h3 | h3, h4, h5⟩
      · rw [h3]
      · exact absurd ⟨h4.trans hc.1, h5.trans hc.2⟩ h3.2
    · intro h3
      cases h3
      exact ⟨.inl rfl, hc.1.symm, hc.2.symm⟩
  · rw [if_neg hc, known_iff hs]
    constructor
    · rintro ⟨h3 | h3, h4, h5⟩
      · subst h3
        exact absurd ⟨h4.symm, h5.symm⟩ hc
      · exact ⟨h3.1, h4, h5⟩
    · rintro ⟨h3, h4, h5⟩
      exact ⟨.inr ⟨h3, fun h6 => hc ⟨h4.symm.trans h6.1, h5.symm.trans h6.2⟩⟩, h4, h5⟩
theorem LearnK.mem {K K' : List Mc} {e0 : Mc} (h : LearnK K e0 K') {e : Mc} (he : e ∈ K') : e = e0 ∨ e ∈ K := by
  obtain ⟨h1, h2⟩ := h
  split at h2
  · exact ((h2.1 e).1 he).imp id fun h => h.1
  · rw [h2] at he; exact .inr he
theorem LearnK.le {K K' : List Mc} {e0 : Mc} (h : LearnK K e0 K') : K'.length ≤ K.length + 1 := by
  obtain ⟨h1, h2⟩ := h
  split at h2
  · rw [h2.2]; split <;> omega
  · rw [h2]; omega
end Go.Proofs.YtaejpejfmpbinaaGreatDoor
