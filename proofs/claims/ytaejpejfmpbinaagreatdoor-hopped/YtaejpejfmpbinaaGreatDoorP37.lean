import Derived.Test.YtaejpejfmpbinaaGreatDoorP23
import Derived.Test.YtaejpejfmpbinaaGreatDoorP33
namespace Go.Proofs.YtaejpejfmpbinaaGreatDoor
open Go.RowKit

theorem extract_mid (p q r : List UInt8) {i j : Nat} (hi : i = p.length) (hj : j = p.length + q.length) : (ofL (p ++ q ++ r)).extract i j = ofL q := by
  subst hi hj
  rw [ofL_extract, List.take_left' (by simp), List.drop_left]
theorem extract_end (p r : List UInt8) {i j : Nat} (hi : i = p.length) (hj : p.length + r.length ≤ j) : (ofL (p ++ r)).extract i j = ofL r := by
  subst hi
  rw [ofL_extract, List.take_of_length_le (by simp; omega), List.drop_left]

/-- A frame with a tag, as it is read. -/
theorem read_tagged (to fr rest : List UInt8) (x y a b : UInt8) (ht : to.length = 6) (hf : fr.length = 6) :
    readF (ofL (to ++ fr ++ [129, 0, x, y] ++ [a, b] ++ rest)) = some ⟨ofL to, ofL fr, true, (((x.toNat * 256 + y.toNat) % 4096 : Nat) : Int), (((x.toNat * 256 + y.toNat) / 4096 : Nat) : Int), ofL [a, b], ofL rest⟩ := by
  have hs : (ofL (to ++ fr ++ [129, 0, x, y] ++ [a, b] ++ rest)).size = 18 + rest.length := by rw [ofL_size]; simp; omega
  have e1 : (ofL (to ++ fr ++ [129, 0, x, y] ++ [a, b] ++ rest)).extract 0 6 = ofL to := by
    have := extract_mid [] to (fr ++ [129, 0, x, y] ++ [a, b] ++ rest) (i := 0) (j := 6) rfl (by simp [ht])
    simpa using this
  have e2 : (ofL (to ++ fr ++ [129, 0, x, y] ++ [a, b] ++ rest)).extract 6 12 = ofL fr := by
    have := extract_mid to fr ([129, 0, x, y] ++ [a, b] ++ rest) (i := 6) (j := 12) ht.symm (by simp [ht, hf])
    simpa using this
  have e3 : (ofL (to ++ fr ++ [129, 0, x, y] ++ [a, b] ++ rest)).extract 12 14 = ofL [129, 0] := by
    have := extract_mid (to ++ fr) [129, 0] ([x, y] ++ [a, b] ++ rest) (i := 12) (j := 14) (by simp [ht, hf]) (by simp [ht, hf])
    simpa using this
  have e4 : (ofL (to ++ fr ++ [129, 0, x, y] ++ [a, b] ++ rest)).extract 14 16 = ofL [x, y] := by
    have := extract_mid (to ++ fr ++ [129, 0]) [x, y] ([a, b] ++ rest) (i := 14) (j := 16) (by simp [ht, hf]) (by simp [ht, hf])
    simpa using this
  have e5 : (ofL (to ++ fr ++ [129, 0, x, y] ++ [a, b] ++ rest)).extract 16 18 = ofL [a, b] := by
    have := extract_mid (to ++ fr ++ [129, 0, x, y]) [a, b] rest (i := 16) (j := 18) (by simp [ht, hf]) (by simp [ht, hf])
    simpa using this
  have e6 : (ofL (to ++ fr ++ [129, 0, x, y] ++ [a, b] ++ rest)).extract 18 (ofL (to ++ fr ++ [129, 0, x, y] ++ [a, b] ++ rest)).size = ofL rest := by
    rw [hs]
    exact extract_end (to ++ fr ++ [129, 0, x, y] ++ [a, b]) rest (by simp [ht, hf]) (by simp [ht, hf])
  have hk : kind2 (ofL [129, 0]) = 1 := by
    unfold kind2 kindN
    rw [show (⟨#[129, 0]⟩ : ByteArray) = ofL [129, 0] from rfl]
    simp
  have ht2 : tagNum (ofL [x, y]) = x.toNat * 256 + y.toNat := by
    unfold tagNum
    rw [dif_pos (by rw [ofL_size]; rfl), ofL_get, ofL_get]
    rfl
  unfold readF
  rw [e3, hk, if_neg (by omega), if_pos rfl, if_neg (by omega), e1, e2, e4, e5, e6, ht2]

theorem tagS_eq (v k : Nat) (hv : v < 4) (hk : k < 16) : tagS true v k = ofL [129, 0, UInt8.ofNat (k * 16), UInt8.ofNat v] := by
  have h : ∀ v, v < 4 → ∀ k, k < 16 → (tagN (v : Nat) (k : Nat) / 256 % 256).toNat = k * 16 ∧ (tagN (v : Nat) (k : Nat) % 256).toNat = v := by decide +kernel
  obtain ⟨h1, h2⟩ := h v hv k hk
  unfold tagS
  rw [if_pos rfl, h1, h2]
  show ofL [129, 0] ++ ofL [UInt8.ofNat (k * 16), UInt8.ofNat v] = _
  rw [ofL_append]
  rfl

/-- The numbers that a list of the caller's holds. -/
theorem IntsAt.fn {w : World} {a : Option Addr} {n g off : Nat} (h : IntsAt w a n g off) : ∃ f : Nat → Int, ∀ j, j < n → w.cell? ⟨g, off + j, none⟩ = some (.int .i64 (f j)) ∧ -9223372036854775808 ≤ f j ∧ f j ≤ 9223372036854775807 := by
  refine ⟨fun j => if hj : j < n then Classical.choose (h.2 j hj) else 0, fun j hj => ?_⟩
  simp only [hj, dif_pos]
  exact Classical.choose_spec (h.2 j hj)

section
variable (n0 n1 : Nat) (xs ys : Nat → Int)
/-- A port's native VLAN. -/
def natV (i : Nat) : Int := if i < n0 then pickV (xs i) 4 else 0
/-- Whether a bit of its number is set. -/
def bitV (i v : Nat) : Bool := decide (i < n1) && ((pickV (ys i) 16).toNat / 2 ^ v % 2 == 1)
/-- Whether a VLAN is one of its tagged ones. -/
def tagV (i v : Nat) : Bool := decide (1 ≤ v) && bitV n1 ys i v && ((v : Int) != natV n0 xs i)
/-- Its tagged ones below k. -/
def tagLk (i k : Nat) : List Int := ((List.range k).filter (tagV n0 n1 xs ys i)).map fun (v : Nat) => (v : Int)
end
theorem natV_range (n0 : Nat) (xs : Nat → Int) (i : Nat) : 0 ≤ natV n0 xs i ∧ natV n0 xs i < 4 := by
  unfold natV
  split
  · exact pickV_range _ (by omega)
  · omega
theorem tagLk_succ (n0 n1 : Nat) (xs ys : Nat → Int) (i k : Nat) : tagLk n0 n1 xs ys i (k + 1) = tagLk n0 n1 xs ys i k ++ if tagV n0 n1 xs ys i k then [(k : Int)] else [] := by
  unfold tagLk
  rw [List.range_succ, List.filter_append, List.map_append]
  congr 1
  cases h : tagV n0 n1 xs ys i k <;> simp [h]
theorem tagLk_mem (n0 n1 : Nat) (xs ys : Nat → Int) (i k v : Nat) : (v : Int) ∈ tagLk n0 n1 xs ys i k ↔ v < k ∧ tagV n0 n1 xs ys i v = true := by
  unfold tagLk
  rw [List.mem_map]
  constructor
  · rintro ⟨a, h, e⟩
    obtain rfl : a = v := by omega
    have := List.mem_filter.1 h
    exact ⟨List.mem_range.1 this.1, this.2⟩
  · rintro ⟨h1, h2⟩
    exact ⟨v, List.mem_filter.2 ⟨List.mem_range.2 h1, h2⟩, rfl⟩
theorem tagLk_length (n0 n1 : Nat) (xs ys : Nat → Int) (i k : Nat) : (tagLk n0 n1 xs ys i k).length ≤ k := by
  unfold tagLk
  have := List.length_filter_le (tagV n0 n1 xs ys i) (List.range k)
  simp only [List.length_map, List.length_range] at *
  exact this
theorem tagLk_pairwise (n0 n1 : Nat) (xs ys : Nat → Int) (i k : Nat) : (tagLk n0 n1 xs ys i k).Pairwise (· < ·) := by
  unfold tagLk
  refine List.pairwise_map.2 ((List.Pairwise.filter _ List.pairwise_lt_range).imp ?_)
  intro a b h
  omega
theorem isV_of {v : Int} (h : 1 ≤ v ∧ v ≤ 4094) : isV v = true := by
  unfold isV hasB
  simp [h.1, h.2]
theorem portOk_tags (n0 n1 : Nat) (xs ys : Nat → Int) (i : Nat) : portOk (natV n0 xs i) (tagLk n0 n1 xs ys i 4) = true := by
  have hn := natV_range n0 xs i
  have h1 : (natV n0 xs i == 0 || isV (natV n0 xs i)) = true := by
    by_cases h : natV n0 xs i = 0
    · simp [h]
    · rw [isV_of ⟨by omega, by omega⟩, Bool.or_true]
  have hel : ∀ j (hj : j < (tagLk n0 n1 xs ys i 4).length), ∃ v : Nat, (tagLk n0 n1 xs ys i 4)[j] = v ∧ v < 4 ∧ tagV n0 n1 xs ys i v = true := by
    intro j hj
    have hm := List.getElem_mem hj
    obtain ⟨v, hv, e⟩ := List.mem_map.1 (show (tagLk n0 n1 xs ys i 4)[j] ∈ ((List.range 4).filter (tagV n0 n1 xs ys i)).map fun (v : Nat) => (v : Int) from hm)
    have := List.mem_filter.1 hv
    exact ⟨v, e.symm, List.mem_range.1 this.1, this.2⟩
  unfold portOk
  rw [h1, Bool.true_and, tagsTo, decide_eq_true_eq]
  intro j hj hlt
  obtain ⟨v, e, hv4, ht⟩ := hel j hlt
  rw [e]
  unfold tagV at ht
  simp only [Bool.and_eq_true, decide_eq_true_eq, bne_iff_ne, ne_eq] at ht
  rw [isV_of ⟨by omega, by omega⟩, Bool.true_and, Bool.not_eq_true', Bool.or_eq_false_iff]
  refine ⟨by simpa using ht.2, ?_⟩
  rw [← Bool.not_eq_true, List.contains_iff_mem]
  intro hm
  obtain ⟨x, hx, e2⟩ := List.getElem_of_mem hm
  rw [List.length_take] at hx
  rw [List.getElem_take] at e2
  have := List.pairwise_iff_getElem.1 (tagLk_pairwise n0 n1 xs ys i 4) x j (by omega) hlt (by omega)
  omega
theorem tgOf_tags (n0 n1 : Nat) (xs ys : Nat → Int) (i v : Nat) (hv : v < 4) : tgOf (tagLk n0 n1 xs ys i 4) v = tagV n0 n1 xs ys i v := by
  unfold tgOf
  rw [Bool.eq_iff_iff, List.contains_iff_mem, tagLk_mem]
  simp [hv]

/-- The ports when i of them have been set. -/
def portsTo (n0 n1 : Nat) (xs ys : Nat → Int) (i : Nat) : List Prt := (List.range 4).map fun j => if j < i then ⟨natV n0 xs j, tgOf (tagLk n0 n1 xs ys j 4)⟩ else ⟨1, fun _ => false⟩
theorem portsTo_zero (n0 n1 : Nat) (xs ys : Nat → Int) : portsTo n0 n1 xs ys 0 = P4 := rfl
theorem portsTo_length (n0 n1 : Nat) (xs ys : Nat → Int) (i : Nat) : (portsTo n0 n1 xs ys i).length = 4 := by simp [portsTo]
theorem portsTo_get (n0 n1 : Nat) (xs ys : Nat → Int) {j : Nat} (hj : j < 4) : pAt (portsTo n0 n1 xs ys 4) j = ⟨natV n0 xs j, tgOf (tagLk n0 n1 xs ys j 4)⟩ := by
  rw [pAt_eq (by rw [portsTo_length]; exact hj)]
  simp [portsTo, hj]
theorem portsTo_succ (n0 n1 : Nat) (xs ys : Nat → Int) {i : Nat} (hi : i < 4) : portSet (portsTo n0 n1 xs ys i) i (natV n0 xs i) (tagLk n0 n1 xs ys i 4) = portsTo n0 n1 xs ys (i + 1) ∧ portRes (portsTo n0 n1 xs ys i) i (natV n0 xs i) (tagLk n0 n1 xs ys i 4) = 0 := by
  have hr : portRes (portsTo n0 n1 xs ys i) i (natV n0 xs i) (tagLk n0 n1 xs ys i 4) = 0 := by
    unfold portRes
    rw [portsTo_length, portOk_tags]
    have h1 : (0 : Int) ≤ i := by omega
    have h2 : (i : Int) < 4 := by omega
    simp [h1, h2]
  refine ⟨?_, hr⟩
  unfold portSet
  rw [if_pos hr]
  refine List.ext_getElem (by simp [portsTo]) fun j h1 h2 => ?_
  rw [List.getElem_set]
  simp only [portsTo, List.getElem_map, List.getElem_range, Int.toNat_natCast]
  by_cases e : i = j
  · subst e; simp
  · rw [if_neg e]
    by_cases h3 : j < i
    · rw [if_pos h3, if_pos (by omega)]
    · rw [if_neg h3, if_neg (by omega)]
end Go.Proofs.YtaejpejfmpbinaaGreatDoor

namespace Go.Proofs.YtaejpejfmpbinaaGreatDoor
open Go.RowKit

theorem HallAt.low {w w' : World} {s : Nat} (h : HallAt w s w') : Below w.heap.size w w' ∧ ∃ k m pv, SwP w' s pv P4 k m (.slice none 0 0) [] ∧ w.heap.size ≤ m ∧ w.heap.size ≤ k ∧ w.heap.size ≤ s := by
  obtain ⟨fb, rb, hb, t, vb, k, m0, F, Wb, W1, pv, Q, m, rfl, hI, hP, hQ, hC, hpb, hch, hS, hm⟩ := h
  have h1 := hI.n.lo
  have h2 := hI.lo
  have s1 := h1.size
  have s2 := h2.size
  have h3 : Below w.heap.size W1 w' := hch.below (by omega) (by rintro x (rfl | rfl); exact hI.n.lk; exact hI.n.lm)
  exact ⟨(h1.trans (h2.mono s1)).trans h3, k, m, pv, hS, by omega, hI.n.lk, s1⟩

theorem LearnI.next {w W0 : World} {s k m wb i : Nat} {pv : Value} {c : Nat → Int} {wr W W' W2 : World} (h : LearnI w W0 s k m wb i pv c wr) {sv : Value} {K : List Mc} (hb : Below wr.heap.size wr W) (hS : SwP wr s pv P4 k m sv K) (hn : K.length ≤ i) (hwi : WhereI c K) (hsv : ∀ b, sv.ownBlock = some b → wb < b) {kk : Nat} (hk : kk < 20) {p : Int} (hp : 0 ≤ p ∧ p < 4) (hi : i < 60)
    {sv' : Value} {K' : List Mc} (hl : LearnK K ⟨1, ofL (macL kk), p, 0⟩ K') (h2 : KnownAt W' k m sv' K') (h3 : ∀ b, sv'.ownBlock = some b → sv.ownBlock = some b ∨ W.heap.size ≤ b) (h5 : Chg (KX m sv) W W') (hW2 : W2 = W'.setCell ⟨wb, kk, none⟩ (.int .i64 p)) :
    LearnI w W0 s k m wb (i + 1) pv (fun j => if j = kk then p else c j) W2 ∧ W'.heap[wb]? = some (.cells (arr20 c) 25 (0, 0)) := by
  have hsW := hb.size
  have hwlt : wb < wr.heap.size := lt_of_heap h.ar
  have hlo : Below w.heap.size w W' := by
    have hx : Below w.heap.size W W' := h5.below (by have := h.lo.size; omega) (by
      rintro x (rfl | e)
      · exact h.hm
      · have := hsv x e; have := h.hw; omega)
    exact (h.lo.trans (hb.mono h.lo.size)).trans hx
  have hnw : ¬ KX m sv wb := by
    rintro (e | e)
    · have := h.hmw; omega
    · have := hsv wb e; omega
  have har : W'.heap[wb]? = some (.cells (arr20 c) 25 (0, 0)) := (h5.block wb (by omega) hnw).trans ((hb.block wb hwlt).trans h.ar)
  refine ⟨⟨⟨sv', K', ?_, by have := hl.le; omega, hwi.learn hS.hK.2.2.2 (by omega) hp hk hl, fun b hb' => ?_⟩, ?_, ?_, h.hm, h.hmw, h.hw⟩, har⟩
  · have hS1 := hS.below hb
    obtain ⟨a0, a1, a2, a3⟩ := hS1.kept h5
    have hS2 : SwP W' s pv P4 k m sv' K' := ⟨a0, a1, a2, h2, a3⟩
    have hb2 : Chg (fun b => b = wb) W' W2 := by rw [hW2]; exact Chg.setCell (X := fun b => b = wb) (p := ⟨wb, kk, none⟩) (Chg.of_below (Below.refl _ W')) (.inl rfl) _
    have c0 : W'.cell? ⟨wb, 0, none⟩ = some (.int .i64 (c 0)) := cellRow har (arr20_get c (by omega))
    have c1 : W'.cell? ⟨wb, 1, none⟩ = some (.int .i64 (c 1)) := cellRow har (arr20_get c (by omega))
    have ne : ∀ b i v, W'.cell? ⟨b, i, none⟩ = some v → (i = 0 ∧ ∀ x, v ≠ .int .i64 x) ∨ (i = 1 ∧ ∀ x, v ≠ .int .i64 x) → b ≠ wb := by
      rintro b i v hv (⟨rfl, h'⟩ | ⟨rfl, h'⟩) rfl
      · rw [c0] at hv; cases hv; exact h' _ rfl
      · rw [c1] at hv; cases hv; exact h' _ rfl
    have nS : s ≠ wb := by
      obtain ⟨a, cap, b, e, _⟩ := a1
      exact ne s 0 _ a0 (.inl ⟨rfl, fun x => by rw [e]; simp⟩)
    have n1 : 1 ≠ wb := ne 1 0 _ a3.1 (.inl ⟨rfl, by simp⟩)
    have nk : k ≠ wb := ne k 0 _ h2.1 (.inl ⟨rfl, by simp⟩)
    have nm : m ≠ wb := ne m 0 _ h2.2.2.1.1.1 (.inl ⟨rfl, by simp⟩)
    refine ⟨hb2.block.cell nS a0, ?_, hb2.block.cell nS a2, h2.keep fun b hb3 hx => hb2.block b hb3 ?_, hb2.block.cell n1 a3.1, hb2.block.cell n1 a3.2.1, hb2.block.cell n1 a3.2.2.1, hb2.block.cell n1 a3.2.2.2⟩
    · obtain ⟨a, cap, b, e, hcs⟩ := a1
      refine ⟨a, cap, b, e, fun j hj => ?_⟩
      obtain ⟨q0, q1, mv, q2, q3⟩ := hcs j hj
      have hbw : b ≠ wb := by
        obtain ⟨_, _, mv0, k2, k3⟩ := hcs 0 (by omega)
        rw [Nat.zero_mul] at k2
        refine ne b 1 _ k2 (.inr ⟨rfl, ?_⟩)
        rcases k3 with ⟨rfl, _⟩ | ⟨_, _, _, rfl, _⟩ <;> simp
      refine ⟨q0, hb2.block.cell hbw q1, mv, hb2.block.cell hbw q2, q3.same fun x o ho hco => ?_⟩
      have hx : x ≠ wb := by
        rintro rfl
        rw [noCell ho hco] at c0
        cases c0
      rw [hb2.block x (lt_of_heap ho) hx, ho]
    · rcases hx with rfl | rfl | hx
      · exact nk
      · exact nm
      · obtain ⟨v, hv⟩ := h2.2.2.1.head1 hx
        exact ne b 1 _ hv (.inr ⟨rfl, by simp⟩)
  · rcases h3 b hb' with e | e
    · exact hsv b e
    · omega
  · rw [hW2, heap_setCell_same _ _ kk _ _ _ har, arr20_set c hk]
  · rw [hW2]; exact hlo.setCell h.hw _

theorem frame_hello (s k m : Nat) (pv sv : Value) (K : List Mc) (p : Int) (kn : Nat) (w : World) (h : SwP w s pv P4 k m sv K) (hn : K.length ≤ 64) (hp : 0 ≤ p ∧ p < 4) :
    Calls Tryz.prog 9 #[.pointer (some ⟨s, 0, none⟩), .int .i64 p, .string (ofL (macL 800) ++ ofL (macL kn) ++ ⟨#[18, 52, 104, 101, 108, 108, 111]⟩)] w (FrameEnd w k m sv fun _ _ K' => LearnK K ⟨1, ofL (macL kn), p, 0⟩ K') := by
  have hd : ofL (macL 800) ++ ofL (macL kn) ++ ⟨#[18, 52, 104, 101, 108, 108, 111]⟩ = ofL (macL 800 ++ macL kn ++ [18, 52] ++ [104, 101, 108, 108, 111]) := by
    show ofL (macL 800) ++ ofL (macL kn) ++ ofL [18, 52, 104, 101, 108, 108, 111] = _
    rw [ofL_append, ofL_append, List.append_assoc _ [18, 52]]; rfl
  rw [hd]
  exact (frame4 s k m pv sv K p (macL 800) (macL kn) [104, 101, 108, 108, 111] 18 52 w h hn hp rfl rfl (by decide) (by decide) (by decide) (mac_grp _)).mono fun e W h => h.mono fun r L K' h => h.1

/-- What comes of a frame to one of those who may have spoken. -/
def HiR (c : Nat → Int) (kn p : Nat) (dat : ByteArray) (r : Int) (L : List (Int × ByteArray)) (K' : List Mc) : Prop :=
  ((c kn = p ∧ L = [] ∧ r = 8) ∨ (c kn ≠ p ∧ 0 ≤ c kn ∧ L = [(c kn, dat)] ∧ r = 0) ∨ (c kn = -1 ∧ L.length = 3 ∧ r = 0)) ∧ (0 < K'.length ∧ K'.length ≤ 61) ∧ ∀ e ∈ K', e.age = 0

theorem frame_hi (s k m : Nat) (pv sv : Value) (K : List Mc) (c : Nat → Int) (p kn : Nat) (w : World) (h : SwP w s pv P4 k m sv K) (hn : K.length ≤ 60) (hp : p < 4) (hk : kn < 20) (hw : WhereI c K) :
    Calls Tryz.prog 9 #[.pointer (some ⟨s, 0, none⟩), .int .i64 p, .string (ofL (macL kn) ++ ofL (macL 700) ++ ⟨#[18, 52, 104, 105]⟩)] w (FrameEnd w k m sv (HiR c kn p (ofL (macL kn) ++ ofL (macL 700) ++ ⟨#[18, 52, 104, 105]⟩))) := by
  have hd : ofL (macL kn) ++ ofL (macL 700) ++ ⟨#[18, 52, 104, 105]⟩ = ofL (macL kn ++ macL 700 ++ [18, 52] ++ [104, 105]) := by
    show ofL (macL kn) ++ ofL (macL 700) ++ ofL [18, 52, 104, 105] = _
    rw [ofL_append, ofL_append, List.append_assoc _ [18, 52]]; rfl
  rw [hd]
  refine (frame4 s k m pv sv K p (macL kn) (macL 700) [104, 105] 18 52 w h (by omega) (by omega) rfl rfl (by decide) (by decide) (by decide) (mac_grp _)).mono fun e W h' => h'.mono ?_
  rintro r L K' ⟨h1, h2, h3⟩
  have hs := h.hK.2.2.2
  have hkn : known K' 1 (ofL (macL kn)) = if c kn = -1 then none else some ⟨1, ofL (macL kn), c kn, 0⟩ := by
    rw [h1.known hs (by omega), if_neg, hw.kn kn hk]
    rintro ⟨_, e⟩
    have := macL_inj (by omega) (by omega) (ofL_inj e)
    omega
  have hrg := hw.rg kn hk
  refine ⟨?_, ⟨?_, by have := h1.le; omega⟩, fun e he => ?_⟩
  · rw [hkn] at h2
    by_cases e1 : c kn = -1
    · rw [if_pos e1] at h2
      refine .inr (.inr ⟨e1, ?_, ?_⟩)
      · rw [h2, List.length_map]
        exact to4_all p hp
      · rw [h3, h2, List.length_map, show (to4 p (portOf none) (none : Option Mc).isSome).length = 3 from to4_all p hp]; rfl
    · rw [if_neg e1] at h2
      obtain ⟨q, hq⟩ : ∃ q : Nat, c kn = q := ⟨(c kn).toNat, by omega⟩
      have h2' : L = (to4 p q true).map fun (j : Nat) => ((j : Int), ofL (macL kn ++ macL 700 ++ [18, 52] ++ [104, 105])) := by rw [h2, ← hq]; rfl
      by_cases e2 : p = q
      · subst e2
        rw [to4_self p hp] at h2'
        exact .inl ⟨hq, h2', by rw [h3, h2']; rfl⟩
      · rw [to4_one p hp q (by omega) e2] at h2'
        refine .inr (.inl ⟨by omega, by omega, by rw [h2', hq]; rfl, by rw [h3, h2']; rfl⟩)
  · have : known K' 1 (ofL (macL 700)) = some ⟨1, ofL (macL 700), p, 0⟩ := by rw [h1.known hs (by omega), if_pos ⟨rfl, rfl⟩]
    exact List.length_pos_of_mem ((known_iff h1.1 _ _ _).1 this).1
  · rcases h1.mem he with e1 | e1
    · rw [e1]
    · exact hw.age e e1

theorem tickL_300 {K : List Mc} (h : ∀ e ∈ K, e.age = 0) : (tickL 300 K).length = K.length ∧ (∀ e ∈ tickL 300 K, e.age = 300) ∧ tickL 1 (tickL 300 K) = [] := by
  have h1 : ∀ e ∈ tickL 300 K, e.age = 300 := by
    intro e he
    obtain ⟨x, hx, rfl⟩ := List.mem_map.1 (List.mem_filter.1 he).1
    simp [h x hx]
  refine ⟨?_, h1, tickL_nil 1 fun e he => by rw [h1 e he]; decide⟩
  unfold tickL
  rw [List.filter_eq_self.2, List.length_map]
  intro e he
  obtain ⟨x, hx, rfl⟩ := List.mem_map.1 he
  simp [h x hx]

set_option maxRecDepth 100000 in
set_option maxHeartbeats 4000000 in
theorem learned_any (a0 a1 : Option Addr) (n0 n1 c0 c1 g0 g1 o0 o1 : Nat) (to at_ : Int) (w : World) (hl : Laid w) (hm : Means w) (h0 : IntsAt w a0 n0 g0 o0) (h1 : IntsAt w a1 n1 g1 o1) (hn0 : n0 ≤ 9223372036854775000) (hn1 : n1 ≤ 9223372036854775000) (ht : -9223372036854775808 ≤ to ∧ to ≤ 9223372036854775807) (ha : -9223372036854775808 ≤ at_ ∧ at_ ≤ 9223372036854775807) :
    Calls Tryz.prog 3 #[.slice a0 n0 c0, .slice a1 n1 c1, .int .i64 to, .int .i64 at_] w fun e w' => e = .returned (.bool true) ∧ Below w.heap.size w w' := by
  have CH := hide (hall_any w hl hm)
  have CK := hide fun (n : Int) (W : World) (h0 : 0 ≤ n) (h1 : n ≤ 9223372036854775807) => kmac_any n W h0 h1
  have CPk := hide fun (c n : Int) (W : World) => pick_any c n W
  have HT := hide ht
  have HA := hide ha
  have H0 := hide h0
  have H1 := hide h1
  clear hl hm ht ha h0 h1
  go_enter Tryz.func3, Tryz.ntmps3
  go_wp2_with fail
  refine CH.out.mono ?_
  rintro e W0 ⟨s, rfl, hH⟩
  obtain ⟨hb0, k, m, pv, hS, hmw, hkw, hsw⟩ := hH.low
  have HB0 := hide hb0
  have HS := hide hS
  have hsz0 := hb0.size
  have hmlt : m < W0.heap.size := block_lt_of_cell hS.hK.2.2.1.1.1
  clear hH hb0 hS CH
  go_wp2
  go_loopw [11] (fun i wr => ∃ j : Nat, j ≤ 20 ∧ i = .int .i64 j ∧ Hid (wr.heap[W0.heap.size]? = some (.cells (arr20 fun x => if x < j then -1 else 0) 25 (0, 0)) ∧ Below W0.heap.size W0 wr)) (fun i _ => 20 - (intOf i).toNat)
  case atStart => exact ⟨0, by omega, rfl, hide ⟨World.alloc_heap_new W0 _, (Below.refl _ W0).alloc (Nat.le_refl _) _⟩⟩
  case round =>
    obtain ⟨j, hj, rfl, hI⟩ := hrel
    by_cases hlt : j < 20
    · have hji : (j : Int) < 20 := by omega
      have hji0 : (0 : Int) ≤ j := by omega
      have cj : wr.cell? ⟨W0.heap.size, j, none⟩ = some (.int .i64 (if j < j then -1 else 0)) := cellRow hI.out.1 (arr20_get _ hlt)
      have fj : wr.frozen? ⟨W0.heap.size, j, none⟩ = false := frzRow hI.out.1 j
      have HN : Hid ((wr.setCell ⟨W0.heap.size, j, none⟩ (.int .i64 (-1))).heap[W0.heap.size]? = some (.cells (arr20 fun x => if x < j + 1 then -1 else 0) 25 (0, 0)) ∧ Below W0.heap.size W0 (wr.setCell ⟨W0.heap.size, j, none⟩ (.int .i64 (-1)))) := hide ⟨by
        rw [heap_setCell_same _ _ j _ _ _ hI.out.1, arr20_set _ hlt]
        congr 3
        funext x
        by_cases e1 : x = j
        · subst e1; simp
        · by_cases e2 : x < j
          · rw [if_neg e1, if_pos e2, if_pos (by omega)]
          · rw [if_neg e1, if_neg e2, if_neg (by omega)], hI.out.2.setCell (Nat.le_refl _) _⟩
      clear hI
      go_wp2
      go_roundw
      case rel => exact ⟨j + 1, by omega, by go_num, HN⟩
      case measure => simp [intOf]; omega
    · have hj20 : j = 20 := by omega
      have hji : ¬ (j : Int) < 20 := by omega
      replace hI := hide hI.out
      rw [hj20] at hI
      clear hj20
      have hI0 : LearnI w W0 s k m W0.heap.size 0 pv (fun x => if x < 20 then -1 else 0) wr := by
        refine ⟨⟨_, [], HS.out.below hI.out.2, Nat.le_refl _, ⟨(fun e he => by cases he), fun j hj => ?_, fun j hj => ?_⟩, (fun b hb => by cases hb)⟩, hI.out.1, HB0.out.trans (hI.out.2.mono hsz0), hmw, hmlt, hsz0⟩
        · simp [hj, known_nil]
        · simp [hj]
      have HI0 := hide hI0
      clear hI0 hI
      go_wp2
      go_loopw [12] (fun i wr => ∃ j : Nat, j ≤ n0 ∧ j ≤ 60 ∧ i = .int .i64 j ∧ ∃ c, Hid (LearnI w W0 s k m W0.heap.size j pv c wr)) (fun i _ => 60 - (intOf i).toNat)
      case atStart => exact ⟨0, by omega, by omega, rfl, _, HI0⟩
      case round =>
        clear HI0
        obtain ⟨j, hj, hj60, rfl, c, hI⟩ := hrel
        by_cases hlt : j < n0
        · have hji : (j : Int) < n0 := by omega
          have hji0 : (0 : Int) ≤ j := by omega
          by_cases h60 : j < 60
          · have h6i : (j : Int) < 60 := by omega
            obtain rfl := H0.out.1 (by omega)
            obtain ⟨x, hx, hxb⟩ := H0.out.2 j hlt
            have cx : wr.cell? ⟨g0, o0 + j, none⟩ = some (.int .i64 x) := (hI.out.lo.cell (p := ⟨g0, o0 + j, none⟩) (block_lt_of_cell hx)).trans hx
            have hg0 : g0 < wr.heap.size := block_lt_of_cell cx
            have hx20 := pickV_range x (n := 20) (by omega)
            have HXB := hide hxb
            clear hx hxb
            by_cases hj1 : j < n1
            · have hj1i : (j : Int) < n1 := by omega
              obtain rfl := H1.out.1 (by omega)
              obtain ⟨y, hy, hyb⟩ := H1.out.2 j hj1
              have cy : wr.cell? ⟨g1, o1 + j, none⟩ = some (.int .i64 y) := (hI.out.lo.cell (p := ⟨g1, o1 + j, none⟩) (block_lt_of_cell hy)).trans hy
              have hg1 : g1 < wr.heap.size := block_lt_of_cell cy
              have hy4 := pickV_range y (n := 4) (by omega)
              have HYB := hide hyb
              clear hy hyb
              go_wp2_with fail
              refine (CPk.out y 4 _ HYB.out.1 HYB.out.2 (by omega) (by omega)).mono ?_
              rintro e W ⟨rfl, hww⟩
              rw [hww]
              clear hww W
              generalize pickV y 4 = p at *
              go_wp2_with fail
              refine (CPk.out x 20 _ HXB.out.1 HXB.out.2 (by omega) (by omega)).mono ?_
              rintro e W ⟨rfl, hww⟩
              rw [hww]
              clear hww W
              generalize hkk : pickV x 20 = kk at *
              obtain ⟨kn, rfl⟩ : ∃ kn : Nat, kk = kn := ⟨kk.toNat, by omega⟩
              have hkn : kn < 20 := by omega
              clear hkk
              go_wp2_with fail
              refine (CK.out 800 _ (by omega) (by omega)).mono ?_
              rintro e W1 ⟨rfl, hb1⟩
              go_wp2_with fail
              refine (CK.out kn _ (by omega) (by omega)).mono ?_
              rintro e W2 ⟨rfl, hb2⟩
              have hb12 : Below wr.heap.size wr W2 := hb1.trans (hb2.mono hb1.size)
              obtain ⟨sv, K, hS, hK, hwi, hsv⟩ := hI.out.sw
              have CF := hide (frame_hello s k m pv sv K p kn W2 (hS.below hb12) (by omega) hy4)
              have HX := hide (And.intro hS (And.intro hK (And.intro hwi hsv)))
              have HB12 := hide hb12
              have hz1 : (ofL (macL 800)).size = 6 := by rw [ofL_size, macL_length]
              have hz2 : (ofL (macL kn)).size = 6 := by rw [ofL_size, macL_length]
              clear hb1 hb2 hb12 hS hK hwi hsv CK CPk
              go_wp2_with fail
              refine CF.out.mono ?_
              rintro e W3 ⟨r, L, K', ov, sv', rfl, hlk, f1, f2, f3, f4, f5⟩
              obtain ⟨hN, har⟩ := hI.out.next HB12.out HX.out.1 HX.out.2.1 HX.out.2.2.1 HX.out.2.2.2 hkn (p := p) hy4 (by omega) hlk f2 f3 f5 rfl
              have ck : W3.cell? ⟨W0.heap.size, kn, none⟩ = some (.int .i64 (c kn)) := cellRow har (arr20_get c hkn)
              have fk : W3.frozen? ⟨W0.heap.size, kn, none⟩ = false := frzRow har kn
              have hki : (kn : Int) < 20 := by omega
              have HN := hide hN
              clear CF hN har f1 f2 f3 f4 f5 hI HX
              go_wp2
              go_roundw
              case rel => exact ⟨j + 1, by omega, by omega, by go_num, _, HN⟩
              case measure => simp [intOf]; omega
            · have hj1i : ¬ (j : Int) < n1 := by omega
              go_wp2_with fail
              refine (CPk.out x 20 _ HXB.out.1 HXB.out.2 (by omega) (by omega)).mono ?_
              rintro e W ⟨rfl, hww⟩
              rw [hww]
              clear hww W
              generalize hkk : pickV x 20 = kk at *
              obtain ⟨kn, rfl⟩ : ∃ kn : Nat, kk = kn := ⟨kk.toNat, by omega⟩
              have hkn : kn < 20 := by omega
              clear hkk
              go_wp2_with fail
              refine (CK.out 800 _ (by omega) (by omega)).mono ?_
              rintro e W1 ⟨rfl, hb1⟩
              go_wp2_with fail
              refine (CK.out kn _ (by omega) (by omega)).mono ?_
              rintro e W2 ⟨rfl, hb2⟩
              have hb12 : Below wr.heap.size wr W2 := hb1.trans (hb2.mono hb1.size)
              obtain ⟨sv, K, hS, hK, hwi, hsv⟩ := hI.out.sw
              have CF := hide (frame_hello s k m pv sv K 0 kn W2 (hS.below hb12) (by omega) (by omega))
              have HX := hide (And.intro hS (And.intro hK (And.intro hwi hsv)))
              have HB12 := hide hb12
              have hz1 : (ofL (macL 800)).size = 6 := by rw [ofL_size, macL_length]
              have hz2 : (ofL (macL kn)).size = 6 := by rw [ofL_size, macL_length]
              clear hb1 hb2 hb12 hS hK hwi hsv CK CPk
              go_wp2_with fail
              refine CF.out.mono ?_
              rintro e W3 ⟨r, L, K', ov, sv', rfl, hlk, f1, f2, f3, f4, f5⟩
              obtain ⟨hN, har⟩ := hI.out.next HB12.out HX.out.1 HX.out.2.1 HX.out.2.2.1 HX.out.2.2.2 hkn (p := 0) (by omega) (by omega) hlk f2 f3 f5 rfl
              have ck : W3.cell? ⟨W0.heap.size, kn, none⟩ = some (.int .i64 (c kn)) := cellRow har (arr20_get c hkn)
              have fk : W3.frozen? ⟨W0.heap.size, kn, none⟩ = false := frzRow har kn
              have hki : (kn : Int) < 20 := by omega
              have HN := hide hN
              clear CF hN har f1 f2 f3 f4 f5 hI HX
              go_wp2
              go_roundw
              case rel => exact ⟨j + 1, by omega, by omega, by go_num, _, HN⟩
              case measure => simp [intOf]; omega
          · have h6i : ¬ (j : Int) < 60 := by omega
            obtain ⟨sv, K, hS, hK, hwi, hsv⟩ := hI.out.sw
            have hp4 := pickV_range at_ (n := 4) (by omega)
            have hk20 := pickV_range to (n := 20) (by omega)
            have HI := hide hI.out
            have HX := hide (And.intro hS (And.intro hK (And.intro hwi hsv)))
            clear hI hS hK hwi hsv
            go_wp2_with fail
            refine (CPk.out at_ 4 _ HA.out.1 HA.out.2 (by omega) (by omega)).mono ?_
            rintro e W1 ⟨rfl, hww⟩
            rw [hww]
            clear hww W1
            generalize pickV at_ 4 = pp at *
            obtain ⟨p, rfl⟩ : ∃ p : Nat, pp = p := ⟨pp.toNat, by omega⟩
            have hp : p < 4 := by omega
            go_wp2_with fail
            refine (CPk.out to 20 _ HT.out.1 HT.out.2 (by omega) (by omega)).mono ?_
            rintro e W1 ⟨rfl, hww⟩
            rw [hww]
            clear hww W1
            generalize pickV to 20 = kk at *
            obtain ⟨kn, rfl⟩ : ∃ kn : Nat, kk = kn := ⟨kk.toNat, by omega⟩
            have hkn : kn < 20 := by omega
            have hki : (kn : Int) < 20 := by omega
            go_wp2_with fail
            refine (CK.out kn _ (by omega) (by omega)).mono ?_
            rintro e W2 ⟨rfl, hb1⟩
            go_wp2_with fail
            refine (CK.out 700 _ (by omega) (by omega)).mono ?_
            rintro e W3 ⟨rfl, hb2⟩
            have hb12 : Below wr.heap.size wr W3 := hb1.trans (hb2.mono hb1.size)
            have hz1 : (ofL (macL 700)).size = 6 := by rw [ofL_size, macL_length]
            have hz2 : (ofL (macL kn)).size = 6 := by rw [ofL_size, macL_length]
            have CF := hide (frame_hi s k m pv sv K c p kn W3 (HX.out.1.below hb12) (by have := HX.out.2.1; omega) hp hkn HX.out.2.2.1)
            have HB12 := hide hb12
            clear hb1 hb2 hb12 CK CPk
            go_wp2_with fail
            refine CF.out.mono ?_
            rintro e W4 ⟨r, L, K', ov, sv', rfl, ⟨hR, hK', hage⟩, f1, f2, f3, f4, f5⟩
            generalize (ofL (macL kn) ++ ofL (macL 700) ++ ⟨#[18, 52, 104, 105]⟩) = dat at *
            have hS4 : SwP W4 s pv P4 k m sv' K' := by
              obtain ⟨b0, b1, b2, b3⟩ := (HX.out.1.below HB12.out).kept f5
              exact ⟨b0, b1, b2, f2, b3⟩
            have hlo4 : Below w.heap.size w W4 := by
              have hx : Below w.heap.size W3 W4 := f5.below (by have := HI.out.lo.size; have := HB12.out.size; omega) (by
                rintro x (rfl | e)
                · exact HI.out.hm
                · have := HX.out.2.2.2 x e; have := HI.out.hw; omega)
              exact (HI.out.lo.trans (HB12.out.mono HI.out.lo.size)).trans hx
            have har : W4.heap[W0.heap.size]? = some (.cells (arr20 c) 25 (0, 0)) := (f5.block _ (by have := lt_of_heap HI.out.ar; have := HB12.out.size; omega) (by
              rintro (e | e)
              · have := HI.out.hmw; omega
              · have := HX.out.2.2.2 _ e; omega)).trans ((HB12.out.block _ (lt_of_heap HI.out.ar)).trans HI.out.ar)
            have ck : W4.cell? ⟨W0.heap.size, kn, none⟩ = some (.int .i64 (c kn)) := cellRow har (arr20_get c hkn)
            have hrg := HX.out.2.2.1.rg kn hkn
            obtain ⟨t1, t2, t3⟩ := tickL_300 hage
            have CT1 := hide fun (W : World) (h5 : W.cell? ⟨s, 5, none⟩ = some (.pointer (some ⟨k, 0, none⟩))) (h : KnownAt W k m sv' K') => sTick_any s k m sv' K' 300 W h5 h (by omega) (by omega) fun e he => ⟨by rw [hage e he]; decide, by rw [hage e he]; decide⟩
            have CT2 := hide fun (W : World) (m' : Nat) (v : Value) (h5 : W.cell? ⟨s, 5, none⟩ = some (.pointer (some ⟨k, 0, none⟩))) (h : KnownAt W k m' v (tickL 300 K')) => sTick_any s k m' v (tickL 300 K') 1 W h5 h (by omega) (by omega) fun e he => ⟨by rw [t2 e he]; decide, by rw [t2 e he]; decide⟩
            rw [t3] at CT2
            have CM := hide fun (W : World) (m' : Nat) (v : Value) (Z : List Mc) (h5 : W.cell? ⟨s, 5, none⟩ = some (.pointer (some ⟨k, 0, none⟩))) (h : KnownAt W k m' v Z) => sMacs_any s k m' v Z W h5 h
            have hne : s ≠ k := hS4.ne_k
            have hkpos : (0 : Int) < (tickL 300 K').length := by omega
            obtain ⟨n3, hn3⟩ : ∃ n3, n3 = (tickL 300 K').length := ⟨_, rfl⟩
            rw [← hn3] at hkpos
            have HN3 := hide hn3
            have HS4 := hide hS4
            have HL4 := hide hlo4
            have HF1 := hide f1
            have hk7 : w.heap.size ≤ k := hkw
            clear CF hS4 hlo4 har f2 f3 f4 f5 hage t1 t2 t3 hK' hn3 HI HX HB12 hz1 hz2
            rcases hR with ⟨e1, rfl, rfl⟩ | ⟨e1, e2, rfl, rfl⟩ | ⟨e1, e2, rfl⟩
            · obtain ⟨oa, ocap, rfl⟩ := slice_of HF1.out
              rw [e1] at ck
              clear e1
              go_wp2_with fail
              have HSX : Hid (SwP _ s pv P4 k m sv' K') := hide (HS4.out.below (Below.refl _ _))
              have HLX : Hid (Below w.heap.size w _) := hide (HL4.out.trans ((Below.refl _ _).mono HL4.out.size))
              refine (CT1.out _ HSX.out.h5 HSX.out.hK).mono ?_
              rintro e W5 ⟨rfl, m5, v5, k5, _, _, h5c⟩
              have HS5 := hide (HSX.out.ticked h5c k5)
              have HL5 := hide (HLX.out.trans (h5c.below HLX.out.size fun x e => e ▸ hk7))
              clear k5 h5c CT1 HSX HLX HS4 HL4 ck
              go_wp2_with fail
              refine (CM.out _ _ _ _ HS5.out.h5 HS5.out.hK).mono ?_
              rintro e W6 ⟨g6, c6, rfl, _, hb6⟩
              have HS6 := hide (HS5.out.below hb6)
              have HL6 := hide (HL5.out.trans (hb6.mono HL5.out.size))
              rw [← HN3.out]
              clear hb6 HS5 HL5
              go_wp2_with fail
              refine (CT2.out _ _ _ HS6.out.h5 HS6.out.hK).mono ?_
              rintro e W7 ⟨rfl, m7, v7, k7, _, _, h7c⟩
              have HS7 := hide (HS6.out.ticked h7c k7)
              have HL7 := hide (HL6.out.trans (h7c.below HL6.out.size fun x e => e ▸ hk7))
              clear k7 h7c CT2 HS6 HL6
              go_wp2_with fail
              refine (CM.out _ _ _ _ HS7.out.h5 HS7.out.hK).mono ?_
              rintro e W8 ⟨g8, c8, rfl, _, hb8⟩
              have HL8 := hide (HL7.out.trans (hb8.mono HL7.out.size))
              clear hb8 HS7 HL7 CM
              go_wp2
              go_ret
              exact ⟨rfl, HL8.out⟩
            · obtain ⟨oa, ocap, og, rfl, hoc⟩ := outs_cells HF1.out
              obtain ⟨rfl, ob, c4, c5⟩ := hoc 0 (by simp)
              have c4' : W4.cell? ⟨og, 0, none⟩ = some (.int .i64 (c kn)) := c4
              have c5' : W4.cell? ⟨og, 1, none⟩ = some (.string dat) := c5
              have d1 : (c kn == (p : Int)) = false := by simpa using e1
              clear hoc ob c4 c5 HF1 e1
              generalize c kn = ck0 at *
              go_wp2_with fail
              go_quiet (fail)
              go_wp2_with fail
              have HSX : Hid (SwP _ s pv P4 k m sv' K') := hide (HS4.out.below (below_drewN (Below.refl _ _) nq))
              have HLX : Hid (Below w.heap.size w _) := hide (HL4.out.trans ((below_drewN (Below.refl _ _) nq).mono HL4.out.size))
              refine (CT1.out _ HSX.out.h5 HSX.out.hK).mono ?_
              rintro e W5 ⟨rfl, m5, v5, k5, _, _, h5c⟩
              have HS5 := hide (HSX.out.ticked h5c k5)
              have HL5 := hide (HLX.out.trans (h5c.below HLX.out.size fun x e => e ▸ hk7))
              clear k5 h5c CT1 HSX HLX HS4 HL4 ck
              go_wp2_with fail
              refine (CM.out _ _ _ _ HS5.out.h5 HS5.out.hK).mono ?_
              rintro e W6 ⟨g6, c6, rfl, _, hb6⟩
              have HS6 := hide (HS5.out.below hb6)
              have HL6 := hide (HL5.out.trans (hb6.mono HL5.out.size))
              rw [← HN3.out]
              clear hb6 HS5 HL5
              go_wp2_with fail
              refine (CT2.out _ _ _ HS6.out.h5 HS6.out.hK).mono ?_
              rintro e W7 ⟨rfl, m7, v7, k7, _, _, h7c⟩
              have HS7 := hide (HS6.out.ticked h7c k7)
              have HL7 := hide (HL6.out.trans (h7c.below HL6.out.size fun x e => e ▸ hk7))
              clear k7 h7c CT2 HS6 HL6
              go_wp2_with fail
              refine (CM.out _ _ _ _ HS7.out.h5 HS7.out.hK).mono ?_
              rintro e W8 ⟨g8, c8, rfl, _, hb8⟩
              have HL8 := hide (HL7.out.trans (hb8.mono HL7.out.size))
              clear hb8 HS7 HL7 CM
              go_wp2
              go_ret
              exact ⟨rfl, HL8.out⟩
            · obtain ⟨oa, ocap, rfl⟩ := slice_of HF1.out
              rw [e2] at HF1
              rw [e1] at ck
              clear e1
              generalize L.length = nL at *
              subst e2
              go_wp2_with fail
              have HSX : Hid (SwP _ s pv P4 k m sv' K') := hide (HS4.out.below (Below.refl _ _))
              have HLX : Hid (Below w.heap.size w _) := hide (HL4.out.trans ((Below.refl _ _).mono HL4.out.size))
              refine (CT1.out _ HSX.out.h5 HSX.out.hK).mono ?_
              rintro e W5 ⟨rfl, m5, v5, k5, _, _, h5c⟩
              have HS5 := hide (HSX.out.ticked h5c k5)
              have HL5 := hide (HLX.out.trans (h5c.below HLX.out.size fun x e => e ▸ hk7))
              clear k5 h5c CT1 HSX HLX HS4 HL4 ck
              go_wp2_with fail
              refine (CM.out _ _ _ _ HS5.out.h5 HS5.out.hK).mono ?_
              rintro e W6 ⟨g6, c6, rfl, _, hb6⟩
              have HS6 := hide (HS5.out.below hb6)
              have HL6 := hide (HL5.out.trans (hb6.mono HL5.out.size))
              rw [← HN3.out]
              clear hb6 HS5 HL5
              go_wp2_with fail
              refine (CT2.out _ _ _ HS6.out.h5 HS6.out.hK).mono ?_
              rintro e W7 ⟨rfl, m7, v7, k7, _, _, h7c⟩
              have HS7 := hide (HS6.out.ticked h7c k7)
              have HL7 := hide (HL6.out.trans (h7c.below HL6.out.size fun x e => e ▸ hk7))
              clear k7 h7c CT2 HS6 HL6
              go_wp2_with fail
              refine (CM.out _ _ _ _ HS7.out.h5 HS7.out.hK).mono ?_
              rintro e W8 ⟨g8, c8, rfl, _, hb8⟩
              have HL8 := hide (HL7.out.trans (hb8.mono HL7.out.size))
              clear hb8 HS7 HL7 CM
              go_wp2
              go_ret
              exact ⟨rfl, HL8.out⟩
        · have hji : ¬ (j : Int) < n0 := by omega
          obtain ⟨sv, K, hS, hK, hwi, hsv⟩ := hI.out.sw
          have hp4 := pickV_range at_ (n := 4) (by omega)
          have hk20 := pickV_range to (n := 20) (by omega)
          have HI := hide hI.out
          have HX := hide (And.intro hS (And.intro hK (And.intro hwi hsv)))
          clear hI hS hK hwi hsv
          go_wp2_with fail
          refine (CPk.out at_ 4 _ HA.out.1 HA.out.2 (by omega) (by omega)).mono ?_
          rintro e W1 ⟨rfl, hww⟩
          rw [hww]
          clear hww W1
          generalize pickV at_ 4 = pp at *
          obtain ⟨p, rfl⟩ : ∃ p : Nat, pp = p := ⟨pp.toNat, by omega⟩
          have hp : p < 4 := by omega
          go_wp2_with fail
          refine (CPk.out to 20 _ HT.out.1 HT.out.2 (by omega) (by omega)).mono ?_
          rintro e W1 ⟨rfl, hww⟩
          rw [hww]
          clear hww W1
          generalize pickV to 20 = kk at *
          obtain ⟨kn, rfl⟩ : ∃ kn : Nat, kk = kn := ⟨kk.toNat, by omega⟩
          have hkn : kn < 20 := by omega
          have hki : (kn : Int) < 20 := by omega
          go_wp2_with fail
          refine (CK.out kn _ (by omega) (by omega)).mono ?_
          rintro e W2 ⟨rfl, hb1⟩
          go_wp2_with fail
          refine (CK.out 700 _ (by omega) (by omega)).mono ?_
          rintro e W3 ⟨rfl, hb2⟩
          have hb12 : Below wr.heap.size wr W3 := hb1.trans (hb2.mono hb1.size)
          have hz1 : (ofL (macL 700)).size = 6 := by rw [ofL_size, macL_length]
          have hz2 : (ofL (macL kn)).size = 6 := by rw [ofL_size, macL_length]
          have CF := hide (frame_hi s k m pv sv K c p kn W3 (HX.out.1.below hb12) (by have := HX.out.2.1; omega) hp hkn HX.out.2.2.1)
          have HB12 := hide hb12
          clear hb1 hb2 hb12 CK CPk
          go_wp2_with fail
          refine CF.out.mono ?_
          rintro e W4 ⟨r, L, K', ov, sv', rfl, ⟨hR, hK', hage⟩, f1, f2, f3, f4, f5⟩
          generalize (ofL (macL kn) ++ ofL (macL 700) ++ ⟨#[18, 52, 104, 105]⟩) = dat at *
          have hS4 : SwP W4 s pv P4 k m sv' K' := by
            obtain ⟨b0, b1, b2, b3⟩ := (HX.out.1.below HB12.out).kept f5
            exact ⟨b0, b1, b2, f2, b3⟩
          have hlo4 : Below w.heap.size w W4 := by
            have hx : Below w.heap.size W3 W4 := f5.below (by have := HI.out.lo.size; have := HB12.out.size; omega) (by
              rintro x (rfl | e)
              · exact HI.out.hm
              · have := HX.out.2.2.2 x e; have := HI.out.hw; omega)
            exact (HI.out.lo.trans (HB12.out.mono HI.out.lo.size)).trans hx
          have har : W4.heap[W0.heap.size]? = some (.cells (arr20 c) 25 (0, 0)) := (f5.block _ (by have := lt_of_heap HI.out.ar; have := HB12.out.size; omega) (by
            rintro (e | e)
            · have := HI.out.hmw; omega
            · have := HX.out.2.2.2 _ e; omega)).trans ((HB12.out.block _ (lt_of_heap HI.out.ar)).trans HI.out.ar)
          have ck : W4.cell? ⟨W0.heap.size, kn, none⟩ = some (.int .i64 (c kn)) := cellRow har (arr20_get c hkn)
          have hrg := HX.out.2.2.1.rg kn hkn
          obtain ⟨t1, t2, t3⟩ := tickL_300 hage
          have CT1 := hide fun (W : World) (h5 : W.cell? ⟨s, 5, none⟩ = some (.pointer (some ⟨k, 0, none⟩))) (h : KnownAt W k m sv' K') => sTick_any s k m sv' K' 300 W h5 h (by omega) (by omega) fun e he => ⟨by rw [hage e he]; decide, by rw [hage e he]; decide⟩
          have CT2 := hide fun (W : World) (m' : Nat) (v : Value) (h5 : W.cell? ⟨s, 5, none⟩ = some (.pointer (some ⟨k, 0, none⟩))) (h : KnownAt W k m' v (tickL 300 K')) => sTick_any s k m' v (tickL 300 K') 1 W h5 h (by omega) (by omega) fun e he => ⟨by rw [t2 e he]; decide, by rw [t2 e he]; decide⟩
          rw [t3] at CT2
          have CM := hide fun (W : World) (m' : Nat) (v : Value) (Z : List Mc) (h5 : W.cell? ⟨s, 5, none⟩ = some (.pointer (some ⟨k, 0, none⟩))) (h : KnownAt W k m' v Z) => sMacs_any s k m' v Z W h5 h
          have hne : s ≠ k := hS4.ne_k
          have hkpos : (0 : Int) < (tickL 300 K').length := by omega
          obtain ⟨n3, hn3⟩ : ∃ n3, n3 = (tickL 300 K').length := ⟨_, rfl⟩
          rw [← hn3] at hkpos
          have HN3 := hide hn3
          have HS4 := hide hS4
          have HL4 := hide hlo4
          have HF1 := hide f1
          have hk7 : w.heap.size ≤ k := hkw
          clear CF hS4 hlo4 har f2 f3 f4 f5 hage t1 t2 t3 hK' hn3 HI HX HB12 hz1 hz2
          rcases hR with ⟨e1, rfl, rfl⟩ | ⟨e1, e2, rfl, rfl⟩ | ⟨e1, e2, rfl⟩
          · obtain ⟨oa, ocap, rfl⟩ := slice_of HF1.out
            rw [e1] at ck
            clear e1
            go_wp2_with fail
            have HSX : Hid (SwP _ s pv P4 k m sv' K') := hide (HS4.out.below (Below.refl _ _))
            have HLX : Hid (Below w.heap.size w _) := hide (HL4.out.trans ((Below.refl _ _).mono HL4.out.size))
            refine (CT1.out _ HSX.out.h5 HSX.out.hK).mono ?_
            rintro e W5 ⟨rfl, m5, v5, k5, _, _, h5c⟩
            have HS5 := hide (HSX.out.ticked h5c k5)
            have HL5 := hide (HLX.out.trans (h5c.below HLX.out.size fun x e => e ▸ hk7))
            clear k5 h5c CT1 HSX HLX HS4 HL4 ck
            go_wp2_with fail
            refine (CM.out _ _ _ _ HS5.out.h5 HS5.out.hK).mono ?_
            rintro e W6 ⟨g6, c6, rfl, _, hb6⟩
            have HS6 := hide (HS5.out.below hb6)
            have HL6 := hide (HL5.out.trans (hb6.mono HL5.out.size))
            rw [← HN3.out]
            clear hb6 HS5 HL5
            go_wp2_with fail
            refine (CT2.out _ _ _ HS6.out.h5 HS6.out.hK).mono ?_
            rintro e W7 ⟨rfl, m7, v7, k7, _, _, h7c⟩
            have HS7 := hide (HS6.out.ticked h7c k7)
            have HL7 := hide (HL6.out.trans (h7c.below HL6.out.size fun x e => e ▸ hk7))
            clear k7 h7c CT2 HS6 HL6
            go_wp2_with fail
            refine (CM.out _ _ _ _ HS7.out.h5 HS7.out.hK).mono ?_
            rintro e W8 ⟨g8, c8, rfl, _, hb8⟩
            have HL8 := hide (HL7.out.trans (hb8.mono HL7.out.size))
            clear hb8 HS7 HL7 CM
            go_wp2
            go_ret
            exact ⟨rfl, HL8.out⟩
          · obtain ⟨oa, ocap, og, rfl, hoc⟩ := outs_cells HF1.out
            obtain ⟨rfl, ob, c4, c5⟩ := hoc 0 (by simp)
            have c4' : W4.cell? ⟨og, 0, none⟩ = some (.int .i64 (c kn)) := c4
            have c5' : W4.cell? ⟨og, 1, none⟩ = some (.string dat) := c5
            have d1 : (c kn == (p : Int)) = false := by simpa using e1
            clear hoc ob c4 c5 HF1 e1
            generalize c kn = ck0 at *
            go_wp2_with fail
            go_quiet (fail)
            go_wp2_with fail
            have HSX : Hid (SwP _ s pv P4 k m sv' K') := hide (HS4.out.below (below_drewN (Below.refl _ _) nq))
            have HLX : Hid (Below w.heap.size w _) := hide (HL4.out.trans ((below_drewN (Below.refl _ _) nq).mono HL4.out.size))
            refine (CT1.out _ HSX.out.h5 HSX.out.hK).mono ?_
            rintro e W5 ⟨rfl, m5, v5, k5, _, _, h5c⟩
            have HS5 := hide (HSX.out.ticked h5c k5)
            have HL5 := hide (HLX.out.trans (h5c.below HLX.out.size fun x e => e ▸ hk7))
            clear k5 h5c CT1 HSX HLX HS4 HL4 ck
            go_wp2_with fail
            refine (CM.out _ _ _ _ HS5.out.h5 HS5.out.hK).mono ?_
            rintro e W6 ⟨g6, c6, rfl, _, hb6⟩
            have HS6 := hide (HS5.out.below hb6)
            have HL6 := hide (HL5.out.trans (hb6.mono HL5.out.size))
            rw [← HN3.out]
            clear hb6 HS5 HL5
            go_wp2_with fail
            refine (CT2.out _ _ _ HS6.out.h5 HS6.out.hK).mono ?_
            rintro e W7 ⟨rfl, m7, v7, k7, _, _, h7c⟩
            have HS7 := hide (HS6.out.ticked h7c k7)
            have HL7 := hide (HL6.out.trans (h7c.below HL6.out.size fun x e => e ▸ hk7))
            clear k7 h7c CT2 HS6 HL6
            go_wp2_with fail
            refine (CM.out _ _ _ _ HS7.out.h5 HS7.out.hK).mono ?_
            rintro e W8 ⟨g8, c8, rfl, _, hb8⟩
            have HL8 := hide (HL7.out.trans (hb8.mono HL7.out.size))
            clear hb8 HS7 HL7 CM
            go_wp2
            go_ret
            exact ⟨rfl, HL8.out⟩
          · obtain ⟨oa, ocap, rfl⟩ := slice_of HF1.out
            rw [e2] at HF1
            rw [e1] at ck
            clear e1
            generalize L.length = nL at *
            subst e2
            go_wp2_with fail
            have HSX : Hid (SwP _ s pv P4 k m sv' K') := hide (HS4.out.below (Below.refl _ _))
            have HLX : Hid (Below w.heap.size w _) := hide (HL4.out.trans ((Below.refl _ _).mono HL4.out.size))
            refine (CT1.out _ HSX.out.h5 HSX.out.hK).mono ?_
            rintro e W5 ⟨rfl, m5, v5, k5, _, _, h5c⟩
            have HS5 := hide (HSX.out.ticked h5c k5)
            have HL5 := hide (HLX.out.trans (h5c.below HLX.out.size fun x e => e ▸ hk7))
            clear k5 h5c CT1 HSX HLX HS4 HL4 ck
            go_wp2_with fail
            refine (CM.out _ _ _ _ HS5.out.h5 HS5.out.hK).mono ?_
            rintro e W6 ⟨g6, c6, rfl, _, hb6⟩
            have HS6 := hide (HS5.out.below hb6)
            have HL6 := hide (HL5.out.trans (hb6.mono HL5.out.size))
            rw [← HN3.out]
            clear hb6 HS5 HL5
            go_wp2_with fail
            refine (CT2.out _ _ _ HS6.out.h5 HS6.out.hK).mono ?_
            rintro e W7 ⟨rfl, m7, v7, k7, _, _, h7c⟩
            have HS7 := hide (HS6.out.ticked h7c k7)
            have HL7 := hide (HL6.out.trans (h7c.below HL6.out.size fun x e => e ▸ hk7))
            clear k7 h7c CT2 HS6 HL6
            go_wp2_with fail
            refine (CM.out _ _ _ _ HS7.out.h5 HS7.out.hK).mono ?_
            rintro e W8 ⟨g8, c8, rfl, _, hb8⟩
            have HL8 := hide (HL7.out.trans (hb8.mono HL7.out.size))
            clear hb8 HS7 HL7 CM
            go_wp2
            go_ret
            exact ⟨rfl, HL8.out⟩
end Go.Proofs.YtaejpejfmpbinaaGreatDoor

namespace Go.Proofs.YtaejpejfmpbinaaGreatDoor
open Go.RowKit

/-- Four numbers in a row; sixteen truths. -/
def arr4 (c : Nat → Int) : Array Value := ((List.range 4).map fun i => Value.int .i64 (c i)).toArray
theorem arr4_get (c : Nat → Int) {j : Nat} (hj : j < 4) : (arr4 c)[j]? = some (.int .i64 (c j)) := by
  simp [arr4, hj]
theorem arr4_set (c : Nat → Int) (j : Nat) (v : Int) : (arr4 c).setIfInBounds j (.int .i64 v) = arr4 fun i => if i = j then v else c i := by
  apply Array.ext
  · simp [arr4]
  · intro i h1 h2
    have hi : i < 4 := by simpa [arr4] using h2
    rw [Array.getElem_setIfInBounds (by simpa [arr4] using hi)]
    simp only [arr4, List.getElem_toArray, List.getElem_map, List.getElem_range]
    by_cases e : j = i
    · subst e; simp
    · simp [e, Ne.symm e]
def arr16 (c : Nat → Nat → Bool) : Array Value := ((List.range 16).map fun i => Value.bool (c (i / 4) (i % 4))).toArray
theorem arr16_get (c : Nat → Nat → Bool) {i v : Nat} (hi : i < 4) (hv : v < 4) : (arr16 c)[i * 4 + v]? = some (.bool (c i v)) := by
  have h1 : i * 4 + v < 16 := by omega
  have h2 : (i * 4 + v) / 4 = i := by omega
  have h3 : (i * 4 + v) % 4 = v := by omega
  simp [arr16, h1, h2, h3]
theorem arr16_set (c : Nat → Nat → Bool) {i v : Nat} (hv : v < 4) (b : Bool) : (arr16 c).setIfInBounds (i * 4 + v) (.bool b) = arr16 fun x y => if x = i ∧ y = v then b else c x y := by
  apply Array.ext
  · simp [arr16]
  · intro j h1 h2
    have hj : j < 16 := by simpa [arr16] using h2
    rw [Array.getElem_setIfInBounds (by simpa [arr16] using hj)]
    simp only [arr16, List.getElem_toArray, List.getElem_map, List.getElem_range]
    by_cases e : i * 4 + v = j
    · rw [if_pos e, if_pos (by omega)]
    · rw [if_neg e, if_neg (by omega)]

theorem PortsO.head {w : World} {pv : Value} {P : List Prt} {Q : List (Int × Value)} (h : PortsO w pv P Q) (hp : 0 < P.length) {b : Nat} (hb : pv.ownBlock = some b) : (∃ x, w.cell? ⟨b, 0, none⟩ = some (.int .i64 x)) ∧ ∃ mo, w.cell? ⟨b, 1, none⟩ = some (.map mo) := by
  obtain ⟨a, cap, b', e, hc⟩ := h.at
  obtain ⟨rfl, c0, mv, c1, ht⟩ := hc 0 hp
  rw [e] at hb
  obtain rfl : b' = b := by simpa [Value.ownBlock] using hb
  rw [Nat.zero_mul] at c0 c1
  refine ⟨⟨_, c0⟩, ?_⟩
  rcases ht with ⟨rfl, _⟩ | ⟨_, _, _, rfl, _⟩
  · exact ⟨_, c1⟩
  · exact ⟨_, c1⟩

/-- A port has been set. -/
theorem SwP.ported {w W : World} {s k m : Nat} {pv sv : Value} {P P' : List Prt} {Q Q' : List (Int × Value)} {K : List Mc} (h : SwP w s pv P k m sv K) (hP : PortsO w pv P Q) (hp : 0 < P.length) (hc : Chg (fun b => pv.ownBlock = some b) w W) (hP' : PortsO W pv P' Q') : SwP W s pv P' k m sv K := by
  have ne : ∀ b i v, w.cell? ⟨b, i, none⟩ = some v → (i = 0 ∧ ∀ x, v ≠ .int .i64 x) ∨ (i = 1 ∧ ∀ x, v ≠ .map x) → pv.ownBlock ≠ some b := by
    rintro b i v hv (⟨rfl, h'⟩ | ⟨rfl, h'⟩) hb
    · obtain ⟨x, c0⟩ := (hP.head hp hb).1
      rw [c0] at hv; cases hv; exact h' _ rfl
    · obtain ⟨x, c1⟩ := (hP.head hp hb).2
      rw [c1] at hv; cases hv; exact h' _ rfl
  have nS : pv.ownBlock ≠ some s := by
    obtain ⟨a, cap, b, e, _⟩ := h.hp
    exact ne s 0 _ h.h0 (.inl ⟨rfl, fun x => by rw [e]; simp⟩)
  have n1 := ne 1 0 _ h.hm.1 (.inl ⟨rfl, by simp⟩)
  refine ⟨hc.block.cell nS h.h0, hP'.at, hc.block.cell nS h.h5, h.hK.keep fun b hb hx => hc.block b hb ?_, hc.block.cell n1 h.hm.1, hc.block.cell n1 h.hm.2.1, hc.block.cell n1 h.hm.2.2.1, hc.block.cell n1 h.hm.2.2.2⟩
  rcases hx with rfl | rfl | hx
  · exact ne b 0 _ h.hK.1 (.inl ⟨rfl, by simp⟩)
  · exact ne b 0 _ h.hK.2.2.1.1.1 (.inl ⟨rfl, by simp⟩)
  · obtain ⟨v, hv⟩ := h.hK.2.2.1.head1 hx
    exact ne b 1 _ hv (.inr ⟨rfl, by simp⟩)

theorem HallAt.ports {w w' : World} {s : Nat} (h : HallAt w s w') : Below w.heap.size w w' ∧ ∃ k m pv Q, SwP w' s pv P4 k m (.slice none 0 0) [] ∧ PortsO w' pv P4 Q ∧ w.heap.size ≤ m ∧ w.heap.size ≤ k ∧ w.heap.size ≤ s ∧ ∀ b, pv.ownBlock = some b → w.heap.size ≤ b := by
  have hl := h.low.1
  obtain ⟨fb, rb, hb, t, vb, k, m0, F, Wb, W1, pv, Q, m, rfl, hI, hP, hQ, hC, hpb, hch, hS, hm⟩ := h
  have h1 := hI.n.lo
  have h2 := hI.lo
  have s1 := h1.size
  have s2 := h2.size
  have hk : k < Wb.heap.size := block_lt_of_cell hI.n.nk.1
  have hm0 : m0 < Wb.heap.size := block_lt_of_cell hI.n.nk.2.2.1.1.1
  refine ⟨hl, k, m, pv, Q, hS, ⟨hP.len, ownsRow_blk hP.own fun b hb' => hch.block b (ownsRow_lt hP.own hb').2 ?_, fun j hj => ⟨(hP.each j hj).1, ?_⟩⟩, by omega, hI.n.lk, s1, fun b hb' => by have := hpb b hb'; omega⟩
  · have := hpb b hb'
    rintro (e | e) <;> omega
  · have hq := hQ _ (List.getElem_mem (show j < Q.length by rw [hP.len]; exact hj))
    have ht := (hP.each j hj).2
    rw [hq] at ht ⊢
    rcases ht with h' | ⟨_, _, _, e, _⟩
    · exact .inl h'
    · cases e

section
variable (n0 n1 : Nat) (xs ys : Nat → Int)
/-- What stands while the ports are set: i of them are, and of the next one the tags below v are told. -/
structure ApI (w : World) (s k m nb tb : Nat) (pv : Value) (i v : Nat) (nat : Int) (wr : World) : Prop where
  sw : SwP wr s pv (portsTo n0 n1 xs ys i) k m (.slice none 0 0) []
  po : ∃ Q, PortsO wr pv (portsTo n0 n1 xs ys i) Q
  na : wr.heap[nb]? = some (.cells (arr4 fun j => if j < i then natV n0 xs j else if j = i then nat else 0) 38 (0, 0))
  ta : wr.heap[tb]? = some (.cells (arr16 fun j x => if j < i ∨ (j = i ∧ x < v) then tagV n0 n1 xs ys j x else false) 40 (0, 0))
  lo : Below w.heap.size w wr
  hm : w.heap.size ≤ m
  hk : w.heap.size ≤ k
  hn : w.heap.size ≤ nb
  ht : w.heap.size ≤ tb
  hp : ∀ b, pv.ownBlock = some b → w.heap.size ≤ b
end

section
variable {n0 n1 : Nat} {xs ys : Nat → Int} {w : World} {s k m nb tb : Nat} {pv : Value} {i v : Nat} {nat : Int} {wr : World}
theorem ApI.below {W : World} (h : ApI n0 n1 xs ys w s k m nb tb pv i v nat wr) (hb : Below wr.heap.size wr W) : ApI n0 n1 xs ys w s k m nb tb pv i v nat W := by
  obtain ⟨Q, hQ⟩ := h.po
  exact ⟨h.sw.below hb, ⟨Q, hQ.below hb⟩, (hb.block _ (lt_of_heap h.na)).trans h.na, (hb.block _ (lt_of_heap h.ta)).trans h.ta, h.lo.trans (hb.mono h.lo.size), h.hm, h.hk, h.hn, h.ht, h.hp⟩
end
end Go.Proofs.YtaejpejfmpbinaaGreatDoor

namespace Go.Proofs.YtaejpejfmpbinaaGreatDoor
open Go.RowKit Go.Maps

/-- A switch with faces and routes, without rules: all that may change of it lies at B or above. -/
structure HSw (B : Nat) (w : World) (s k m : Nat) (pv sv : Value) (P : List Prt) (K : List Mc) (fm : Nat) (fsv : Value) (Fs : List Fc) (t vb : Nat) (F : Nat → Prop) (rb hb : Nat) (hsv : Value) (R : List Rt) : Prop where
  p : SwP w s pv P k m sv K
  r : SwR w s fm t vb fsv Fs F [] noV
  h : SwH w s rb hb hsv R
  n : 0 < P.length
  lm : ∀ b, KX m sv b → B ≤ b
  lf : ∀ b, (b = fm ∨ fsv.ownBlock = some b) → B ≤ b
  lh : ∀ b, (b = hb ∨ hsv.ownBlock = some b) → B ≤ b
  lp : ∀ b, pv.ownBlock = some b → B ≤ b

section
variable {B : Nat} {w W : World} {s k m fm t vb rb hb : Nat} {pv sv fsv hsv : Value} {P : List Prt} {K : List Mc} {Fs : List Fc} {F : Nat → Prop} {R : List Rt}

theorem HSw.below (h : HSw B w s k m pv sv P K fm fsv Fs t vb F rb hb hsv R) (hb' : Below w.heap.size w W) : HSw B W s k m pv sv P K fm fsv Fs t vb F rb hb hsv R :=
  ⟨h.p.below hb', h.r.kept h.p (Chg.of_below hb'), h.h.keep (X := fun _ => False) (Chg.of_below hb') id id id (fun _ _ => id), h.n, h.lm, h.lf, h.lh, h.lp⟩

/-- The kinds of blocks by their first cells. -/
theorem HSw.s0 (h : HSw B w s k m pv sv P K fm fsv Fs t vb F rb hb hsv R) : ∃ a n c, w.cell? ⟨s, 0, none⟩ = some (.slice a n c) := h.p.slice0
theorem HSw.f0 (h : HSw B w s k m pv sv P K fm fsv Fs t vb F rb hb hsv R) {b : Nat} (hb' : b = fm ∨ fsv.ownBlock = some b) : (b = fm ∧ w.cell? ⟨b, 0, none⟩ = some (.func (.func 44) #[] #[]) ∧ w.cell? ⟨b, 1, none⟩ = some fsv) ∨ (∃ n v cs, w.cell? ⟨b, 0, none⟩ = some (.int .i64 n) ∧ w.cell? ⟨b, 1, none⟩ = some (.string v) ∧ w.heap[b]? = some (.cells cs 191 (0, 0))) := by
  rcases hb' with rfl | hb'
  · exact .inl ⟨rfl, h.r.hF.1, h.r.hF.2.1⟩
  · obtain ⟨n, v, c0, c1⟩ := h.r.hH b hb'
    obtain ⟨cs, hcs⟩ := row_type h.r.hF.2.2.1 hb'
    exact .inr ⟨n, v, cs, c0, c1, hcs⟩
theorem HSw.h0 (h : HSw B w s k m pv sv P K fm fsv Fs t vb F rb hb hsv R) {b : Nat} (hb' : b = hb ∨ hsv.ownBlock = some b) : (b = hb ∧ w.cell? ⟨b, 0, none⟩ = some (.func (.func 91) #[] #[]) ∧ w.cell? ⟨b, 1, none⟩ = some hsv) ∨ (∃ x y z v cs, w.cell? ⟨b, 0, none⟩ = some (.int .i64 x) ∧ w.cell? ⟨b, 1, none⟩ = some (.int .i64 y) ∧ w.cell? ⟨b, 2, none⟩ = some (.int .i64 z) ∧ w.cell? ⟨b, 3, none⟩ = some (.string v) ∧ w.heap[b]? = some (.cells cs 249 (0, 0))) := by
  rcases hb' with rfl | hb'
  · exact .inl ⟨rfl, h.h.hM.1.1, h.h.hM.1.2.1⟩
  · obtain ⟨x, y, z, v, c0, c1, c2, c3⟩ := h.h.hM.first hb'
    obtain ⟨cs, hcs⟩ := row_type h.h.hM.1.2.2.1 hb'
    exact .inr ⟨x, y, z, v, cs, c0, c1, c2, c3, hcs⟩
theorem HSw.fsl (h : HSw B w s k m pv sv P K fm fsv Fs t vb F rb hb hsv R) : ∃ a n c, fsv = .slice a n c := by
  obtain ⟨a, cap, g, e, _⟩ := rowFc_cells h.r.hF.2.2.1
  exact ⟨_, _, _, e⟩
theorem HSw.hsl (h : HSw B w s k m pv sv P K fm fsv Fs t vb F rb hb hsv R) : ∃ a n c, hsv = .slice a n c := by
  obtain ⟨a, cap, g, e, _⟩ := rowH_cells h.h.hM.1.2.2.1
  exact ⟨_, _, _, e⟩
theorem entCells {x : Nat} {r : Rl} (he : EntAt w x r) : (∃ n, w.cell? ⟨x, 0, none⟩ = some (.int .i64 n)) ∧ (∃ n, w.cell? ⟨x, 1, none⟩ = some (.int .i64 n)) ∧ ∃ n, w.cell? ⟨x, 3, none⟩ = some (.int .i64 n) := ⟨⟨_, he.c0⟩, ⟨_, he.c1⟩, ⟨_, he.c3⟩⟩

/-- What a Face may change lies beside all else. -/
theorem HSw.fbeside (h : HSw B w s k m pv sv P K fm fsv Fs t vb F rb hb hsv R) : ∀ b, (b = fm ∨ fsv.ownBlock = some b) → b ≠ s ∧ b ≠ k ∧ ¬ KX m sv b ∧ b ≠ 1 ∧ pv.ownBlock ≠ some b ∧ (∀ o, w.heap[b]? = some o → o.isCells = true) ∧ b ≠ rb ∧ ¬ (b = hb ∨ hsv.ownBlock = some b) ∧ b ≠ vb ∧ ¬ F b ∧ Away w b := by
  intro b hbf
  obtain ⟨a, n, c, es⟩ := h.s0
  obtain ⟨fa, fn, fc, efs⟩ := h.fsl
  have hk0 := h.p.hK.1
  have h1 := h.p.hm.1
  have hr0 := h.h.h0
  obtain ⟨ov, hov, hovc⟩ := h.r.hV.obj
  have hla := h.r.hT.laid
  have hF : ¬ F b := by
    rcases hbf with rfl | hbf
    · exact h.r.hD.1
    · exact h.r.hD.2 b hbf
  have hkx : ¬ KX m sv b := fun hx => by
    rcases h.f0 hbf with ⟨_, c0, _⟩ | ⟨x, v, cs, c0, c1, ht⟩ <;> rcases h.p.known0 hx with ⟨d0, _⟩ | ⟨⟨y, d0⟩, cs', ht'⟩
    · rw [c0] at d0; cases d0
    · rw [c0] at d0; cases d0
    · rw [c0] at d0; cases d0
    · rw [ht] at ht'; cases ht'
  have hpv : pv.ownBlock ≠ some b := fun hx => by
    obtain ⟨y, z, d0, d1⟩ := h.p.port0 h.n hx
    rcases h.f0 hbf with ⟨_, c0, _⟩ | ⟨x, v, cs, c0, c1, ht⟩
    · rw [c0] at d0; cases d0
    · rw [c1] at d1; cases d1
  have hhb : ¬ (b = hb ∨ hsv.ownBlock = some b) := fun hx => by
    rcases h.f0 hbf with ⟨_, c0, _⟩ | ⟨x, v, cs, c0, c1, ht⟩ <;> rcases h.h0 hx with ⟨_, d0, _⟩ | ⟨y, y', z, v', cs', d0, d1, _, _, ht'⟩
    · rw [c0] at d0; cases d0
    · rw [c0] at d0; cases d0
    · rw [c0] at d0; cases d0
    · rw [c1] at d1; cases d1
  rcases h.f0 hbf with ⟨_, c0, c1⟩ | ⟨x, v, cs, c0, c1, ht⟩
  · refine ⟨ne_of c0 es (by simp), ne_of c0 hk0 (by simp), hkx, ne_of c0 h1 (by simp), hpv, fun o ho => ?_, ne_of c0 hr0 (by simp), hhb, ?_, hF, ?_⟩
    · cases o with
      | cells _ _ _ => rfl
      | _ => rw [noCell ho rfl] at c0; cases c0
    · rintro rfl
      rw [noCell hov hovc] at c0; cases c0
    · refine ⟨?_, fun r he => ?_, fun a n c hc => ?_, fun f l bl hc _ => ?_, fun e r hc => ?_⟩
      · rintro rfl
        have := hla.1; rw [c0] at this; cases this
      · have := he.c0; rw [c0] at this; cases this
      · rw [c0] at hc; cases hc
      · rw [c1, efs] at hc; cases hc
      · rw [c0] at hc; cases hc
  · refine ⟨ne_of c0 es (by simp), ne_of c0 hk0 (by simp), hkx, ne_of c0 h1 (by simp), hpv, fun o ho => ?_, ne_of c0 hr0 (by simp), hhb, ?_, hF, ?_⟩
    · cases o with
      | cells _ _ _ => rfl
      | _ => rw [noCell ho rfl] at c0; cases c0
    · rintro rfl
      rw [noCell hov hovc] at c0; cases c0
    · refine ⟨?_, fun r he => ?_, fun a n c hc => ?_, fun f l bl hc _ => ?_, fun e r hc => ?_⟩
      · rintro rfl
        have := hla.2.1; rw [c1] at this; cases this
      · have := he.c1; rw [c1] at this; cases this
      · rw [c0] at hc; cases hc
      · rw [c1] at hc; cases hc
      · rw [c0] at hc; cases hc
/-- What a Route may change lies beside all else. -/
theorem HSw.hbeside (h : HSw B w s k m pv sv P K fm fsv Fs t vb F rb hb hsv R) : ∀ b, (b = hb ∨ hsv.ownBlock = some b) → b ≠ s ∧ b ≠ k ∧ ¬ KX m sv b ∧ b ≠ 1 ∧ pv.ownBlock ≠ some b ∧ (∀ o, w.heap[b]? = some o → o.isCells = true) ∧ b ≠ rb ∧ ¬ (b = fm ∨ fsv.ownBlock = some b) ∧ b ≠ vb ∧ ¬ F b ∧ Away w b := by
  intro b hbf
  obtain ⟨a, n, c, es⟩ := h.s0
  obtain ⟨fa, fn, fc, efs⟩ := h.hsl
  have hk0 := h.p.hK.1
  have h1 := h.p.hm.1
  have hr0 := h.h.h0
  obtain ⟨ov, hov, hovc⟩ := h.r.hV.obj
  have hla := h.r.hT.laid
  have hF : ¬ F b := fun hx => by
    obtain ⟨b1, b2, sv1, sv2, LI, T, _, _, rfl⟩ := h.r.hT
    rcases h.h0 hbf with ⟨_, c0, c1⟩ | ⟨x, y, z, v, cs, c0, c1, c2, c3, ht⟩ <;> rcases hx with rfl | (rfl | hx) | (rfl | hx)
    · rw [T.c0] at c0; cases c0
    · rw [T.mI.1] at c0; cases c0
    · obtain ⟨n, p, d0, _⟩ := T.hI _ hx
      rw [d0] at c0; cases c0
    · rw [T.mR.1] at c0; cases c0
    · obtain ⟨n, k, p, d0, _⟩ := T.hR _ hx
      rw [d0] at c0; cases c0
    · rw [T.c0] at c0; cases c0
    · rw [T.mI.1] at c0; cases c0
    · obtain ⟨n, p, d0, d1⟩ := T.hI _ hx
      rw [d1] at c1; cases c1
    · rw [T.mR.1] at c0; cases c0
    · obtain ⟨n, k, p, d0, d1, d2⟩ := T.hR _ hx
      rw [d2] at c2; cases c2
  have hkx : ¬ KX m sv b := fun hx => by
    rcases h.h0 hbf with ⟨_, c0, _⟩ | ⟨x, y, z, v, cs, c0, c1, c2, c3, ht⟩ <;> rcases h.p.known0 hx with ⟨d0, _⟩ | ⟨⟨y, d0⟩, cs', ht'⟩
    · rw [c0] at d0; cases d0
    · rw [c0] at d0; cases d0
    · rw [c0] at d0; cases d0
    · rw [ht] at ht'; cases ht'
  have hpv : pv.ownBlock ≠ some b := fun hx => by
    obtain ⟨y, z, d0, d1⟩ := h.p.port0 h.n hx
    rcases h.h0 hbf with ⟨_, c0, _⟩ | ⟨x, y, z, v, cs, c0, c1, c2, c3, ht⟩
    · rw [c0] at d0; cases d0
    · rw [c1] at d1; cases d1
  have hfb : ¬ (b = fm ∨ fsv.ownBlock = some b) := fun hx => (h.fbeside b hx).2.2.2.2.2.2.2.1 hbf
  rcases h.h0 hbf with ⟨_, c0, c1⟩ | ⟨x, y, z, v, cs, c0, c1, c2, c3, ht⟩
  · refine ⟨ne_of c0 es (by simp), ne_of c0 hk0 (by simp), hkx, ne_of c0 h1 (by simp), hpv, fun o ho => ?_, ne_of c0 hr0 (by simp), hfb, ?_, hF, ?_⟩
    · cases o with
      | cells _ _ _ => rfl
      | _ => rw [noCell ho rfl] at c0; cases c0
    · rintro rfl
      rw [noCell hov hovc] at c0; cases c0
    · refine ⟨?_, fun r he => ?_, fun a n c hc => ?_, fun f l bl hc _ => ?_, fun e r hc => ?_⟩
      · rintro rfl
        have := hla.1; rw [c0] at this; cases this
      · have := he.c0; rw [c0] at this; cases this
      · rw [c0] at hc; cases hc
      · rw [c1, efs] at hc; cases hc
      · rw [c0] at hc; cases hc
  · refine ⟨ne_of c0 es (by simp), ne_of c0 hk0 (by simp), hkx, ne_of c0 h1 (by simp), hpv, fun o ho => ?_, ne_of c0 hr0 (by simp), hfb, ?_, hF, ?_⟩
    · cases o with
      | cells _ _ _ => rfl
      | _ => rw [noCell ho rfl] at c0; cases c0
    · rintro rfl
      rw [noCell hov hovc] at c0; cases c0
    · refine ⟨?_, fun r he => ?_, fun a n c hc => ?_, fun f l bl _ _ hc => ?_, fun e r hc => ?_⟩
      · rintro rfl
        have := hla.2.2.2.1; rw [c3] at this; cases this
      · have := he.c3; rw [c3] at this; cases this
      · rw [c0] at hc; cases hc
      · rw [c3] at hc; cases hc
      · rw [c0] at hc; cases hc
/-- A Face has been set. -/
theorem HSw.faced (h : HSw B w s k m pv sv P K fm fsv Fs t vb F rb hb hsv R) (hB : B ≤ w.heap.size) {e0 : Fc} (hp : PutFq fm fsv Fs e0 w W) : ∃ fsv' Fs', HSw B W s k m pv sv P K fm fsv' Fs' t vb F rb hb hsv R ∧ (∀ x, x ∈ Fs' ↔ x = e0 ∨ x ∈ Fs) ∧ Fs'.length = Fs.length + 1 ∧ Below B w W := by
  obtain ⟨sv', L', hm', hs', hh', hmem, hlen, hown, hc⟩ := hp
  have hx := h.fbeside
  have ns : ¬ (s = fm ∨ fsv.ownBlock = some s) := fun e => (hx s e).1 rfl
  obtain ⟨o, ho, _⟩ := h.r.hV.obj
  refine ⟨sv', L', ⟨?_, ?_, ?_, h.n, h.lm, ?_, h.lh, h.lp⟩, hmem, hlen, hc.below hB h.lf⟩
  · exact h.p.keep hc ns (fun e => (hx k e).2.1 rfl) (fun b hb' e => (hx b e).2.2.1 hb') (fun e => (hx 1 e).2.2.2.1 rfl) (fun b hb' e => (hx b e).2.2.2.2.1 hb') (fun x o ho' hco e => by rw [(hx x e).2.2.2.2.2.1 o ho'] at hco; cases hco)
  · refine ⟨hc.block.cell ns h.r.h1, hm', hs', hh', hc.block.cell ns h.r.h3, h.r.hT.away hc (fun x e => (hx x e).2.2.2.2.2.2.2.2.2.2) (fun x hF e => (hx x e).2.2.2.2.2.2.2.2.2.1 hF), hc.block.cell ns h.r.h4, h.r.hV.same (hc.block vb (lt_of_heap ho) fun e => (hx vb e).2.2.2.2.2.2.2.2.1 rfl), h.r.hD.1, fun g hg hF => ?_⟩
    rcases hown g hg with e | e
    · exact h.r.hD.2 g e hF
    · obtain ⟨v, c0, _⟩ := h.r.hT.shape0 hF
      have : g < w.heap.size := block_lt_of_cell c0
      omega
  · exact h.h.keep hc ns (fun e => (hx rb e).2.2.2.2.2.2.1 rfl) (fun e => (hx hb e).2.2.2.2.2.2.2.1 (.inl rfl)) (fun g hg e => (hx g e).2.2.2.2.2.2.2.1 (.inr hg))
  · rintro b (rfl | e)
    · exact h.lf b (.inl rfl)
    · rcases hown b e with e' | e'
      · exact h.lf b (.inr e')
      · omega
/-- A Route has been set. -/
theorem HSw.routed (h : HSw B w s k m pv sv P K fm fsv Fs t vb F rb hb hsv R) (hB : B ≤ w.heap.size) {e0 : Rt} (hp : PutHq hb hsv R e0 w W) : ∃ hsv' R', HSw B W s k m pv sv P K fm fsv Fs t vb F rb hb hsv' R' ∧ (∀ q, q ∈ R' ↔ q = e0 ∨ (q ∈ R ∧ cmpRt q e0.bits e0.len ≠ 0)) ∧ R'.length ≤ R.length + 1 ∧ Below B w W := by
  obtain ⟨sv', K', hm', hs', hmem, hlen, hown, hc⟩ := hp
  have hx := h.hbeside
  have ns : ¬ (s = hb ∨ hsv.ownBlock = some s) := fun e => (hx s e).1 rfl
  refine ⟨sv', K', ⟨?_, ?_, ?_, h.n, h.lm, h.lf, ?_, h.lp⟩, hmem, by rw [hlen]; split <;> omega, hc.below hB h.lh⟩
  · exact h.p.keep hc ns (fun e => (hx k e).2.1 rfl) (fun b hb' e => (hx b e).2.2.1 hb') (fun e => (hx 1 e).2.2.2.1 rfl) (fun b hb' e => (hx b e).2.2.2.2.1 hb') (fun x o ho' hco e => by rw [(hx x e).2.2.2.2.2.1 o ho'] at hco; cases hco)
  · exact h.r.keep hc ns (fun e => (hx fm e).2.2.2.2.2.2.2.1 (.inl rfl)) (fun g hg e => (hx g e).2.2.2.2.2.2.2.1 (.inr hg)) (fun x e => (hx x e).2.2.2.2.2.2.2.2.2.2) (fun x hF e => (hx x e).2.2.2.2.2.2.2.2.2.1 hF) (fun e => (hx vb e).2.2.2.2.2.2.2.2.1 rfl)
  · exact ⟨hc.block.cell ns h.h.h2, hc.block.cell (fun e => (hx rb e).2.2.2.2.2.2.1 rfl) h.h.h0, hm', hs'⟩
  · rintro b (rfl | e)
    · exact h.lh b (.inl rfl)
    · rcases hown b e with e' | e'
      · exact h.lh b (.inr e')
      · omega
/-- The routes while frames are learned from. -/
theorem HSw.hkept (h : HSw B w s k m pv sv P K fm fsv Fs t vb F rb hb hsv R) (hc : Chg (KX m sv) w W) : SwH W s rb hb hsv R := by
  refine h.h.keep hc h.p.not_s (fun e => ?_) (fun e => (h.hbeside hb (.inl rfl)).2.2.1 e) (fun g hg e => (h.hbeside g (.inr hg)).2.2.1 e)
  have hr0 := h.h.h0
  rcases h.p.known0 e with ⟨d0, _⟩ | ⟨⟨y, d0⟩, _⟩
  · rw [hr0] at d0; cases d0
  · rw [hr0] at d0; cases d0
end
end Go.Proofs.YtaejpejfmpbinaaGreatDoor
