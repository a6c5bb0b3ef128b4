import Derived.Test.YtaejpejfmpbinaaGreatDoorP17
namespace Go.Proofs.YtaejpejfmpbinaaGreatDoor
open Go.RowKit
open Go.Sort (grow)

theorem MapQ.head1 {w : World} {m : Nat} {sv : Value} {K : List Mc} (h : MapQ w m sv K) {g : Nat} (hg : sv.ownBlock = some g) : ∃ v, w.cell? ⟨g, 1, none⟩ = some (.string v) := by
  have h0 : 0 < K.length := by
    rcases Nat.eq_zero_or_pos K.length with e | e
    · rw [h.2 (List.eq_nil_of_length_eq_zero e)] at hg
      cases hg
    · exact e
  obtain ⟨a, cap, g', rfl, hc⟩ := rowP_cells h.1.2.2.1
  obtain ⟨rfl, _, c1, _⟩ := hc 0 h0
  obtain rfl : g' = g := by simpa [Value.ownBlock] using hg
  rw [Nat.zero_mul] at c1
  exact ⟨_, c1⟩

theorem KnownAt.keep {w w' : World} {k m : Nat} {sv : Value} {K : List Mc} (h : KnownAt w k m sv K) (hk : ∀ b, b < w.heap.size → (b = k ∨ b = m ∨ sv.ownBlock = some b) → w'.heap[b]? = w.heap[b]?) : KnownAt w' k m sv K := by
  obtain ⟨h1, h2, ⟨⟨c0, c1, c2, c3, c4⟩, h4⟩, h5⟩ := h
  have bk := hk k (block_lt_of_cell h1) (.inl rfl)
  have bm := hk m (block_lt_of_cell c0) (.inr (.inl rfl))
  refine ⟨(World.cell?_of_block (a := ⟨k, 0, none⟩) bk).trans h1, fun j => (World.frozen?_of_block (a := ⟨k, j, none⟩) bk).trans (h2 j), ⟨⟨(World.cell?_of_block (a := ⟨m, 0, none⟩) bm).trans c0, (World.cell?_of_block (a := ⟨m, 1, none⟩) bm).trans c1, ?_, fun j => (World.frozen?_of_block (a := ⟨m, j, none⟩) bm).trans (c3 j), c4⟩, h4⟩, h5⟩
  exact ownsRow_blk c2 fun b hb => hk b (ownsRow_lt c2 hb).2 (.inr (.inr hb))

/-- The blocks that a call on what is known may turn. -/
def KX (m : Nat) (sv : Value) : Nat → Prop := fun b => b = m ∨ sv.ownBlock = some b

/-- The ports of a switch and what it knows, in memory. -/
structure SwP (w : World) (s : Nat) (pv : Value) (P : List Prt) (k m : Nat) (sv : Value) (K : List Mc) : Prop where
  h0 : w.cell? ⟨s, 0, none⟩ = some pv
  hp : PortsAt w pv P
  h5 : w.cell? ⟨s, 5, none⟩ = some (.pointer (some ⟨k, 0, none⟩))
  hK : KnownAt w k m sv K
  hm : Means w

theorem SwP.not_s {w : World} {s k m : Nat} {pv sv : Value} {P : List Prt} {K : List Mc} (h : SwP w s pv P k m sv K) : ¬ KX m sv s := by
  obtain ⟨a, cap, b, e, hc⟩ := h.hp
  rintro (e1 | e1)
  · subst e1
    have := h.h0
    rw [h.hK.2.2.1.1.1, e] at this
    cases this
  · obtain ⟨v, hv⟩ := (h.hK.2.2.1.head e1).1
    have := h.h0
    rw [hv, e] at this
    cases this

theorem SwP.kept {w W : World} {s k m : Nat} {pv sv : Value} {P : List Prt} {K : List Mc} (h : SwP w s pv P k m sv K) (hc : Chg (KX m sv) w W) :
    W.cell? ⟨s, 0, none⟩ = some pv ∧ PortsAt W pv P ∧ W.cell? ⟨s, 5, none⟩ = some (.pointer (some ⟨k, 0, none⟩)) ∧ Means W := by
  have hns := h.not_s
  have hm1 : ¬ KX m sv 1 := by
    rintro (e1 | e1)
    · subst e1
      have := h.hm.1
      rw [h.hK.2.2.1.1.1] at this
      cases this
    · obtain ⟨v, hv⟩ := (h.hK.2.2.1.head e1).1
      have := h.hm.1
      rw [hv] at this
      cases this
  refine ⟨hc.block.cell hns h.h0, ?_, hc.block.cell hns h.h5, hc.block.cell hm1 h.hm.1, hc.block.cell hm1 h.hm.2.1, hc.block.cell hm1 h.hm.2.2.1, hc.block.cell hm1 h.hm.2.2.2⟩
  obtain ⟨a, cap, b, e, hcs⟩ := h.hp
  refine ⟨a, cap, b, e, fun j hj => ?_⟩
  obtain ⟨q0, q1, mv, q2, q3⟩ := hcs j hj
  have hb : ¬ KX m sv b := by
    obtain ⟨_, c0, mv0, k2, k3⟩ := hcs 0 (by omega)
    rintro (e1 | e1)
    · subst e1
      rw [Nat.zero_mul, h.hK.2.2.1.1.1] at c0
      cases c0
    · obtain ⟨v, hv⟩ := h.hK.2.2.1.head1 e1
      rw [Nat.zero_mul, hv] at k2
      rcases k3 with ⟨rfl, _⟩ | ⟨_, _, _, rfl, _⟩ <;> cases k2
  refine ⟨q0, hc.block.cell hb q1, mv, hc.block.cell hb q2, q3.same fun x o ho hco => ?_⟩
  have hx : ¬ KX m sv x := by
    rintro (e1 | e1)
    · subst e1
      have := h.hK.2.2.1.1.1
      rw [noCell ho hco] at this
      cases this
    · obtain ⟨v, hv⟩ := h.hK.2.2.1.head1 e1
      rw [noCell ho hco] at hv
      cases hv
  rw [hc.block x (lt_of_heap ho) hx, ho]

/-- What is known when a MAC has been learned. -/
def LearnK (K : List Mc) (e0 : Mc) (K' : List Mc) : Prop :=
  SortedP K' ∧ if (known K e0.vlan e0.mac).isSome || decide (K.length < 64) then (∀ q, q ∈ K' ↔ q = e0 ∨ (q ∈ K ∧ cmpM q e0.vlan e0.mac ≠ 0)) ∧ K'.length = (if (known K e0.vlan e0.mac).isSome then K.length else K.length + 1) else K' = K
theorem LearnK.length {K K' : List Mc} {e0 : Mc} (h : LearnK K e0 K') (hn : K.length ≤ 64) : K'.length ≤ 64 := by
  obtain ⟨_, h⟩ := h
  split at h
  · rename_i hc
    rw [h.2]
    split
    · exact hn
    · rename_i h1
      simp [h1] at hc
      omega
  · rw [h]; exact hn

/-- A frame on its way in memory, and the stages beside it. -/
structure Mid (w : World) (s k m : Nat) (sv : Value) (p : Pg) (K : List Mc) (W : World) : Prop where
  pg : PgAt W w.heap.size p (.slice none 0 0)
  st : W.heap[w.heap.size + 1]? = some (.cells (stageCells s) 101 (0, 0))
  kn : ∃ sv', KnownAt W k m sv' K ∧ ∀ b, sv'.ownBlock = some b → sv.ownBlock = some b ∨ w.heap.size + 1 < b
  ch : Chg (KX m sv) w W

theorem mid_keep {w : World} {s k m : Nat} {sv pv : Value} {P : List Prt} {K0 : List Mc} (h : SwP w s pv P k m sv K0) {K : List Mc} {W W' : World}
    (kn : ∃ sv', KnownAt W k m sv' K ∧ ∀ b, sv'.ownBlock = some b → sv.ownBlock = some b ∨ w.heap.size + 1 < b) (ho : OnlyG w.heap.size W W') :
    ∃ sv', KnownAt W' k m sv' K ∧ ∀ b, sv'.ownBlock = some b → sv.ownBlock = some b ∨ w.heap.size + 1 < b := by
  obtain ⟨sv', h1, h2⟩ := kn
  refine ⟨sv', h1.keep fun b hb hx => ho.2.2.2.2 b hb ?_, h2⟩
  rintro rfl
  rcases hx with e | e | e
  · have : k < w.heap.size := block_lt_of_cell h.hK.1
    omega
  · have : m < w.heap.size := block_lt_of_cell h.hK.2.2.1.1.1
    omega
  · rcases h2 _ e with e' | e'
    · have := (h.hK.2.2.1.head e').2.1; omega
    · omega

theorem Mid.only {w : World} {s k m : Nat} {sv pv : Value} {P : List Prt} {K0 : List Mc} (h : SwP w s pv P k m sv K0) {p q : Pg} {K : List Mc} {W W' : World} (hM : Mid w s k m sv p K W) (ho : OnlyG w.heap.size W W') (hg : PgAt W' w.heap.size q (.slice none 0 0)) : Mid w s k m sv q K W' := by
  refine ⟨hg, (ho.2.2.2.2 _ (lt_of_heap hM.st) (by omega)).trans hM.st, mid_keep h hM.kn ho, ?_⟩
  have hs := hM.ch.size
  exact ⟨ho.1.trans hM.ch.os, ho.2.1.trans hM.ch.tape, ho.2.2.1.trans hM.ch.output, Nat.le_trans hs ho.2.2.2.1, fun b hb hx => (ho.2.2.2.2 b (by omega) (by omega)).trans (hM.ch.block b hb hx)⟩
theorem Chg.only {X : Nat → Prop} {w W W' : World} (hc : Chg X w W) (ho : OnlyG w.heap.size W W') : Chg X w W' :=
  ⟨ho.1.trans hc.os, ho.2.1.trans hc.tape, ho.2.2.1.trans hc.output, Nat.le_trans hc.size ho.2.2.2.1, fun b hb hx => (ho.2.2.2.2 b (by have := hc.size; omega) (by omega)).trans (hc.block b hb hx)⟩

/-- A frame that has come in, its VLAN found. -/
def pIn (P : List Prt) (port : Int) (d : ByteArray) (f : Fr) : Pg := ⟨port, d, { f with vlan := vlanAt (pAt P port.toNat) f }, ⟨#[]⟩, 0, 0, false, false⟩

/-- What becomes of a frame. -/
inductive FrameR (P : List Prt) (K : List Mc) (unp : Pg → Pg) (jud : Pg → Option (Int × List (Int × ByteArray))) (rou : Pg → Int ⊕ Pg) (port : Int) (d : ByteArray) : Int → List (Int × ByteArray) → List Mc → Prop
  | unknown (h : ¬ (0 ≤ port ∧ port < P.length)) : FrameR P K unp jud rou port d 9 [] K
  | bad (h : 0 ≤ port ∧ port < P.length) (hr : fateRead d ≠ -1) : FrameR P K unp jud rou port d (fateRead d) [] K
  | barred (f : Fr) (h : 0 ≤ port ∧ port < P.length) (hr : fateRead d = -1) (hf : readF d = some f) (hb : barredAt (pAt P port.toNat) f = true) : FrameR P K unp jud rou port d 3 [] K
  | judged (f : Fr) (K' : List Mc) (r : Int) (L : List (Int × ByteArray)) (h : 0 ≤ port ∧ port < P.length) (hr : fateRead d = -1) (hf : readF d = some f) (hb : barredAt (pAt P port.toNat) f = false) (hl : LearnK K ⟨(pIn P port d f).f.vlan, f.fr, port, 0⟩ K') (hj : jud (unp (pIn P port d f)) = some (r, L)) : FrameR P K unp jud rou port d r L K'
  | stopped (f : Fr) (K' : List Mc) (r : Int) (h : 0 ≤ port ∧ port < P.length) (hr : fateRead d = -1) (hf : readF d = some f) (hb : barredAt (pAt P port.toNat) f = false) (hl : LearnK K ⟨(pIn P port d f).f.vlan, f.fr, port, 0⟩ K') (hj : jud (unp (pIn P port d f)) = none) (ho : rou (unp (pIn P port d f)) = .inl r) : FrameR P K unp jud rou port d r [] K'
  | out (f : Fr) (K' : List Mc) (q : Pg) (h : 0 ≤ port ∧ port < P.length) (hr : fateRead d = -1) (hf : readF d = some f) (hb : barredAt (pAt P port.toNat) f = false) (hl : LearnK K ⟨(pIn P port d f).f.vlan, f.fr, port, 0⟩ K') (hj : jud (unp (pIn P port d f)) = none) (ho : rou (unp (pIn P port d f)) = .inr q) :
      FrameR P K unp jud rou port d (if (fwdO P q (portOf (known K' q.f.vlan q.f.to)) (known K' q.f.vlan q.f.to).isSome P.length).length = 0 then 8 else 0) (fwdO P q (portOf (known K' q.f.vlan q.f.to)) (known K' q.f.vlan q.f.to).isSome P.length) K'

/-- What a call of Frame leaves. -/
def FrameOut (w : World) (k m : Nat) (sv : Value) (R : Int → List (Int × ByteArray) → List Mc → Prop) (r : Int) (W : World) : Prop :=
  ∃ L K' p ov sv', R r L K' ∧ PgAt W w.heap.size p ov ∧ W.ownsRow w.heap.size 32 2 ov L.length (rowO L) ∧ KnownAt W k m sv' K' ∧ (∀ b, sv'.ownBlock = some b → sv.ownBlock = some b ∨ w.heap.size ≤ b) ∧ (∀ b, ov.ownBlock = some b → sv'.ownBlock ≠ some b ∧ b ≠ m) ∧ Chg (KX m sv) w W

theorem FrameOut.none {w W : World} {k m : Nat} {sv : Value} {R : Int → List (Int × ByteArray) → List Mc → Prop} {r : Int} {K' : List Mc} {p : Pg} (hR : R r [] K') (hg : PgAt W w.heap.size p (.slice none 0 0)) (hk : ∃ sv', KnownAt W k m sv' K' ∧ ∀ b, sv'.ownBlock = some b → sv.ownBlock = some b ∨ w.heap.size + 1 < b) (hc : Chg (KX m sv) w W) : FrameOut w k m sv R r W := by
  obtain ⟨sv', h1, h2⟩ := hk
  exact ⟨[], K', p, _, sv', hR, hg, ⟨rfl, .inl ⟨rfl, rfl⟩⟩, h1, fun b hb => (h2 b hb).imp id (by omega), (fun b hb => by cases hb), hc⟩
end Go.Proofs.YtaejpejfmpbinaaGreatDoor

namespace Go.Proofs.YtaejpejfmpbinaaGreatDoor
open Go.RowKit
open Go.Sort (grow)

theorem ownsRow_base {w : World} {B B' : Nat} {t : TypeId} {s n : Nat} {v : Value} {xs : List Value} (h : w.ownsRow B t s v n xs) (hB : B' ≤ B) : w.ownsRow B' t s v n xs := by
  refine ⟨h.1, h.2.imp id ?_⟩
  rintro ⟨g, cap, cur, e, h1, h2⟩
  exact ⟨g, cap, cur, e, Nat.le_trans hB h1, h2⟩

theorem Mid.size {w : World} {s k m : Nat} {sv : Value} {p : Pg} {K : List Mc} {W : World} (h : Mid w s k m sv p K W) : w.heap.size + 1 < W.heap.size := lt_of_heap h.st

theorem LearnQ.learnK {k m : Nat} {sv : Value} {K : List Mc} {e0 : Mc} {w w3 : World} (h : LearnQ k m sv K e0 w w3) : ∃ sv' K', KnownAt w3 k m sv' K' ∧ LearnK K e0 K' ∧ (∀ b, sv'.ownBlock = some b → sv.ownBlock = some b ∨ w.heap.size ≤ b) ∧ Chg (KX m sv) w w3 := by
  obtain ⟨sv', K', h1, h2, h3, h4⟩ := h
  exact ⟨sv', K', h1, ⟨h1.2.2.2, h2⟩, h3, h4⟩

/-- What is so behind the first stages. -/
def Adm (P : List Prt) (K : List Mc) (port : Int) (d : ByteArray) (f : Fr) (K' : List Mc) : Prop :=
  (0 ≤ port ∧ port < P.length) ∧ fateRead d = -1 ∧ readF d = some f ∧ barredAt (pAt P port.toNat) f = false ∧ LearnK K ⟨(pIn P port d f).f.vlan, f.fr, port, 0⟩ K'

/-- What may go on to the ports. -/
def GoOn (q : Pg) : Prop := (Lit.int .i64 q.f.vlan).wf = true ∧ q.f.to.size + q.f.fr.size + q.f.ty.size + q.f.rest.size ≤ 1000

section
variable (w : World) (s k m : Nat) (sv : Value) (P : List Prt) (K : List Mc) (port : Int) (d : ByteArray) (unp : Pg → Pg) (jud : Pg → Option (Int × List (Int × ByteArray))) (rou : Pg → Int ⊕ Pg)
/-- The stages' invariants. -/
def stI : Nat → World → Prop
  | 0 => fun W => Mid w s k m sv ⟨port, d, zeroFr, ⟨#[]⟩, 0, 0, false, false⟩ K W
  | 1 => fun W => (0 ≤ port ∧ port < P.length) ∧ Mid w s k m sv ⟨port, d, zeroFr, ⟨#[]⟩, 0, 0, false, false⟩ K W
  | 2 => fun W => (0 ≤ port ∧ port < P.length) ∧ fateRead d = -1 ∧ ∃ f, readF d = some f ∧ Mid w s k m sv ⟨port, d, f, ⟨#[]⟩, 0, 0, false, false⟩ K W
  | 3 => fun W => (0 ≤ port ∧ port < P.length) ∧ fateRead d = -1 ∧ ∃ f, readF d = some f ∧ barredAt (pAt P port.toNat) f = false ∧ Mid w s k m sv (pIn P port d f) K W
  | 4 => fun W => ∃ f K', Adm P K port d f K' ∧ Mid w s k m sv (pIn P port d f) K' W
  | 5 => fun W => ∃ f K', Adm P K port d f K' ∧ Mid w s k m sv (unp (pIn P port d f)) K' W
  | 6 => fun W => ∃ f K', Adm P K port d f K' ∧ jud (unp (pIn P port d f)) = none ∧ Mid w s k m sv (unp (pIn P port d f)) K' W
  | 7 => fun W => ∃ f K' q, Adm P K port d f K' ∧ jud (unp (pIn P port d f)) = none ∧ rou (unp (pIn P port d f)) = .inr q ∧ GoOn q ∧ Mid w s k m sv q K' W
  | _ => fun W => W.heap[w.heap.size + 1]? = some (.cells (stageCells s) 101 (0, 0)) ∧ ∃ f K' q a n cap, Adm P K port d f K' ∧ jud (unp (pIn P port d f)) = none ∧ rou (unp (pIn P port d f)) = .inr q ∧
      n = (fwdO P q (portOf (known K' q.f.vlan q.f.to)) (known K' q.f.vlan q.f.to).isSome P.length).length ∧ PgAt W w.heap.size q (.slice a n cap) ∧ FrameOut w k m sv (fun r L K'' => r = 0 ∧ L = fwdO P q (portOf (known K' q.f.vlan q.f.to)) (known K' q.f.vlan q.f.to).isSome P.length ∧ K'' = K') 0 W
end
theorem stI_st {w : World} {s k m : Nat} {sv : Value} {P : List Prt} {K : List Mc} {port : Int} {d : ByteArray} {unp : Pg → Pg} {jud : Pg → Option (Int × List (Int × ByteArray))} {rou : Pg → Int ⊕ Pg} : ∀ i W, stI w s k m sv P K port d unp jud rou i W → W.heap[w.heap.size + 1]? = some (.cells (stageCells s) 101 (0, 0))
  | 0, _, h => h.st
  | 1, _, h => h.2.st
  | 2, _, ⟨_, _, _, _, h⟩ => h.st
  | 3, _, ⟨_, _, _, _, _, h⟩ => h.st
  | 4, _, ⟨_, _, _, h⟩ => h.st
  | 5, _, ⟨_, _, _, h⟩ => h.st
  | 6, _, ⟨_, _, _, _, h⟩ => h.st
  | 7, _, ⟨_, _, _, _, _, _, _, h⟩ => h.st
  | _ + 8, _, h => h.1

theorem vlanAt_wf {P : List Prt} {port : Int} {f : Fr} (hp : 0 ≤ port ∧ port < P.length) (hnat : ∀ p ∈ P, (Lit.int .i64 p.nat).wf = true) (hf : (Lit.int .i64 f.vlan).wf = true) : (Lit.int .i64 (vlanAt (pAt P port.toNat) f)).wf = true := by
  unfold vlanAt
  split
  · exact hf
  · rw [pAt_eq (by omega)]
    exact hnat _ (List.getElem_mem _)

theorem read_wf {d : ByteArray} {f : Fr} (h : readF d = some f) : (Lit.int .i64 f.vlan).wf = true ∧ f.fr.size ≤ 6 ∧ f.to.size ≤ 6 ∧ f.ty.size ≤ 2 ∧ f.rest.size ≤ d.size := by
  unfold readF at h
  split at h
  · cases h
  · split at h
    · split at h
      · cases h
      · cases h
        dsimp only
        refine ⟨WalkArith.wf_i64 (by omega), ?_, ?_, ?_, ?_⟩ <;> (simp only [ByteArray.size_extract]; omega)
    · cases h
      dsimp only
      refine ⟨WalkArith.wf_i64 (by omega), ?_, ?_, ?_, ?_⟩ <;> (simp only [ByteArray.size_extract]; omega)
theorem fateRead_size {d : ByteArray} (h : fateRead d = -1) : d.size ≤ 600 := by
  unfold fateRead at h
  split at h
  · cases h
  · omega
end Go.Proofs.YtaejpejfmpbinaaGreatDoor

namespace Go.Proofs.YtaejpejfmpbinaaGreatDoor
open Go.RowKit
open Go.Sort (grow)

/-- What the middle stages do with a frame. -/
structure Middle (w : World) (s k m : Nat) (sv : Value) (P : List Prt) (port : Int) (d : ByteArray) (unp : Pg → Pg) (jud : Pg → Option (Int × List (Int × ByteArray))) (rou : Pg → Int ⊕ Pg) : Prop where
  hU : ∀ f K' W, readF d = some f → (0 ≤ port ∧ port < P.length) → d.size ≤ 600 → Mid w s k m sv (pIn P port d f) K' W → Calls Tryz.prog 26 #[.pointer (some ⟨w.heap.size, 0, none⟩)] W fun e W' => e = .returned (.int .i64 (-1)) ∧ PgAt W' w.heap.size (unp (pIn P port d f)) (.slice none 0 0) ∧ OnlyG w.heap.size W W'
  hJ : ∀ f K' W, readF d = some f → (0 ≤ port ∧ port < P.length) → d.size ≤ 600 → Mid w s k m sv (unp (pIn P port d f)) K' W → Calls Tryz.prog 27 #[.pointer (some ⟨s, 0, none⟩), .pointer (some ⟨w.heap.size, 0, none⟩)] W fun e W' => ∃ r : Int, e = .returned (.int .i64 r) ∧
      ((r = -1 ∧ jud (unp (pIn P port d f)) = none ∧ PgAt W' w.heap.size (unp (pIn P port d f)) (.slice none 0 0) ∧ OnlyG w.heap.size W W') ∨
       (r ≠ -1 ∧ ∃ L ov, jud (unp (pIn P port d f)) = some (r, L) ∧ PgAt W' w.heap.size (unp (pIn P port d f)) ov ∧ W'.ownsRow W.heap.size 32 2 ov L.length (rowO L) ∧ OnlyG w.heap.size W W'))
  hR : ∀ f K' W, readF d = some f → (0 ≤ port ∧ port < P.length) → d.size ≤ 600 → Mid w s k m sv (unp (pIn P port d f)) K' W → Calls Tryz.prog 28 #[.pointer (some ⟨s, 0, none⟩), .pointer (some ⟨w.heap.size, 0, none⟩)] W fun e W' => ∃ r : Int, e = .returned (.int .i64 r) ∧
      ((r = -1 ∧ ∃ q, rou (unp (pIn P port d f)) = .inr q ∧ GoOn q ∧ PgAt W' w.heap.size q (.slice none 0 0) ∧ OnlyG w.heap.size W W') ∨
       (r ≠ -1 ∧ rou (unp (pIn P port d f)) = .inl r ∧ PgAt W' w.heap.size (unp (pIn P port d f)) (.slice none 0 0) ∧ OnlyG w.heap.size W W'))

theorem outs_apart {w W W' : World} {s k m : Nat} {sv pv : Value} {P : List Prt} {K0 : List Mc} (_h : SwP w s pv P k m sv K0) {ov : Value} {n : Nat} {xs : List Value} {K : List Mc} {sv' : Value} (hk : KnownAt W k m sv' K) (ho : W'.ownsRow W.heap.size 32 2 ov n xs) : ∀ b, ov.ownBlock = some b → sv'.ownBlock ≠ some b ∧ b ≠ m := by
  intro b hb
  have h1 := (ownsRow_lt ho hb).1
  refine ⟨fun e => ?_, ?_⟩
  · have := (hk.2.2.1.head e).2.1; omega
  · have : m < W.heap.size := block_lt_of_cell hk.2.2.1.1.1
    omega

set_option maxHeartbeats 1000000 in
theorem stages_any (s k m : Nat) (pv sv : Value) (P : List Prt) (K : List Mc) (port : Int) (d : ByteArray) (w W0 : World) (h : SwP w s pv P k m sv K) (hP : P.length ≤ 8) (hn : K.length ≤ 64) (hnat : ∀ p ∈ P, (Lit.int .i64 p.nat).wf = true)
    (unp : Pg → Pg) (jud : Pg → Option (Int × List (Int × ByteArray))) (rou : Pg → Int ⊕ Pg) (hM : Middle w s k m sv P port d unp jud rou) (h0 : Mid w s k m sv ⟨port, d, zeroFr, ⟨#[]⟩, 0, 0, false, false⟩ K W0) :
    Calls Tryz.prog 21 #[.pointer (some ⟨w.heap.size, 0, none⟩), .slice (some ⟨w.heap.size + 1, 0, none⟩) 8 8] W0 fun e w' => ∃ r : Int, e = .returned (.int .i64 r) ∧ FrameOut w k m sv (FrameR P K unp jud rou port d) r w' := by
  refine pass_any s w.heap.size (w.heap.size + 1) (stI w s k m sv P K port d unp jud rou) _ W0 h0 stI_st ?_ ?_ ?_ ?_ ?_ ?_ ?_ ?_ ?_
  · -- enter
    intro W hW
    obtain ⟨c0, cp, c5, cm⟩ := h.kept hW.ch
    refine (enter_any s w.heap.size pv P _ _ W c0 cp hW.pg).mono ?_
    rintro e W' ⟨rfl, rfl⟩
    by_cases hv : 0 ≤ port ∧ port < P.length
    · refine ⟨-1, ?_, .inl ⟨rfl, hv, hW⟩⟩
      simp [hv.1, hv.2]
    · refine ⟨9, ?_, .inr ⟨by decide, FrameOut.none (.unknown hv) hW.pg hW.kn hW.ch⟩⟩
      have : (decide (0 ≤ port) && decide (port < P.length)) = false := by
        rw [← Bool.not_eq_true, Bool.and_eq_true, decide_eq_true_eq, decide_eq_true_eq]; exact hv
      show Ending.returned (.int .i64 (if (decide (0 ≤ port) && decide (port < P.length)) = true then -1 else 9)) = _
      rw [this]; rfl
  · -- read
    rintro W ⟨hv, hW⟩
    obtain ⟨c0, cp, c5, cm⟩ := h.kept hW.ch
    refine (pgRead_any w.heap.size _ _ W hW.pg cm).mono ?_
    rintro e W' ⟨rfl, h1, h2, h3⟩
    refine ⟨_, rfl, ?_⟩
    by_cases hf : fateRead d = -1
    · obtain ⟨f, hf1, hf2⟩ := h1 hf
      exact .inl ⟨hf, hv, hf, f, hf1, hW.only h h3 hf2⟩
    · exact .inr ⟨hf, FrameOut.none (.bad hv hf) (h2 hf) (mid_keep h hW.kn h3) (hW.ch.only h3)⟩
  · -- admit
    rintro W ⟨hv, hf, f, hf1, hW⟩
    obtain ⟨c0, cp, c5, cm⟩ := h.kept hW.ch
    have hk : port.toNat < P.length := by omega
    have hsg : s ≠ w.heap.size := by have : s < w.heap.size := block_lt_of_cell h.h0; omega
    refine (admit_any s w.heap.size pv P _ _ port.toNat W c0 cp hW.pg hk (by show port = _; omega) hsg (read_wf hf1).1 (hnat _ (List.getElem_mem hk))).mono ?_
    rintro e W' ⟨rfl, h1, h2⟩
    rw [← pAt_eq hk] at h1 ⊢
    cases hb : barredAt (pAt P port.toNat) f with
    | true => exact ⟨3, rfl, .inr ⟨by decide, FrameOut.none (.barred f hv hf hf1 hb) h1 (mid_keep h hW.kn h2) (hW.ch.only h2)⟩⟩
    | false => exact ⟨-1, rfl, .inl ⟨rfl, hv, hf, f, hf1, hb, hW.only h h2 h1⟩⟩
  · -- learn
    rintro W ⟨hv, hf, f, hf1, hb, hW⟩
    obtain ⟨c0, cp, c5, cm⟩ := h.kept hW.ch
    obtain ⟨sv', hk, hb'⟩ := hW.kn
    have hslt : s < w.heap.size := block_lt_of_cell h.h0
    have hmlt : m < w.heap.size := block_lt_of_cell h.hK.2.2.1.1.1
    have nS : ¬ (s = m ∨ sv'.ownBlock = some s) := by
      rintro (e | e)
      · exact h.not_s (.inl e)
      · rcases hb' _ e with e' | e'
        · exact h.not_s (.inr e')
        · omega
    have nG : ∀ x, w.heap.size ≤ x → x ≤ w.heap.size + 1 → ¬ (x = m ∨ sv'.ownBlock = some x) := by
      rintro x h1 h2 (e | e)
      · omega
      · rcases hb' _ e with e' | e'
        · have := (h.hK.2.2.1.head e').2.1; omega
        · omega
    have hws := hW.size
    refine (learnS_any s w.heap.size k m sv' K _ _ W c5 hk hW.pg (by have := (read_wf hf1).2.1; show f.fr.size ≤ 1000; omega) hn nS (nG _ (Nat.le_refl _) (by omega))).mono ?_
    rintro e W' ⟨rfl, hq⟩
    obtain ⟨sv2, K', q1, q2, q3, q4⟩ := hq.learnK
    refine ⟨-1, rfl, .inl ⟨rfl, f, K', ⟨hv, hf, hf1, hb, q2⟩, ?_⟩⟩
    refine ⟨(q4.block _ (by omega) (nG _ (Nat.le_refl _) (by omega))).trans hW.pg, (q4.block _ (by omega) (nG _ (by omega) (Nat.le_refl _))).trans hW.st, ⟨sv2, q1, fun b hb2 => ?_⟩, ?_⟩
    · rcases q3 b hb2 with e | e
      · exact hb' b e
      · exact .inr (by omega)
    · refine ⟨q4.os.trans hW.ch.os, q4.tape.trans hW.ch.tape, q4.output.trans hW.ch.output, Nat.le_trans hW.ch.size q4.size, fun b hb2 hx => (q4.block b (by omega) ?_).trans (hW.ch.block b hb2 hx)⟩
      rintro (e | e)
      · exact hx (.inl e)
      · rcases hb' _ e with e' | e'
        · exact hx (.inr e')
        · omega
  · -- unpack
    rintro W ⟨f, K', ha, hW⟩
    refine (hM.hU f K' W ha.2.2.1 ha.1 (fateRead_size ha.2.1) hW).mono ?_
    rintro e W' ⟨rfl, h1, h2⟩
    exact ⟨-1, rfl, .inl ⟨rfl, f, K', ha, hW.only h h2 h1⟩⟩
  · -- judge
    rintro W ⟨f, K', ha, hW⟩
    refine (hM.hJ f K' W ha.2.2.1 ha.1 (fateRead_size ha.2.1) hW).mono ?_
    rintro e W' ⟨r, rfl, ⟨rfl, h1, h2, h3⟩ | ⟨hr, L, ov, h1, h2, h3, h4⟩⟩
    · exact ⟨-1, rfl, .inl ⟨rfl, f, K', ha, h1, hW.only h h3 h2⟩⟩
    · obtain ⟨sv', hk, hb'⟩ := hW.kn
      obtain ⟨sv2, hk2, hb2⟩ := mid_keep h ⟨sv', hk, hb'⟩ h4
      have hk' : KnownAt W' k m sv' K' := hk.keep fun b hb hx => h4.2.2.2.2 b hb (by
        rintro rfl
        rcases hx with e | e | e
        · have : k < w.heap.size := block_lt_of_cell h.hK.1
          omega
        · have : m < w.heap.size := block_lt_of_cell h.hK.2.2.1.1.1
          omega
        · rcases hb' _ e with e' | e'
          · have := (h.hK.2.2.1.head e').2.1; omega
          · omega)
      exact ⟨r, rfl, .inr ⟨hr, L, K', _, ov, sv', .judged f K' r L ha.1 ha.2.1 ha.2.2.1 ha.2.2.2.1 ha.2.2.2.2 h1, h2, ownsRow_base h3 (by have := hW.size; omega), hk', fun b hb => (hb' b hb).imp id (by omega), outs_apart h hk h3, hW.ch.only h4⟩⟩
  · -- route
    rintro W ⟨f, K', ha, hj, hW⟩
    refine (hM.hR f K' W ha.2.2.1 ha.1 (fateRead_size ha.2.1) hW).mono ?_
    rintro e W' ⟨r, rfl, ⟨rfl, q, h1, h2, h3, h4⟩ | ⟨hr, h1, h2, h3⟩⟩
    · exact ⟨-1, rfl, .inl ⟨rfl, f, K', q, ha, hj, h1, h2, hW.only h h4 h3⟩⟩
    · exact ⟨r, rfl, .inr ⟨hr, FrameOut.none (.stopped f K' r ha.1 ha.2.1 ha.2.2.1 ha.2.2.2.1 ha.2.2.2.2 hj h1) h2 (mid_keep h hW.kn h3) (hW.ch.only h3)⟩⟩
  · -- forward
    rintro W ⟨f, K', q, ha, hj, hr, hq, hW⟩
    obtain ⟨c0, cp, c5, cm⟩ := h.kept hW.ch
    obtain ⟨sv', hk, hb'⟩ := hW.kn
    refine (forward_any s w.heap.size k m pv sv' P K' q W c0 c5 cp hk hW.pg hP hq.1 hq.2).mono ?_
    rintro e W' ⟨rfl, v, h1, h2, h3, h4⟩
    have hG := h4.onlyG
    have hk' : KnownAt W' k m sv' K' := hk.keep fun b hb hx => hG.2.2.2.2 b hb (by
        rintro rfl
        rcases hx with e | e | e
        · have : k < w.heap.size := block_lt_of_cell h.hK.1
          omega
        · have : m < w.heap.size := block_lt_of_cell h.hK.2.2.1.1.1
          omega
        · rcases hb' _ e with e' | e'
          · have := (h.hK.2.2.1.head e').2.1; omega
          · omega)
    have hsl : ∃ a cap, v = .slice a (fwdO P q (portOf (known K' q.f.vlan q.f.to)) (known K' q.f.vlan q.f.to).isSome P.length).length cap := by
      rcases h2.2 with ⟨e, e0⟩ | ⟨g, cap, cur, e, _⟩
      · exact ⟨none, 0, by rw [e, e0]⟩
      · exact ⟨_, cap, e⟩
    obtain ⟨a, cap, rfl⟩ := hsl
    refine ⟨-1, rfl, .inl ⟨rfl, (hG.2.2.2.2 _ (by have := hW.size; omega) (by omega)).trans hW.st, f, K', q, a, _, cap, ha, hj, hr, rfl, h1, _, K', q, _, sv', ⟨rfl, rfl, rfl⟩, h1, ownsRow_base h2 (by have := hW.size; omega), hk', fun b hb => (hb' b hb).imp id (by omega), outs_apart h hk h2, hW.ch.only hG⟩⟩
  · -- left
    rintro W ⟨_, f, K', q, a, n, cap, ha, hj, hr, hn', hpg, L, K2, p2, ov, sv', ⟨_, rfl, rfl⟩, h1, h2, h3, h4, h5, h6⟩
    refine (left_any w.heap.size n cap a q W hpg).mono ?_
    rintro e W' ⟨rfl, rfl⟩
    refine ⟨_, rfl, _, K2, p2, ov, sv', ?_, h1, h2, h3, h4, h5, h6⟩
    rw [hn']
    exact .out f K2 q ha.1 ha.2.1 ha.2.2.1 ha.2.2.2.1 ha.2.2.2.2 hj hr
end Go.Proofs.YtaejpejfmpbinaaGreatDoor

namespace Go.Proofs.YtaejpejfmpbinaaGreatDoor
open Go.RowKit
open Go.Sort (grow)

/-- What a call of Frame leaves, the passage left out. -/
def FrameEnd (w : World) (k m : Nat) (sv : Value) (R : Int → List (Int × ByteArray) → List Mc → Prop) (e : Ending) (W : World) : Prop :=
  ∃ r L K' ov sv', e = .returned (.tuple #[ov, .int .i64 r]) ∧ R r L K' ∧ W.ownsRow w.heap.size 32 2 ov L.length (rowO L) ∧ KnownAt W k m sv' K' ∧ (∀ b, sv'.ownBlock = some b → sv.ownBlock = some b ∨ w.heap.size ≤ b) ∧ (∀ b, ov.ownBlock = some b → sv'.ownBlock ≠ some b ∧ b ≠ m) ∧ Chg (KX m sv) w W

set_option maxRecDepth 100000 in
set_option maxHeartbeats 1000000 in
theorem sFrame_of (s k m : Nat) (pv sv : Value) (P : List Prt) (K : List Mc) (port : Int) (d : ByteArray) (w : World) (h : SwP w s pv P k m sv K) (hP : P.length ≤ 8) (hn : K.length ≤ 64) (hnat : ∀ p ∈ P, (Lit.int .i64 p.nat).wf = true)
    (unp : Pg → Pg) (jud : Pg → Option (Int × List (Int × ByteArray))) (rou : Pg → Int ⊕ Pg) (hM : Middle w s k m sv P port d unp jud rou) :
    Calls Tryz.prog 9 #[.pointer (some ⟨s, 0, none⟩), .int .i64 port, .string d] w (FrameEnd w k m sv (FrameR P K unp jud rou port d)) := by
  obtain ⟨W0, hW0⟩ : ∃ W0, W0 = (w.alloc (.cells (pgCells ⟨port, d, zeroFr, ⟨#[]⟩, 0, 0, false, false⟩ (.slice none 0 0)) 65)).alloc (.cells (stageCells s) 101) := ⟨_, rfl⟩
  have hB : Below w.heap.size w W0 := by rw [hW0]; exact ((Below.refl _ w).alloc (Nat.le_refl _) _).alloc (by simp) _
  have hMid : Mid w s k m sv ⟨port, d, zeroFr, ⟨#[]⟩, 0, 0, false, false⟩ K W0 := by
    refine ⟨?_, ?_, ⟨sv, h.hK.below hB, fun b hb => .inl hb⟩, Chg.of_below hB⟩
    · rw [hW0]
      exact (((Below.refl _ (w.alloc _)).alloc (Nat.le_refl _) _).block _ (by simp)).trans (allocN _ _)
    · rw [hW0]
      have := allocN (w.alloc (.cells (pgCells ⟨port, d, zeroFr, ⟨#[]⟩, 0, 0, false, false⟩ (.slice none 0 0)) 65)) (.cells (stageCells s) 101)
      rwa [World.size_alloc] at this
  have C := hide (stages_any s k m pv sv P K port d w W0 h hP hn hnat unp jud rou hM hMid)
  simp only [pgCells, zeroFr, stageCells] at hW0
  have HW := hide hW0
  clear hW0 hB hMid hM h
  go_enter Tryz.func9, Tryz.ntmps9
  go_wp2_with fail
  rw [← HW.out]
  refine C.out.mono ?_
  rintro e W' ⟨r, rfl, L, K', p, ov, sv', h1, h2, h3, h4, h5, h6, h7⟩
  have g14 : W'.cell? ⟨w.heap.size, 14, none⟩ = some ov := h2.cell rfl
  have HR : Hid (FrameEnd w k m sv (FrameR P K unp jud rou port d) (.returned (.tuple #[ov, .int .i64 r])) W') := hide ⟨r, L, K', ov, sv', rfl, h1, h3, h4, h5, h6, h7⟩
  clear h1 h2 h3 h4 h5 h6 h7 C HW
  go_wp2
  go_ret2
  exact HR.out

/-- A frame that bears no IPv4. -/
theorem middleN (s k m : Nat) (pv sv : Value) (P : List Prt) (K : List Mc) (port : Int) (d : ByteArray) (w : World) (h : SwP w s pv P k m sv K) (hnat : ∀ p ∈ P, (Lit.int .i64 p.nat).wf = true) (hk : ∀ f, readF d = some f → (kind2 f.ty == 2) = false) : Middle w s k m sv P port d id (fun _ => none) .inr := by
  refine ⟨fun f K' W hf _ _ hW => ?_, fun f K' W hf _ _ hW => ?_, fun f K' W hf hv hd hW => ?_⟩
  · obtain ⟨_, _, _, cm⟩ := h.kept hW.ch
    refine (unpackN_any w.heap.size _ _ W hW.pg cm (hk f hf)).mono ?_
    rintro e W' ⟨rfl, hb⟩
    exact ⟨rfl, hW.pg.below hb, OnlyG.of_below hb⟩
  · refine (judgeN_any s w.heap.size _ _ W hW.pg rfl).mono ?_
    rintro e W' ⟨rfl, rfl⟩
    exact ⟨-1, rfl, .inl ⟨rfl, rfl, hW.pg, OnlyG.of_below (Below.refl _ _)⟩⟩
  · obtain ⟨_, _, _, cm⟩ := h.kept hW.ch
    refine (routeN_any s w.heap.size _ _ W hW.pg cm (hk f hf)).mono ?_
    rintro e W' ⟨rfl, hb⟩
    have hw := read_wf hf
    refine ⟨-1, rfl, .inl ⟨rfl, _, rfl, ⟨vlanAt_wf hv hnat hw.1, ?_⟩, hW.pg.below hb, OnlyG.of_below hb⟩⟩
    show f.to.size + f.fr.size + f.ty.size + f.rest.size ≤ 1000
    omega
end Go.Proofs.YtaejpejfmpbinaaGreatDoor
