import Derived.Test.YtnjalelblbjfiaaGreatDoorP24
namespace Go.Proofs.YtnjalelblbjfiaaGreatDoor
open Go.RowKit
open Go.Sort (grow)

theorem ownsRow_base {w : World} {B B' : Nat} {t : TypeId} {s n : Nat} {v : Value} {xs : List Value} (h : w.ownsRow B t s v n xs) (hB : B' ≤ B) : w.ownsRow B' t s v n xs := by
  refine ⟨h.1, h.2.imp id ?_⟩
  rintro ⟨g, cap, cur, e, h1, h2⟩
  exact ⟨g, cap, cur, e, Nat.le_trans hB h1, h2⟩

theorem Mid.size {w : World} {s k m : Nat} {sv : Value} {p : Pg} {K : List Mc} {W : World} (h : Mid w s k m sv p K W) : w.heap.size + 1 < W.heap.size := lt_of_heap h.st

theorem LearnQ.learnK {k m : Nat} {sv : Value} {K : List Mc} {e0 : Mc} {w w3 : World} (h : LearnQ k m sv K e0 w w3) : ∃ sv' K', KnownAt w3 k m sv' K' ∧ LearnK K e0 K' ∧ (∀ b, sv'.ownBlock = some b → sv.ownBlock = some b ∨ w.heap.size ≤ b) ∧ Chg (KX m sv) w w3 := by
  obtain ⟨sv', K', h1, h2, h3, h4⟩ := h
  exact ⟨sv', K', h1, ⟨h1.2.2.2, h2⟩, h3, h4⟩

/-- What is so behind the first stages. -/
def Adm (P : List Prt) (K : List Mc) (port : Int) (d : ByteArray) (f : Fr) (K' : List Mc) : Prop :=
  (0 ≤ port ∧ port < P.length) ∧ fateRead d = -1 ∧ readF d = some f ∧ barredAt (pAt P port.toNat) f = false ∧ LearnK K ⟨(pIn P port d f).f.vlan, f.fr, port, 0⟩ K'

/-- What may go on to the ports. -/
def GoOn (q : Pg) : Prop := (Lit.int .i64 q.f.vlan).wf = true ∧ q.f.to.size + q.f.fr.size + q.f.ty.size + q.f.rest.size ≤ 1000

section
variable (w : World) (s k m : Nat) (sv : Value) (P : List Prt) (K : List Mc) (port : Int) (d : ByteArray) (unp : Pg → Pg) (jud : Pg → Option (Int × List (Int × ByteArray))) (rou : Pg → Int ⊕ Pg)
/-- The stages' invariants. -/
def stI : Nat → World → Prop
  | 0 => fun W => Mid w s k m sv ⟨port, d, zeroFr, ⟨#[]⟩, 0, 0, false, false⟩ K W
  | 1 => fun W => (0 ≤ port ∧ port < P.length) ∧ Mid w s k m sv ⟨port, d, zeroFr, ⟨#[]⟩, 0, 0, false, false⟩ K W
  | 2 => fun W => (0 ≤ port ∧ port < P.length) ∧ fateRead d = -1 ∧ ∃ f, readF d = some f ∧ Mid w s k m sv ⟨port, d, f, ⟨#[]⟩, 0, 0, false, false⟩ K W
  | 3 => fun W => (0 ≤ port ∧ port < P.length) ∧ fateRead d = -1 ∧ ∃ f, readF d = some f ∧ barredAt (pAt P port.toNat) f = false ∧ Mid w s k m sv (pIn P port d f) K W
  | 4 => fun W => ∃ f K', Adm P K port d f K' ∧ Mid w s k m sv (pIn P port d f) K' W
  | 5 => fun W => ∃ f K', Adm P K port d f K' ∧ Mid w s k m sv (unp (pIn P port d f)) K' W
  | 6 => fun W => ∃ f K', Adm P K port d f K' ∧ jud (unp (pIn P port d f)) = none ∧ Mid w s k m sv (unp (pIn P port d f)) K' W
  | 7 => fun W => ∃ f K' q, Adm P K port d f K' ∧ jud (unp (pIn P port d f)) = none ∧ rou (unp (pIn P port d f)) = .inr q ∧ GoOn q ∧ Mid w s k m sv q K' W
  | _ => fun W => W.heap[w.heap.size + 1]? = some (.cells (stageCells s) 217 (0, 0)) ∧ ∃ f K' q a n cap, Adm P K port d f K' ∧ jud (unp (pIn P port d f)) = none ∧ rou (unp (pIn P port d f)) = .inr q ∧
      n = (fwdO P q (portOf (known K' q.f.vlan q.f.to)) (known K' q.f.vlan q.f.to).isSome P.length).length ∧ PgAt W w.heap.size q (.slice a n cap) ∧ FrameOut w k m sv (fun r L K'' => r = 0 ∧ L = fwdO P q (portOf (known K' q.f.vlan q.f.to)) (known K' q.f.vlan q.f.to).isSome P.length ∧ K'' = K') 0 W
end
theorem stI_st {w : World} {s k m : Nat} {sv : Value} {P : List Prt} {K : List Mc} {port : Int} {d : ByteArray} {unp : Pg → Pg} {jud : Pg → Option (Int × List (Int × ByteArray))} {rou : Pg → Int ⊕ Pg} : ∀ i W, stI w s k m sv P K port d unp jud rou i W → W.heap[w.heap.size + 1]? = some (.cells (stageCells s) 217 (0, 0))
  | 0, _, h => h.st
  | 1, _, h => h.2.st
  | 2, _, ⟨_, _, _, _, h⟩ => h.st
  | 3, _, ⟨_, _, _, _, _, h⟩ => h.st
  | 4, _, ⟨_, _, _, h⟩ => h.st
  | 5, _, ⟨_, _, _, h⟩ => h.st
  | 6, _, ⟨_, _, _, _, h⟩ => h.st
  | 7, _, ⟨_, _, _, _, _, _, _, h⟩ => h.st
  | _ + 8, _, h => h.1

theorem vlanAt_wf {P : List Prt} {port : Int} {f : Fr} (hp : 0 ≤ port ∧ port < P.length) (hnat : ∀ p ∈ P, (Lit.int .i64 p.nat).wf = true) (hf : (Lit.int .i64 f.vlan).wf = true) : (Lit.int .i64 (vlanAt (pAt P port.toNat) f)).wf = true := by
  unfold vlanAt
  split
  · exact hf
  · rw [pAt_eq (by omega)]
    exact hnat _ (List.getElem_mem _)

theorem read_wf {d : ByteArray} {f : Fr} (h : readF d = some f) : (Lit.int .i64 f.vlan).wf = true ∧ f.fr.size ≤ 6 ∧ f.to.size ≤ 6 ∧ f.ty.size ≤ 2 ∧ f.rest.size ≤ d.size := by
  unfold readF at h
  split at h
  · cases h
  · split at h
    · split at h
      · cases h
      · cases h
        dsimp only
        refine ⟨WalkArith.wf_i64 (by omega), ?_, ?_, ?_, ?_⟩ <;> (simp only [ByteArray.size_extract]; omega)
    · cases h
      dsimp only
      refine ⟨WalkArith.wf_i64 (by omega), ?_, ?_, ?_, ?_⟩ <;> (simp only [ByteArray.size_extract]; omega)
theorem fateRead_size {d : ByteArray} (h : fateRead d = -1) : d.size ≤ 600 := by
  unfold fateRead at h
  split at h
  · cases h
  · omega
end Go.Proofs.YtnjalelblbjfiaaGreatDoor

namespace Go.Proofs.YtnjalelblbjfiaaGreatDoor
open Go.RowKit
open Go.Sort (grow)

/-- What the middle stages do with a frame. -/
structure Middle (w : World) (s k m : Nat) (sv : Value) (P : List Prt) (port : Int) (d : ByteArray) (unp : Pg → Pg) (jud : Pg → Option (Int × List (Int × ByteArray))) (rou : Pg → Int ⊕ Pg) : Prop where
  hU : ∀ f K' W, readF d = some f → (0 ≤ port ∧ port < P.length) → d.size ≤ 600 → Mid w s k m sv (pIn P port d f) K' W → Calls Tryz.prog 60 #[.pointer (some ⟨w.heap.size, 0, none⟩)] W fun e W' => e = .returned (.int .i64 (-1)) ∧ PgAt W' w.heap.size (unp (pIn P port d f)) (.slice none 0 0) ∧ OnlyG w.heap.size W W'
  hJ : ∀ f K' W, readF d = some f → (0 ≤ port ∧ port < P.length) → d.size ≤ 600 → Mid w s k m sv (unp (pIn P port d f)) K' W → Calls Tryz.prog 61 #[.pointer (some ⟨s, 0, none⟩), .pointer (some ⟨w.heap.size, 0, none⟩)] W fun e W' => ∃ r : Int, e = .returned (.int .i64 r) ∧
      ((r = -1 ∧ jud (unp (pIn P port d f)) = none ∧ PgAt W' w.heap.size (unp (pIn P port d f)) (.slice none 0 0) ∧ OnlyG w.heap.size W W') ∨
       (r ≠ -1 ∧ ∃ L ov, jud (unp (pIn P port d f)) = some (r, L) ∧ PgAt W' w.heap.size (unp (pIn P port d f)) ov ∧ W'.ownsRow W.heap.size 66 2 ov L.length (rowO L) ∧ OnlyG w.heap.size W W'))
  hR : ∀ f K' W, readF d = some f → (0 ≤ port ∧ port < P.length) → d.size ≤ 600 → Mid w s k m sv (unp (pIn P port d f)) K' W → Calls Tryz.prog 62 #[.pointer (some ⟨s, 0, none⟩), .pointer (some ⟨w.heap.size, 0, none⟩)] W fun e W' => ∃ r : Int, e = .returned (.int .i64 r) ∧
      ((r = -1 ∧ ∃ q, rou (unp (pIn P port d f)) = .inr q ∧ GoOn q ∧ PgAt W' w.heap.size q (.slice none 0 0) ∧ OnlyG w.heap.size W W') ∨
       (r ≠ -1 ∧ rou (unp (pIn P port d f)) = .inl r ∧ PgAt W' w.heap.size (unp (pIn P port d f)) (.slice none 0 0) ∧ OnlyG w.heap.size W W'))

theorem outs_apart {w W W' : World} {s k m : Nat} {sv pv : Value} {P : List Prt} {K0 : List Mc} (_h : SwP w s pv P k m sv K0) {ov : Value} {n : Nat} {xs : List Value} {K : List Mc} {sv' : Value} (hk : KnownAt W k m sv' K) (ho : W'.ownsRow W.heap.size 66 2 ov n xs) : ∀ b, ov.ownBlock = some b → sv'.ownBlock ≠ some b ∧ b ≠ m := by
  intro b hb
  have h1 := (ownsRow_lt ho hb).1
  refine ⟨fun e => ?_, ?_⟩
  · have := (hk.2.2.1.head e).2.1; omega
  · have : m < W.heap.size := block_lt_of_cell hk.2.2.1.1.1
    omega

set_option maxHeartbeats 1000000 in
theorem stages_any (s k m : Nat) (pv sv : Value) (P : List Prt) (K : List Mc) (port : Int) (d : ByteArray) (w W0 : World) (h : SwP w s pv P k m sv K) (hP : P.length ≤ 8) (hn : K.length ≤ 64) (hnat : ∀ p ∈ P, (Lit.int .i64 p.nat).wf = true)
    (unp : Pg → Pg) (jud : Pg → Option (Int × List (Int × ByteArray))) (rou : Pg → Int ⊕ Pg) (hM : Middle w s k m sv P port d unp jud rou) (h0 : Mid w s k m sv ⟨port, d, zeroFr, ⟨#[]⟩, 0, 0, false, false⟩ K W0) :
    Calls Tryz.prog 55 #[.pointer (some ⟨w.heap.size, 0, none⟩), .slice (some ⟨w.heap.size + 1, 0, none⟩) 8 8] W0 fun e w' => ∃ r : Int, e = .returned (.int .i64 r) ∧ FrameOut w k m sv (FrameR P K unp jud rou port d) r w' := by
  refine pass_any s w.heap.size (w.heap.size + 1) (stI w s k m sv P K port d unp jud rou) _ W0 h0 stI_st ?_ ?_ ?_ ?_ ?_ ?_ ?_ ?_ ?_
  · -- enter
    intro W hW
    obtain ⟨c0, cp, c5, cm⟩ := h.kept hW.ch
    refine (enter_any s w.heap.size pv P _ _ W c0 cp hW.pg).mono ?_
    rintro e W' ⟨rfl, rfl⟩
    by_cases hv : 0 ≤ port ∧ port < P.length
    · refine ⟨-1, ?_, .inl ⟨rfl, hv, hW⟩⟩
      simp [hv.1, hv.2]
    · refine ⟨9, ?_, .inr ⟨by decide, FrameOut.none (.unknown hv) hW.pg hW.kn hW.ch⟩⟩
      have : (decide (0 ≤ port) && decide (port < P.length)) = false := by
        rw [← Bool.not_eq_true, Bool.and_eq_true, decide_eq_true_eq, decide_eq_true_eq]; exact hv
      show Ending.returned (.int .i64 (if (decide (0 ≤ port) && decide (port < P.length)) = true then -1 else 9)) = _
      rw [this]; rfl
  · -- read
    rintro W ⟨hv, hW⟩
    obtain ⟨c0, cp, c5, cm⟩ := h.kept hW.ch
    refine (pgRead_any w.heap.size _ _ W hW.pg cm).mono ?_
    rintro e W' ⟨rfl, h1, h2, h3⟩
    refine ⟨_, rfl, ?_⟩
    by_cases hf : fateRead d = -1
    · obtain ⟨f, hf1, hf2⟩ := h1 hf
      exact .inl ⟨hf, hv, hf, f, hf1, hW.only h h3 hf2⟩
    · exact .inr ⟨hf, FrameOut.none (.bad hv hf) (h2 hf) (mid_keep h hW.kn h3) (hW.ch.only h3)⟩
  · -- admit
    rintro W ⟨hv, hf, f, hf1, hW⟩
    obtain ⟨c0, cp, c5, cm⟩ := h.kept hW.ch
    have hk : port.toNat < P.length := by omega
    have hsg : s ≠ w.heap.size := by have : s < w.heap.size := block_lt_of_cell h.h0; omega
    refine (admit_any s w.heap.size pv P _ _ port.toNat W c0 cp hW.pg hk (by show port = _; omega) hsg (read_wf hf1).1 (hnat _ (List.getElem_mem hk))).mono ?_
    rintro e W' ⟨rfl, h1, h2⟩
    rw [← pAt_eq hk] at h1 ⊢
    cases hb : barredAt (pAt P port.toNat) f with
    | true => exact ⟨3, rfl, .inr ⟨by decide, FrameOut.none (.barred f hv hf hf1 hb) h1 (mid_keep h hW.kn h2) (hW.ch.only h2)⟩⟩
    | false => exact ⟨-1, rfl, .inl ⟨rfl, hv, hf, f, hf1, hb, hW.only h h2 h1⟩⟩
  · -- learn
    rintro W ⟨hv, hf, f, hf1, hb, hW⟩
    obtain ⟨c0, cp, c5, cm⟩ := h.kept hW.ch
    obtain ⟨sv', hk, hb'⟩ := hW.kn
    have hslt : s < w.heap.size := block_lt_of_cell h.h0
    have hmlt : m < w.heap.size := block_lt_of_cell h.hK.2.2.1.1.1
    have nS : ¬ (s = m ∨ sv'.ownBlock = some s) := by
      rintro (e | e)
      · exact h.not_s (.inl e)
      · rcases hb' _ e with e' | e'
        · exact h.not_s (.inr e')
        · omega
    have nG : ∀ x, w.heap.size ≤ x → x ≤ w.heap.size + 1 → ¬ (x = m ∨ sv'.ownBlock = some x) := by
      rintro x h1 h2 (e | e)
      · omega
      · rcases hb' _ e with e' | e'
        · have := (h.hK.2.2.1.head e').2.1; omega
        · omega
    have hws := hW.size
    refine (learnS_any s w.heap.size k m sv' K _ _ W c5 hk hW.pg (by have := (read_wf hf1).2.1; show f.fr.size ≤ 1000; omega) hn nS (nG _ (Nat.le_refl _) (by omega))).mono ?_
    rintro e W' ⟨rfl, hq⟩
    obtain ⟨sv2, K', q1, q2, q3, q4⟩ := hq.learnK
    refine ⟨-1, rfl, .inl ⟨rfl, f, K', ⟨hv, hf, hf1, hb, q2⟩, ?_⟩⟩
    refine ⟨(q4.block _ (by omega) (nG _ (Nat.le_refl _) (by omega))).trans hW.pg, (q4.block _ (by omega) (nG _ (by omega) (Nat.le_refl _))).trans hW.st, ⟨sv2, q1, fun b hb2 => ?_⟩, ?_⟩
    · rcases q3 b hb2 with e | e
      · exact hb' b e
      · exact .inr (by omega)
    · refine ⟨q4.os.trans hW.ch.os, q4.tape.trans hW.ch.tape, q4.output.trans hW.ch.output, Nat.le_trans hW.ch.size q4.size, fun b hb2 hx => (q4.block b (by omega) ?_).trans (hW.ch.block b hb2 hx)⟩
      rintro (e | e)
      · exact hx (.inl e)
      · rcases hb' _ e with e' | e'
        · exact hx (.inr e')
        · omega
  · -- unpack
    rintro W ⟨f, K', ha, hW⟩
    refine (hM.hU f K' W ha.2.2.1 ha.1 (fateRead_size ha.2.1) hW).mono ?_
    rintro e W' ⟨rfl, h1, h2⟩
    exact ⟨-1, rfl, .inl ⟨rfl, f, K', ha, hW.only h h2 h1⟩⟩
  · -- judge
    rintro W ⟨f, K', ha, hW⟩
    refine (hM.hJ f K' W ha.2.2.1 ha.1 (fateRead_size ha.2.1) hW).mono ?_
    rintro e W' ⟨r, rfl, ⟨rfl, h1, h2, h3⟩ | ⟨hr, L, ov, h1, h2, h3, h4⟩⟩
    · exact ⟨-1, rfl, .inl ⟨rfl, f, K', ha, h1, hW.only h h3 h2⟩⟩
    · obtain ⟨sv', hk, hb'⟩ := hW.kn
      obtain ⟨sv2, hk2, hb2⟩ := mid_keep h ⟨sv', hk, hb'⟩ h4
      have hk' : KnownAt W' k m sv' K' := hk.keep fun b hb hx => h4.2.2.2.2 b hb (by
        rintro rfl
        rcases hx with e | e | e
        · have : k < w.heap.size := block_lt_of_cell h.hK.1
          omega
        · have : m < w.heap.size := block_lt_of_cell h.hK.2.2.1.1.1
          omega
        · rcases hb' _ e with e' | e'
          · have := (h.hK.2.2.1.head e').2.1; omega
          · omega)
      exact ⟨r, rfl, .inr ⟨hr, L, K', _, ov, sv', .judged f K' r L ha.1 ha.2.1 ha.2.2.1 ha.2.2.2.1 ha.2.2.2.2 h1, h2, ownsRow_base h3 (by have := hW.size; omega), hk', fun b hb => (hb' b hb).imp id (by omega), outs_apart h hk h3, hW.ch.only h4⟩⟩
  · -- route
    rintro W ⟨f, K', ha, hj, hW⟩
    refine (hM.hR f K' W ha.2.2.1 ha.1 (fateRead_size ha.2.1) hW).mono ?_
    rintro e W' ⟨r, rfl, ⟨rfl, q, h1, h2, h3, h4⟩ | ⟨hr, h1, h2, h3⟩⟩
    · exact ⟨-1, rfl, .inl ⟨rfl, f, K', q, ha, hj, h1, h2, hW.only h h4 h3⟩⟩
    · exact ⟨r, rfl, .inr ⟨hr, FrameOut.none (.stopped f K' r ha.1 ha.2.1 ha.2.2.1 ha.2.2.2.1 ha.2.2.2.2 hj h1) h2 (mid_keep h hW.kn h3) (hW.ch.only h3)⟩⟩
  · -- forward
    rintro W ⟨f, K', q, ha, hj, hr, hq, hW⟩
    obtain ⟨c0, cp, c5, cm⟩ := h.kept hW.ch
    obtain ⟨sv', hk, hb'⟩ := hW.kn
    refine (forward_any s w.heap.size k m pv sv' P K' q W c0 c5 cp hk hW.pg hP hq.1 hq.2).mono ?_
    rintro e W' ⟨rfl, v, h1, h2, h3, h4⟩
    have hG := h4.onlyG
    have hk' : KnownAt W' k m sv' K' := hk.keep fun b hb hx => hG.2.2.2.2 b hb (by
        rintro rfl
        rcases hx with e | e | e
        · have : k < w.heap.size := block_lt_of_cell h.hK.1
          omega
        · have : m < w.heap.size := block_lt_of_cell h.hK.2.2.1.1.1
          omega
        · rcases hb' _ e with e' | e'
          · have := (h.hK.2.2.1.head e').2.1; omega
          · omega)
    have hsl : ∃ a cap, v = .slice a (fwdO P q (portOf (known K' q.f.vlan q.f.to)) (known K' q.f.vlan q.f.to).isSome P.length).length cap := by
      rcases h2.2 with ⟨e, e0⟩ | ⟨g, cap, cur, e, _⟩
      · exact ⟨none, 0, by rw [e, e0]⟩
      · exact ⟨_, cap, e⟩
    obtain ⟨a, cap, rfl⟩ := hsl
    refine ⟨-1, rfl, .inl ⟨rfl, (hG.2.2.2.2 _ (by have := hW.size; omega) (by omega)).trans hW.st, f, K', q, a, _, cap, ha, hj, hr, rfl, h1, _, K', q, _, sv', ⟨rfl, rfl, rfl⟩, h1, ownsRow_base h2 (by have := hW.size; omega), hk', fun b hb => (hb' b hb).imp id (by omega), outs_apart h hk h2, hW.ch.only hG⟩⟩
  · -- left
    rintro W ⟨_, f, K', q, a, n, cap, ha, hj, hr, hn', hpg, L, K2, p2, ov, sv', ⟨_, rfl, rfl⟩, h1, h2, h3, h4, h5, h6⟩
    refine (left_any w.heap.size n cap a q W hpg).mono ?_
    rintro e W' ⟨rfl, rfl⟩
    refine ⟨_, rfl, _, K2, p2, ov, sv', ?_, h1, h2, h3, h4, h5, h6⟩
    rw [hn']
    exact .out f K2 q ha.1 ha.2.1 ha.2.2.1 ha.2.2.2.1 ha.2.2.2.2 hj hr
end Go.Proofs.YtnjalelblbjfiaaGreatDoor

namespace Go.Proofs.YtnjalelblbjfiaaGreatDoor
open Go.RowKit
open Go.Sort (grow)

/-- What a call of Frame leaves, the passage left out. -/
def FrameEnd (w : World) (k m : Nat) (sv : Value) (R : Int → List (Int × ByteArray) → List Mc → Prop) (e : Ending) (W : World) : Prop :=
  ∃ r L K' ov sv', e = .returned (.tuple #[ov, .int .i64 r]) ∧ R r L K' ∧ W.ownsRow w.heap.size 66 2 ov L.length (rowO L) ∧ KnownAt W k m sv' K' ∧ (∀ b, sv'.ownBlock = some b → sv.ownBlock = some b ∨ w.heap.size ≤ b) ∧ (∀ b, ov.ownBlock = some b → sv'.ownBlock ≠ some b ∧ b ≠ m) ∧ Chg (KX m sv) w W

set_option maxRecDepth 100000 in
set_option maxHeartbeats 1000000 in
theorem sFrame_of (s k m : Nat) (pv sv : Value) (P : List Prt) (K : List Mc) (port : Int) (d : ByteArray) (w : World) (h : SwP w s pv P k m sv K) (hP : P.length ≤ 8) (hn : K.length ≤ 64) (hnat : ∀ p ∈ P, (Lit.int .i64 p.nat).wf = true)
    (unp : Pg → Pg) (jud : Pg → Option (Int × List (Int × ByteArray))) (rou : Pg → Int ⊕ Pg) (hM : Middle w s k m sv P port d unp jud rou) :
    Calls Tryz.prog 20 #[.pointer (some ⟨s, 0, none⟩), .int .i64 port, .string d] w (FrameEnd w k m sv (FrameR P K unp jud rou port d)) := by
  obtain ⟨W0, hW0⟩ : ∃ W0, W0 = (w.alloc (.cells (pgCells ⟨port, d, zeroFr, ⟨#[]⟩, 0, 0, false, false⟩ (.slice none 0 0)) 150)).alloc (.cells (stageCells s) 217) := ⟨_, rfl⟩
  have hB : Below w.heap.size w W0 := by rw [hW0]; exact ((Below.refl _ w).alloc (Nat.le_refl _) _).alloc (by simp) _
  have hMid : Mid w s k m sv ⟨port, d, zeroFr, ⟨#[]⟩, 0, 0, false, false⟩ K W0 := by
    refine ⟨?_, ?_, ⟨sv, h.hK.below hB, fun b hb => .inl hb⟩, Chg.of_below hB⟩
    · rw [hW0]
      exact (((Below.refl _ (w.alloc _)).alloc (Nat.le_refl _) _).block _ (by simp)).trans (allocN _ _)
    · rw [hW0]
      have := allocN (w.alloc (.cells (pgCells ⟨port, d, zeroFr, ⟨#[]⟩, 0, 0, false, false⟩ (.slice none 0 0)) 150)) (.cells (stageCells s) 217)
      rwa [World.size_alloc] at this
  have C := hide (stages_any s k m pv sv P K port d w W0 h hP hn hnat unp jud rou hM hMid)
  simp only [pgCells, zeroFr, stageCells] at hW0
  have HW := hide hW0
  clear hW0 hB hMid hM h
  go_enter Tryz.func20, Tryz.ntmps20
  go_wp2_with fail
  rw [← HW.out]
  refine C.out.mono ?_
  rintro e W' ⟨r, rfl, L, K', p, ov, sv', h1, h2, h3, h4, h5, h6, h7⟩
  have g14 : W'.cell? ⟨w.heap.size, 14, none⟩ = some ov := h2.cell rfl
  have HR : Hid (FrameEnd w k m sv (FrameR P K unp jud rou port d) (.returned (.tuple #[ov, .int .i64 r])) W') := hide ⟨r, L, K', ov, sv', rfl, h1, h3, h4, h5, h6, h7⟩
  clear h1 h2 h3 h4 h5 h6 h7 C HW
  go_wp2
  go_ret2
  exact HR.out

/-- A frame that bears no IPv4. -/
theorem middleN (s k m : Nat) (pv sv : Value) (P : List Prt) (K : List Mc) (port : Int) (d : ByteArray) (w : World) (h : SwP w s pv P k m sv K) (hnat : ∀ p ∈ P, (Lit.int .i64 p.nat).wf = true) (hk : ∀ f, readF d = some f → (kind2 f.ty == 2) = false) : Middle w s k m sv P port d id (fun _ => none) .inr := by
  refine ⟨fun f K' W hf _ _ hW => ?_, fun f K' W hf _ _ hW => ?_, fun f K' W hf hv hd hW => ?_⟩
  · obtain ⟨_, _, _, cm⟩ := h.kept hW.ch
    refine (unpackN_any w.heap.size _ _ W hW.pg cm (hk f hf)).mono ?_
    rintro e W' ⟨rfl, hb⟩
    exact ⟨rfl, hW.pg.below hb, OnlyG.of_below hb⟩
  · refine (judgeN_any s w.heap.size _ _ W hW.pg rfl).mono ?_
    rintro e W' ⟨rfl, rfl⟩
    exact ⟨-1, rfl, .inl ⟨rfl, rfl, hW.pg, OnlyG.of_below (Below.refl _ _)⟩⟩
  · obtain ⟨_, _, _, cm⟩ := h.kept hW.ch
    refine (routeN_any s w.heap.size _ _ W hW.pg cm (hk f hf)).mono ?_
    rintro e W' ⟨rfl, hb⟩
    have hw := read_wf hf
    refine ⟨-1, rfl, .inl ⟨rfl, _, rfl, ⟨vlanAt_wf hv hnat hw.1, ?_⟩, hW.pg.below hb, OnlyG.of_below hb⟩⟩
    show f.to.size + f.fr.size + f.ty.size + f.rest.size ≤ 1000
    omega
end Go.Proofs.YtnjalelblbjfiaaGreatDoor

namespace Go.Proofs.YtnjalelblbjfiaaGreatDoor
open Go.RowKit

/-- The bytes of a list. -/
def ofL (l : List UInt8) : ByteArray := ⟨l.toArray⟩
theorem ofL_toList (l : List UInt8) : (ofL l).toList = l := by rw [ByteArray.toList_eq]; simp [ofL]
theorem ofL_append (a b : List UInt8) : ofL a ++ ofL b = ofL (a ++ b) := by
  refine ba_ext ?_
  rw [ofL_toList, ByteArray.toList_eq]
  simp [ofL]
theorem ofL_size (l : List UInt8) : (ofL l).size = l.length := by simp [ofL, ByteArray.size]
theorem ofL_extract (l : List UInt8) (i j : Nat) : (ofL l).extract i j = ofL ((l.take j).drop i) := by
  refine ba_ext ?_
  rw [ofL_toList, ByteArray.toList_eq]
  simp [ofL, ByteArray.data_extract, List.extract_eq_take_drop, List.drop_take]
theorem ofL_get (l : List UInt8) (i : Nat) (h : i < (ofL l).size) : (ofL l)[i] = l[i]'(by rw [ofL_size] at h; exact h) := by
  simp [ofL, ByteArray.getElem_eq_getElem_data]

/-- A frame without a tag, as it is read. -/
theorem read_plain (to fr rest : List UInt8) (a b : UInt8) (ht : to.length = 6) (hf : fr.length = 6) (hk : ¬ (a = 129 ∧ b = 0)) : readF (ofL (to ++ fr ++ [a, b] ++ rest)) = some ⟨ofL to, ofL fr, false, 0, 0, ofL [a, b], ofL rest⟩ := by
  have hs : (ofL (to ++ fr ++ [a, b] ++ rest)).size = 14 + rest.length := by rw [ofL_size]; simp; omega
  have e1 : (ofL (to ++ fr ++ [a, b] ++ rest)).extract 0 6 = ofL to := by
    rw [ofL_extract]
    simp [ht]
  have e2 : (ofL (to ++ fr ++ [a, b] ++ rest)).extract 6 12 = ofL fr := by
    rw [ofL_extract]
    simp [List.take_append, ht, hf, List.take_of_length_le]
  have e3 : (ofL (to ++ fr ++ [a, b] ++ rest)).extract 12 14 = ofL [a, b] := by
    rw [ofL_extract]
    simp [List.take_append, List.drop_append, ht, hf, List.take_of_length_le, List.drop_eq_nil_of_le]
  have e4 : (ofL (to ++ fr ++ [a, b] ++ rest)).extract 14 (ofL (to ++ fr ++ [a, b] ++ rest)).size = ofL rest := by
    rw [hs, ofL_extract, List.take_of_length_le (by simp; omega), List.drop_left' (by simp [ht, hf])]
  have hk2 : kind2 (ofL [a, b]) ≠ 1 := by
    unfold kind2 kindN
    rw [ofL_toList]
    have : ((⟨#[129, 0]⟩ : ByteArray).toList == [a, b]) = false := by
      rw [show (⟨#[129, 0]⟩ : ByteArray) = ofL [129, 0] from rfl, ofL_toList]
      simp only [beq_eq_false_iff_ne, ne_eq, List.cons.injEq, and_true]
      rintro ⟨rfl, rfl⟩
      exact hk ⟨rfl, rfl⟩
    rw [this]
    simp only [Bool.false_eq_true, if_false]
    split <;> decide
  unfold readF
  rw [e3, if_neg (by omega), if_neg hk2, e1, e2, e4]

/-- A frame without IPv4 that goes out where its VLAN is native is as it came. -/
theorem out_plain (p : Prt) (f : Fr) (hv : f.vlan = p.nat) : outF p f = f.to ++ f.fr ++ f.ty ++ f.rest := by
  unfold outF bytesF
  have : (f.vlan != p.nat) = false := by rw [hv]; simp
  rw [this]
  show f.to ++ f.fr ++ ofL [] ++ f.ty ++ f.rest = _
  refine ba_ext ?_
  simp [ByteArray.toList_eq, ofL]
end Go.Proofs.YtnjalelblbjfiaaGreatDoor
