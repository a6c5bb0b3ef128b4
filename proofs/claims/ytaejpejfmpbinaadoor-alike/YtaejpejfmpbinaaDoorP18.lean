import Derived.Test.YtaejpejfmpbinaaDoorP17
import Derived.ChangeKeysEq
namespace Go.Proofs.YtaejpejfmpbinaaDoor
open Go.RowKit

theorem TabIs.foreign {w : World} {t : Nat} {F : Nat → Prop} {L : List Ent} (h : TabIs w t F L) {x : Nat} (hx : F x) : Foreign w x := by
  obtain ⟨b1, b2, sv1, sv2, LI, T, _, _, rfl⟩ := h
  exact T.foreign hx
theorem TabIs.sorted {w : World} {t : Nat} {F : Nat → Prop} {L : List Ent} (h : TabIs w t F L) : Sorted L := by
  obtain ⟨b1, b2, sv1, sv2, LI, T, _, _, rfl⟩ := h
  exact T.sR
/-- A table is as it was behind a call of another one. -/
theorem TabIs.beside {w w' : World} {u : Nat} {F G : Nat → Prop} {M : List Ent} (h : TabIs w u G M) (hc : Chg F w w') (hf : ∀ x, F x → Foreign w x) (ha : ∀ x, G x → ¬ F x) : TabIs w' u G M := by
  obtain ⟨b1, b2, sv1, sv2, LI, T, hm, hl, rfl⟩ := h
  exact ⟨b1, b2, sv1, sv2, LI, T.kept hc hf ha, hm, hl, rfl⟩

/-- Two tables, both made since w. -/
structure Two (w wr : World) (t : Nat) (F : Nat → Prop) (L : List Ent) (u : Nat) (G : Nat → Prop) (M : List Ent) : Prop where
  tt : TabIs wr t F L
  tu : TabIs wr u G M
  apart : ∀ x, F x → ¬ G x
  ft : ∀ x, F x → w.heap.size ≤ x
  fu : ∀ x, G x → w.heap.size ≤ x
  below : Below w.heap.size w wr
section
variable {w wr wr' : World} {t u : Nat} {F G : Nat → Prop} {L M : List Ent}
theorem Two.still (h : Two w wr t F L u G M) (hb : Below wr.heap.size wr wr') : Two w wr' t F L u G M :=
  ⟨h.tt.still hb, h.tu.still hb, h.apart, h.ft, h.fu, h.below.trans (hb.mono h.below.size)⟩
theorem Two.swap (h : Two w wr t F L u G M) : Two w wr u G M t F L := ⟨h.tu, h.tt, fun x hg hf => h.apart x hf hg, h.fu, h.ft, h.below⟩
theorem Two.ins {w2 : World} {R : Rl} (h : Two w wr t F L u G M) (hI : InsTab wr w2 t F L R) (hc : insCode L R = 0) : ∃ F2 L2 b, Two w w2 t F2 L2 u G M ∧ (∀ x, x ∈ L2 ↔ x = (b, R) ∨ x ∈ L) ∧ L2.length = L.length + 1 := by
  obtain ⟨F2, L2, hT2, hF2, hC2, hL2⟩ := hI
  rw [if_pos hc] at hL2
  obtain ⟨b, hm, hlen⟩ := hL2
  refine ⟨F2, L2, b, ⟨hT2, h.tu.beside hC2 (fun _ hx => h.tt.foreign hx) (fun x hg hf => h.apart x hf hg), fun x hx hg => ?_, fun x hx => ?_, h.fu, h.below.trans (hC2.below h.below.size h.ft)⟩, hm, hlen⟩
  · rcases hF2 x hx with hf | hf
    · exact h.apart x hf hg
    · have := h.tu.lt hg; omega
  · exact (hF2 x hx).elim (h.ft x) (fun hx => Nat.le_trans h.below.size hx)
theorem Two.del {w2 : World} {L2 : List Ent} (h : Two w wr t F L u G M) (hT : TabIs w2 t F L2) (hC : Chg F wr w2) : Two w w2 t F L2 u G M :=
  ⟨hT, h.tu.beside hC (fun _ hx => h.tt.foreign hx) (fun x hg hf => h.apart x hf hg), h.apart, h.ft, h.fu, h.below.trans (hC.below h.below.size h.ft)⟩
end

/-- Just the rules of S stand in the table. -/
def Has (L : List Ent) (S : Rl → Prop) : Prop := ∀ r, (∃ c, (c, r) ∈ L) ↔ S r
section
variable {L M : List Ent} {S : Rl → Prop}
theorem Has.nil : Has [] fun _ => False := fun r => by simp
theorem Has.congr (h : Has L S) {S' : Rl → Prop} (hs : ∀ r, S r ↔ S' r) : Has L S' := fun r => (h r).trans (hs r)
theorem Has.ins {L2 : List Ent} {b : Nat} {R : Rl} (h : Has L S) (hm : ∀ x, x ∈ L2 ↔ x = (b, R) ∨ x ∈ L) : Has L2 fun r => r = R ∨ S r := fun r => by
  constructor
  · rintro ⟨c, hc⟩
    rcases (hm _).1 hc with e | e
    · exact .inl (congrArg Prod.snd e)
    · exact .inr ((h r).1 ⟨c, e⟩)
  · rintro (rfl | hs)
    · exact ⟨b, (hm _).2 (.inl rfl)⟩
    · obtain ⟨c, hc⟩ := (h r).2 hs
      exact ⟨c, (hm _).2 (.inr hc)⟩
theorem Has.del (h : Has L S) (x : Int) : Has (L.filter fun a => a.2.id != x) fun r => S r ∧ r.id ≠ x := fun r => by
  constructor
  · rintro ⟨c, hc⟩
    have := List.mem_filter.1 hc
    exact ⟨(h r).1 ⟨c, this.1⟩, by simpa using this.2⟩
  · rintro ⟨hs, hne⟩
    obtain ⟨c, hc⟩ := (h r).2 hs
    exact ⟨c, List.mem_filter.2 ⟨hc, by simpa using hne⟩⟩
theorem Has.code {R : Rl} (h : Has L S) (hok : R.ok = true) (hn : L.length < 200) (hid : ∀ r, S r → r.id ≠ R.id) : insCode L R = 0 := by
  have h1 : (L.any fun a => a.2.id == R.id) = false := by
    rw [List.any_eq_false]
    intro a ha
    simpa using hid a.2 ((h a.2).1 ⟨a.1, ha⟩)
  unfold insCode
  rw [hok, if_pos rfl, h1, if_neg (by decide), if_neg (by omega)]
theorem rsorted_ext : ∀ {A B : List Rl}, A.Pairwise (fun a b => a.before b = true) → B.Pairwise (fun a b => a.before b = true) → (∀ x, x ∈ A ↔ x ∈ B) → A = B
  | [], [], _, _, _ => rfl
  | [], b :: B, _, _, h => absurd ((h b).2 (by simp)) (by simp)
  | a :: A, [], _, _, h => absurd ((h a).1 (by simp)) (by simp)
  | a :: A, b :: B, ha, hb, h => by
    have ha' := List.pairwise_cons.1 ha
    have hb' := List.pairwise_cons.1 hb
    have e : a = b := by
      rcases List.mem_cons.1 ((h a).1 (by simp)) with e | h1
      · exact e
      · rcases List.mem_cons.1 ((h b).2 (by simp)) with e | h2
        · exact e.symm
        · have x1 := hb'.1 a h1
          have x2 := ha'.1 b h2
          rw [Rl.before_asymm x1] at x2
          cases x2
    subst e
    congr 1
    refine rsorted_ext ha'.2 hb'.2 fun x => ⟨fun hx => ?_, fun hx => ?_⟩
    · rcases List.mem_cons.1 ((h x).1 (List.mem_cons_of_mem _ hx)) with e | h1
      · subst e
        have := ha'.1 x hx
        rw [Rl.before_irrefl] at this; cases this
      · exact h1
    · rcases List.mem_cons.1 ((h x).2 (List.mem_cons_of_mem _ hx)) with e | h1
      · subst e
        have := hb'.1 x hx
        rw [Rl.before_irrefl] at this; cases this
      · exact h1
/-- Tables of the same rules list the same. -/
theorem Has.same (h : Has L S) (k : Has M S) (hL : Sorted L) (hM : Sorted M) : L.map (·.2) = M.map (·.2) := by
  refine rsorted_ext (List.pairwise_map.2 hL) (List.pairwise_map.2 hM) fun r => ?_
  have e : ∀ (K : List Ent), r ∈ K.map (·.2) ↔ ∃ c, (c, r) ∈ K := fun K => by
    rw [List.mem_map]
    exact ⟨fun ⟨x, hx, e⟩ => ⟨x.1, by rw [← e]; exact hx⟩, fun ⟨c, hc⟩ => ⟨_, hc, rfl⟩⟩
  rw [e, e, h r, k r]
/-- .. and find the same. -/
theorem Has.find (h : Has L S) (k : Has M S) {x0 x1 x2 x3 x4 a b c d : Int} (hf : FindIs L x0 x1 x2 x3 x4 a b) (kf : FindIs M x0 x1 x2 x3 x4 c d) : a = c ∧ b = d := by
  unfold FindIs at hf kf
  by_cases hk : keyB x0 x1 x2 x3 x4 = true
  · rw [if_pos hk] at hf kf
    obtain ⟨r1, f1, rfl, rfl⟩ := hf
    obtain ⟨r2, f2, rfl, rfl⟩ := kf
    have hLM : ∀ e, e ∈ L → ∃ c, (c, e.2) ∈ M := fun e he => (k e.2).2 ((h e.2).1 ⟨e.1, he⟩)
    have hML : ∀ e, e ∈ M → ∃ c, (c, e.2) ∈ L := fun e he => (h e.2).2 ((k e.2).1 ⟨e.1, he⟩)
    cases r1 with
    | none =>
      cases r2 with
      | none => exact ⟨rfl, rfl⟩
      | some r =>
        obtain ⟨c, hc⟩ := hML r f2.1
        have := f1 _ hc
        rw [f2.2.1] at this; cases this
    | some q =>
      cases r2 with
      | none =>
        obtain ⟨c, hc⟩ := hLM q f1.1
        have := f2 _ hc
        rw [f1.2.1] at this; cases this
      | some r =>
        obtain ⟨c1, hc1⟩ := hML r f2.1
        obtain ⟨c2, hc2⟩ := hLM q f1.1
        have b1 := f1.2.2 _ hc1 f2.2.1
        have b2 := f2.2.2 _ hc2 f1.2.1
        rw [← Bool.not_eq_true, Rl.before_iff] at b1 b2
        refine ⟨?_, rfl⟩
        show q.2.id = r.2.id
        simp only at b1 b2
        omega
  · rw [if_neg hk] at hf kf
    exact ⟨hf.1.trans kf.1.symm, hf.2.trans kf.2.symm⟩
end

/-- A list of raw numbers that came in, and the rules that are made of them. -/
def RawsR (w : World) (ad : Option Addr) (n g off : Nat) (idf : Nat → Int) (rl : Nat → Rl) : Prop := (0 < n → ad = some ⟨g, off, none⟩) ∧ ∀ j, j < n → ∃ (pr : Int) (kd a b : Nat → Int), w.rangeAt g (off + j * 16) [.int .i64 pr, .int .i64 (kd 0), .int .i64 (kd 1), .int .i64 (kd 2), .int .i64 (kd 3), .int .i64 (kd 4), .int .i64 (a 0), .int .i64 (a 1), .int .i64 (a 2), .int .i64 (a 3), .int .i64 (a 4), .int .i64 (b 0), .int .i64 (b 1), .int .i64 (b 2), .int .i64 (b 3), .int .i64 (b 4)] ∧ (-9223372036854775808 ≤ pr ∧ pr ≤ 9223372036854775807) ∧ (∀ j, j < 5 → -9223372036854775808 ≤ kd j ∧ kd j ≤ 9223372036854775807) ∧ (∀ j, j < 5 → -9223372036854775808 ≤ a j ∧ a j ≤ 9223372036854775807) ∧ (∀ j, j < 5 → -9223372036854775808 ≤ b j ∧ b j ≤ 9223372036854775807) ∧ rl j = ruleV pr kd a b (idf j)
theorem RawsAt.rules {w : World} {ad : Option Addr} {n g off : Nat} (h : RawsAt w ad n g off) (idf : Nat → Int) : ∃ rl, RawsR w ad n g off idf rl := by
  have ex : ∀ j : Nat, ∃ r : Rl, j < n → ∃ (pr : Int) (kd a b : Nat → Int), w.rangeAt g (off + j * 16) [.int .i64 pr, .int .i64 (kd 0), .int .i64 (kd 1), .int .i64 (kd 2), .int .i64 (kd 3), .int .i64 (kd 4), .int .i64 (a 0), .int .i64 (a 1), .int .i64 (a 2), .int .i64 (a 3), .int .i64 (a 4), .int .i64 (b 0), .int .i64 (b 1), .int .i64 (b 2), .int .i64 (b 3), .int .i64 (b 4)] ∧ (-9223372036854775808 ≤ pr ∧ pr ≤ 9223372036854775807) ∧ (∀ j, j < 5 → -9223372036854775808 ≤ kd j ∧ kd j ≤ 9223372036854775807) ∧ (∀ j, j < 5 → -9223372036854775808 ≤ a j ∧ a j ≤ 9223372036854775807) ∧ (∀ j, j < 5 → -9223372036854775808 ≤ b j ∧ b j ≤ 9223372036854775807) ∧ r = ruleV pr kd a b (idf j) := fun j => by
    by_cases hj : j < n
    · obtain ⟨pr, kd, a, b, h1, h2, h3, h4, h5⟩ := h.2 j hj
      exact ⟨_, fun _ => ⟨pr, kd, a, b, h1, h2, h3, h4, h5, rfl⟩⟩
    · exact ⟨rl7, fun h => absurd h hj⟩
  obtain ⟨rl, hrl⟩ := Classical.axiomOfChoice ex
  exact ⟨rl, h.1, hrl⟩
theorem RawsR.id {w : World} {ad : Option Addr} {n g off : Nat} {idf : Nat → Int} {rl : Nat → Rl} (h : RawsR w ad n g off idf rl) {j : Nat} (hj : j < n) : (rl j).id = idf j := by
  obtain ⟨pr, kd, a, b, _, _, _, _, _, e⟩ := h.2 j hj
  rw [e]; rfl
theorem RawsR.ok {w : World} {ad : Option Addr} {n g off : Nat} {idf : Nat → Int} {rl : Nat → Rl} (h : RawsR w ad n g off idf rl) {j : Nat} (hj : j < n) (h0 : 0 ≤ idf j) : (rl j).ok = true := by
  obtain ⟨pr, kd, a, b, _, _, _, _, _, e⟩ := h.2 j hj
  rw [e]; exact ruleV_ok pr kd a b _ h0

/-- What u holds when the raw rules from k on have come in. -/
def setC (rl ol : Nat → Rl) (n m k : Nat) (r : Rl) : Prop := (∃ j, k ≤ j ∧ j < n ∧ r = rl j) ∨ ∃ j, j < m ∧ (j < k ∨ n ≤ j) ∧ r = ol j
def setD (rl ol : Nat → Rl) (n m i : Nat) (r : Rl) : Prop := (∃ j, j < n ∧ r = rl j) ∨ ∃ j, i ≤ j ∧ j < m ∧ r = ol j
section
variable {rl ol : Nat → Rl} {n m k : Nat}
theorem setC_start (r : Rl) : (∃ j, j < m ∧ r = ol j) ↔ setC rl ol n m n r := by
  constructor
  · rintro ⟨j, hj, e⟩
    exact .inr ⟨j, hj, by omega, e⟩
  · rintro (⟨j, h1, h2, _⟩ | ⟨j, hj, _, e⟩)
    · omega
    · exact ⟨j, hj, e⟩
theorem setC_keep (hk : k < n) (hm : ¬ k < m) (r : Rl) : (r = rl k ∨ setC rl ol n m (k + 1) r) ↔ setC rl ol n m k r := by
  constructor
  · rintro (e | ⟨j, h1, h2, e⟩ | ⟨j, h1, h2, e⟩)
    · exact .inl ⟨k, by omega, hk, e⟩
    · exact .inl ⟨j, by omega, h2, e⟩
    · exact .inr ⟨j, h1, by omega, e⟩
  · rintro (⟨j, h1, h2, e⟩ | ⟨j, h1, h2, e⟩)
    · by_cases hjk : j = k
      · exact .inl (hjk ▸ e)
      · exact .inr (.inl ⟨j, by omega, h2, e⟩)
    · exact .inr (.inr ⟨j, h1, by omega, e⟩)
theorem setC_cut (hk : k < n) (hn : n ≤ 1000) (hrl : ∀ j, j < n → (rl j).id = j) (hol : ∀ j, j < m → (ol j).id = 1000 + (j : Int)) (r : Rl) : ((r = rl k ∨ setC rl ol n m (k + 1) r) ∧ r.id ≠ 1000 + (k : Int)) ↔ setC rl ol n m k r := by
  constructor
  · rintro ⟨e | ⟨j, h1, h2, e⟩ | ⟨j, h1, h2, e⟩, hne⟩
    · exact .inl ⟨k, by omega, hk, e⟩
    · exact .inl ⟨j, by omega, h2, e⟩
    · refine .inr ⟨j, h1, ?_, e⟩
      rw [e, hol j h1] at hne
      omega
  · rintro (⟨j, h1, h2, e⟩ | ⟨j, h1, h2, e⟩)
    · refine ⟨?_, by rw [e, hrl j h2]; omega⟩
      by_cases hjk : j = k
      · exact .inl (hjk ▸ e)
      · exact .inr (.inl ⟨j, by omega, h2, e⟩)
    · exact ⟨.inr (.inr ⟨j, h1, by omega, e⟩), by rw [e, hol j h1]; omega⟩
theorem setC_ids (hk : k < n) (hn : n ≤ 1000) (hrl : ∀ j, j < n → (rl j).id = j) (hol : ∀ j, j < m → (ol j).id = 1000 + (j : Int)) (r : Rl) (h : setC rl ol n m (k + 1) r) : r.id ≠ (rl k).id := by
  rw [hrl k hk]
  rcases h with ⟨j, h1, h2, e⟩ | ⟨j, h1, h2, e⟩
  · rw [e, hrl j h2]; omega
  · rw [e, hol j h1]; omega
theorem setC_end (r : Rl) : setC rl ol n m 0 r ↔ setD rl ol n m n r := by
  constructor
  · rintro (⟨j, h1, h2, e⟩ | ⟨j, h1, h2, e⟩)
    · exact .inl ⟨j, h2, e⟩
    · exact .inr ⟨j, by omega, h1, e⟩
  · rintro (⟨j, h2, e⟩ | ⟨j, h1, h2, e⟩)
    · exact .inl ⟨j, by omega, h2, e⟩
    · exact .inr ⟨j, h2, by omega, e⟩
theorem setD_cut {i : Nat} (hn : n ≤ 1000) (hrl : ∀ j, j < n → (rl j).id = j) (hol : ∀ j, j < m → (ol j).id = 1000 + (j : Int)) (r : Rl) : (setD rl ol n m i r ∧ r.id ≠ 1000 + (i : Int)) ↔ setD rl ol n m (i + 1) r := by
  constructor
  · rintro ⟨⟨j, h2, e⟩ | ⟨j, h1, h2, e⟩, hne⟩
    · exact .inl ⟨j, h2, e⟩
    · refine .inr ⟨j, ?_, h2, e⟩
      rw [e, hol j h2] at hne
      omega
  · rintro (⟨j, h2, e⟩ | ⟨j, h1, h2, e⟩)
    · exact ⟨.inl ⟨j, h2, e⟩, by rw [e, hrl j h2]; omega⟩
    · exact ⟨.inr ⟨j, by omega, h2, e⟩, by rw [e, hol j h2]; omega⟩
theorem setD_end {i : Nat} (hi : m ≤ i) (r : Rl) : setD rl ol n m i r ↔ ∃ j, j < n ∧ r = rl j := by
  constructor
  · rintro (h | ⟨j, h1, h2, e⟩)
    · exact h
    · omega
  · exact .inl
theorem setA_step (k : Nat) (r : Rl) : (r = rl k ∨ ∃ j, j < k ∧ r = rl j) ↔ ∃ j, j < k + 1 ∧ r = rl j := by
  constructor
  · rintro (e | ⟨j, h, e⟩)
    · exact ⟨k, by omega, e⟩
    · exact ⟨j, by omega, e⟩
  · rintro ⟨j, h, e⟩
    by_cases hjk : j = k
    · exact .inl (hjk ▸ e)
    · exact .inr ⟨j, by omega, e⟩
end

end Go.Proofs.YtaejpejfmpbinaaDoor

namespace Go.Proofs.YtaejpejfmpbinaaDoor
open Go.RowKit
theorem underMatch5' : Tryd.prog.underlying 29 = some (.array 5 28) := by kernel_rfl
set_option maxRecDepth 100000 in
set_option maxHeartbeats 2000000 in
theorem eqMatch5 (d : Nat) (r : Rl) (w : World) : (Op.equalIn (d + 3) 29 (.agg #[.int .i64 r.k0, .int .i64 r.v0, .int .i64 r.m0, .int .i64 r.k1, .int .i64 r.v1, .int .i64 r.m1, .int .i64 r.k2, .int .i64 r.v2, .int .i64 r.m2, .int .i64 r.k3, .int .i64 r.v3, .int .i64 r.m3, .int .i64 r.k4, .int .i64 r.v4, .int .i64 r.m4]) (.agg #[.int .i64 r.k0, .int .i64 r.v0, .int .i64 r.m0, .int .i64 r.k1, .int .i64 r.v1, .int .i64 r.m1, .int .i64 r.k2, .int .i64 r.v2, .int .i64 r.m2, .int .i64 r.k3, .int .i64 r.v3, .int .i64 r.m3, .int .i64 r.k4, .int .i64 r.v4, .int .i64 r.m4])).run Tryd.prog w = .ok true w := by
  obtain ⟨i, hi⟩ : ∃ i, Tryd.prog.info? 28 = some i := by
    cases h : Tryd.prog.info? 28 with
    | none => exact absurd (show (Tryd.prog.info? 28).isSome = true by kernel_rfl) (by rw [h]; simp)
    | some i => exact ⟨i, rfl⟩
  have hc : Tryd.prog.cellsOf 28 = 3 := by kernel_rfl
  have hr : List.range 5 = [0, 1, 2, 3, 4] := rfl
  rw [run_equalIn_array w (d + 2) _ _ underMatch5' hi, hc, hr]
  simp [go_sem, Op.eqItems]
set_option maxRecDepth 100000 in
set_option maxHeartbeats 2000000 in
theorem neqRule1 (r : Rl) (w : World) : (binOp .neq 31 (.agg #[.int .i64 r.id, .int .i64 r.pr, .int .i64 r.k0, .int .i64 r.v0, .int .i64 r.m0, .int .i64 r.k1, .int .i64 r.v1, .int .i64 r.m1, .int .i64 r.k2, .int .i64 r.v2, .int .i64 r.m2, .int .i64 r.k3, .int .i64 r.v3, .int .i64 r.m3, .int .i64 r.k4, .int .i64 r.v4, .int .i64 r.m4, .int .i64 r.ac, .int .i64 r.po]) (.agg #[.int .i64 r.id, .int .i64 r.pr, .int .i64 r.k0, .int .i64 r.v0, .int .i64 r.m0, .int .i64 r.k1, .int .i64 r.v1, .int .i64 r.m1, .int .i64 r.k2, .int .i64 r.v2, .int .i64 r.m2, .int .i64 r.k3, .int .i64 r.v3, .int .i64 r.m3, .int .i64 r.k4, .int .i64 r.v4, .int .i64 r.m4, .int .i64 r.ac, .int .i64 r.po])).run Tryd.prog w = .ok (.bool false) w := by
  have h := eqMatch5 9996 r
  simp [go_sem, h]
end Go.Proofs.YtaejpejfmpbinaaDoor
