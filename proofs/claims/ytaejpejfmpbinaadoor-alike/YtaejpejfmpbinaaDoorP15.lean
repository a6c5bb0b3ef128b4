import Derived.Test.YtaejpejfmpbinaaDoorP14
import Derived.Test.YtaejpejfmpbinaaDoorP13
import Derived.BigQuiet
namespace Go.Proofs.YtaejpejfmpbinaaDoor
open Go.RowKit

/-- The rules that stand in a table and in a list: the same; k has been the greatest ID's bound. -/
structure Both (L : List Ent) (rs : List Rl) (k : Nat) : Prop where
  same : ∀ r, r ∈ rs ↔ ∃ c, (c, r) ∈ L
  lenL : L.length ≤ k
  lenR : rs.length ≤ k
  ids : rs.Pairwise fun a b => a.id ≠ b.id
  each : ∀ r ∈ rs, r.ok = true ∧ 0 ≤ r.id ∧ r.id < k

theorem Both.nil : Both [] [] 0 := ⟨fun r => by simp, by simp, by simp, List.Pairwise.nil, fun r hr => by cases hr⟩
theorem Both.mono {L : List Ent} {rs : List Rl} {k m : Nat} (h : Both L rs k) (hm : k ≤ m) : Both L rs m :=
  ⟨h.same, Nat.le_trans h.lenL hm, Nat.le_trans h.lenR hm, h.ids, fun r hr => ⟨(h.each r hr).1, (h.each r hr).2.1, by have := (h.each r hr).2.2; omega⟩⟩
theorem Both.code {L : List Ent} {rs : List Rl} {k : Nat} (h : Both L rs k) (hk : k < 200) {r : Rl} (hr : r.ok = true) (hid : r.id = k) : insCode L r = 0 := by
  have h1 : (L.any fun a => a.2.id == r.id) = false := by
    rw [List.any_eq_false]
    intro a ha
    have := (h.each a.2 ((h.same a.2).2 ⟨a.1, ha⟩)).2.2
    simp
    omega
  unfold insCode
  rw [hr, if_pos rfl, h1, if_neg (by decide), if_neg (by have := h.lenL; omega)]
theorem Both.ins {L L' : List Ent} {rs : List Rl} {k b : Nat} (h : Both L rs k) {r : Rl} (hr : r.ok = true) (hid : r.id = k) (hm : ∀ x, x ∈ L' ↔ x = (b, r) ∨ x ∈ L) (hl : L'.length = L.length + 1) : Both L' (rs ++ [r]) (k + 1) := by
  refine ⟨fun q => ?_, by have := h.lenL; omega, by have := h.lenR; simp; omega, ?_, fun q hq => ?_⟩
  · rw [List.mem_append, List.mem_singleton, h.same]
    constructor
    · rintro (⟨c, hc⟩ | rfl)
      · exact ⟨c, (hm _).2 (.inr hc)⟩
      · exact ⟨b, (hm _).2 (.inl rfl)⟩
    · rintro ⟨c, hc⟩
      rcases (hm _).1 hc with e | e
      · exact .inr (congrArg Prod.snd e)
      · exact .inl ⟨c, e⟩
  · rw [List.pairwise_append]
    refine ⟨h.ids, by simp, fun a ha c hc => ?_⟩
    rw [List.mem_singleton] at hc
    have := (h.each a ha).2.2
    rw [hc]; omega
  · rcases List.mem_append.1 hq with hq | hq
    · have := h.each q hq
      exact ⟨this.1, this.2.1, by have := this.2.2; omega⟩
    · rw [List.mem_singleton] at hq
      subst hq
      exact ⟨hr, by omega, by omega⟩
theorem split_at (rs : List Rl) (k : Nat) (hk : k < rs.length) : rs = rs.take k ++ rs[k] :: rs.drop (k + 1) := by
  rw [← List.drop_eq_getElem_cons hk, List.take_append_drop]
theorem cut_mem {rs : List Rl} (hp : rs.Pairwise fun a b => a.id ≠ b.id) {k : Nat} (hk : k < rs.length) (r : Rl) : r ∈ rs.take k ++ rs.drop (k + 1) ↔ r ∈ rs ∧ r.id ≠ rs[k].id := by
  generalize hq : rs[k] = q
  have hs := split_at rs k hk
  rw [hq] at hs
  rw [hs] at hp
  obtain ⟨_, h2, h3⟩ := List.pairwise_append.1 hp
  have h4 := (List.pairwise_cons.1 h2).1
  constructor
  · intro h
    rcases List.mem_append.1 h with h | h
    · exact ⟨by rw [hs]; exact List.mem_append_left _ h, h3 r h q (by simp)⟩
    · exact ⟨by rw [hs]; exact List.mem_append_right _ (List.mem_cons_of_mem _ h), (h4 r h).symm⟩
  · rintro ⟨h, hne⟩
    rw [hs] at h
    rcases List.mem_append.1 h with h | h
    · exact List.mem_append_left _ h
    · rcases List.mem_cons.1 h with h | h
      · exact absurd (by rw [h]) hne
      · exact List.mem_append_right _ h
theorem Both.there {L : List Ent} {rs : List Rl} {m k : Nat} (h : Both L rs m) (hk : k < rs.length) : (L.any fun a => a.2.id == rs[k].id) = true := by
  obtain ⟨c, hc⟩ := (h.same rs[k]).1 (List.getElem_mem hk)
  exact List.any_eq_true.2 ⟨_, hc, by simp⟩
theorem Both.del {L : List Ent} {rs : List Rl} {m k : Nat} (h : Both L rs m) (hk : k < rs.length) : Both (L.filter fun a => a.2.id != rs[k].id) (rs.take k ++ rs.drop (k + 1)) m := by
  refine ⟨fun r => ?_, Nat.le_trans (List.length_filter_le _ _) h.lenL, by have := h.lenR; simp; omega, ?_, fun r hr => h.each r ((cut_mem h.ids hk r).1 hr).1⟩
  · rw [cut_mem h.ids hk, h.same]
    constructor
    · rintro ⟨⟨c, hc⟩, hne⟩
      exact ⟨c, List.mem_filter.2 ⟨hc, by simpa using hne⟩⟩
    · rintro ⟨c, hc⟩
      have := List.mem_filter.1 hc
      exact ⟨⟨c, this.1⟩, by simpa using this.2⟩
  · have hs := split_at rs k hk
    have hp := h.ids
    rw [hs] at hp
    obtain ⟨h1, h2, h3⟩ := List.pairwise_append.1 hp
    rw [List.pairwise_append]
    exact ⟨h1, (List.pairwise_cons.1 h2).2, fun a ha c hc => h3 a ha c (List.mem_cons_of_mem _ hc)⟩

end Go.Proofs.YtaejpejfmpbinaaDoor

namespace Go.Proofs.YtaejpejfmpbinaaDoor
open Go.RowKit
open Go.Sort (grow)

theorem cell_at0 {w : World} {g o : Nat} {v : Value} {cs : List Value} (h : w.rangeAt g o (v :: cs)) : w.cell? ⟨g, o, none⟩ = some v := h 0 _ rfl

theorem wpQuiet_load_mid {P : Program} {ops : Array Oper} {C : World → Prop} {Q : Act → Prop} {o : Oper} {rest : List Oper} {a : Act} (hgd : o.guard = none) (ty : TypeId) (x : Operand) (ho : o.op = .load ty x)
    (b off : Nat) (hx : a.eval x = .pointer (some ⟨b, off, none⟩)) (cs : List Value) (d : TypeDesc) (hc : ∀ w, C w → w.rangeAt b off cs)
    (hu : P.underlying ty = some d) (hd : d.isRow = true) (hi : (P.info? ty).map (·.size) = some cs.length)
    (h : wpQuiet P ops C Q rest (a.put o.dst (.agg cs.toArray))) : wpQuiet P ops C Q (o :: rest) a :=
  wpQuiet_step fun K hK => by
    have hw : Region.wanted o (yielded ops a.tmps) = true := by simp [Region.wanted, hgd]
    rw [if_pos hw]
    refine ⟨_, fun w hw' => ?_, hK _ h⟩
    unfold Oper.quietAt execOp
    simp only [ho, hx, Instr.loadAt, Instr.sureAddr, Sem.run_bind, Sem.run_pure, Result.andThen_ok, run_loadVar_mid w b off ty cs d (hc w hw') hu hd hi]
    exact ⟨rfl, rfl⟩
theorem range_regrown {w w' : World} {b o : Nat} {cs : List Value} (h : w.rangeAt b o cs) (hw : ∃ p : Regrown, w' = grow (redrawn w p.d) p.os) : w'.rangeAt b o cs := fun j u hu => by
  obtain ⟨p, rfl⟩ := hw
  exact cell_regrown (h j u hu) _ _
attribute [local go_sem] cell?_regrown

set_option maxRecDepth 100000 in
set_option maxHeartbeats 2000000 in
theorem right_any {B : Nat} (t : Nat) (v : Value) (rs : List Rl) (x0 x1 x2 x3 x4 : Int) (w : World) (F : Nat → Prop) (L : List Ent) (hT : TabIs w t F L) (hR : RulesOwn B w v rs) (hm : ∀ r, r ∈ rs ↔ ∃ c, (c, r) ∈ L) (hok : ∀ r ∈ rs, r.ok = true) (hkey : keyB x0 x1 x2 x3 x4 = true) (hn : rs.length ≤ 200) :
    Calls Tryd.prog 10 #[.pointer (some ⟨t, 0, none⟩), v, .agg #[.int .i64 x0, .int .i64 x1, .int .i64 x2, .int .i64 x3, .int .i64 x4]] w fun e w' => e = .returned (.bool true) ∧ Below w.heap.size w w' := by
  obtain ⟨dr, hur, hdr⟩ := underRule
  obtain ⟨dk, huk, hdk⟩ := underKey
  obtain ⟨a, cap, g, rfl, hc⟩ := hR.row
  have HT := hide hT
  have HM := hide hm
  have HOK := hide hok
  have HC := hide hc
  have HKEY := hide hkey
  clear hT hm hok hc hR hkey
  go_enter Tryd.func10, Tryd.ntmps10
  go_wp2_with fail
  go_loopw [7, 8] (fun b i wr => ∃ (k : Nat) (c : Int), k ≤ rs.length ∧ i = .int .i64 k ∧ b = .int .i64 c ∧ BestIn rs k x0 x1 x2 x3 x4 c ∧ Below w.heap.size w wr ∧ wr.rangeAt w.heap.size 0 [.int .i64 x0, .int .i64 x1, .int .i64 x2, .int .i64 x3, .int .i64 x4]) (fun _ i _ => rs.length - (intOf i).toNat)
  case atStart => exact ⟨0, -1, by omega, rfl, rfl, BestIn.start _ _ _ _ _ _, (by repeat (first | exact Below.refl _ _ | assumption | refine Below.drewN ?_ | refine Below.drew ?_ | refine Below.setCell ?_ (by first | exact Nat.le_refl _ | omega | (simp; done) | (simp; omega)) _ | refine Below.alloc ?_ (by first | exact Nat.le_refl _ | omega | (simp; done) | (simp; omega)) _)), range_new _ _ _⟩
  case round =>
    obtain ⟨k, c, hk, rfl, rfl, hbest, hb, hkr⟩ := hrel
    by_cases hlt : k < rs.length
    · obtain ⟨r, hr⟩ : ∃ r, r = rs[k] := ⟨_, rfl⟩
      obtain ⟨rfl, hrk⟩ := HC.out k hlt
      rw [← hr] at hrk
      have hrw : wr.rangeAt g (k * 19) [.int .i64 r.id, .int .i64 r.pr, .int .i64 r.k0, .int .i64 r.v0, .int .i64 r.m0, .int .i64 r.k1, .int .i64 r.v1, .int .i64 r.m1, .int .i64 r.k2, .int .i64 r.v2, .int .i64 r.m2, .int .i64 r.k3, .int .i64 r.v3, .int .i64 r.m3, .int .i64 r.k4, .int .i64 r.v4, .int .i64 r.m4, .int .i64 r.ac, .int .i64 r.po] := fun j u hu => (hb.cell (p := ⟨g, k * 19 + j, none⟩) (block_lt_of_cell (hrk j u hu))).trans (hrk j u hu)
      have hrok : r.ok = true := HOK.out r (by rw [hr]; exact List.getElem_mem hlt)
      have CS := hide fun d os => said_any r x0 x1 x2 x3 x4 (grow (redrawn wr d) os) hrok
      have hki : (k : Int) < rs.length := by omega
      have HR := hide hr
      have HB := hide hb
      have HBEST := hide hbest
      clear hr hb hbest hrk hrok
      go_wp2_with fail
      refine wp_region_quiet_below (by kernel_rfl) (by kernel_rfl) ?_
      repeat (first | (refine wpQuiet_load_mid rfl 31 _ rfl g (k * 19) rfl [.int .i64 r.id, .int .i64 r.pr, .int .i64 r.k0, .int .i64 r.v0, .int .i64 r.m0, .int .i64 r.k1, .int .i64 r.v1, .int .i64 r.m1, .int .i64 r.k2, .int .i64 r.v2, .int .i64 r.m2, .int .i64 r.k3, .int .i64 r.v3, .int .i64 r.m3, .int .i64 r.k4, .int .i64 r.v4, .int .i64 r.m4, .int .i64 r.ac, .int .i64 r.po] dr (fun w' h => range_regrown hrw h) hur hdr sizeRule ?_) | (refine wpQuiet_load_mid rfl 41 _ rfl w.heap.size 0 rfl [.int .i64 x0, .int .i64 x1, .int .i64 x2, .int .i64 x3, .int .i64 x4] dk (fun w' h => range_regrown hkr h) huk hdk sizeKey ?_) | quiet_step (exact Calls.regrown_of (CS.out _ _)))
      refine wpQuiet_nil ?_; intro wq hwq; replace hwq := below_of_regrown hwq; obtain ⟨hcq, hfq⟩ := bcell hwq; have hzq := hwq.size
      have hrq := rangeAt_below hrw hwq
      have HKQ := hide (rangeAt_below hkr hwq)
      have B2 := hide (HB.out.trans (hwq.mono HB.out.size))
      have c0 : wq.cell? ⟨g, k * 19, none⟩ = some (.int .i64 r.id) := cell_at0 hrq
      have c1 : wq.cell? ⟨g, k * 19 + 1, none⟩ = some (.int .i64 r.pr) := hrq 1 _ rfl
      have hgl := block_lt_of_cell c0
      clear hrq hrw hkr hcq hfq hwq CS HB
      cases hh : r.hits x0 x1 x2 x3 x4 with
      | false =>
        have NB := hide (HBEST.out.skip hlt (by rw [← HR.out]; exact hh))
        clear hh
        go_wp2_with fail
        go_quiet (fail)
        go_wp2
        go_roundw
        case rel => exact ⟨k + 1, c, by omega, by go_num, rfl, NB.out, (by have hb := B2.out; exact (by repeat (first | exact Below.refl _ _ | assumption | refine Below.drewN ?_ | refine Below.drew ?_ | refine Below.setCell ?_ (by first | exact Nat.le_refl _ | omega | (simp; done) | (simp; omega)) _ | refine Below.alloc ?_ (by first | exact Nat.le_refl _ | omega | (simp; done) | (simp; omega)) _))), rangeAt_below HKQ.out (by repeat (first | exact Below.refl _ _ | assumption | refine Below.drewN ?_ | refine Below.drew ?_ | refine Below.setCell ?_ (by first | exact Nat.le_refl _ | omega | (simp; done) | (simp; omega)) _ | refine Below.alloc ?_ (by first | exact Nat.le_refl _ | omega | (simp; done) | (simp; omega)) _))⟩
        case measure => simp [intOf]; omega
      | true =>
        have HH := hide hh
        clear hh
        rcases HBEST.out with ⟨hc1, _⟩ | ⟨kb, hkb, hc1, hkbk, _, _⟩
        · subst hc1
          have NB := hide (HBEST.out.first hlt (by rw [← HR.out]; exact HH.out))
          go_wp2_with fail
          go_quiet (fail)
          go_wp2
          go_roundw
          case rel => exact ⟨k + 1, k, by omega, by go_num, rfl, NB.out, (by have hb := B2.out; exact (by repeat (first | exact Below.refl _ _ | assumption | refine Below.drewN ?_ | refine Below.drew ?_ | refine Below.setCell ?_ (by first | exact Nat.le_refl _ | omega | (simp; done) | (simp; omega)) _ | refine Below.alloc ?_ (by first | exact Nat.le_refl _ | omega | (simp; done) | (simp; omega)) _))), rangeAt_below HKQ.out (by repeat (first | exact Below.refl _ _ | assumption | refine Below.drewN ?_ | refine Below.drew ?_ | refine Below.setCell ?_ (by first | exact Nat.le_refl _ | omega | (simp; done) | (simp; omega)) _ | refine Below.alloc ?_ (by first | exact Nat.le_refl _ | omega | (simp; done) | (simp; omega)) _))⟩
          case measure => simp [intOf]; omega
        · subst hc1
          obtain ⟨q, hq⟩ : ∃ q, q = rs[kb] := ⟨_, rfl⟩
          obtain ⟨-, hqk⟩ := HC.out kb hkb
          rw [← hq] at hqk
          have hqq : wq.rangeAt g (kb * 19) q.cells.toList := fun j u hu => (B2.out.cell (p := ⟨g, kb * 19 + j, none⟩) (block_lt_of_cell (hqk j u hu))).trans (hqk j u hu)
          have d0 : wq.cell? ⟨g, kb * 19, none⟩ = some (.int .i64 q.id) := cell_at0 hqq
          have d1 : wq.cell? ⟨g, kb * 19 + 1, none⟩ = some (.int .i64 q.pr) := hqq 1 _ rfl
          have hkbi : (kb : Int) < rs.length := by omega
          have hkb0 : decide ((kb : Int) < 0) = false := by simp
          have HQ := hide hq
          clear hq hqk hqq
          by_cases h1 : q.pr < r.pr
          · have e1 : decide (q.pr < r.pr) = true := by simpa using h1
            have NB := hide (HBEST.out.better hkb hlt (by rw [← HR.out]; exact HH.out) (by rw [← HR.out, ← HQ.out, Rl.before_iff]; omega))
            clear h1
            go_wp2_with fail
            go_quiet (fail)
            go_wp2
            go_roundw
            case rel => exact ⟨k + 1, k, by omega, by go_num, rfl, NB.out, (by have hb := B2.out; exact (by repeat (first | exact Below.refl _ _ | assumption | refine Below.drewN ?_ | refine Below.drew ?_ | refine Below.setCell ?_ (by first | exact Nat.le_refl _ | omega | (simp; done) | (simp; omega)) _ | refine Below.alloc ?_ (by first | exact Nat.le_refl _ | omega | (simp; done) | (simp; omega)) _))), rangeAt_below HKQ.out (by repeat (first | exact Below.refl _ _ | assumption | refine Below.drewN ?_ | refine Below.drew ?_ | refine Below.setCell ?_ (by first | exact Nat.le_refl _ | omega | (simp; done) | (simp; omega)) _ | refine Below.alloc ?_ (by first | exact Nat.le_refl _ | omega | (simp; done) | (simp; omega)) _))⟩
            case measure => simp [intOf]; omega
          · have e1 : decide (q.pr < r.pr) = false := by simpa using h1
            by_cases h2 : r.pr = q.pr
            · have e2 : (r.pr == q.pr) = true := by simpa using h2
              by_cases h3 : r.id < q.id
              · have e3 : decide (r.id < q.id) = true := by simpa using h3
                have NB := hide (HBEST.out.better hkb hlt (by rw [← HR.out]; exact HH.out) (by rw [← HR.out, ← HQ.out, Rl.before_iff]; omega))
                clear h1 h2 h3
                go_wp2_with fail
                go_quiet (fail)
                go_wp2
                go_roundw
                case rel => exact ⟨k + 1, k, by omega, by go_num, rfl, NB.out, (by have hb := B2.out; exact (by repeat (first | exact Below.refl _ _ | assumption | refine Below.drewN ?_ | refine Below.drew ?_ | refine Below.setCell ?_ (by first | exact Nat.le_refl _ | omega | (simp; done) | (simp; omega)) _ | refine Below.alloc ?_ (by first | exact Nat.le_refl _ | omega | (simp; done) | (simp; omega)) _))), rangeAt_below HKQ.out (by repeat (first | exact Below.refl _ _ | assumption | refine Below.drewN ?_ | refine Below.drew ?_ | refine Below.setCell ?_ (by first | exact Nat.le_refl _ | omega | (simp; done) | (simp; omega)) _ | refine Below.alloc ?_ (by first | exact Nat.le_refl _ | omega | (simp; done) | (simp; omega)) _))⟩
                case measure => simp [intOf]; omega
              · have e3 : decide (r.id < q.id) = false := by simpa using h3
                have NB := hide (HBEST.out.stays hkb hlt (by rw [← HR.out, ← HQ.out, ← Bool.not_eq_true, Rl.before_iff]; omega))
                clear h1 h2 h3
                go_wp2_with fail
                go_quiet (fail)
                go_wp2
                go_roundw
                case rel => exact ⟨k + 1, kb, by omega, by go_num, rfl, NB.out, (by have hb := B2.out; exact (by repeat (first | exact Below.refl _ _ | assumption | refine Below.drewN ?_ | refine Below.drew ?_ | refine Below.setCell ?_ (by first | exact Nat.le_refl _ | omega | (simp; done) | (simp; omega)) _ | refine Below.alloc ?_ (by first | exact Nat.le_refl _ | omega | (simp; done) | (simp; omega)) _))), rangeAt_below HKQ.out (by repeat (first | exact Below.refl _ _ | assumption | refine Below.drewN ?_ | refine Below.drew ?_ | refine Below.setCell ?_ (by first | exact Nat.le_refl _ | omega | (simp; done) | (simp; omega)) _ | refine Below.alloc ?_ (by first | exact Nat.le_refl _ | omega | (simp; done) | (simp; omega)) _))⟩
                case measure => simp [intOf]; omega
            · have e2 : (r.pr == q.pr) = false := by simpa using h2
              have NB := hide (HBEST.out.stays hkb hlt (by rw [← HR.out, ← HQ.out, ← Bool.not_eq_true, Rl.before_iff]; omega))
              clear h1 h2
              go_wp2_with fail
              go_quiet (fail)
              go_wp2
              go_roundw
              case rel => exact ⟨k + 1, kb, by omega, by go_num, rfl, NB.out, (by have hb := B2.out; exact (by repeat (first | exact Below.refl _ _ | assumption | refine Below.drewN ?_ | refine Below.drew ?_ | refine Below.setCell ?_ (by first | exact Nat.le_refl _ | omega | (simp; done) | (simp; omega)) _ | refine Below.alloc ?_ (by first | exact Nat.le_refl _ | omega | (simp; done) | (simp; omega)) _))), rangeAt_below HKQ.out (by repeat (first | exact Below.refl _ _ | assumption | refine Below.drewN ?_ | refine Below.drew ?_ | refine Below.setCell ?_ (by first | exact Nat.le_refl _ | omega | (simp; done) | (simp; omega)) _ | refine Below.alloc ?_ (by first | exact Nat.le_refl _ | omega | (simp; done) | (simp; omega)) _))⟩
              case measure => simp [intOf]; omega
    · obtain rfl : k = rs.length := by omega
      have CF := hide (tfind_any t x0 x1 x2 x3 x4 wr F L (HT.out.still (hb.mono (Nat.le_refl _))))
      have HB := hide hb
      have HBEST := hide hbest
      clear hb hbest
      go_wp2_with (first | (refine wpList_load_mid rfl 41 _ rfl w.heap.size 0 rfl [.int .i64 x0, .int .i64 x1, .int .i64 x2, .int .i64 x3, .int .i64 x4] dk hkr huk hdk sizeKey ?_))
      refine CF.out.mono ?_
      rintro e w2 ⟨n, er, rfl, hf, hb2⟩
      have HF := hide hf
      have B2 := hide (HB.out.trans (hb2.mono HB.out.size))
      clear hf hb2 CF hkr HB
      rcases HBEST.out with ⟨hc1, _⟩ | ⟨kb, hkb, hc1, _, _, _⟩
      · subst hc1
        obtain ⟨rfl, rfl⟩ := HBEST.out.none_find HM.out HKEY.out HF.out
        go_wp2
        go_ret
        exact ⟨rfl, B2.out⟩
      · subst hc1
        obtain ⟨he1, rfl⟩ := HBEST.out.some_find hkb HM.out HKEY.out HF.out
        obtain ⟨rfl, hqk⟩ := HC.out kb hkb
        have d0 : w2.cell? ⟨g, kb * 19, none⟩ = some (.int .i64 n) := by
          rw [he1]
          exact (B2.out.cell (p := ⟨g, kb * 19, none⟩) (block_lt_of_cell (cell_at0 hqk))).trans (cell_at0 hqk)
        have hkbi : (kb : Int) < rs.length := by omega
        clear hqk he1
        go_wp2
        go_ret
        exact ⟨rfl, B2.out⟩

end Go.Proofs.YtaejpejfmpbinaaDoor

namespace Go.Proofs.YtaejpejfmpbinaaDoor
open Go.RowKit

theorem TabIs.lt {w : World} {t : Nat} {F : Nat → Prop} {L : List Ent} (h : TabIs w t F L) {x : Nat} (hx : F x) : x < w.heap.size := by
  obtain ⟨b1, b2, sv1, sv2, LI, T, _, _, rfl⟩ := h
  rcases hx with rfl | (rfl | h) | (rfl | h)
  · exact block_lt_of_cell T.c0
  · exact block_lt_of_cell T.mI.1
  · exact T.hI.lt h
  · exact block_lt_of_cell T.mR.1
  · exact T.hR.lt h
theorem IntsAt.below {w w' : World} {a : Option Addr} {n g off : Nat} (h : IntsAt w a n g off) (hb : Below w.heap.size w w') : IntsAt w' a n g off :=
  ⟨h.1, fun j hj => by
    obtain ⟨x, hx, h1, h2⟩ := h.2 j hj
    exact ⟨x, (hb.cell (p := ⟨g, off + j, none⟩) (block_lt_of_cell hx)).trans hx, h1, h2⟩⟩
/-- A list of raw numbers that came in. -/
def RawsAt (w : World) (ad : Option Addr) (n g off : Nat) : Prop := (0 < n → ad = some ⟨g, off, none⟩) ∧ ∀ j, j < n → ∃ (pr : Int) (kd a b : Nat → Int), w.rangeAt g (off + j * 16) [.int .i64 pr, .int .i64 (kd 0), .int .i64 (kd 1), .int .i64 (kd 2), .int .i64 (kd 3), .int .i64 (kd 4), .int .i64 (a 0), .int .i64 (a 1), .int .i64 (a 2), .int .i64 (a 3), .int .i64 (a 4), .int .i64 (b 0), .int .i64 (b 1), .int .i64 (b 2), .int .i64 (b 3), .int .i64 (b 4)] ∧ (-9223372036854775808 ≤ pr ∧ pr ≤ 9223372036854775807) ∧ (∀ j, j < 5 → -9223372036854775808 ≤ kd j ∧ kd j ≤ 9223372036854775807) ∧ (∀ j, j < 5 → -9223372036854775808 ≤ a j ∧ a j ≤ 9223372036854775807) ∧ (∀ j, j < 5 → -9223372036854775808 ≤ b j ∧ b j ≤ 9223372036854775807)
theorem Below.of_grown {B : Nat} {w w' : World} {row : Option Nat} (h : w.grownBy w' row) (hB : B ≤ w.heap.size) (hr : ∀ x, row = some x → B ≤ x) : Below B w w' :=
  (Chg.grown (X := fun x => row = some x) h fun _ hk => hk).below hB fun x hx => hr x hx
theorem RulesOwn.base {B : Nat} {w : World} {v : Value} {rs : List Rl} (h : RulesOwn B w v rs) : ∀ x, v.ownBlock = some x → B ≤ x := fun x hx => (h.1.lt x hx).1
theorem cells_new (w : World) (R : Rl) (t : TypeId) : ∀ j u, (rowL [R])[j]? = some u → (w.alloc (.cells R.cells t)).cell? ((⟨w.heap.size, 0, none⟩ : Addr).add j) = some u := fun j u hu => by
  rw [Addr.add_mid]
  have h : rowL [R] = R.cells.toList := by simp [rowL]
  rw [h] at hu
  exact range_new w R.cells t j u hu

/-- Where the loop of Found stands: the table and the list hold the same rules; nothing that was there has turned. -/
structure FI (w wr : World) (t : Nat) (l : Value) (F : Nat → Prop) (L : List Ent) (rs : List Rl) (k : Nat) : Prop where
  tab : TabIs wr t F L
  own : RulesOwn w.heap.size wr l rs
  both : Both L rs k
  fresh : ∀ x, F x → w.heap.size ≤ x
  below : Below w.heap.size w wr
theorem FI.still {w wr wr' : World} {t : Nat} {l : Value} {F : Nat → Prop} {L : List Ent} {rs : List Rl} {k : Nat} (h : FI w wr t l F L rs k) (hb : Below wr.heap.size wr wr') : FI w wr' t l F L rs k :=
  ⟨h.tab.still hb, h.own.below hb, h.both, h.fresh, h.below.trans (hb.mono h.below.size)⟩
/-- A rule has been inserted. -/
theorem FI.ins {w wr W w2 : World} {t : Nat} {l : Value} {F : Nat → Prop} {L : List Ent} {rs : List Rl} {k : Nat} {R : Rl} (h : FI w wr t l F L rs k) (hk : k < 200) (hok : R.ok = true) (hid : R.id = k) (hb : Below wr.heap.size wr W) (hI : InsTab W w2 t F L R) :
    ∃ F2 L2, TabIs w2 t F2 L2 ∧ RulesOwn w.heap.size w2 l rs ∧ Both L2 (rs ++ [R]) (k + 1) ∧ (∀ x, F2 x → w.heap.size ≤ x) ∧ Below w.heap.size w w2 ∧ Chg F W w2 := by
  obtain ⟨F2, L2, hT2, hF2, hC2, hL2⟩ := hI
  rw [if_pos (h.both.code hk hok hid)] at hL2
  obtain ⟨b, hm, hlen⟩ := hL2
  have hW := h.below.trans (hb.mono h.below.size)
  exact ⟨F2, L2, hT2, (h.own.below hb).chg (h.tab.still hb) hC2, h.both.ins hok hid hm hlen, fun x hx => (hF2 x hx).elim (h.fresh x) (fun hx => Nat.le_trans hW.size hx), hW.trans (hC2.below hW.size h.fresh), hC2⟩
/-- A rule has been appended to the list. -/
theorem FI.app {w w2 w2' w3 : World} {t : Nat} {l l1 : Value} {F : Nat → Prop} {L : List Ent} {rs rs1 : List Rl} {k : Nat} (hT : TabIs w2 t F L) (hO : RulesOwn w.heap.size w2 l rs) (hB : Both L rs1 k) (hF : ∀ x, F x → w.heap.size ≤ x) (hb : Below w.heap.size w w2) (ha : Below w2.heap.size w2 w2') (hg : w2'.grownBy w3 l.ownBlock) (hO1 : RulesOwn w.heap.size w3 l1 rs1) : FI w w3 t l1 F L rs1 k :=
  ⟨(hT.still ha).grown (hO.below ha) hg, hO1, hB, hF, (hb.trans (ha.mono hb.size)).trans (Below.of_grown hg (Nat.le_trans hb.size ha.size) hO.base)⟩
/-- A rule has been deleted, and cut out of the list. -/
theorem FI.cut {w w3 w4 w5 w6 : World} {t m : Nat} {l v5 l6 : Value} {F : Nat → Prop} {L : List Ent} {rs : List Rl} {k : Nat} (h : FI w w3 t l F L rs k) (hm : m < rs.length) (hT : TabIs w4 t F (L.filter fun a => a.2.id != rs[m].id)) (hC : Chg F w3 w4)
    (hg5 : w4.grownBy w5 none) (hO5 : RulesOwn w.heap.size w5 v5 (rs.take m)) (hg6 : w5.grownBy w6 v5.ownBlock) (hO6 : RulesOwn w.heap.size w6 l6 (rs.take m ++ rs.drop (m + 1))) : FI w w6 t l6 F (L.filter fun a => a.2.id != rs[m].id) (rs.take m ++ rs.drop (m + 1)) k := by
  have hb4 := h.below.trans (hC.below h.below.size h.fresh)
  have hb45 : Below w4.heap.size w4 w5 := Below.of_grown hg5 (Nat.le_refl _) fun x hx => by cases hx
  have hb5 := hb4.trans (hb45.mono hb4.size)
  exact ⟨(hT.still hb45).grown hO5 hg6, hO6, h.both.del hm, h.fresh, hb5.trans (Below.of_grown hg6 hb5.size hO5.base)⟩

theorem wpList_store_to {P : Program} {ops : Array Oper} {rest : List Oper} {op : Oper} {a : Act} {w : World} {Q : Exit → Act → World → Prop} (hgd : op.guard = none) (ty : TypeId) (x y : Operand) (ho : op.op = .store ty x y)
    (b o : Nat) (cells : Array Value) (hx : a.eval x = .pointer (some ⟨b, o, none⟩)) (hy : a.eval y = .agg cells)
    (ht : w.there b o cells.size) (hi : (P.info? ty).map (·.size) = some cells.size) (h1 : cells.all (·.oneCell') = true) (W : World) (hW : w.setCells b o cells.toList = W)
    (h : wpList P ops Q rest (a.put op.dst undef) W) : wpList P ops Q (op :: rest) a w := by
  subst hW
  exact wpList_store_mid hgd ty x y ho b o cells hx hy ht hi h1 h
theorem ones (R : Rl) : R.cells.all (·.oneCell') = true := by simp [Rl.cells, Value.oneCell']
theorem underRaw : ∃ d, Tryd.prog.underlying 35 = some d ∧ d.isRow = true := isRow_of (by kernel_rfl)
theorem sizeRaw : (Tryd.prog.info? 35).map (·.size) = some 16 := by kernel_rfl
theorem buildRules (R : Rl) (w : World) : (Instr.buildSlice 26 1 #[(0, .agg #[.int .i64 R.id, .int .i64 R.pr, .int .i64 R.k0, .int .i64 R.v0, .int .i64 R.m0, .int .i64 R.k1, .int .i64 R.v1, .int .i64 R.m1, .int .i64 R.k2, .int .i64 R.v2, .int .i64 R.m2, .int .i64 R.k3, .int .i64 R.v3, .int .i64 R.m3, .int .i64 R.k4, .int .i64 R.v4, .int .i64 R.m4, .int .i64 R.ac, .int .i64 R.po])]).run Tryd.prog w = .ok (.slice (some ⟨w.heap.size, 0, none⟩) 1 1) (w.alloc (.cells #[.int .i64 R.id, .int .i64 R.pr, .int .i64 R.k0, .int .i64 R.v0, .int .i64 R.m0, .int .i64 R.k1, .int .i64 R.v1, .int .i64 R.m1, .int .i64 R.k2, .int .i64 R.v2, .int .i64 R.m2, .int .i64 R.k3, .int .i64 R.v3, .int .i64 R.m3, .int .i64 R.k4, .int .i64 R.v4, .int .i64 R.m4, .int .i64 R.ac, .int .i64 R.po] 31)) := by kernel_rfl
theorem tdiv3 {x : Int} (h1 : -9223372036854775808 ≤ x) (h2 : x ≤ 9223372036854775807) : -9223372036854775808 ≤ x.tdiv 3 ∧ x.tdiv 3 ≤ 9223372036854775807 := by
  rcases Int.lt_or_le x 0 with h | h
  · have e : x.tdiv 3 = -((-x).tdiv 3) := by rw [Int.neg_tdiv, Int.neg_neg]
    rw [e, Int.tdiv_eq_ediv_of_nonneg (by omega)]; omega
  · rw [Int.tdiv_eq_ediv_of_nonneg h]; omega
attribute [local go_sem high] buildRules

set_option maxRecDepth 100000 in
set_option maxHeartbeats 4000000 in
theorem found_any (a0 a1 a2 : Option Addr) (n0 n1 n2 c0 c1 c2 g0 g1 g2 o0 o1 o2 : Nat) (w : World) (hl : Laid w) (h0 : RawsAt w a0 n0 g0 o0) (h1 : IntsAt w a1 n1 g1 o1) (h2 : IntsAt w a2 n2 g2 o2) (hn0 : n0 ≤ 9223372036854775000) (hn1 : n1 ≤ 9223372036854775000) (hn2 : n2 ≤ 9223372036854775000) :
    Calls Tryd.prog 3 #[.slice a0 n0 c0, .slice a1 n1 c1, .slice a2 n2 c2] w fun e w' => e = .returned (.bool true) ∧ Below w.heap.size w w' := by
  obtain ⟨dr, hur, hdr⟩ := underRule
  obtain ⟨dw, huw, hdw⟩ := underRaw
  have CS := hide (sieve_any w hl)
  have hpos := hl.pos
  have H0 := hide h0
  have H1 := hide h1
  have H2 := hide h2
  clear hl h0 h1 h2
  go_enter Tryd.func3, Tryd.ntmps3
  go_wp2_with fail
  refine CS.out.mono ?_
  rintro e w1 ⟨t, F0, rfl, hT1, hF1, hB1⟩
  have HS := hide (show FI w w1 t (.slice none 0 0) F0 [] [] 0 from ⟨hT1, RulesOwn.nil w1 hpos, Both.nil, hF1, hB1⟩)
  clear CS hT1 hF1 hB1
  go_wp2_with fail
  go_loopw [8, 9] (fun l i wr => ∃ (k : Nat) (F : Nat → Prop) (L : List Ent) (rs : List Rl), k ≤ n0 ∧ k ≤ 200 ∧ i = .int .i64 k ∧ FI w wr t l F L rs k) (fun _ i _ => n0 - (intOf i).toNat)
  case atStart => exact ⟨0, F0, [], [], by omega, by omega, rfl, HS.out⟩
  case round =>
    obtain ⟨k, F, L, rs, hk0, hk2, rfl, hf⟩ := hrel
    clear HS
    by_cases hkn : k < n0
    · have hki : (k : Int) < n0 := by omega
      by_cases hk3 : k < 200
      · have hkj : (k : Int) < 200 := by omega
        obtain ⟨pr, kd, a, b, hraw, hpr, hkd, ha, hb⟩ := H0.out.2 k hkn
        obtain rfl := H0.out.1 (by omega)
        have hrw : wr.rangeAt g0 (o0 + k * 16) [.int .i64 pr, .int .i64 (kd 0), .int .i64 (kd 1), .int .i64 (kd 2), .int .i64 (kd 3), .int .i64 (kd 4), .int .i64 (a 0), .int .i64 (a 1), .int .i64 (a 2), .int .i64 (a 3), .int .i64 (a 4), .int .i64 (b 0), .int .i64 (b 1), .int .i64 (b 2), .int .i64 (b 3), .int .i64 (b 4)] := rangeAt_below hraw hf.below
        obtain ⟨R, hR⟩ : ∃ R, R = ruleV pr kd a b k := ⟨_, rfl⟩
        have CR : Hid (Calls Tryd.prog 6 #[.agg #[.int .i64 pr, .int .i64 (kd 0), .int .i64 (kd 1), .int .i64 (kd 2), .int .i64 (kd 3), .int .i64 (kd 4), .int .i64 (a 0), .int .i64 (a 1), .int .i64 (a 2), .int .i64 (a 3), .int .i64 (a 4), .int .i64 (b 0), .int .i64 (b 1), .int .i64 (b 2), .int .i64 (b 3), .int .i64 (b 4)], .int .i64 k] wr fun e w' => e = .returned (.agg #[.int .i64 R.id, .int .i64 R.pr, .int .i64 R.k0, .int .i64 R.v0, .int .i64 R.m0, .int .i64 R.k1, .int .i64 R.v1, .int .i64 R.m1, .int .i64 R.k2, .int .i64 R.v2, .int .i64 R.m2, .int .i64 R.k3, .int .i64 R.v3, .int .i64 R.m3, .int .i64 R.k4, .int .i64 R.v4, .int .i64 R.m4, .int .i64 R.ac, .int .i64 R.po]) ∧ Below wr.heap.size wr w') := hide (by
          have := rule_any pr k kd a b wr hpr hkd ha hb
          rw [← hR] at this
          exact this)
        have hok : R.ok = true := by rw [hR]; exact ruleV_ok pr kd a b k (by omega)
        have hid : R.id = k := by rw [hR]; rfl
        have HOK := hide hok
        have HID := hide hid
        have FF := hide hf
        clear hR hok hid hf hraw hpr hkd ha hb
        go_wp2_with ((with_reducible show wpList _ _ _ _ _ _); refine wpList_load_mid rfl 35 _ rfl g0 (o0 + k * 16) rfl [.int .i64 pr, .int .i64 (kd 0), .int .i64 (kd 1), .int .i64 (kd 2), .int .i64 (kd 3), .int .i64 (kd 4), .int .i64 (a 0), .int .i64 (a 1), .int .i64 (a 2), .int .i64 (a 3), .int .i64 (a 4), .int .i64 (b 0), .int .i64 (b 1), .int .i64 (b 2), .int .i64 (b 3), .int .i64 (b 4)] dw hrw huw hdw sizeRaw ?_)
        refine CR.out.mono ?_
        rintro e w1' ⟨rfl, hb1⟩
        obtain ⟨W, hW⟩ : ∃ W, (w1'.alloc (.cells #[.int .i64 0, .int .i64 0, .int .i64 0, .int .i64 0, .int .i64 0, .int .i64 0, .int .i64 0, .int .i64 0, .int .i64 0, .int .i64 0, .int .i64 0, .int .i64 0, .int .i64 0, .int .i64 0, .int .i64 0, .int .i64 0, .int .i64 0, .int .i64 0, .int .i64 0] 31)).setCells w1'.heap.size 0 (#[.int .i64 R.id, .int .i64 R.pr, .int .i64 R.k0, .int .i64 R.v0, .int .i64 R.m0, .int .i64 R.k1, .int .i64 R.v1, .int .i64 R.m1, .int .i64 R.k2, .int .i64 R.v2, .int .i64 R.m2, .int .i64 R.k3, .int .i64 R.v3, .int .i64 R.m3, .int .i64 R.k4, .int .i64 R.v4, .int .i64 R.m4, .int .i64 R.ac, .int .i64 R.po] : Array Value).toList = W := ⟨_, rfl⟩
        have hth : (w1'.alloc (.cells #[.int .i64 0, .int .i64 0, .int .i64 0, .int .i64 0, .int .i64 0, .int .i64 0, .int .i64 0, .int .i64 0, .int .i64 0, .int .i64 0, .int .i64 0, .int .i64 0, .int .i64 0, .int .i64 0, .int .i64 0, .int .i64 0, .int .i64 0, .int .i64 0, .int .i64 0] 31)).there w1'.heap.size 0 (#[.int .i64 R.id, .int .i64 R.pr, .int .i64 R.k0, .int .i64 R.v0, .int .i64 R.m0, .int .i64 R.k1, .int .i64 R.v1, .int .i64 R.m1, .int .i64 R.k2, .int .i64 R.v2, .int .i64 R.m2, .int .i64 R.k3, .int .i64 R.v3, .int .i64 R.m3, .int .i64 R.k4, .int .i64 R.v4, .int .i64 R.m4, .int .i64 R.ac, .int .i64 R.po] : Array Value).size := there_at rfl
        have hbW : Below wr.heap.size wr W := by rw [← hW]; exact Below.setCells hb1.size _ _ (hb1.alloc hb1.size _)
        have hrW : W.rangeAt w1'.heap.size 0 [.int .i64 R.id, .int .i64 R.pr, .int .i64 R.k0, .int .i64 R.v0, .int .i64 R.m0, .int .i64 R.k1, .int .i64 R.v1, .int .i64 R.m1, .int .i64 R.k2, .int .i64 R.v2, .int .i64 R.m2, .int .i64 R.k3, .int .i64 R.v3, .int .i64 R.m3, .int .i64 R.k4, .int .i64 R.v4, .int .i64 R.m4, .int .i64 R.ac, .int .i64 R.po] := by rw [← hW]; exact World.rangeAt_setCells_same _ _ _ _ hth
        have hsz1 := hb1.size
        have HW := hide hW
        have HBW := hide hbW
        have CI := hide (tins_any t R W F L (FF.out.tab.still hbW))
        clear CR hb1 hrw hbW hW
        go_wp2_with ((with_reducible show wpList _ _ _ _ _ _); first | (refine wpList_store_to rfl 31 _ _ rfl w1'.heap.size 0 #[.int .i64 R.id, .int .i64 R.pr, .int .i64 R.k0, .int .i64 R.v0, .int .i64 R.m0, .int .i64 R.k1, .int .i64 R.v1, .int .i64 R.m1, .int .i64 R.k2, .int .i64 R.v2, .int .i64 R.m2, .int .i64 R.k3, .int .i64 R.v3, .int .i64 R.m3, .int .i64 R.k4, .int .i64 R.v4, .int .i64 R.m4, .int .i64 R.ac, .int .i64 R.po] rfl rfl hth sizeRule (ones _) W HW.out ?_) | (refine wpList_load_mid rfl 31 _ rfl w1'.heap.size 0 rfl [.int .i64 R.id, .int .i64 R.pr, .int .i64 R.k0, .int .i64 R.v0, .int .i64 R.m0, .int .i64 R.k1, .int .i64 R.v1, .int .i64 R.m1, .int .i64 R.k2, .int .i64 R.v2, .int .i64 R.m2, .int .i64 R.k3, .int .i64 R.v3, .int .i64 R.m3, .int .i64 R.k4, .int .i64 R.v4, .int .i64 R.m4, .int .i64 R.ac, .int .i64 R.po] dr hrW hur hdr sizeRule ?_))
        refine CI.out.mono ?_
        rintro e w2 ⟨rfl, hI⟩
        obtain ⟨F2, L2, hT2, hO2, hB2, hF2, hb2, hC2⟩ := FF.out.ins hk3 HOK.out HID.out HBW.out hI
        rw [FF.out.both.code hk3 HOK.out HID.out]
        have hR2 : w2.rangeAt w1'.heap.size 0 [.int .i64 R.id, .int .i64 R.pr, .int .i64 R.k0, .int .i64 R.v0, .int .i64 R.m0, .int .i64 R.k1, .int .i64 R.v1, .int .i64 R.m1, .int .i64 R.k2, .int .i64 R.v2, .int .i64 R.m2, .int .i64 R.k3, .int .i64 R.v3, .int .i64 R.m3, .int .i64 R.k4, .int .i64 R.v4, .int .i64 R.m4, .int .i64 R.ac, .int .i64 R.po] := fun j u hu => hC2.block.cell (fun hx => by have := FF.out.tab.lt hx; omega) (hrW j u hu)
        have hcn : ∀ j u, (rowL [R])[j]? = some u → (w2.alloc (.cells #[.int .i64 R.id, .int .i64 R.pr, .int .i64 R.k0, .int .i64 R.v0, .int .i64 R.m0, .int .i64 R.k1, .int .i64 R.v1, .int .i64 R.m1, .int .i64 R.k2, .int .i64 R.v2, .int .i64 R.m2, .int .i64 R.k3, .int .i64 R.v3, .int .i64 R.m3, .int .i64 R.k4, .int .i64 R.v4, .int .i64 R.m4, .int .i64 R.ac, .int .i64 R.po] 31)).cell? ((⟨w2.heap.size, 0, none⟩ : Addr).add j) = some u := cells_new w2 R 31
        have hba : Below w2.heap.size w2 (w2.alloc (.cells #[.int .i64 R.id, .int .i64 R.pr, .int .i64 R.k0, .int .i64 R.v0, .int .i64 R.m0, .int .i64 R.k1, .int .i64 R.v1, .int .i64 R.m1, .int .i64 R.k2, .int .i64 R.v2, .int .i64 R.m2, .int .i64 R.k3, .int .i64 R.v3, .int .i64 R.m3, .int .i64 R.k4, .int .i64 R.v4, .int .i64 R.m4, .int .i64 R.ac, .int .i64 R.po] 31)) := (Below.refl _ w2).alloc (Nat.le_refl _) _
        have OA := hide (hO2.below hba)
        have hszA : w.heap.size ≤ (w2.alloc (.cells #[.int .i64 R.id, .int .i64 R.pr, .int .i64 R.k0, .int .i64 R.v0, .int .i64 R.m0, .int .i64 R.k1, .int .i64 R.v1, .int .i64 R.m1, .int .i64 R.k2, .int .i64 R.v2, .int .i64 R.m2, .int .i64 R.k3, .int .i64 R.v3, .int .i64 R.m3, .int .i64 R.k4, .int .i64 R.v4, .int .i64 R.m4, .int .i64 R.ac, .int .i64 R.po] 31)).heap.size := Nat.le_trans hb2.size hba.size
        have hlr : rs.length + 1 ≤ 1000 := by have := FF.out.both.lenR; omega
        have T2 := hide hT2
        have O2 := hide hO2
        have B2 := hide hB2
        have FR2 := hide hF2
        have BB2 := hide hb2
        have HBA := hide hba
        have HSZA := hide hszA
        clear hI hT2 hO2 hB2 hF2 hb2 hC2 hba hszA CI HW hrW hth HBW FF HOK HID hsz1
        go_wp2_with ((with_reducible show wpList _ _ _ _ _ _); first | (refine wpList_load_mid rfl 31 _ rfl w1'.heap.size 0 rfl [.int .i64 R.id, .int .i64 R.pr, .int .i64 R.k0, .int .i64 R.v0, .int .i64 R.m0, .int .i64 R.k1, .int .i64 R.v1, .int .i64 R.m1, .int .i64 R.k2, .int .i64 R.v2, .int .i64 R.m2, .int .i64 R.k3, .int .i64 R.v3, .int .i64 R.m3, .int .i64 R.k4, .int .i64 R.v4, .int .i64 R.m4, .int .i64 R.ac, .int .i64 R.po] dr hR2 hur hdr sizeRule ?_) | (at_builtin; refine wpList_rules OA.out rfl _ _ rfl rfl ⟨w2.heap.size, 0, none⟩ 1 1 rfl [R] rfl hcn hlr HSZA.out ?_))
        intro l1 w3 hO3 hg3
        have F3 := hide (FI.app T2.out O2.out B2.out FR2.out BB2.out HBA.out hg3 hO3)
        have hne : rs ++ [R] ≠ [] := by simp
        clear hO3 hg3 T2 O2 B2 FR2 BB2 HBA HSZA OA hcn hR2 hlr
        generalize rs ++ [R] = rs1 at F3 hne
        have hl0 : 0 < rs1.length := List.length_pos_iff.2 hne
        have hl2 : rs1.length ≤ k + 1 := F3.out.both.lenR
        obtain ⟨g3, cap3, rfl⟩ : ∃ g cap, l1 = .slice (some ⟨g, 0, none⟩) rs1.length cap := by
          rcases F3.out.own.1.2 with ⟨_, h⟩ | ⟨g, cap, cur, h, _⟩
          · omega
          · exact ⟨g, cap, h⟩
        clear hne
        by_cases hd : k < n1
        · obtain ⟨x, hx, hx1, hx2⟩ := H1.out.2 k hd
          obtain rfl := H1.out.1 (by omega)
          have hxc : w3.cell? ⟨g1, o1 + k, none⟩ = some (.int .i64 x) := (F3.out.below.cell (p := ⟨g1, o1 + k, none⟩) (block_lt_of_cell hx)).trans hx
          have hdi : (k : Int) < n1 := by omega
          by_cases hp : pickV x 3 = 0
          · have hq1 := (tdiv3 hx1 hx2).1
            have hq2 := (tdiv3 hx1 hx2).2
            have hqw : IntKind.i64.wrap (x.tdiv 3) = x.tdiv 3 := by rw [IntKind.wrap_i64]; omega
            have hpr2 := pickV_range (x.tdiv 3) (n := (rs1.length : Int)) (by omega)
            obtain ⟨m, hm⟩ : ∃ m : Nat, pickV (x.tdiv 3) (rs1.length : Int) = m := ⟨(pickV (x.tdiv 3) (rs1.length : Int)).toNat, by omega⟩
            rw [hm] at hpr2
            have hml : m < rs1.length := by omega
            have CP2 := hide (show Calls Tryd.prog 8 #[.int .i64 (x.tdiv 3), .int .i64 (rs1.length : Int)] w3 fun e w' => e = .returned (.int .i64 m) ∧ w' = w3 from hm ▸ pick_any (x.tdiv 3) (rs1.length : Int) w3 hq1 hq2 (by omega) (by omega))
            have CP1 := hide (show Calls Tryd.prog 8 #[.int .i64 x, .int .i64 3] w3 fun e w' => e = .returned (.int .i64 0) ∧ w' = w3 from hp ▸ pick_any x 3 w3 hx1 hx2 (by omega) (by omega))
            clear hm hp hx
            obtain ⟨q, hq⟩ : ∃ q, q = rs1[m] := ⟨_, rfl⟩
            have cm : w3.cell? ⟨g3, m * 19, none⟩ = some (.int .i64 q.id) := by
              have h := rowL_get rs1 m hml 0 (by omega)
              rw [Nat.add_zero] at h
              rw [F3.out.own.1.cellAt _ (by omega), h, hq]
              rfl
            have hcap : rs1.length ≤ cap3 := by
              rcases F3.out.own.1.2 with ⟨h, _⟩ | ⟨g, cap, cur, h, _, _, hc, _⟩
              · cases h
              · cases h; exact hc
            have CD := tdel_any t q.id w3 F2 L2 F3.out.tab
            rw [hq, F3.out.both.there hml, if_pos rfl, ← hq] at CD
            have HCD := hide CD
            have HQ := hide hq
            have hmi : (m : Int) < rs1.length := by omega
            have hmc : (m : Int) ≤ cap3 := by omega
            have hmc1 : (m : Int) + 1 ≤ rs1.length := by omega
            have hlc : (rs1.length : Int) ≤ cap3 := by omega
            clear CD hq
            go_wp2_with fail
            refine CP1.out.mono ?_
            rintro e w4 ⟨rfl, hww⟩
            rw [hww]
            clear hww CP1
            go_wp2_with fail
            refine CP2.out.mono ?_
            rintro e w4 ⟨rfl, hww⟩
            rw [hww]
            clear hww CP2
            go_wp2_with fail
            refine HCD.out.mono ?_
            rintro e w5 ⟨rfl, hT5, hC5⟩
            have O5 := hide (F3.out.own.chg F3.out.tab hC5)
            have T5 := hide hT5
            have C5 := hide hC5
            have hs5 : w.heap.size ≤ w5.heap.size := Nat.le_trans F3.out.below.size hC5.size
            clear HCD hT5 hC5 cm
            go_wp2_with ((with_reducible show wpList _ _ _ _ _ _); at_builtin; refine wpList_rules (RulesOwn.nil w5 hpos) rfl _ _ rfl rfl ⟨g3, 0, none⟩ m cap3 rfl (rs1.take m) (by simp; omega) (O5.out.cells_take m (by omega)) (by simp; omega) hs5 ?_)
            intro v6 w6 hO6 hg6
            have OL := hide (O5.out.same fun g hg => hg6.block g (O5.out.lt hg) (by simp [Value.ownBlock]))
            have O6 := hide hO6
            have G6 := hide hg6
            have hs6 : w.heap.size ≤ w6.heap.size := Nat.le_trans hs5 hg6.size
            clear hO6 hg6
            by_cases hcz : cap3 = m + 1
            · have hdn : rs1.drop (m + 1) = [] := List.drop_eq_nil_of_le (by omega)
              have hcv : ∀ j u, (rowL (rs1.drop (m + 1)))[j]? = some u → w6.cell? ((⟨g3, 0, none⟩ : Addr).add j) = some u := fun j u hu => by rw [hdn] at hu; cases hu
              have hlen6 : (rs1.take m).length + 0 ≤ 1000 := by rw [List.length_take]; omega
              subst hcz
              clear hdn
              go_wp2_with ((with_reducible show wpList _ _ _ _ _ _); at_builtin; refine wpList_rules O6.out rfl _ _ rfl rfl ⟨g3, 0, none⟩ 0 _ rfl (rs1.drop (m + 1)) (by rw [List.length_drop]; omega) hcv hlen6 hs6 ?_)
              intro l7 w7' hO7 hg7
              have FC := F3.out.cut hml (HQ.out ▸ T5.out) C5.out G6.out O6.out hg7 hO7
              have FF6 := hide FC
              clear FC hO7 hg7 O5 T5 C5 OL O6 G6 F3 HQ hs5 hs6 hcap hmi hmc hmc1 hlc hl0 hl2 hcv hlen6
              generalize rs1.take m ++ rs1.drop (m + 1) = rs6 at FF6
              generalize (L2.filter fun a => a.2.id != rs1[m].id) = L6 at FF6
              have CK := hide (key_any a2 n2 c2 g2 o2 k w7' (H2.out.below FF6.out.below) (by omega) (by omega))
              go_wp2_with fail
              refine CK.out.mono ?_
              rintro e w7 ⟨x0, x1, x2, x3, x4, rfl, hkb, hb7⟩
              have F7 := hide (FF6.out.still hb7)
              have CRI := hide (right_any t _ rs6 x0 x1 x2 x3 x4 w7 F2 L6 F7.out.tab F7.out.own F7.out.both.same (fun r hr => (F7.out.both.each r hr).1) hkb (Nat.le_trans F7.out.both.lenR (by omega)))
              clear CK hkb hb7 FF6
              go_wp2_with fail
              refine CRI.out.mono ?_
              rintro e w8 ⟨rfl, hb8⟩
              have F8 := hide (F7.out.still hb8)
              clear CRI hb8 F7
              go_wp2
              go_roundw
              case rel => exact ⟨k + 1, F2, L6, rs6, by omega, by omega, by go_num, F8.out⟩
              case measure => simp [intOf]; omega
            · have hcz1 : m + 1 < cap3 := by omega
              have hcz2 : ¬ (cap3 - (m + 1) = 0) := by omega
              go_wp2_with ((with_reducible show wpList _ _ _ _ _ _); at_builtin; refine wpList_rules O6.out rfl _ _ rfl rfl ⟨g3, (m + 1) * 19, none⟩ (rs1.length - (m + 1)) _ rfl (rs1.drop (m + 1)) (by simp) (OL.out.cells_drop (m + 1) (by omega)) (by simp; omega) hs6 ?_)
              intro l7 w7' hO7 hg7
              have FC := F3.out.cut hml (HQ.out ▸ T5.out) C5.out G6.out O6.out hg7 hO7
              have FF6 := hide FC
              clear FC hO7 hg7 O5 T5 C5 OL O6 G6 F3 HQ hs5 hs6 hcap hmi hmc hmc1 hlc hl0 hl2
              generalize rs1.take m ++ rs1.drop (m + 1) = rs6 at FF6
              generalize (L2.filter fun a => a.2.id != rs1[m].id) = L6 at FF6
              have CK := hide (key_any a2 n2 c2 g2 o2 k w7' (H2.out.below FF6.out.below) (by omega) (by omega))
              go_wp2_with fail
              refine CK.out.mono ?_
              rintro e w7 ⟨x0, x1, x2, x3, x4, rfl, hkb, hb7⟩
              have F7 := hide (FF6.out.still hb7)
              have CRI := hide (right_any t _ rs6 x0 x1 x2 x3 x4 w7 F2 L6 F7.out.tab F7.out.own F7.out.both.same (fun r hr => (F7.out.both.each r hr).1) hkb (Nat.le_trans F7.out.both.lenR (by omega)))
              clear CK hkb hb7 FF6
              go_wp2_with fail
              refine CRI.out.mono ?_
              rintro e w8 ⟨rfl, hb8⟩
              have F8 := hide (F7.out.still hb8)
              clear CRI hb8 F7
              go_wp2
              go_roundw
              case rel => exact ⟨k + 1, F2, L6, rs6, by omega, by omega, by go_num, F8.out⟩
              case measure => simp [intOf]; omega
          · have CP1 := hide (pick_any x 3 w3 hx1 hx2 (by omega) (by omega))
            clear hx
            go_wp2_with fail
            refine CP1.out.mono ?_
            rintro e w4 ⟨rfl, hww⟩
            rw [hww]
            clear hww CP1
            have CK := hide (key_any a2 n2 c2 g2 o2 k w3 (H2.out.below F3.out.below) (by omega) (by omega))
            go_wp2_with fail
            refine CK.out.mono ?_
            rintro e w7 ⟨x0, x1, x2, x3, x4, rfl, hkb, hb7⟩
            have F7 := hide (F3.out.still hb7)
            have CRI := hide (right_any t _ rs1 x0 x1 x2 x3 x4 w7 F2 L2 F7.out.tab F7.out.own F7.out.both.same (fun r hr => (F7.out.both.each r hr).1) hkb (Nat.le_trans F7.out.both.lenR (by omega)))
            clear CK hkb hb7 F3
            go_wp2_with fail
            refine CRI.out.mono ?_
            rintro e w8 ⟨rfl, hb8⟩
            have F8 := hide (F7.out.still hb8)
            clear CRI hb8 F7
            go_wp2
            go_roundw
            case rel => exact ⟨k + 1, F2, L2, rs1, by omega, by omega, by go_num, F8.out⟩
            case measure => simp [intOf]; omega
        · have hdi : ¬ ((k : Int) < n1) := by omega
          have CK := hide (key_any a2 n2 c2 g2 o2 k w3 (H2.out.below F3.out.below) (by omega) (by omega))
          go_wp2_with fail
          refine CK.out.mono ?_
          rintro e w7 ⟨x0, x1, x2, x3, x4, rfl, hkb, hb7⟩
          have F7 := hide (F3.out.still hb7)
          have CRI := hide (right_any t _ rs1 x0 x1 x2 x3 x4 w7 F2 L2 F7.out.tab F7.out.own F7.out.both.same (fun r hr => (F7.out.both.each r hr).1) hkb (Nat.le_trans F7.out.both.lenR (by omega)))
          clear CK hkb hb7 F3
          go_wp2_with fail
          refine CRI.out.mono ?_
          rintro e w8 ⟨rfl, hb8⟩
          have F8 := hide (F7.out.still hb8)
          clear CRI hb8 F7
          go_wp2
          go_roundw
          case rel => exact ⟨k + 1, F2, L2, rs1, by omega, by omega, by go_num, F8.out⟩
          case measure => simp [intOf]; omega
      · have hkj : ¬ ((k : Int) < 200) := by omega
        have FF := hide hf
        clear hf
        go_wp2_with fail
        go_loopw [16] (fun i wr => ∃ (j : Nat), j ≤ n2 ∧ i = .int .i64 j ∧ FI w wr t u8 F L rs k) (fun i _ => n2 - (intOf i).toNat)
        case atStart => exact ⟨0, by omega, rfl, FF.out⟩
        case round =>
          obtain ⟨j, hj, rfl, hf2⟩ := hrel
          by_cases hj2 : j < n2
          · have hji : (j : Int) < n2 := by omega
            have G2 := hide hf2
            have CK := hide (key_any a2 n2 c2 g2 o2 j _ (H2.out.below hf2.below) (by omega) (by omega))
            clear hf2
            go_wp2_with fail
            refine CK.out.mono ?_
            rintro e w7 ⟨x0, x1, x2, x3, x4, rfl, hkb, hb7⟩
            have F7 := hide (G2.out.still hb7)
            have CRI := hide (right_any t u8 rs x0 x1 x2 x3 x4 w7 F L F7.out.tab F7.out.own F7.out.both.same (fun r hr => (F7.out.both.each r hr).1) hkb (Nat.le_trans F7.out.both.lenR (by omega)))
            clear CK hkb hb7 G2
            go_wp2_with fail
            refine CRI.out.mono ?_
            rintro e w8 ⟨rfl, hb8⟩
            have F8 := hide (F7.out.still hb8)
            clear CRI hb8 F7
            go_wp2
            go_roundw
            case rel => exact ⟨j + 1, by omega, by go_num, F8.out⟩
            case measure => simp [intOf]; omega
          · have hji : ¬ ((j : Int) < n2) := by omega
            have G2 := hide hf2
            clear hf2
            go_wp2
            go_ret
            exact ⟨rfl, G2.out.below⟩
    · have hki : ¬ ((k : Int) < n0) := by omega
      have FF := hide hf
      clear hf
      go_wp2_with fail
      go_loopw [16] (fun i wr => ∃ (j : Nat), j ≤ n2 ∧ i = .int .i64 j ∧ FI w wr t u8 F L rs k) (fun i _ => n2 - (intOf i).toNat)
      case atStart => exact ⟨0, by omega, rfl, FF.out⟩
      case round =>
        obtain ⟨j, hj, rfl, hf2⟩ := hrel
        by_cases hj2 : j < n2
        · have hji : (j : Int) < n2 := by omega
          have G2 := hide hf2
          have CK := hide (key_any a2 n2 c2 g2 o2 j _ (H2.out.below hf2.below) (by omega) (by omega))
          clear hf2
          go_wp2_with fail
          refine CK.out.mono ?_
          rintro e w7 ⟨x0, x1, x2, x3, x4, rfl, hkb, hb7⟩
          have F7 := hide (G2.out.still hb7)
          have CRI := hide (right_any t u8 rs x0 x1 x2 x3 x4 w7 F L F7.out.tab F7.out.own F7.out.both.same (fun r hr => (F7.out.both.each r hr).1) hkb (Nat.le_trans F7.out.both.lenR (by omega)))
          clear CK hkb hb7 G2
          go_wp2_with fail
          refine CRI.out.mono ?_
          rintro e w8 ⟨rfl, hb8⟩
          have F8 := hide (F7.out.still hb8)
          clear CRI hb8 F7
          go_wp2
          go_roundw
          case rel => exact ⟨j + 1, by omega, by go_num, F8.out⟩
          case measure => simp [intOf]; omega
        · have hji : ¬ ((j : Int) < n2) := by omega
          have G2 := hide hf2
          clear hf2
          go_wp2
          go_ret
          exact ⟨rfl, G2.out.below⟩

end Go.Proofs.YtaejpejfmpbinaaDoor
