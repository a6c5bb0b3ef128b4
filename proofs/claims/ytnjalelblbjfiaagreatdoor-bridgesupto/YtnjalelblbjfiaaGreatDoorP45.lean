import Derived.Test.YtnjalelblbjfiaaGreatDoorP33
import Derived.Test.YtnjalelblbjfiaaGreatDoorP27
import Derived.Lib.QuietBelow
import Derived.BigQuiet
import Derived.Deep.WholeRow
namespace Go.Proofs.YtnjalelblbjfiaaGreatDoor
open Go.RowKit
open Go.Sort (grow)
attribute [local go_sem] Oper.semAt_some cell?_regrown
attribute [local go_sem ↓ high] append_fold

/-- A slice of numbers, wherever it begins. -/
def NumsO (w : World) (v : Value) (T : List Int) : Prop :=
  ∃ (a : Option Addr) (cap b off : Nat), v = .slice a T.length cap ∧ ∀ j (h : j < T.length), a = some ⟨b, off, none⟩ ∧ w.cell? ⟨b, off + j, none⟩ = some (.int .i64 T[j])
theorem NumsO.below {w w' : World} {v : Value} {T : List Int} (h : NumsO w v T) (hb : Below w.heap.size w w') : NumsO w' v T := by
  obtain ⟨a, cap, b, off, e, hc⟩ := h
  exact ⟨a, cap, b, off, e, fun j hj => ⟨(hc j hj).1, cell_later hb (hc j hj).2⟩⟩
theorem NumsO.takes {w : World} {a : Option Addr} {cap n : Nat} {T : List Int} (h : NumsO w (.slice a T.length cap) T) (hn : n ≤ T.length) : NumsO w (.slice a n cap) (T.take n) := by
  obtain ⟨a', cap', b, off, e, hc⟩ := h
  injection e with e1 e2 e3
  subst e1
  subst e3
  have hl : (T.take n).length = n := by rw [List.length_take]; omega
  refine ⟨a, cap, b, off, by rw [hl], fun j hj => ?_⟩
  rw [List.getElem_take]
  exact hc j (by omega)
set_option maxRecDepth 100000 in
theorem xin_off (T : List Int) (v : Value) (x : Int) (w : World) (h : NumsO w v T) (hl : T.length < 1000000000000) :
    Calls Tryz.prog 128 #[v, .int .i64 x] w fun e w' => e = .returned (.bool (tgOf T x)) ∧ w' = w := by
  obtain ⟨a, cap, b, off, rfl, hc⟩ := h
  have HC := hide hc
  clear hc
  go_enter Tryz.func128, Tryz.ntmps128
  go_wp2_with fail
  go_loopw [5] (fun i wr => wr = w ∧ ∃ k : Nat, k ≤ T.length ∧ i = .int .i64 k ∧ ∀ j (hj : j < T.length), j < k → T[j] ≠ x) (fun i _ => T.length - (intOf i).toNat)
  case atStart => exact ⟨rfl, 0, by omega, rfl, fun j _ h => absurd h (Nat.not_lt_zero j)⟩
  case round =>
    obtain ⟨rfl, k, hk, rfl, hno⟩ := hrel
    have HNO := hide hno
    clear hno
    by_cases hkl : k < T.length
    · have hki : (k : Int) < T.length := by omega
      obtain ⟨rfl, hcell⟩ := HC.out k hkl
      have hbl := block_lt_of_cell hcell
      obtain ⟨y, hy⟩ : ∃ y, y = T[k] := ⟨_, rfl⟩
      rw [← hy] at hcell
      have HY := hide hy
      clear hy
      by_cases hxy : y = x
      · have HX := hide hxy
        subst hxy
        go_wp2
        go_ret
        refine ⟨?_, rfl⟩
        have : tgOf T y = true := by
          unfold tgOf
          rw [List.contains_iff_mem, HY.out]
          exact List.getElem_mem hkl
        rw [this]
        rfl
      · go_wp2_with fail
        go_roundw
        case rel => exact ⟨by trivial, k + 1, by omega, by go_num, fun j hj hjk => by
          by_cases e : j = k
          · subst e; rw [← HY.out]; exact hxy
          · exact HNO.out j hj (by omega)⟩
        case measure => simp [intOf]; omega
    · have hki : ¬ (k : Int) < T.length := by omega
      go_wp2
      go_ret
      refine ⟨?_, rfl⟩
      have : tgOf T x = false := by
        unfold tgOf
        rw [← Bool.not_eq_true, List.contains_iff_mem]
        intro hm
        obtain ⟨j, hj, e⟩ := List.getElem_of_mem hm
        exact HNO.out j hj (by omega) e
      rw [this]
      rfl
/-- append of all tags to none. -/
theorem append_tags {w : World} {tv : Value} {T : List Int} (h : NumsO w tv T) (hl : T.length ≤ 1000000000) (_hp : 0 < w.heap.size) : ∃ ta c w', (Builtin.append_ #[32, 32] 32 #[.slice (some ⟨w.heap.size, 0, none⟩) 0 0, tv]).run Tryz.prog (w.alloc (.cells #[] 3)).drew = .ok (.slice ta T.length c) w' ∧ w'.ownsRow w.heap.size 3 1 (.slice ta T.length c) T.length (T.map fun t => .int .i64 t) ∧ Below w.heap.size w w' := by
  obtain ⟨i0, hi, hz0, hz1, hz2⟩ := info_parts infoInt
  have hb : Below w.heap.size w (w.alloc (.cells #[] 3)).drew := ((Below.refl _ w).alloc (Nat.le_refl _) _).drew
  have hO : (w.alloc (.cells #[] 3)).drew.ownsRow w.heap.size 3 1 (.slice (some ⟨w.heap.size, 0, none⟩) 0 0) 0 [] := ⟨rfl, .inr ⟨w.heap.size, 0, #[], rfl, Nat.le_refl _, heap_alloc_new w _, Nat.le_refl _, by unfold maxLen; omega, rfl, rfl⟩⟩
  obtain ⟨a, cap, b, off, rfl, hc⟩ := h
  by_cases h0 : T = []
  · subst h0
    refine ⟨some ⟨w.heap.size, 0, none⟩, 0, (w.alloc (.cells #[] 3)).drew, ?_, hO, hb⟩
    cases a <;> simp [Builtin.append_, run_underlying underInts, sizeOf, typeInfo, hi, Builtin.lenOf, Builtin.firstCells, loadCells, loadCellsFrom, storeCells]
  · have hl0 : 0 < T.length := List.length_pos_iff.2 h0
    obtain ⟨rfl, -⟩ := hc 0 hl0
    have hnews : ∀ j u, (T.map fun t => Value.int .i64 t)[j]? = some u → (w.alloc (.cells #[] 3)).drew.cell? ((⟨b, off, none⟩ : Addr).add j) = some u := fun j u hu => by
      have hj : j < T.length := by have := (List.getElem?_eq_some_iff.1 hu).1; rwa [List.length_map] at this
      rw [List.getElem?_map, List.getElem?_eq_getElem hj] at hu
      cases hu
      rw [Addr.add_mid]
      exact cell_later hb (hc j hj).2
    obtain ⟨v', w', hap, hown', hgr, hiff⟩ := run_append_own (P := Tryz.prog) (w.alloc (.cells #[] 3)).drew w.heap.size 32 32 3 i0 _ 1 8 underInts hi hz0 hz1 hz2 rfl (by decide) (.slice (some ⟨w.heap.size, 0, none⟩) 0 0) 0 [] hO ⟨b, off, none⟩ T.length cap (T.map fun t => .int .i64 t) (by simp) hnews (by simp [Value.oneCell']) (by unfold maxLen; omega) (by omega) (by simp)
    rw [Nat.zero_add, List.nil_append] at hown'
    have hv' : ∃ ta c, v' = .slice ta T.length c := by
      rcases hown'.2 with ⟨e, e2⟩ | ⟨g, cap, _, e, _⟩
      · omega
      · exact ⟨_, _, e⟩
    obtain ⟨ta, c, rfl⟩ := hv'
    exact ⟨ta, c, w', hap, hown', hb.trans (Below.of_grown hgr hb.size fun x hx => by cases hx; exact Nat.le_refl _)⟩
/-- A port has been set. -/
theorem XSw.setP {w W1 W : World} {y k : Nat} {x : XSt} (h : XSw w y x) (hb : Below w.heap.size w W1) (hk : k < x.Q.length) {nat : Int} {tv : Value} {T : List Int} (ht : W1.ownsRow 1 3 1 tv T.length (T.map fun t => .int .i64 t)) {g n cap : Nat} (hpv : x.pv = .slice (some ⟨g, 0, none⟩) n cap) (hW : W = W1.setCells g (k * 2) [.int .i64 nat, tv]) (_hone : tv.oneCell' = true) : XSw W y { x with Q := x.Q.set k ⟨nat, tv, T⟩ } ∧ Chg (fun b => x.pv.ownBlock = some b) w W := by
  have h1 := h.below hb
  have hn : n = x.Q.length := by
    obtain ⟨a, c, g', e, _⟩ := h.rp.row XPt.row_length
    rw [hpv] at e
    injection e
  have hc1 : Chg (fun b => b = g) W1 W := by rw [hW]; exact chg_cells _ _ rfl (Chg.refl _ W1)
  have hgo : ∀ {t : TypeId} {s n B : Nat} {v : Value} {xs : List Value}, W1.ownsRow B t s v n xs → t ≠ 159 → ∀ b, v.ownBlock = some b → W.heap[b]? = W1.heap[b]? := fun hO ht1 b hb' => hc1.block b (hO.lt b hb').2 fun e => own_apart hO h1.rp.1 ht1 hb' (by rw [hpv, e]; rfl)
  obtain ⟨cs, hcs⟩ := h1.blk
  have hgy : g ≠ y := h1.block h1.rp.1 (by decide) (by rw [hpv]; rfl)
  have hy : W.heap[y]? = W1.heap[y]? := hc1.block y h1.lt (Ne.symm hgy)
  have hcell : ∀ j, W.cell? ⟨y, j, none⟩ = W1.cell? ⟨y, j, none⟩ := fun j => (OnlyAt.of_block hy j).1
  have hrp := h1.rp
  rw [hpv] at hrp
  have hst := hrp.store XPt.row_length hn hk ⟨nat, tv, T⟩
  refine ⟨⟨⟨cs, hy.trans hcs⟩, (hcell 0).trans h1.c0, (hcell 1).trans h1.c1, (hcell 2).trans h1.c2, (hcell 3).trans h1.c3, (hcell 4).trans h1.c4, (hcell 5).trans h1.c5, ?_, h1.rf.same (hgo h1.rf.1 (by decide)), h1.rr.same (hgo h1.rr.1 (by decide)), h1.rt.same (hgo h1.rt.1 (by decide)), h1.rk.same (hgo h1.rk.1 (by decide)), fun q hq => ?_⟩, ?_⟩
  · rw [hW, hpv]
    exact hst
  · rcases List.mem_or_eq_of_mem_set hq with hq | rfl
    · exact ownsRow_same (h1.tg q hq) (hgo (h1.tg q hq) (by decide))
    · exact ownsRow_same ht (hgo ht (by decide))
  · exact (Chg.of_below hb).trans (hc1.mono fun b _ e => by rw [hpv, e]; rfl)
end Go.Proofs.YtnjalelblbjfiaaGreatDoor

namespace Go.Proofs.YtnjalelblbjfiaaGreatDoor
open Go.RowKit
open Go.Sort (grow)
def pStore (p v : Value) : Sem Unit := Instr.storeAt 159 p v
theorem pStore_fold (p v : Value) : Instr.storeAt 159 p v = pStore p v := rfl
attribute [local go_sem] Oper.semAt_some cell?_regrown
attribute [local go_sem ↓ high] append_fold pStore_fold

theorem sizeXPort : (Tryz.prog.info? 159).map (·.size) = some 2 := by kernel_rfl
/-- What the document's Port leaves. -/
def XPorted (y : Nat) (x : XSt) (q nat : Int) (T : List Int) (w : World) (r : Int) (W : World) : Prop := (r ≠ 0 ∧ Below w.heap.size w W) ∨ (r = 0 ∧ (0 ≤ q ∧ q < x.Q.length) ∧ ∃ tv, XSw W y { x with Q := x.Q.set q.toNat ⟨nat, tv, T⟩ } ∧ Chg (fun b => x.pv.ownBlock = some b) w W ∧ ∀ b, tv.ownBlock = some b → w.heap.size ≤ b)
theorem tagsTo_not {nat : Int} {T : List Int} {k : Nat} (hk : k < T.length) (hb : (isV T[k] && !(T[k] == nat || (T.take k).contains T[k])) = false) : portOk nat T = false := by
  unfold portOk
  have : tagsTo nat T T.length = false := by
    unfold tagsTo
    rw [decide_eq_false_iff_not]
    intro h
    rw [h k hk hk] at hb
    cases hb
  rw [this, Bool.and_false]
theorem tagsTo_all {nat : Int} {T : List Int} (hn : 0 ≤ nat ∧ nat ≤ 4094) (h : ∀ j (hj : j < T.length), (isV T[j] && !(T[j] == nat || (T.take j).contains T[j])) = true) : portOk nat T = true := by
  unfold portOk
  have h1 : tagsTo nat T T.length = true := by
    unfold tagsTo
    rw [decide_eq_true_iff]
    exact fun j _ hj => h j hj
  have h2 : (nat == 0 || isV nat) = true := by
    have : isV nat = (decide (1 ≤ nat) && decide (nat ≤ 4094)) := rfl
    rw [this]
    by_cases e : nat = 0
    · simp [e]
    · simp [show 1 ≤ nat by omega, hn.2]
  rw [h1, h2]
  rfl
set_option maxRecDepth 100000 in
set_option maxHeartbeats 4000000 in
theorem xPort_any (y : Nat) (x : XSt) (q nat : Int) (T : List Int) (ta : Option Addr) (tcap : Nat) (w : World) (h : XSw w y x) (hT : NumsO w (.slice ta T.length tcap) T) (hl : T.length ≤ 1000000000) (hcap : T.length ≤ tcap) (hQ : x.Q.length ≤ 8) :
    Calls Tryz.prog 70 #[.pointer (some ⟨y, 0, none⟩), .int .i64 q, .int .i64 nat, .slice ta T.length tcap] w fun e W => e = .returned (.int .i64 (portRes x.P q nat T)) ∧ XPorted y x q nat T w (portRes x.P q nat T) W := by
  obtain ⟨pa, pcap, pg, hpv, hpr⟩ := h.ports
  have c0 := h.c0
  rw [hpv] at c0
  have hyl := h.lt
  have hPl : x.P.length = x.Q.length := List.length_map _
  obtain ⟨r, hr⟩ : ∃ r, r = portRes x.P q nat T := ⟨_, rfl⟩
  rw [← hr]
  have HR := hide hr
  clear hr
  have hres : portRes x.P q nat T = if decide (0 ≤ q) && decide (q < x.Q.length) then (if portOk nat T then 0 else 2) else 1 := by unfold portRes; rw [hPl]
  have HRES := hide hres
  clear hres
  by_cases hq : 0 ≤ q ∧ q < x.Q.length
  · obtain ⟨k0, rfl⟩ : ∃ k0 : Nat, q = k0 := ⟨q.toNat, by omega⟩
    have hk0 : k0 < x.Q.length := by omega
    have q1 : ¬ (k0 : Int) < 0 := by omega
    have q2 : ¬ (x.Q.length : Int) ≤ k0 := by omega
    have q3 : (k0 : Int) < x.Q.length := by omega
    have hr1 : r = if portOk nat T then 0 else 2 := by rw [HR.out, HRES.out]; simp [hq.2]
    by_cases hn : 0 ≤ nat ∧ nat ≤ 4094
    · have n1 : ¬ nat < 0 := by omega
      have n2 : ¬ (4094 : Int) < nat := by omega
      obtain ⟨rfl, pc0, -⟩ := hpr k0 hk0
      have hpgl := block_lt_of_cell pc0
      have HX := hide h
      have HT := hide hT
      have HR1 := hide hr1
      have HN := hide hn
      have HPV := hide hpv
      have HQ8 := hide hQ
      have HL := hide hl
      have HCAP := hide hcap
      have hli : (T.length : Int) ≤ 1000000000 := by omega
      have HC0 := hide c0
      have CV := hide fun (t : Int) (W : World) => xisVLAN_any t W
      clear h hT hr1 hpr hpv hq hn
      go_enter Tryz.func70, Tryz.ntmps70
      go_wp2_with fail
      clear c0 hpgl pc0
      go_loopw [9] (fun i wr => ∃ k : Nat, k ≤ T.length ∧ i = .int .i64 k ∧ (∀ j (hj : j < T.length), j < k → (isV T[j] && !(T[j] == nat || (T.take j).contains T[j])) = true) ∧ Below w.heap.size w wr) (fun i _ => T.length - (intOf i).toNat)
      case atStart => exact ⟨0, by omega, rfl, fun j _ h => absurd h (Nat.not_lt_zero j), Below.refl _ _⟩
      case round =>
        obtain ⟨k, hk, rfl, hok, hb⟩ := hrel
        have HOK := hide hok
        by_cases hkl : k < T.length
        · have hki : (k : Int) < T.length := by omega
          have hnum := HT.out.below hb
          obtain ⟨ta', tcap', tb, toff, hte, htc⟩ := hnum
          injection hte with hte1 hte2 hte3
          subst hte1
          subst hte3
          obtain ⟨rfl, htk⟩ := htc k hkl
          obtain ⟨t, ht⟩ : ∃ t, t = T[k] := ⟨_, rfl⟩
          rw [← ht] at htk
          have ltb := block_lt_of_cell htk
          have C1 := hide (CV.out t wr)
          have hkn : (k : Int) ≤ T.length := by omega
          have hkc : (k : Int) ≤ tcap := by have := HCAP.out; omega
          have HTK := hide ((HT.out.takes hk).below hb)
          have CI := hide fun (d : Nat) (os : Array Obj) => (xin_off (T.take k) (.slice (some ⟨tb, toff, none⟩) k tcap) t (grow (redrawn wr d) os) (HTK.out.below (below_regrown wr d os)) (by rw [List.length_take]; have := HL.out; omega))
          have CI2 : Hid (∀ (d : Nat) (os : Array Obj), Calls Tryz.prog 128 #[.slice (some ⟨tb, toff, none⟩) k tcap, .int .i64 t] (grow (redrawn wr d) os) fun e w' => e = .returned (.bool (tgOf (T.take k) t)) ∧ Below (grow (redrawn wr d) os).heap.size (grow (redrawn wr d) os) w') := hide fun d os => (CI.out d os).mono fun e w' hh => And.intro hh.1 (by rw [hh.2]; exact Below.refl _ _)
          obtain ⟨tw, htw⟩ : ∃ tw, tw = tgOf (T.take k) t := ⟨_, rfl⟩
          rw [← htw] at CI2
          have HTW := hide htw
          have HT2 := hide ht
          have HB := hide hb
          clear hok hb CI htc hte2 htw ht
          go_wp2_with fail
          refine C1.out.mono ?_
          rintro e W ⟨rfl, hww⟩
          rw [hww]
          clear hww W C1
          obtain ⟨bv, hbv⟩ : ∃ bv, bv = isV t := ⟨_, rfl⟩
          rw [← hbv]
          have HBV := hide hbv
          clear hbv
          go_wp2_with fail
          refine wp_region_quiet_below (by kernel_rfl) (by kernel_rfl) ?_
          repeat (quiet_step (exact Calls.regrown_of (CI2.out _ _)))
          refine wpQuiet_nil ?_; intro wq hwq; replace hwq := below_of_regrown hwq; obtain ⟨hcq, hfq⟩ := bcell hwq; have hzq := hwq.size
          have HBQ := hide (HB.out.trans (hwq.mono HB.out.size))
          have tq := cell_later hwq htk
          have ltq : tb < wq.heap.size := block_lt_of_cell tq
          have HBAD : Hid ((bv && !(t == nat || tw)) = false → XPorted y x k0 nat T w 2 wq ∧ r = 2) := hide fun hc => by
            have hp : portOk nat T = false := tagsTo_not hkl (by rw [← HT2.out]; show (isV t && !(t == nat || tgOf (T.take k) t)) = false; rw [← HBV.out, ← HTW.out]; exact hc)
            exact ⟨.inl ⟨by decide, HBQ.out⟩, by rw [HR1.out, hp]; rfl⟩
          have HGOOD : Hid ((bv && !(t == nat || tw)) = true → ∀ j (hj : j < T.length), j < k + 1 → (isV T[j] && !(T[j] == nat || (T.take j).contains T[j])) = true) := hide fun hc j hj hjk => by
            by_cases e : j = k
            · subst e
              rw [← HT2.out]
              show (isV t && !(t == nat || tgOf (T.take j) t)) = true
              rw [← HBV.out, ← HTW.out]
              exact hc
            · exact HOK.out j hj (by omega)
          clear hwq hcq hfq hzq htk ltb CI2
          cases bv with
          | false =>
            obtain ⟨hF, hR⟩ := HBAD.out rfl
            have HF := hide hF
            have HRR := hide hR
            clear hF hR
            go_wp2
            go_ret
            exact ⟨by rw [HRR.out]; rfl, by rw [HRR.out]; exact HF.out⟩
          | true =>
            cases tw with
            | true =>
              obtain ⟨hF, hR⟩ := HBAD.out (by simp)
              have HF := hide hF
              have HRR := hide hR
              clear hF hR
              go_wp2
              go_ret
              exact ⟨by rw [HRR.out]; rfl, by rw [HRR.out]; exact HF.out⟩
            | false =>
              cases hen : (t == nat) with
              | true =>
                obtain ⟨hF, hR⟩ := HBAD.out (by rw [hen]; rfl)
                have HF := hide hF
                have HRR := hide hR
                clear hF hR
                go_wp2
                go_ret
                exact ⟨by rw [HRR.out]; rfl, by rw [HRR.out]; exact HF.out⟩
              | false =>
                have HG := hide (HGOOD.out (by rw [hen]; rfl))
                go_wp2_with fail
                go_roundw
                case rel => exact ⟨k + 1, by omega, by go_num, HG.out, HBQ.out⟩
                case measure => simp [intOf]; omega
        · have hki : ¬ (k : Int) < T.length := by omega
          have hpo : portOk nat T = true := tagsTo_all HN.out fun j hj => HOK.out j hj (by omega)
          have hr0 : r = 0 := by rw [HR1.out, hpo]; rfl
          have HR0 := hide hr0
          have hyr := cell_later hb HC0.out
          have lyr : y < wr.heap.size := block_lt_of_cell hyr
          obtain ⟨va, vc, w9, hap, hown9, hb9⟩ := append_tags (HT.out.below hb) HL.out (by omega)
          have hap9 := appN_run hap
          have hb09 : Below w.heap.size w w9 := hb.trans (hb9.mono hb.size)
          have y9 := cell_later hb09 HC0.out
          have ly9 : y < w9.heap.size := block_lt_of_cell y9
          have hx9 := HX.out.below hb09
          have hrp9 := hx9.rp
          rw [HPV.out] at hrp9
          have hth := hrp9.there rfl hk0
          obtain ⟨W, hW⟩ : ∃ W, W = w9.setCells pg (k0 * 2) [.int .i64 nat, .slice va T.length vc] := ⟨_, rfl⟩
          have hst : (pStore (.pointer (some ⟨pg, k0 * 2, none⟩)) (.agg #[.int .i64 nat, .slice va T.length vc])).run Tryz.prog w9 = .ok () W := by
            rw [hW]
            exact run_storeAt_mid (P := Tryz.prog) w9 pg (k0 * 2) 159 #[.int .i64 nat, .slice va T.length vc] hth sizeXPort (by simp [Value.oneCell'])
          have FIN : Hid (XPorted y x k0 nat T w 0 W) := hide (by
            obtain ⟨h1, h2⟩ := HX.out.setP hb09 hk0 (nat := nat) (tv := .slice va T.length vc) (T := T) (ownsRow_baseV hown9 (by omega)) HPV.out hW rfl
            refine .inr ⟨rfl, ⟨by omega, by omega⟩, .slice va T.length vc, by rw [Int.toNat_natCast]; exact h1, h2, fun b hb' => ?_⟩
            have := (hown9.lt b hb').1
            have := hb.size
            omega)
          clear hap hown9 hb9 hb09 hx9 hrp9 hth hW hok hb hpo hr0
          go_wp2_with fail
          go_region
          go_wp2
          go_ret
          exact ⟨by rw [HR0.out]; rfl, by rw [HR0.out]; exact FIN.out⟩
    · have hpo : portOk nat T = false := by
        have : (nat == 0 || isV nat) = false := by
          have hv : isV nat = (decide (1 ≤ nat) && decide (nat ≤ 4094)) := rfl
          rw [hv]
          have h0 : ¬ nat = 0 := by omega
          simp [h0]
          omega
        unfold portOk
        rw [this]
        rfl
      have hr2 : r = 2 := by rw [hr1, hpo]; rfl
      have HF : Hid (XPorted y x k0 nat T w r w) := hide (.inl ⟨by rw [hr2]; decide, Below.refl _ _⟩)
      have HR2 := hide hr2
      by_cases n1 : nat < 0
      · clear h hT hpr hpv hq hn hr1 hpo hr2
        go_enter Tryz.func70, Tryz.ntmps70
        go_wp2
        go_ret
        exact ⟨by rw [HR2.out]; rfl, HF.out⟩
      · have n2 : (4094 : Int) < nat := by omega
        clear h hT hpr hpv hq hn hr1 hpo hr2
        go_enter Tryz.func70, Tryz.ntmps70
        go_wp2
        go_ret
        exact ⟨by rw [HR2.out]; rfl, HF.out⟩
  · have hr1 : r = 1 := by
      rw [HR.out, HRES.out, if_neg]
      simp
      omega
    have HF : Hid (XPorted y x q nat T w r w) := hide (.inl ⟨by rw [hr1]; decide, Below.refl _ _⟩)
    have HR1 := hide hr1
    by_cases q1 : q < 0
    · clear h hT hpr hpv hq hr1
      go_enter Tryz.func70, Tryz.ntmps70
      go_wp2
      go_ret
      exact ⟨by rw [HR1.out]; rfl, HF.out⟩
    · have q2 : (x.Q.length : Int) ≤ q := by omega
      clear h hT hpr hpv hq hr1
      go_enter Tryz.func70, Tryz.ntmps70
      go_wp2
      go_ret
      exact ⟨by rw [HR1.out]; rfl, HF.out⟩
end Go.Proofs.YtnjalelblbjfiaaGreatDoor
