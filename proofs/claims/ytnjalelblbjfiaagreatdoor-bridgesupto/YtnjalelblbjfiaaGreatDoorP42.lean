import Derived.Test.YtnjalelblbjfiaaGreatDoorP41
import Derived.Test.YtnjalelblbjfiaaGreatDoorP35
import Derived.Deep.CutRange
namespace Go.Proofs.YtnjalelblbjfiaaGreatDoor
open Go.RowKit
open Go.Sort (grow)
attribute [local go_sem] cell?_regrown

/-- What routing does with a frame. -/
def rouP (Fs : List Fc) (R : List Rt) (p : Pg) : Int ⊕ Pg :=
  if (kind2 p.f.ty == 2) = false then .inr p
  else if forFace Fs p = false then .inr p
  else if p.right = false then .inl 5
  else if b8 p.pb 8 ≤ 1 then .inl 6
  else match findR R (a32 p.pb 16) with
    | none => .inl 7
    | some e => if (faceOf Fs e.vlan).isSome = true then .inr (readP p e.vlan e.mac (faceS Fs e.vlan)) else .inl 7
/-- How routing ends. -/
def RouEnd (g : Nat) (p : Pg) (ov : Value) (o : Int ⊕ Pg) (w : World) (e : Ending) (w' : World) : Prop :=
  ∃ r : Int, e = .returned (.int .i64 r) ∧ ((r = -1 ∧ ∃ q, o = .inr q ∧ PgAt w' g q ov ∧ OnlyG g w w') ∨ (r ≠ -1 ∧ o = .inl r ∧ PgAt w' g p ov ∧ OnlyG g w w'))

theorem hop_stored {W : World} {B : Nat} {x y a b : Value} (v0 : W.cell? ⟨B, 0, none⟩ = some a) (v1 : W.cell? ⟨B, 1, none⟩ = some b) : ((W.setCell ⟨B, 0, none⟩ x).setCell ⟨B, 1, none⟩ y).cell? ⟨B, 0, none⟩ = some x ∧ ((W.setCell ⟨B, 0, none⟩ x).setCell ⟨B, 1, none⟩ y).cell? ⟨B, 1, none⟩ = some y := by
  refine ⟨?_, ?_⟩
  · rw [World.cell?_setCell_other _ _ _ _ (by simp)]
    exact World.cell?_setCell_same _ _ _ v0
  · exact World.cell?_setCell_same _ _ _ (show (W.setCell ⟨B, 0, none⟩ x).cell? ⟨B, 1, none⟩ = some b by rw [World.cell?_setCell_other _ _ _ _ (by simp)]; exact v1)
set_option maxRecDepth 100000 in
set_option maxHeartbeats 2000000 in
/-- The last part: there is a route, or none. -/
theorem sroute_find (s g fm rb hb : Nat) (fsv hsv : Value) (Fs : List Fc) (R : List Rt) (p : Pg) (ov : Value) (w : World) (h1 : w.cell? ⟨s, 1, none⟩ = some (.pointer (some ⟨fm, 0, none⟩))) (hF : MapF w fm fsv Fs) (hs : SortedF Fs)
    (h2 : w.cell? ⟨s, 2, none⟩ = some (.pointer (some ⟨rb, 0, none⟩))) (h0 : w.cell? ⟨rb, 0, none⟩ = some (.pointer (some ⟨hb, 0, none⟩))) (hM : MapHq w hb hsv R) (hL : ∀ e ∈ R, LenOk e) (hg : PgAt w g p ov) (hm : Means w)
    (hk : (kind2 p.f.ty == 2) = true) (hf : forFace Fs p = true) (hr : p.right = true) (hz : 20 ≤ p.pb.size) (hz2 : p.pb.size ≤ 1000) (h8 : 1 < b8 p.pb 8) :
    Calls Tryz.prog 62 #[.pointer (some ⟨s, 0, none⟩), .pointer (some ⟨g, 0, none⟩)] w (RouEnd g p ov (rouP Fs R p) w) := by
  have C := isIPv4_any g p ov w hg hm
  rw [hk] at C
  have CF := hide fun (W : World) (hb : Below w.heap.size w W) => isForFace_any s g fm fsv Fs p ov W (cell_later hb h1) (hF.below hb) hs (hg.below hb)
  rw [hf] at CF
  have CT := hide fun (W : World) => pTTL_any p.pb p.ph p.pt W hz
  have CD := hide fun (W : World) => pDest_any p.pb p.ph p.pt W hz hz2
  have CR := hide fun (W : World) (hb' : Below w.heap.size w W) => rFind_any rb hb hsv R (a32 p.pb 16) W (cell_later hb' h0) (hM.below' hb') hL (a32_lt _ _)
  have CG := hide fun (x : Int) (W : World) (hb : Below w.heap.size w W) => getFc_any fm fsv Fs x W (hF.below hb) hs
  have CA := hide fun (v : Int) (m face : ByteArray) (W : World) (hb : Below w.heap.size w W) => readdress_any g p ov v m face W (hg.below hb) hz hz2 (by omega)
  obtain ⟨hv, hq, ht, e1, e2, HRU⟩ : ∃ (hv : Int) (hq : ByteArray) (ht : Bool), hopV (findR R (a32 p.pb 16)) = .agg #[.int .i64 hv, .string hq] ∧ (findR R (a32 p.pb 16)).isSome = ht ∧ Hid (rouP Fs R p = if ht = true ∧ (faceOf Fs hv).isSome = true then .inr (readP p hv hq (faceS Fs hv)) else .inl 7) := by
    have hru : rouP Fs R p = match findR R (a32 p.pb 16) with | none => .inl 7 | some e => if (faceOf Fs e.vlan).isSome = true then .inr (readP p e.vlan e.mac (faceS Fs e.vlan)) else .inl 7 := by
      unfold rouP
      rw [if_neg (by rw [hk]; decide), if_neg (by rw [hf]; decide), if_neg (by rw [hr]; decide), if_neg (by omega)]
    cases hx : findR R (a32 p.pb 16) with
    | none =>
      rw [hx] at hru
      exact ⟨0, ⟨#[]⟩, false, rfl, rfl, hide (by rw [hru, if_neg (by rintro ⟨h, _⟩; cases h)])⟩
    | some e =>
      rw [hx] at hru
      refine ⟨e.vlan, e.mac, true, rfl, rfl, hide ?_⟩
      rw [hru]
      show (if (faceOf Fs e.vlan).isSome = true then _ else _) = _
      by_cases hh : (faceOf Fs e.vlan).isSome = true
      · rw [if_pos hh, if_pos ⟨rfl, hh⟩]
      · rw [if_neg hh, if_neg (fun h => hh h.2)]
  rw [e1, e2] at CR
  clear e1 e2
  have HC := hide C
  have HG := hide hg
  have h8i : ¬ ((b8 p.pb 8 : Int) ≤ 1) := by omega
  have H1 := hide h1
  have H2 := hide h2
  have hri := hr
  clear C hg hm hF hs h1 h2 h0 hM hL hk hf hz hz2 h8 hr
  go_enter Tryz.func62, Tryz.ntmps62
  go_wp2_with fail
  refine HC.out.mono ?_
  rintro e w1 ⟨rfl, hb1⟩
  go_wp2_with fail
  refine (CF.out _ hb1).mono ?_
  rintro e w2 ⟨rfl, hb2⟩
  have hb12 := hb1.trans (hb2.mono hb1.size)
  have P2 := HG.out.below hb12
  have g12 : w2.cell? ⟨g, 12, none⟩ = some (.bool true) := by rw [← hri]; exact P2.cell rfl
  have g9 : w2.cell? ⟨g, 9, none⟩ = some (.string p.pb) := P2.cell rfl
  have g10 : w2.cell? ⟨g, 10, none⟩ = some (.int .i64 p.ph) := P2.cell rfl
  have g11 : w2.cell? ⟨g, 11, none⟩ = some (.int .i64 p.pt) := P2.cell rfl
  have HB12 := hide hb12
  clear hb1 hb2 hb12 P2 HC CF
  go_wp2_with fail
  refine (CT.out _).mono ?_
  rintro e w3 ⟨rfl, hb3⟩
  have hb13 := HB12.out.trans (hb3.mono HB12.out.size)
  have k9 := cell_later hb3 g9
  have k10 := cell_later hb3 g10
  have k11 := cell_later hb3 g11
  have s2 := cell_later hb13 H2.out
  have hsl := block_lt_of_cell s2
  have hgl := block_lt_of_cell k9
  have hz13 := hb13.size
  clear hb3 g12 g9 g10 g11 HB12 CT
  go_upto_region 7 with fail
  go_cut [5, 6] from 29 to 41 (fun b t wx => ∃ B, b = .pointer (some ⟨B, 0, none⟩) ∧ t = .bool ht ∧ Below w.heap.size w wx ∧ wx.cell? ⟨B, 0, none⟩ = some (.int .i64 hv) ∧ wx.cell? ⟨B, 1, none⟩ = some (.string hq))
  case first =>
    go_region_with
      (first | (go_at_call 115; refine (CD.out _).mono ?_; rintro e w5 ⟨rfl, hb5⟩; have hb5w : Below w.heap.size w w5 := Below.trans (by repeat (first | exact Below.refl _ _ | assumption | refine Below.drewN ?_ | refine Below.drew ?_ | refine Below.setCell ?_ (by first | exact Nat.le_refl _ | omega | (simp; done) | (simp; omega)) _ | refine Below.alloc ?_ (by first | exact Nat.le_refl _ | omega | (simp; done) | (simp; omega)) _)) (hb5.mono (by first | exact Nat.le_refl _ | omega | (simp; done) | (simp; omega))); have s5 := cell_later hb5w H2.out; have hs5 := block_lt_of_cell s5; have hz5 := hb5w.size; (try (have u0 : w5.cell? ⟨w3.heap.size, 0, none⟩ = some (.int .i64 0) := cell_later hb5 (cellRow (allocN _ _) rfl); have u1 : w5.cell? ⟨w3.heap.size, 1, none⟩ = some (.string ⟨#[]⟩) := cell_later hb5 (cellRow (allocN _ _) rfl); have u2 : w5.frozen? ⟨w3.heap.size, 0, none⟩ = false := (hb5.frozen (p := ⟨w3.heap.size, 0, none⟩) (by simp)).trans (frzRow (allocN _ _) 0); have u3 : w5.frozen? ⟨w3.heap.size, 1, none⟩ = false := (hb5.frozen (p := ⟨w3.heap.size, 1, none⟩) (by simp)).trans (frzRow (allocN _ _) 1); have u4 := block_lt_of_cell u0)); clear hb5) | (go_at_call 114; refine (CR.out _ ?_).mono ?_; (exact (by repeat (first | exact Below.refl _ _ | assumption | refine Below.drewN ?_ | refine Below.drew ?_ | refine Below.setCell ?_ (by first | exact Nat.le_refl _ | omega | (simp; done) | (simp; omega)) _ | refine Below.alloc ?_ (by first | exact Nat.le_refl _ | omega | (simp; done) | (simp; omega)) _))); rintro e w6 ⟨rfl, hb6⟩; have hb6w : Below w.heap.size w w6 := Below.trans (by repeat (first | exact Below.refl _ _ | assumption | refine Below.drewN ?_ | refine Below.drew ?_ | refine Below.setCell ?_ (by first | exact Nat.le_refl _ | omega | (simp; done) | (simp; omega)) _ | refine Below.alloc ?_ (by first | exact Nat.le_refl _ | omega | (simp; done) | (simp; omega)) _)) (hb6.mono (by first | exact Nat.le_refl _ | omega | (simp; done) | (simp; omega))); have hz6 := hb6w.size; (first | (have v0 : w6.cell? ⟨w5.heap.size, 0, none⟩ = some (.int .i64 0) := cell_later hb6 (cellRow (allocN _ _) rfl); have v1 : w6.cell? ⟨w5.heap.size, 1, none⟩ = some (.string ⟨#[]⟩) := cell_later hb6 (cellRow (allocN _ _) rfl); have v2 : w6.frozen? ⟨w5.heap.size, 0, none⟩ = false := (hb6.frozen (p := ⟨w5.heap.size, 0, none⟩) (by simp)).trans (frzRow (allocN _ _) 0); have v3 : w6.frozen? ⟨w5.heap.size, 1, none⟩ = false := (hb6.frozen (p := ⟨w5.heap.size, 1, none⟩) (by simp)).trans (frzRow (allocN _ _) 1); have v4 := block_lt_of_cell v0) | (have v0 := cell_later hb6 u0; have v1 := cell_later hb6 u1; have v2 : w6.frozen? ⟨w3.heap.size, 0, none⟩ = false := (hb6.frozen (p := ⟨w3.heap.size, 0, none⟩) u4).trans u2; have v3 : w6.frozen? ⟨w3.heap.size, 1, none⟩ = false := (hb6.frozen (p := ⟨w3.heap.size, 1, none⟩) u4).trans u3; have v4 := block_lt_of_cell v0) | skip); clear hb6))
    all_goals go_wp2_with fail
    all_goals go_meet
    all_goals first
      | exact ⟨_, rfl, rfl, hb6w.alloc hz6 _, cellRow (allocN _ _) rfl, cellRow (allocN _ _) rfl⟩
      | exact ⟨_, rfl, rfl, (hb6w.setCell (by first | exact hz5 | exact hz13) _).setCell (by first | exact hz5 | exact hz13) _, (hop_stored v0 v1).1, (hop_stored v0 v1).2⟩
  case rest =>
    obtain ⟨B, rfl, rfl, hbx, cB0, cB1⟩ := hcut
    have s1 := cell_later hbx H1.out
    have hs1 := block_lt_of_cell s1
    have hB1 := block_lt_of_cell cB0
    have CG2 := hide fun (d : Nat) (os : Array Obj) => CG.out hv (grow (redrawn wc d) os) (hbx.trans ((below_regrown wc d os).mono hbx.size))
    have HBX := hide hbx
    clear hbx CG CR CD k9 k10 k11 s2 H1 H2 hb13
    go_wp2_with fail
    refine wp_region_quiet_below (by kernel_rfl) (by kernel_rfl) ?_
    repeat (first | go_big_quiet_skip | quiet_step (exact Calls.regrown_of (CG2.out _ _)))
    refine wpQuiet_nil ?_; intro wq hwq; replace hwq := below_of_regrown hwq; obtain ⟨hcq, hfq⟩ := bcell hwq; have hzq := hwq.size
    have q0 := cell_later hwq cB0
    have q1 := cell_later hwq cB1
    have hqB := block_lt_of_cell q0
    have HBQ := hide (HBX.out.trans (hwq.mono HBX.out.size))
    clear hcq hfq hwq CG2 cB0 cB1
    cases ht with
    | false =>
      go_wp2
      go_ret
      exact ⟨7, rfl, .inr ⟨by decide, by rw [HRU.out, if_neg (by rintro ⟨h, _⟩; cases h)], HG.out.below HBQ.out, OnlyG.of_below HBQ.out⟩⟩
    | true =>
      cases hfc : (faceOf Fs hv).isSome with
      | false =>
        have HFC := hide hfc
        go_wp2
        go_ret
        exact ⟨7, rfl, .inr ⟨by decide, by rw [HRU.out, if_neg (by rintro ⟨_, h⟩; rw [HFC.out] at h; cases h)], HG.out.below HBQ.out, OnlyG.of_below HBQ.out⟩⟩
      | true =>
        have HFC := hide hfc
        have CA2 := hide (CA.out hv hq (faceS Fs hv) _ HBQ.out)
        clear hfc CA
        go_wp2_with fail
        refine CA2.out.mono ?_
        rintro e w9 ⟨rfl, hp9, ho9⟩
        have HP9 := hide hp9
        have HO9 := hide ho9
        clear hp9 ho9 CA2
        go_wp2
        go_ret
        exact ⟨-1, rfl, .inl ⟨rfl, _, by rw [HRU.out, if_pos ⟨by trivial, HFC.out⟩], HP9.out, (OnlyG.of_below HBQ.out).trans HO9.out⟩⟩
end Go.Proofs.YtnjalelblbjfiaaGreatDoor
