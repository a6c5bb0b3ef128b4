import Derived.Test.YtaejpejfmpbinaaGreatDoorP35
import Derived.Test.YtaejpejfmpbinaaGreatDoorP27
namespace Go.Proofs.YtaejpejfmpbinaaGreatDoor
open Go.RowKit
open Go.Sort (grow)

set_option maxRecDepth 100000 in
set_option maxHeartbeats 1000000 in
/-- Frames that end at their face. -/
theorem sroute_end (s g fm : Nat) (fsv : Value) (Fs : List Fc) (p : Pg) (ov : Value) (w : World) (h1 : w.cell? ⟨s, 1, none⟩ = some (.pointer (some ⟨fm, 0, none⟩))) (hF : MapF w fm fsv Fs) (hs : SortedF Fs) (hg : PgAt w g p ov) (hm : Means w)
    (hk : (kind2 p.f.ty == 2) = true) (hf : forFace Fs p = true) (hz : p.right = true → 20 ≤ p.pb.size) (h8 : p.right = false ∨ b8 p.pb 8 ≤ 1) :
    Calls Tryz.prog 28 #[.pointer (some ⟨s, 0, none⟩), .pointer (some ⟨g, 0, none⟩)] w fun e w' => e = .returned (.int .i64 (if p.right = false then 5 else 6)) ∧ Below w.heap.size w w' := by
  have C := isIPv4_any g p ov w hg hm
  rw [hk] at C
  have CF := hide fun (W : World) (hb : Below w.heap.size w W) => isForFace_any s g fm fsv Fs p ov W (cell_later hb h1) (hF.below hb) hs (hg.below hb)
  rw [hf] at CF
  have HC := hide C
  have HG := hide hg
  have HZ := hide hz
  clear C hg hm hF hs h1 hk hf hz
  cases hr : p.right with
  | false =>
    have hri := hr
    clear h8 HZ
    go_enter Tryz.func28, Tryz.ntmps28
    go_wp2_with fail
    refine HC.out.mono ?_
    rintro e w1 ⟨rfl, hb1⟩
    go_wp2_with fail
    refine (CF.out _ hb1).mono ?_
    rintro e w2 ⟨rfl, hb2⟩
    have hb12 := hb1.trans (hb2.mono hb1.size)
    have P2 := HG.out.below hb12
    have g12 : w2.cell? ⟨g, 12, none⟩ = some (.bool false) := by rw [← hri]; exact P2.cell rfl
    have HB12 := hide hb12
    clear hb1 hb2 hb12 P2 HC CF hr hri
    go_wp2
    go_ret
    exact ⟨rfl, HB12.out⟩
  | true =>
    have hri := hr
    have h8i : (b8 p.pb 8 : Int) ≤ 1 := by
      rcases h8 with h | h
      · rw [hr] at h; cases h
      · omega
    have CT := hide fun (W : World) => pTTL_any p.pb p.ph p.pt W (HZ.out hr)
    clear h8
    go_enter Tryz.func28, Tryz.ntmps28
    go_wp2_with fail
    refine HC.out.mono ?_
    rintro e w1 ⟨rfl, hb1⟩
    go_wp2_with fail
    refine (CF.out _ hb1).mono ?_
    rintro e w2 ⟨rfl, hb2⟩
    have hb12 := hb1.trans (hb2.mono hb1.size)
    have P2 := HG.out.below hb12
    have g12 : w2.cell? ⟨g, 12, none⟩ = some (.bool true) := by rw [← hri]; exact P2.cell rfl
    have g9 : w2.cell? ⟨g, 9, none⟩ = some (.string p.pb) := P2.cell rfl
    have g10 : w2.cell? ⟨g, 10, none⟩ = some (.int .i64 p.ph) := P2.cell rfl
    have g11 : w2.cell? ⟨g, 11, none⟩ = some (.int .i64 p.pt) := P2.cell rfl
    have HB12 := hide hb12
    clear hb1 hb2 hb12 P2 HC CF hr hri
    go_wp2_with fail
    refine (CT.out _).mono ?_
    rintro e w3 ⟨rfl, hb3⟩
    have HB13 := hide (HB12.out.trans (hb3.mono HB12.out.size))
    clear hb3 g12 g9 g10 g11 HB12
    go_wp2
    go_ret
    exact ⟨rfl, HB13.out⟩

set_option maxRecDepth 100000 in
set_option maxHeartbeats 1000000 in
/-- Frames that are not IPv4. -/
theorem sroute_other (s g : Nat) (p : Pg) (ov : Value) (w : World) (hg : PgAt w g p ov) (hm : Means w) (hk : (kind2 p.f.ty == 2) = false) :
    Calls Tryz.prog 28 #[.pointer (some ⟨s, 0, none⟩), .pointer (some ⟨g, 0, none⟩)] w fun e w' => e = .returned (.int .i64 (-1)) ∧ Below w.heap.size w w' := by
  have C := isIPv4_any g p ov w hg hm
  rw [hk] at C
  have HC := hide C
  clear C hg hm hk
  go_enter Tryz.func28, Tryz.ntmps28
  go_wp2_with fail
  refine HC.out.mono ?_
  rintro e w1 ⟨rfl, hb⟩
  go_wp2
  go_ret
  exact ⟨rfl, hb⟩

/-- Routing in full. -/
theorem sroute_any (s g fm rb hb : Nat) (fsv hsv : Value) (Fs : List Fc) (R : List Rt) (p : Pg) (ov : Value) (w : World) (h1 : w.cell? ⟨s, 1, none⟩ = some (.pointer (some ⟨fm, 0, none⟩))) (hF : MapF w fm fsv Fs) (hs : SortedF Fs)
    (h2 : w.cell? ⟨s, 2, none⟩ = some (.pointer (some ⟨rb, 0, none⟩))) (h0 : w.cell? ⟨rb, 0, none⟩ = some (.pointer (some ⟨hb, 0, none⟩))) (hM : MapHq w hb hsv R) (hL : ∀ e ∈ R, LenOk e) (hg : PgAt w g p ov) (hm : Means w)
    (hz : p.right = true → 20 ≤ p.pb.size ∧ p.pb.size ≤ 1000) :
    Calls Tryz.prog 28 #[.pointer (some ⟨s, 0, none⟩), .pointer (some ⟨g, 0, none⟩)] w (RouEnd g p ov (rouP Fs R p) w) := by
  cases hk : (kind2 p.f.ty == 2) with
  | false =>
    refine (sroute_other s g p ov w hg hm hk).mono ?_
    rintro e W ⟨rfl, hb⟩
    exact ⟨-1, rfl, .inl ⟨rfl, p, by unfold rouP; rw [if_pos hk], hg.below hb, OnlyG.of_below hb⟩⟩
  | true =>
    cases hf : forFace Fs p with
    | false =>
      refine (routeU_any s g fm fsv Fs p ov w h1 hF hs hg hm hf).mono ?_
      rintro e W ⟨rfl, hb⟩
      exact ⟨-1, rfl, .inl ⟨rfl, p, by unfold rouP; rw [if_neg (by rw [hk]; decide), if_pos hf], hg.below hb, OnlyG.of_below hb⟩⟩
    | true =>
      by_cases h8 : p.right = false ∨ b8 p.pb 8 ≤ 1
      · refine (sroute_end s g fm fsv Fs p ov w h1 hF hs hg hm hk hf (fun h => (hz h).1) h8).mono ?_
        rintro e W ⟨rfl, hb⟩
        refine ⟨_, rfl, .inr ⟨by split <;> decide, ?_, hg.below hb, OnlyG.of_below hb⟩⟩
        unfold rouP
        rw [if_neg (by rw [hk]; decide), if_neg (by rw [hf]; decide)]
        by_cases hr : p.right = false
        · rw [if_pos hr, if_pos hr]
        · rw [if_neg hr, if_neg hr, if_pos (h8.resolve_left hr)]
      · have hr : p.right = true := by
          cases hr : p.right
          · exact absurd (.inl hr) h8
          · rfl
        have h9 : 1 < b8 p.pb 8 := by
          have : ¬ b8 p.pb 8 ≤ 1 := fun h => h8 (.inr h)
          omega
        exact sroute_find s g fm rb hb fsv hsv Fs R p ov w h1 hF hs h2 h0 hM hL hg hm hk hf hr (hz hr).1 (hz hr).2 h9

/-- The middle stages in full. -/
theorem middleR (s k m fm t vb rb hb : Nat) (pv sv fsv hsv : Value) (P : List Prt) (K : List Mc) (Fs : List Fc) (F : Nat → Prop) (L : List Ent) (V : Int → Int × Int) (R : List Rt) (port : Int) (d : ByteArray) (w : World) (h : SwP w s pv P k m sv K) (hR : SwR w s fm t vb fsv Fs F L V) (hH : ∀ W, Chg (KX m sv) w W → SwH W s rb hb hsv R) (hL : ∀ e ∈ R, LenOk e) (hnat : ∀ p ∈ P, (Lit.int .i64 p.nat).wf = true)
    (hVP : ∀ id, (V id).1 = 2 → 0 ≤ (V id).2 ∧ (V id).2 < P.length) (hid : ∀ b, (Lit.int .i64 (fndP L b).1).wf = true) (hgo : ∀ f q, readF d = some f → (0 ≤ port ∧ port < P.length) → d.size ≤ 600 → rouP Fs R (unpP (pIn P port d f)) = .inr q → GoOn q) : Middle w s k m sv P port d unpP (judP L V P) (rouP Fs R) := by
  refine ⟨fun f K' W hf _ hd hW => ?_, fun f K' W hf hv hd hW => ?_, fun f K' W hf hv hd hW => ?_⟩
  · obtain ⟨_, _, _, cm⟩ := h.kept hW.ch
    have hw := read_wf hf
    exact unpack_any w.heap.size _ _ W hW.pg cm (by show f.rest.size ≤ 1000; omega)
  · obtain ⟨c0, cp, _, cm⟩ := h.kept hW.ch
    have hr := hR.kept h hW.ch
    have hw := read_wf hf
    refine judge_any s w.heap.size t vb L.length pv P F L V _ W c0 cp hr.h3 hr.hT hr.h4 hr.hV hW.pg (unp_right rfl (by show f.rest.size ≤ 1000; omega)) hVP (hid _) ?_ ?_
    · rw [unpP_f]; exact vlanAt_wf hv hnat hw.1
    · rw [unpP_f]
      show f.to.size + f.fr.size + f.ty.size + f.rest.size ≤ 1000
      omega
  · obtain ⟨_, _, _, cm⟩ := h.kept hW.ch
    have hr := hR.kept h hW.ch
    have hh := hH W hW.ch
    have hw := read_wf hf
    refine (sroute_any s w.heap.size fm rb hb fsv hsv Fs R _ _ W hr.h1 hr.hF hr.sF hh.h2 hh.h0 hh.hM hL hW.pg cm (fun h' => ?_)).mono ?_
    · have := unp_right (p := pIn P port d f) rfl (by show f.rest.size ≤ 1000; omega) h'
      exact ⟨this.1, this.2.1⟩
    · rintro e W' ⟨r, rfl, ⟨rfl, q, e1, e2, e3⟩ | ⟨e1, e2, e3, e4⟩⟩
      · exact ⟨-1, rfl, .inl ⟨rfl, q, e1, hgo f q hf hv hd e1, e2, e3⟩⟩
      · exact ⟨r, rfl, .inr ⟨e1, e2, e3, e4⟩⟩
end Go.Proofs.YtaejpejfmpbinaaGreatDoor
