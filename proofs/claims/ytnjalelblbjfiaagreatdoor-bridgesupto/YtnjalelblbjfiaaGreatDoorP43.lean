import Derived.Test.YtnjalelblbjfiaaGreatDoorP42
import Derived.Test.YtnjalelblbjfiaaGreatDoorP35
import Derived.Test.YtnjalelblbjfiaaGreatDoorP40
import Derived.Test.YtnjalelblbjfiaaGreatDoorP38
namespace Go.Proofs.YtnjalelblbjfiaaGreatDoor
open Go.RowKit
open Go.Sort (grow)

set_option maxRecDepth 100000 in
set_option maxHeartbeats 1000000 in
/-- Frames that end at their face. -/
theorem sroute_end (s g fm : Nat) (fsv : Value) (Fs : List Fc) (p : Pg) (ov : Value) (w : World) (h1 : w.cell? ⟨s, 1, none⟩ = some (.pointer (some ⟨fm, 0, none⟩))) (hF : MapF w fm fsv Fs) (hs : SortedF Fs) (hg : PgAt w g p ov) (hm : Means w)
    (hk : (kind2 p.f.ty == 2) = true) (hf : forFace Fs p = true) (hz : p.right = true → 20 ≤ p.pb.size) (h8 : p.right = false ∨ b8 p.pb 8 ≤ 1) :
    Calls Tryz.prog 62 #[.pointer (some ⟨s, 0, none⟩), .pointer (some ⟨g, 0, none⟩)] w fun e w' => e = .returned (.int .i64 (if p.right = false then 5 else 6)) ∧ Below w.heap.size w w' := by
  have C := isIPv4_any g p ov w hg hm
  rw [hk] at C
  have CF := hide fun (W : World) (hb : Below w.heap.size w W) => isForFace_any s g fm fsv Fs p ov W (cell_later hb h1) (hF.below hb) hs (hg.below hb)
  rw [hf] at CF
  have HC := hide C
  have HG := hide hg
  have HZ := hide hz
  clear C hg hm hF hs h1 hk hf hz
  cases hr : p.right with
  | false =>
    have hri := hr
    clear h8 HZ
    go_enter Tryz.func62, Tryz.ntmps62
    go_wp2_with fail
    refine HC.out.mono ?_
    rintro e w1 ⟨rfl, hb1⟩
    go_wp2_with fail
    refine (CF.out _ hb1).mono ?_
    rintro e w2 ⟨rfl, hb2⟩
    have hb12 := hb1.trans (hb2.mono hb1.size)
    have P2 := HG.out.below hb12
    have g12 : w2.cell? ⟨g, 12, none⟩ = some (.bool false) := by rw [← hri]; exact P2.cell rfl
    have HB12 := hide hb12
    clear hb1 hb2 hb12 P2 HC CF hr hri
    go_wp2
    go_ret
    exact ⟨rfl, HB12.out⟩
  | true =>
    have hri := hr
    have h8i : (b8 p.pb 8 : Int) ≤ 1 := by
      rcases h8 with h | h
      · rw [hr] at h; cases h
      · omega
    have CT := hide fun (W : World) => pTTL_any p.pb p.ph p.pt W (HZ.out hr)
    clear h8
    go_enter Tryz.func62, Tryz.ntmps62
    go_wp2_with fail
    refine HC.out.mono ?_
    rintro e w1 ⟨rfl, hb1⟩
    go_wp2_with fail
    refine (CF.out _ hb1).mono ?_
    rintro e w2 ⟨rfl, hb2⟩
    have hb12 := hb1.trans (hb2.mono hb1.size)
    have P2 := HG.out.below hb12
    have g12 : w2.cell? ⟨g, 12, none⟩ = some (.bool true) := by rw [← hri]; exact P2.cell rfl
    have g9 : w2.cell? ⟨g, 9, none⟩ = some (.string p.pb) := P2.cell rfl
    have g10 : w2.cell? ⟨g, 10, none⟩ = some (.int .i64 p.ph) := P2.cell rfl
    have g11 : w2.cell? ⟨g, 11, none⟩ = some (.int .i64 p.pt) := P2.cell rfl
    have HB12 := hide hb12
    clear hb1 hb2 hb12 P2 HC CF hr hri
    go_wp2_with fail
    refine (CT.out _).mono ?_
    rintro e w3 ⟨rfl, hb3⟩
    have HB13 := hide (HB12.out.trans (hb3.mono HB12.out.size))
    clear hb3 g12 g9 g10 g11 HB12
    go_wp2
    go_ret
    exact ⟨rfl, HB13.out⟩

set_option maxRecDepth 100000 in
set_option maxHeartbeats 1000000 in
/-- Frames that are not IPv4. -/
theorem sroute_other (s g : Nat) (p : Pg) (ov : Value) (w : World) (hg : PgAt w g p ov) (hm : Means w) (hk : (kind2 p.f.ty == 2) = false) :
    Calls Tryz.prog 62 #[.pointer (some ⟨s, 0, none⟩), .pointer (some ⟨g, 0, none⟩)] w fun e w' => e = .returned (.int .i64 (-1)) ∧ Below w.heap.size w w' := by
  have C := isIPv4_any g p ov w hg hm
  rw [hk] at C
  have HC := hide C
  clear C hg hm hk
  go_enter Tryz.func62, Tryz.ntmps62
  go_wp2_with fail
  refine HC.out.mono ?_
  rintro e w1 ⟨rfl, hb⟩
  go_wp2
  go_ret
  exact ⟨rfl, hb⟩

/-- Routing in full. -/
theorem sroute_any (s g fm rb hb : Nat) (fsv hsv : Value) (Fs : List Fc) (R : List Rt) (p : Pg) (ov : Value) (w : World) (h1 : w.cell? ⟨s, 1, none⟩ = some (.pointer (some ⟨fm, 0, none⟩))) (hF : MapF w fm fsv Fs) (hs : SortedF Fs)
    (h2 : w.cell? ⟨s, 2, none⟩ = some (.pointer (some ⟨rb, 0, none⟩))) (h0 : w.cell? ⟨rb, 0, none⟩ = some (.pointer (some ⟨hb, 0, none⟩))) (hM : MapHq w hb hsv R) (hL : ∀ e ∈ R, LenOk e) (hg : PgAt w g p ov) (hm : Means w)
    (hz : p.right = true → 20 ≤ p.pb.size ∧ p.pb.size ≤ 1000) :
    Calls Tryz.prog 62 #[.pointer (some ⟨s, 0, none⟩), .pointer (some ⟨g, 0, none⟩)] w (RouEnd g p ov (rouP Fs R p) w) := by
  cases hk : (kind2 p.f.ty == 2) with
  | false =>
    refine (sroute_other s g p ov w hg hm hk).mono ?_
    rintro e W ⟨rfl, hb⟩
    exact ⟨-1, rfl, .inl ⟨rfl, p, by unfold rouP; rw [if_pos hk], hg.below hb, OnlyG.of_below hb⟩⟩
  | true =>
    cases hf : forFace Fs p with
    | false =>
      refine (routeU_any s g fm fsv Fs p ov w h1 hF hs hg hm hf).mono ?_
      rintro e W ⟨rfl, hb⟩
      exact ⟨-1, rfl, .inl ⟨rfl, p, by unfold rouP; rw [if_neg (by rw [hk]; decide), if_pos hf], hg.below hb, OnlyG.of_below hb⟩⟩
    | true =>
      by_cases h8 : p.right = false ∨ b8 p.pb 8 ≤ 1
      · refine (sroute_end s g fm fsv Fs p ov w h1 hF hs hg hm hk hf (fun h => (hz h).1) h8).mono ?_
        rintro e W ⟨rfl, hb⟩
        refine ⟨_, rfl, .inr ⟨by split <;> decide, ?_, hg.below hb, OnlyG.of_below hb⟩⟩
        unfold rouP
        rw [if_neg (by rw [hk]; decide), if_neg (by rw [hf]; decide)]
        by_cases hr : p.right = false
        · rw [if_pos hr, if_pos hr]
        · rw [if_neg hr, if_neg hr, if_pos (h8.resolve_left hr)]
      · have hr : p.right = true := by
          cases hr : p.right
          · exact absurd (.inl hr) h8
          · rfl
        have h9 : 1 < b8 p.pb 8 := by
          have : ¬ b8 p.pb 8 ≤ 1 := fun h => h8 (.inr h)
          omega
        exact sroute_find s g fm rb hb fsv hsv Fs R p ov w h1 hF hs h2 h0 hM hL hg hm hk hf hr (hz hr).1 (hz hr).2 h9

/-- The middle stages in full. -/
theorem middleR (s k m fm t vb rb hb : Nat) (pv sv fsv hsv : Value) (P : List Prt) (K : List Mc) (Fs : List Fc) (F : Nat → Prop) (L : List Ent) (V : Int → Int × Int) (R : List Rt) (port : Int) (d : ByteArray) (w : World) (h : SwP w s pv P k m sv K) (hR : SwR w s fm t vb fsv Fs F L V) (hH : ∀ W, Chg (KX m sv) w W → SwH W s rb hb hsv R) (hL : ∀ e ∈ R, LenOk e) (hnat : ∀ p ∈ P, (Lit.int .i64 p.nat).wf = true)
    (hVP : ∀ id, (V id).1 = 2 → 0 ≤ (V id).2 ∧ (V id).2 < P.length) (hid : ∀ b, (Lit.int .i64 (fndP L b).1).wf = true) (hgo : ∀ f q, readF d = some f → (0 ≤ port ∧ port < P.length) → d.size ≤ 600 → rouP Fs R (unpP (pIn P port d f)) = .inr q → GoOn q) : Middle w s k m sv P port d unpP (judP L V P) (rouP Fs R) := by
  refine ⟨fun f K' W hf _ hd hW => ?_, fun f K' W hf hv hd hW => ?_, fun f K' W hf hv hd hW => ?_⟩
  · obtain ⟨_, _, _, cm⟩ := h.kept hW.ch
    have hw := read_wf hf
    exact unpack_any w.heap.size _ _ W hW.pg cm (by show f.rest.size ≤ 1000; omega)
  · obtain ⟨c0, cp, _, cm⟩ := h.kept hW.ch
    have hr := hR.kept h hW.ch
    have hw := read_wf hf
    refine judge_any s w.heap.size t vb L.length pv P F L V _ W c0 cp hr.h3 hr.hT hr.h4 hr.hV hW.pg (unp_right rfl (by show f.rest.size ≤ 1000; omega)) hVP (hid _) ?_ ?_
    · rw [unpP_f]; exact vlanAt_wf hv hnat hw.1
    · rw [unpP_f]
      show f.to.size + f.fr.size + f.ty.size + f.rest.size ≤ 1000
      omega
  · obtain ⟨_, _, _, cm⟩ := h.kept hW.ch
    have hr := hR.kept h hW.ch
    have hh := hH W hW.ch
    have hw := read_wf hf
    refine (sroute_any s w.heap.size fm rb hb fsv hsv Fs R _ _ W hr.h1 hr.hF hr.sF hh.h2 hh.h0 hh.hM hL hW.pg cm (fun h' => ?_)).mono ?_
    · have := unp_right (p := pIn P port d f) rfl (by show f.rest.size ≤ 1000; omega) h'
      exact ⟨this.1, this.2.1⟩
    · rintro e W' ⟨r, rfl, ⟨rfl, q, e1, e2, e3⟩ | ⟨e1, e2, e3, e4⟩⟩
      · exact ⟨-1, rfl, .inl ⟨rfl, q, e1, hgo f q hf hv hd e1, e2, e3⟩⟩
      · exact ⟨r, rfl, .inr ⟨e1, e2, e3, e4⟩⟩
end Go.Proofs.YtnjalelblbjfiaaGreatDoor

namespace Go.Proofs.YtnjalelblbjfiaaGreatDoor
open Go.RowKit Go.Maps

theorem judP_no (V : Int → Int × Int) (P : List Prt) (p : Pg) : judP [] V P p = none := by
  unfold judP
  rw [if_neg]
  rintro ⟨_, h⟩
  unfold fndP at h
  cases hk : keyB (a32 p.pb 12) (a32 p.pb 16) (b8 p.pb 9) (pt0 p.pb) (pt1 p.pb) with
  | true => rw [fnd_nil hk] at h; cases h
  | false =>
    rw [fnd_eq (a := 0) (b := 4) (by unfold FindIs; rw [if_neg (by rw [hk]; decide)]; exact ⟨rfl, rfl⟩)] at h
    cases h
theorem fndP_no (b : ByteArray) : (Lit.int .i64 (fndP [] b).1).wf = true := by
  unfold fndP
  cases hk : keyB (a32 b 12) (a32 b 16) (b8 b 9) (pt0 b) (pt1 b) with
  | true => rw [fnd_nil hk]; rfl
  | false =>
    rw [fnd_eq (a := 0) (b := 4) (by unfold FindIs; rw [if_neg (by rw [hk]; decide)]; exact ⟨rfl, rfl⟩)]
    rfl
theorem rouP_no (R : List Rt) (p : Pg) : rouP [] R p = .inr p := by
  unfold rouP
  split
  · rfl
  · rw [if_pos (show forFace [] p = false from rfl)]
theorem unpP_like (q : Pg) : (unpP q).f = q.f ∧ (unpP q).port = q.port ∧ (unpP q).routed = q.routed := by
  unfold unpP unpR
  split <;> (try split) <;> exact ⟨rfl, rfl, rfl⟩
/-- Frame of the program at a switch without faces, routes and rules. -/
theorem sFrame_plain (d : SwD) (port : Int) (dat : ByteArray) (w : World) (h : d.Imp w) (hn : 0 < d.P.length) (h8 : d.P.length ≤ 8) (hK : d.K.length ≤ 64) (hN : ∀ p ∈ d.P, 0 ≤ p.nat ∧ p.nat < 4096) (hFs : d.Fs = []) (hL : d.L = []) (hV : d.V = noV) (hR : d.R = []) (one : w.cell? ⟨d.k, 1, none⟩ = none) :
    Calls Tryz.prog 20 #[.pointer (some ⟨d.s, 0, none⟩), .int .i64 port, .string dat] w (FrameEnd w d.k d.m d.sv (FrameR d.P d.K unpP (judP [] noV d.P) (rouP [] []) port dat)) := by
  have hnat : ∀ p ∈ d.P, (Lit.int .i64 p.nat).wf = true := fun p hp => WalkArith.wf_i64 (by have := hN p hp; omega)
  have hX := h.beside hn one
  have hr := h.r
  have hh := h.h
  rw [hFs, hL, hV] at hr
  rw [hR] at hh
  refine sFrame_of d.s d.k d.m d.pv d.sv d.P d.K port dat w h.p h8 hK hnat _ _ _ (middleR d.s d.k d.m d.fm d.t d.vb d.rb d.hb d.pv d.sv d.fsv d.hsv d.P d.K [] d.F [] noV [] port dat w h.p hr (fun W hc => ?_) (fun e he => absurd he List.not_mem_nil) hnat (fun id e => by cases e) fndP_no (fun f q hf hv hd e => ?_))
  · exact hh.keep hc (fun e => (hX _ (.inr e)).1 rfl) (fun e => (hX _ (.inr e)).2.2.2.2.2.2.2.1 rfl) (fun e => (hX _ (.inr e)).2.2.2.2.2.2.2.2.1 rfl) (fun g hg e => (hX _ (.inr e)).2.2.2.2.2.2.2.2.2.1 hg)
  · rw [rouP_no] at e
    cases e
    have hw := read_wf hf
    unfold GoOn
    rw [unpP_f]
    refine ⟨vlanAt_wf hv hnat hw.1, ?_⟩
    simp only [pIn]
    omega
end Go.Proofs.YtnjalelblbjfiaaGreatDoor

namespace Go.Proofs.YtnjalelblbjfiaaGreatDoor
open Go.RowKit

theorem XSw.farY {w : World} {y : Nat} {x : XSt} (h : XSw w y x) (hl : Laid w) : Far w y := by
  obtain ⟨a, cap, g, e, -⟩ := h.ports
  obtain ⟨a1, cap1, g1, e1, -⟩ := h.facesAt
  obtain ⟨a3, cap3, g3, e3, -⟩ := h.rt.row
  have c0 := h.c0
  have c1 := h.c1
  have c3 := h.c3
  rw [e] at c0
  rw [e1] at c1
  rw [e3] at c3
  exact far_world c0 c1 ⟨_, _, _, c3⟩ hl
theorem XSw.farV {w : World} {y : Nat} {x : XSt} (h : XSw w y x) (hl : Laid w) (nil : x.K = [] → x.kv = .slice none 0 0) {b : Nat} (hb : x.kv.ownBlock = some b) : Far w b := by
  obtain ⟨a, cap, g, e, hr⟩ := h.knowns
  have hn : 0 < x.K.length := by
    rcases Nat.eq_zero_or_pos x.K.length with h0 | h0
    · rw [nil (List.length_eq_zero_iff.1 h0)] at hb; cases hb
    · exact h0
  obtain ⟨ha, q0, q1, -⟩ := hr 0 hn
  rw [e, ha] at hb
  obtain rfl : g = b := by simpa [Value.ownBlock] using hb
  exact far_str hl q0 q1
/-- A switch without faces, routes and rules. -/
structure SwD.Plain (d : SwD) : Prop where
  fs : d.Fs = []
  l : d.L = []
  v : d.V = noV
  r : d.R = []
  xf : d.x.Fl = []
  xr : d.x.rs = []
  xh : d.x.Hl = []
/-- What both know has turned. -/
def SwD.learned (d : SwD) (m1 : Nat) (sv1 kv2 : Value) (K' : List Mc) (now : Int) : SwD := { d with m := m1, sv := sv1, K := K', x := { d.x with kv := kv2, K := K', now := now } }
/-- The colours behind that. -/
def learnt (col : Nat → Nat) (s i m1 : Nat) (sv1 kv2 : Value) : Nat → Nat := fun x => if x < s then col x else if x = m1 ∨ sv1.ownBlock = some x then 6 * i + 10 else if kv2.ownBlock = some x then 6 * i + 13 else 0
section
variable {w W1 W2 : World} {wb n : Nat} {tv sv kv : Value} {Ts : List TabD} {Ss : List SwD} {Ks : List KeptD} {col : Nat → Nat} {M M' : Int}
theorem both_learned (h : LW w wb tv sv kv n Ts Ks col) (hs : LS w sv Ss col M) {i : Nat} (hi : i < Ss.length) {m1 : Nat} {sv1 kv2 : Value} {K' : List Mc} {now : Int}
    (hk : KnownAt W1 Ss[i].k m1 sv1 K') (hm1 : m1 = Ss[i].m ∨ w.heap.size ≤ m1) (ho1 : ∀ b, sv1.ownBlock = some b → Ss[i].sv.ownBlock = some b ∨ w.heap.size ≤ b) (hc1 : Chg (fun b => b = Ss[i].k ∨ KX Ss[i].m Ss[i].sv b) w W1) (one : W1.cell? ⟨Ss[i].k, 1, none⟩ = none)
    (hx2 : XSw W2 Ss[i].y { Ss[i].x with kv := kv2, K := K', now := now }) (ho2 : ∀ b, kv2.ownBlock = some b → Ss[i].x.kv.ownBlock = some b ∨ W1.heap.size ≤ b) (hc2 : Chg (fun b => b = Ss[i].y ∨ Ss[i].x.kv.ownBlock = some b) W1 W2)
    (k64 : K'.length ≤ 64) (kp : ∀ e ∈ K', (0 ≤ e.port ∧ e.port < Ss[i].x.Q.length) ∧ isGrp e.mac = false) (yg : ∀ e ∈ K', Young e) (nil : K' = [] → kv2 = .slice none 0 0) (hnow : 0 ≤ now ∧ now ≤ M') (hM : M ≤ M') :
    LW W2 wb tv sv kv n Ts Ks (learnt col w.heap.size i m1 sv1 kv2) ∧ LS W2 sv (Ss.set i (Ss[i].learned m1 sv1 kv2 K' now)) (learnt col w.heap.size i m1 sv1 kv2) M' := by
  have hd := hs.sw i hi
  obtain ⟨d, hde⟩ : ∃ d, d = Ss[i] := ⟨_, rfl⟩
  rw [← hde] at hd hk hm1 ho1 hc1 one hx2 ho2 hc2 kp ⊢
  have hP : d.P.length = d.x.Q.length := by rw [hd.eP]; unfold XSt.P; rw [List.length_map]
  have hn0 : 0 < d.P.length := by rw [hP]; exact hd.n0
  have s1 := hc1.size
  have s2 := hc2.size
  have hcol : ∀ x, x < w.heap.size → col x ≠ 0 → learnt col w.heap.size i m1 sv1 kv2 x = col x := fun x hx _ => by unfold learnt; rw [if_pos hx]
  have clt : ∀ x, x < w.heap.size → learnt col w.heap.size i m1 sv1 kv2 x = col x := fun x hx => by unfold learnt; rw [if_pos hx]
  have mX : ∀ b, (b = d.k ∨ KX d.m d.sv b) → d.mine b := fun b hb => by
    rcases hb with e | e | e
    · exact .inr (.inl e)
    · exact .inr (.inr (.inl e))
    · exact .inr (.inr (.inr (.inl e)))
  have yX : ∀ b, (b = d.y ∨ d.x.kv.ownBlock = some b) → d.x.blocks d.y b := fun b hb => by
    rcases hb with e | e
    · exact .inl e
    · exact .inr (.inr (.inr (.inr (.inr (.inl e)))))
  have hl1 : Laid W1 := h.laid.far hc1.block fun x hx => hd.farK h.laid hx
  have hx1 : XSw W1 d.y d.x := hd.ref.keep fun b hb hbl => hc1.block b hbl fun e => by
    have e1 := hd.cI b (mX b e)
    rw [hd.cX b hb] at e1
    omega
  have imp1 : SwD.Imp W1 { d with m := m1, sv := sv1, K := K' } := hd.imp.known hn0 hd.one hc1 hk
  -- the blocks of the program's switch behind the first call
  have mine1 : ∀ b, SwD.mine { d with m := m1, sv := sv1, K := K' } b → d.mine b ∨ (w.heap.size ≤ b ∧ (b = m1 ∨ sv1.ownBlock = some b)) := fun b hb => by
    rcases hb with e | e | e | e | e
    · exact .inl (.inl e)
    · exact .inl (.inr (.inl e))
    · rcases hm1 with e' | e'
      · exact .inl (.inr (.inr (.inl (e.trans e'))))
      · exact .inr ⟨by rw [show b = m1 from e]; exact e', .inl e⟩
    · rcases ho1 b e with e' | e'
      · exact .inl (.inr (.inr (.inr (.inl e'))))
      · exact .inr ⟨e', .inr e⟩
    · exact .inl (.inr (.inr (.inr (.inr e))))
  have hcI : ∀ b, SwD.mine { d with m := m1, sv := sv1, K := K' } b → learnt col w.heap.size i m1 sv1 kv2 b = 6 * i + 10 := fun b hb => by
    rcases mine1 b hb with e | ⟨e, e'⟩
    · rw [clt b (hd.imp.lt e)]; exact hd.cI b e
    · unfold learnt
      rw [if_neg (by omega), if_pos e']
  have hm1l : m1 < W1.heap.size := block_lt_of_cell hk.2.2.1.1.1
  have hsv1l : ∀ b, sv1.ownBlock = some b → b < W1.heap.size := fun b e => (ownsRow_lt hk.2.2.1.1.2.2.1 e).2
  have hcX : ∀ b, XSt.blocks { d.x with kv := kv2, K := K', now := now } d.y b → learnt col w.heap.size i m1 sv1 kv2 b = 6 * i + 13 := fun b hb => by
    have old : d.x.blocks d.y b → learnt col w.heap.size i m1 sv1 kv2 b = 6 * i + 13 := fun e => by
      rw [clt b (hd.ref.lts e)]; exact hd.cX b e
    rcases hb with e | e | e | e | e | e | e
    · exact old (.inl e)
    · exact old (.inr (.inl e))
    · exact old (.inr (.inr (.inl e)))
    · exact old (.inr (.inr (.inr (.inl e))))
    · exact old (.inr (.inr (.inr (.inr (.inl e)))))
    · rcases ho2 b e with e' | e'
      · exact old (.inr (.inr (.inr (.inr (.inr (.inl e'))))))
      · unfold learnt
        rw [if_neg (by omega), if_neg (by rintro (e1 | e1); omega; have := hsv1l b e1; omega), if_pos e]
    · exact old (.inr (.inr (.inr (.inr (.inr (.inr e))))))
  have tot : Chg (fun b => (b = d.k ∨ KX d.m d.sv b) ∨ (b = d.y ∨ d.x.kv.ownBlock = some b)) w W2 := (hc1.mono fun x _ hx => .inl hx).trans (hc2.mono fun x _ hx => .inr hx)
  have hfar : ∀ x, ((x = d.k ∨ KX d.m d.sv x) ∨ (x = d.y ∨ d.x.kv.ownBlock = some x)) → Far w x := fun x hx => by
    rcases hx with e | e | e
    · exact hd.farK h.laid e
    · rw [e]; exact hd.farY h.laid
    · exact hd.farV h.laid e
  have hc : ∀ x, ((x = d.k ∨ KX d.m d.sv x) ∨ (x = d.y ∨ d.x.kv.ownBlock = some x)) → col x = 6 * i + 10 ∨ col x = 6 * i + 13 := fun x hx => by
    rcases hx with e | e
    · exact .inl (hd.cI x (mX x e))
    · exact .inr (hd.cX x (yX x e))
  have hpl : d.p < w.heap.size := block_lt_of_cell hd.c0
  have hp : ¬ ((d.p = d.k ∨ KX d.m d.sv d.p) ∨ (d.p = d.y ∨ d.x.kv.ownBlock = some d.p)) := fun e => by have := hc _ e; rw [hd.cp] at this; omega
  refine ⟨h.keep tot hfar (fun x hx _ => by have := hc x hx; omega) hcol rfl fun j hj => (h.tab j hj).keep tot hfar (fun x hx _ => by have := hc x hx; omega) hcol, hs.step hi (by rw [← hde]; rfl) tot (fun x hx _ => ⟨hfar x hx, by have := hc x hx; omega⟩) hcol hM ?_⟩
  refine ⟨tot.block.cell hp hd.c0, tot.block.cell hp hd.c1, (clt _ hpl).trans hd.cp, ?_, hcI, ?_, hx2, hcX, hd.eP, rfl, hd.n0, hd.n8, k64, hd.tl, kp, hd.nt, yg, nil, hnow⟩
  · have hne : ∀ x, (x = d.y ∨ d.x.kv.ownBlock = some x) → ¬ SwD.mine { d with m := m1, sv := sv1, K := K' } x := fun x hx hm => by
      have e1 := hd.cX x (yX x hx)
      have hxl := hd.ref.lts (yX x hx)
      rcases mine1 x hm with e | ⟨e, -⟩
      · rw [hd.cI x e] at e1; omega
      · omega
    have h1 : ¬ (1 = d.y ∨ d.x.kv.ownBlock = some 1) := fun e => by
      have := hd.cX 1 (yX 1 e)
      rw [hs.c1] at this
      omega
    have hI := imp1.keep hc2 h1 fun x hx _ => ⟨by
      rcases hx with e | e
      · rw [e]; exact hx1.farY hl1
      · exact hx1.farV hl1 hd.nil e, hne x hx⟩
    exact ⟨hI.p, hI.r, hI.h, hI.o⟩
  · refine (World.cell?_of_block (a := ⟨d.k, 1, none⟩) (hc2.block d.k ?_ fun e => ?_)).trans one
    · exact block_lt_of_cell hk.1
    · have e1 := hd.cX d.k (yX _ e)
      rw [hd.cI d.k (.inr (.inl rfl))] at e1
      omega
end
end Go.Proofs.YtnjalelblbjfiaaGreatDoor

namespace Go.Proofs.YtnjalelblbjfiaaGreatDoor
open Go.RowKit

section
variable {w W : World} {d : SwD} {X : Nat → Prop}
/-- The program's switch when what it knows has turned, and things beside it. -/
theorem SwD.Imp.known' (h : d.Imp w) (hn : 0 < d.P.length) (one : w.cell? ⟨d.k, 1, none⟩ = none) (hc : Chg X w W) (hX : ∀ x, X x → x < w.heap.size → (x = d.k ∨ KX d.m d.sv x) ∨ (Far w x ∧ ¬ d.mine x ∧ x ≠ 1)) {m' : Nat} {sv' : Value} {K' : List Mc} (hk : KnownAt W d.k m' sv' K') : SwD.Imp W { d with m := m', sv := sv', K := K' } := by
  have hB := h.beside hn one
  have no : ∀ b, (d.mine b ∨ b = 1) → ((b = d.k ∨ KX d.m d.sv b) → False) → ¬ X b := fun b hm hnk hx => by
    have hbl : b < w.heap.size := hm.elim h.lt fun e => by rw [e]; exact means_lt h.p.hm
    rcases hX b hx hbl with e | ⟨_, e, e1⟩
    · exact hnk e
    · exact hm.elim e e1
  have ns : ¬ X d.s := no _ (.inl (.inl rfl)) fun e => (hB _ e).1 rfl
  have n1 : ¬ X 1 := no _ (.inr rfl) fun e => (hB _ e).2.2.2.2.2.2.2.2.2.2 rfl
  have nf : ¬ X d.fm := no _ (.inl (.inr (.inr (.inr (.inr (.inr (.inr (.inl rfl)))))))) fun e => (hB _ e).2.2.2.1 rfl
  have nfs : ∀ g, d.fsv.ownBlock = some g → ¬ X g := fun g hg => no _ (.inl (.inr (.inr (.inr (.inr (.inr (.inr (.inr (.inl hg))))))))) fun e => (hB _ e).2.2.2.2.1 hg
  have nv : ¬ X d.vb := no _ (.inl (.inr (.inr (.inr (.inr (.inr (.inr (.inr (.inr (.inl rfl)))))))))) fun e => (hB _ e).2.2.2.2.2.1 rfl
  have nF : ∀ b, d.F b → ¬ X b := fun b hF => no _ (.inl (.inr (.inr (.inr (.inr (.inr (.inr (.inr (.inr (.inr (.inl hF))))))))))) fun e => (hB _ e).2.2.2.2.2.2.1 hF
  have nr : ¬ X d.rb := no _ (.inl (.inr (.inr (.inr (.inr (.inr (.inr (.inr (.inr (.inr (.inr (.inl rfl)))))))))))) fun e => (hB _ e).2.2.2.2.2.2.2.1 rfl
  have nh : ¬ X d.hb := no _ (.inl (.inr (.inr (.inr (.inr (.inr (.inr (.inr (.inr (.inr (.inr (.inr (.inl rfl))))))))))))) fun e => (hB _ e).2.2.2.2.2.2.2.2.1 rfl
  have nhs : ∀ g, d.hsv.ownBlock = some g → ¬ X g := fun g hg => no _ (.inl (.inr (.inr (.inr (.inr (.inr (.inr (.inr (.inr (.inr (.inr (.inr (.inr hg))))))))))))) fun e => (hB _ e).2.2.2.2.2.2.2.2.2.1 hg
  have np : ∀ g, d.pv.ownBlock = some g → ¬ X g := fun g hg => no _ (.inl (.inr (.inr (.inr (.inr (.inl hg)))))) fun e => (hB _ e).2.1 hg
  have nt : ∀ g q, q ∈ d.Q → q.2 = .map (some g) → ¬ X g := fun g q hq e => no _ (.inl (.inr (.inr (.inr (.inr (.inr (.inl ⟨q, hq, e⟩))))))) fun e' => (hB _ e').2.2.1 q hq e
  have hl := h.r.hT.laid
  have hc' : Chg (fun x => X x ∧ x < w.heap.size) w W := ⟨hc.os, hc.tape, hc.output, hc.size, fun b hb hnx => hc.block b hb fun hx => hnx ⟨hx, hb⟩⟩
  have hfar : ∀ x, (X x ∧ x < w.heap.size) → Far w x := fun x hx => by
    rcases hX x hx.1 hx.2 with e | ⟨e, _⟩
    · rcases e with rfl | e
      · exact far_known hl h.p.hK.1 one h.p.hK.2.2.1.1.1
      · exact (known_away hl h.p.hK x e).far
    · exact e
  obtain ⟨ov, hov, -⟩ := h.r.hV.obj
  have po : PortsO W d.pv d.P d.Q := ⟨h.o.len, ownsRow_blk h.o.own fun b hb => hc.block b (ownsRow_lt h.o.own hb).2 (np b hb), fun j hj => ⟨(h.o.each j hj).1, (h.o.each j hj).2.keepB fun b e => hc.block b ((h.o.each j hj).2.lt e) (nt b _ (List.getElem_mem _) e)⟩⟩
  obtain ⟨f0, f1, f2, f3, f4⟩ := h.r.hF
  refine ⟨⟨hc.block.cell ns h.p.h0, po.at, hc.block.cell ns h.p.h5, hk, hc.block.cell n1 h.p.hm.1, hc.block.cell n1 h.p.hm.2.1, hc.block.cell n1 h.p.hm.2.2.1, hc.block.cell n1 h.p.hm.2.2.2⟩, ⟨hc.block.cell ns h.r.h1, ⟨hc.block.cell nf f0, hc.block.cell nf f1, ownsRow_blk f2 fun g hg => hc.block g (ownsRow_lt f2 hg).2 (nfs g hg), fun j => (World.frozen?_of_block (a := ⟨d.fm, j, none⟩) (hc.block d.fm (block_lt_of_cell f0) nf)).trans (f3 j), f4⟩, h.r.sF, fun g hg => ?_, hc.block.cell ns h.r.h3, h.r.hT.far hc' hfar fun x hF hx => nF x hF hx.1, hc.block.cell ns h.r.h4, h.r.hV.same (hc.block d.vb (lt_of_heap hov) nv), h.r.hD⟩, h.h.keep hc ns nr nh nhs, po⟩
  obtain ⟨n, v, d0, d1⟩ := h.r.hH g hg
  exact ⟨n, v, hc.block.cell (nfs g hg) d0, hc.block.cell (nfs g hg) d1⟩
end
section
variable {w W : World} {wb n n' : Nat} {tv sv kv kv' : Value} {Ts : List TabD} {Ss : List SwD} {Ks Ks' : List KeptD} {col col' : Nat → Nat} {M M' : Int} {X : Nat → Prop}
/-- The walk's own struct and its switches have turned; the tables have not. -/
theorem LW.whole (h : LW w wb tv sv kv n Ts Ks col) (hc : Chg X w W) (hX : ∀ x, X x → Far w x ∧ (col x = 1 ∨ col x = 3 ∨ (7 ≤ col x ∧ col x % 3 = 1))) (hcol : ∀ x, x < w.heap.size → col x ≠ 0 → col' x = col x) (hW : WS W wb tv sv kv' n' Ks' col') : LW W wb tv sv kv' n' Ts Ks' col' := by
  refine ⟨h.laid.far hc.block fun x hx => (hX x hx).1, hW.c0, hW.c1, hW.c2, hW.c3, h.sS, hW.frz, h.rT.keep fun x hx => hc.block x (h.rT.lt hx) fun hx' => ?_, hW.rK, hW.cw, fun x hx => (hcol _ (h.rT.lt hx) (by rw [h.cT x hx]; omega)).trans (h.cT x hx), fun x j u hx hu => h.pT x j u hx (by rwa [(OnlyAt.of_block (hc.block x (h.rT.lt hx) fun hx' => by have := (hX x hx').2; rw [h.cT x hx] at this; omega) j).1] at hu), hW.cK, fun i hi => (h.tab i hi).keep hc (fun x hx => (hX x hx).1) (fun x hx _ => by have := (hX x hx).2; omega) hcol, hW.kept⟩
  have := (hX x hx').2
  rw [h.cT x hx] at this
  omega
/-- Frame or Tick of both, and the caller's lists behind it. -/
theorem both_done (h : LW w wb tv sv kv n Ts Ks col) (hs : LS w sv Ss col M) {i : Nat} (hi : i < Ss.length) {m1 : Nat} {sv1 kv2 : Value} {K' : List Mc} {now : Int}
    (hk : KnownAt W Ss[i].k m1 sv1 K') (hm1 : m1 = Ss[i].m ∨ w.heap.size ≤ m1) (ho1 : ∀ b, sv1.ownBlock = some b → Ss[i].sv.ownBlock = some b ∨ w.heap.size ≤ b) (one : W.cell? ⟨Ss[i].k, 1, none⟩ = none)
    (hx2 : XSw W Ss[i].y { Ss[i].x with kv := kv2, K := K', now := now }) (ho2 : ∀ b, kv2.ownBlock = some b → Ss[i].x.kv.ownBlock = some b ∨ (w.heap.size ≤ b ∧ b ≠ m1 ∧ sv1.ownBlock ≠ some b))
    (tot : Chg (fun b => ((b = Ss[i].k ∨ KX Ss[i].m Ss[i].sv b) ∨ (b = Ss[i].y ∨ Ss[i].x.kv.ownBlock = some b)) ∨ (b = wb ∨ kv.ownBlock = some b)) w W)
    (hW : WS W wb tv sv kv' n' Ks' col') (hcol : ∀ x, x < w.heap.size → col x ≠ 0 → col' x = col x) (hcn : ∀ x, w.heap.size ≤ x → learnt col w.heap.size i m1 sv1 kv2 x ≠ 0 → col' x = learnt col w.heap.size i m1 sv1 kv2 x)
    (k64 : K'.length ≤ 64) (kp : ∀ e ∈ K', (0 ≤ e.port ∧ e.port < Ss[i].x.Q.length) ∧ isGrp e.mac = false) (yg : ∀ e ∈ K', Young e) (nil : K' = [] → kv2 = .slice none 0 0) (hnow : 0 ≤ now ∧ now ≤ M') (hM : M ≤ M') :
    LW W wb tv sv kv' n' Ts Ks' col' ∧ LS W sv (Ss.set i (Ss[i].learned m1 sv1 kv2 K' now)) col' M' := by
  have hd := hs.sw i hi
  obtain ⟨d, hde⟩ : ∃ d, d = Ss[i] := ⟨_, rfl⟩
  rw [← hde] at hd hk hm1 ho1 one hx2 ho2 tot kp ⊢
  have hP : d.P.length = d.x.Q.length := by rw [hd.eP]; unfold XSt.P; rw [List.length_map]
  have hn0 : 0 < d.P.length := by rw [hP]; exact hd.n0
  have mX : ∀ b, (b = d.k ∨ KX d.m d.sv b) → d.mine b := fun b hb => by
    rcases hb with e | e | e
    · exact .inr (.inl e)
    · exact .inr (.inr (.inl e))
    · exact .inr (.inr (.inr (.inl e)))
  have yX : ∀ b, (b = d.y ∨ d.x.kv.ownBlock = some b) → d.x.blocks d.y b := fun b hb => by
    rcases hb with e | e
    · exact .inl e
    · exact .inr (.inr (.inr (.inr (.inr (.inl e)))))
  have hfar : ∀ x, (((x = d.k ∨ KX d.m d.sv x) ∨ (x = d.y ∨ d.x.kv.ownBlock = some x)) ∨ (x = wb ∨ kv.ownBlock = some x)) → Far w x := fun x hx => by
    rcases hx with (e | e | e) | (e | e)
    · exact hd.farK h.laid e
    · rw [e]; exact hd.farY h.laid
    · exact hd.farV h.laid e
    · rw [e]; exact h.farW
    · exact h.farK e
  have hc : ∀ x, (((x = d.k ∨ KX d.m d.sv x) ∨ (x = d.y ∨ d.x.kv.ownBlock = some x)) ∨ (x = wb ∨ kv.ownBlock = some x)) → col x = 6 * i + 10 ∨ col x = 6 * i + 13 ∨ col x = 1 ∨ col x = 3 := fun x hx => by
    rcases hx with (e | e) | (e | e)
    · exact .inl (hd.cI x (mX x e))
    · exact .inr (.inl (hd.cX x (yX x e)))
    · rw [e]; exact .inr (.inr (.inl h.cw))
    · exact .inr (.inr (.inr (h.cK x e)))
  have hpl : d.p < w.heap.size := block_lt_of_cell hd.c0
  have hp : ¬ (((d.p = d.k ∨ KX d.m d.sv d.p) ∨ (d.p = d.y ∨ d.x.kv.ownBlock = some d.p)) ∨ (d.p = wb ∨ kv.ownBlock = some d.p)) := fun e => by have := hc _ e; rw [hd.cp] at this; omega
  have old : ∀ b c, b < w.heap.size → col b = c → c ≠ 0 → col' b = c := fun b c hb e h0 => (hcol b hb (by rw [e]; exact h0)).trans e
  refine ⟨h.whole tot (fun x hx => ⟨hfar x hx, by have := hc x hx; omega⟩) hcol hW, hs.step hi (by rw [← hde]; rfl) tot (fun x hx _ => ⟨hfar x hx, hc x hx⟩) hcol hM ?_⟩
  refine ⟨tot.block.cell hp hd.c0, tot.block.cell hp hd.c1, old _ _ hpl hd.cp (by omega), ?_, fun b hb => ?_, one, hx2, fun b hb => ?_, hd.eP, rfl, hd.n0, hd.n8, k64, hd.tl, kp, hd.nt, yg, nil, hnow⟩
  · have hI := hd.imp.known' hn0 hd.one tot (fun x hx hxl => ?_) hk
    · exact ⟨hI.p, hI.r, hI.h, hI.o⟩
    · rcases hx with (e | e) | e
      · exact .inl e
      · refine .inr ⟨hfar x (.inl (.inr e)), fun hm => ?_, fun e1 => ?_⟩
        · have e1 := hd.cX x (yX x e); rw [hd.cI x hm] at e1; omega
        · have e2 := hd.cX x (yX x e); rw [e1, hs.c1] at e2; omega
      · have e2 : col x = 1 ∨ col x = 3 := by
          rcases e with e | e
          · rw [e]; exact .inl h.cw
          · exact .inr (h.cK x e)
        refine .inr ⟨hfar x (.inr e), fun hm => ?_, fun e1 => ?_⟩
        · rw [hd.cI x hm] at e2; omega
        · rw [e1, hs.c1] at e2; omega
  · have new : w.heap.size ≤ b → (b = m1 ∨ sv1.ownBlock = some b) → col' b = 6 * i + 10 := fun hb e => by
      have e1 : learnt col w.heap.size i m1 sv1 kv2 b = 6 * i + 10 := by unfold learnt; rw [if_neg (by omega), if_pos e]
      rw [hcn b hb (by rw [e1]; omega), e1]
    have om : d.mine b → col' b = 6 * i + 10 := fun e => old b _ (hd.imp.lt e) (hd.cI b e) (by omega)
    rcases hb with e | e | e | e | e
    · exact om (.inl e)
    · exact om (.inr (.inl e))
    · rcases hm1 with e' | e'
      · exact om (.inr (.inr (.inl (e.trans e'))))
      · exact new (by rw [show b = m1 from e]; exact e') (.inl e)
    · rcases ho1 b e with e' | e'
      · exact om (.inr (.inr (.inr (.inl e'))))
      · exact new e' (.inr e)
    · exact om (.inr (.inr (.inr (.inr e))))
  · have ox : d.x.blocks d.y b → col' b = 6 * i + 13 := fun e => old b _ (hd.ref.lts e) (hd.cX b e) (by omega)
    rcases hb with e | e | e | e | e | e | e
    · exact ox (.inl e)
    · exact ox (.inr (.inl e))
    · exact ox (.inr (.inr (.inl e)))
    · exact ox (.inr (.inr (.inr (.inl e))))
    · exact ox (.inr (.inr (.inr (.inr (.inl e)))))
    · rcases ho2 b e with e' | ⟨e', n1, n2⟩
      · exact ox (.inr (.inr (.inr (.inr (.inr (.inl e'))))))
      · have e1 : learnt col w.heap.size i m1 sv1 kv2 b = 6 * i + 13 := by unfold learnt; rw [if_neg (by omega), if_neg (by rintro (q | q); exact n1 q; exact n2 q), if_pos (show kv2.ownBlock = some b from e)]
        rw [hcn b e' (by rw [e1]; omega), e1]
    · exact ox (.inr (.inr (.inr (.inr (.inr (.inr e))))))
end
/-- What a step of the walk leaves: what nobody changes, and whose all else is. -/
structure Left (w W : World) (col col' : Nat → Nat) : Prop where
  chg : ∃ X, Chg X w W ∧ ∀ x, X x → x < w.heap.size → col x ≠ 4
  ink : ∀ x, x < w.heap.size → col x ≠ 0 → col' x = col x
theorem Left.under {w w1 W : World} {col col' : Nat → Nat} (h : Left w1 W col col') (hb : Below w.heap.size w w1) : Left w W col col' := by
  obtain ⟨⟨X, hc, hX⟩, hk⟩ := h
  exact ⟨⟨X, (Chg.of_below hb).trans hc, fun x hx hl => hX x hx (Nat.lt_of_lt_of_le hl hb.size)⟩, fun x hx => hk x (Nat.lt_of_lt_of_le hx hb.size)⟩
end Go.Proofs.YtnjalelblbjfiaaGreatDoor
