import Derived.Test.YtnjalelblbjfiaaGreatDoorP34
import Derived.Test.YtnjalelblbjfiaaGreatDoorP11
namespace Go.Proofs.YtnjalelblbjfiaaGreatDoor
open Go.RowKit
open Go.Sort (grow)
attribute [local go_sem] cell?_regrown

theorem MapF.below {w w' : World} {m : Nat} {sv : Value} {L : List Fc} (hm : MapF w m sv L) (hb : Below w.heap.size w w') : MapF w' m sv L :=
  ⟨(hb.cell (p := ⟨m, 0, none⟩) (block_lt_of_cell hm.1)).trans hm.1, (hb.cell (p := ⟨m, 1, none⟩) (block_lt_of_cell hm.2.1)).trans hm.2.1, ownsRow_keep hm.2.2.1 (fun g hg => hb.block g (hm.2.2.1.lt g hg).2), fun j => (hb.frozen (p := ⟨m, j, none⟩) (show m < w.heap.size from block_lt_of_cell hm.1)).trans (hm.2.2.2.1 j), hm.2.2.2.2⟩

/-- Whether a frame is for the face of its VLAN. -/
def forFace (L : List Fc) (p : Pg) : Bool := (faceOf L p.f.vlan).isSome && (p.f.to.toList == (faceS L p.f.vlan).toList)

set_option maxRecDepth 100000 in
set_option maxHeartbeats 1000000 in
theorem isForFace_any (s g m : Nat) (sv : Value) (L : List Fc) (p : Pg) (ov : Value) (w : World) (h1 : w.cell? ⟨s, 1, none⟩ = some (.pointer (some ⟨m, 0, none⟩))) (hF : MapF w m sv L) (hs : SortedF L) (hg : PgAt w g p ov) :
    Calls Tryz.prog 112 #[.pointer (some ⟨s, 0, none⟩), .pointer (some ⟨g, 0, none⟩)] w fun e w' => e = .returned (.bool (forFace L p)) ∧ Below w.heap.size w w' := by
  have CG := hide fun (d : Nat) (os : Array Obj) => getFc_any m sv L p.f.vlan (grow (redrawn w d) os) (hF.below (below_regrown w d os)) hs
  have g5 : w.cell? ⟨g, 5, none⟩ = some (.int .i64 p.f.vlan) := hg.cell rfl
  have g2 : w.cell? ⟨g, 2, none⟩ = some (.string p.f.to) := hg.cell rfl
  have hslt := block_lt_of_cell h1
  have hglt := hg.lt
  have HR : Hid (forFace L p = ((faceOf L p.f.vlan).isSome && (p.f.to.toList == (faceS L p.f.vlan).toList))) := hide rfl
  clear hF hg hs
  generalize (faceOf L p.f.vlan).isSome = fd at *
  generalize faceS L p.f.vlan = fs at *
  go_enter Tryz.func112, Tryz.ntmps112
  go_wp2
  refine wp_region_quiet_below (by kernel_rfl) (by kernel_rfl) ?_
  repeat (first | go_big_quiet_skip | quiet_step (exact Calls.regrown_of (CG.out _ _)))
  refine wpQuiet_nil ?_; intro wq hwq; replace hwq := below_of_regrown hwq; obtain ⟨hcq, hfq⟩ := bcell hwq; have hzq := hwq.size
  have q2 := cell_later hwq g2
  have HQ := hide hwq
  clear hcq hfq hwq CG g2 g5 h1
  cases fd with
  | false =>
    go_wp2
    go_ret
    exact ⟨by rw [HR.out]; rfl, HQ.out⟩
  | true =>
    go_wp2
    go_ret
    exact ⟨by rw [HR.out]; rfl, HQ.out⟩

set_option maxRecDepth 100000 in
set_option maxHeartbeats 1000000 in
/-- A frame that is for no face goes on. -/
theorem routeU_any (s g m : Nat) (sv : Value) (L : List Fc) (p : Pg) (ov : Value) (w : World) (h1 : w.cell? ⟨s, 1, none⟩ = some (.pointer (some ⟨m, 0, none⟩))) (hF : MapF w m sv L) (hs : SortedF L) (hg : PgAt w g p ov) (hm : Means w) (hk : forFace L p = false) :
    Calls Tryz.prog 62 #[.pointer (some ⟨s, 0, none⟩), .pointer (some ⟨g, 0, none⟩)] w fun e w' => e = .returned (.int .i64 (-1)) ∧ Below w.heap.size w w' := by
  have C := isIPv4_any g p ov w hg hm
  have CF := hide fun (W : World) (hb : Below w.heap.size w W) => isForFace_any s g m sv L p ov W ((hb.cell (p := ⟨s, 1, none⟩) (block_lt_of_cell h1)).trans h1) (hF.below hb) hs (hg.below hb)
  rw [hk] at CF
  have HC := hide C
  clear C hg hm hF hs h1 hk
  generalize (kind2 p.f.ty == 2) = kk at *
  cases kk with
  | false =>
    go_enter Tryz.func62, Tryz.ntmps62
    go_wp2_with fail
    refine HC.out.mono ?_
    rintro e w1 ⟨rfl, hb⟩
    go_wp2
    go_ret
    exact ⟨rfl, hb⟩
  | true =>
    go_enter Tryz.func62, Tryz.ntmps62
    go_wp2_with fail
    refine HC.out.mono ?_
    rintro e w1 ⟨rfl, hb⟩
    go_wp2_with fail
    refine (CF.out _ hb).mono ?_
    rintro e w2 ⟨rfl, hb2⟩
    go_wp2
    go_ret
    exact ⟨rfl, hb.trans (hb2.mono hb.size)⟩
end Go.Proofs.YtnjalelblbjfiaaGreatDoor

namespace Go.Proofs.YtnjalelblbjfiaaGreatDoor
open Go.RowKit Go.Maps
open Go.Sort (grow)
attribute [local go_sem] cell?_regrown

theorem findIs_unique {L : List Ent} {x0 x1 x2 x3 x4 a b a' b' : Int} (h : FindIs L x0 x1 x2 x3 x4 a b) (h' : FindIs L x0 x1 x2 x3 x4 a' b') : a = a' ∧ b = b' := by
  unfold FindIs at h h'
  split at h
  · rename_i hk
    rw [if_pos hk] at h'
    obtain ⟨res, hf, rfl, rfl⟩ := h
    obtain ⟨res', hf', rfl, rfl⟩ := h'
    cases res with
    | none =>
      cases res' with
      | none => exact ⟨rfl, rfl⟩
      | some r' =>
        have := hf r' hf'.1
        rw [hf'.2.1] at this
        cases this
    | some r =>
      cases res' with
      | none =>
        have := hf' r hf.1
        rw [hf.2.1] at this
        cases this
      | some r' =>
        have h1 := hf.2.2 r' hf'.1 hf'.2.1
        have h2 := hf'.2.2 r hf.1 hf.2.1
        rw [← Bool.not_eq_true, Rl.before_iff] at h1 h2
        refine ⟨?_, rfl⟩
        show r.2.id = r'.2.id
        omega
  · rename_i hk
    rw [if_neg hk] at h'
    omega
/-- What a table that holds L finds for a key. -/
noncomputable def fnd (L : List Ent) (x0 x1 x2 x3 x4 : Int) : Int × Int := Classical.epsilon fun ab => FindIs L x0 x1 x2 x3 x4 ab.1 ab.2
theorem fnd_eq {L : List Ent} {x0 x1 x2 x3 x4 a b : Int} (h : FindIs L x0 x1 x2 x3 x4 a b) : fnd L x0 x1 x2 x3 x4 = (a, b) := by
  have h2 : FindIs L x0 x1 x2 x3 x4 (fnd L x0 x1 x2 x3 x4).1 (fnd L x0 x1 x2 x3 x4).2 := Classical.epsilon_spec (p := fun ab : Int × Int => FindIs L x0 x1 x2 x3 x4 ab.1 ab.2) ⟨(a, b), h⟩
  have := findIs_unique h2 h
  exact Prod.ext this.1 this.2
theorem tfind_det (t : Nat) (x0 x1 x2 x3 x4 : Int) (w : World) (F : Nat → Prop) (L : List Ent) (h : TabIs w t F L) :
    Calls Tryz.prog 16 #[.pointer (some ⟨t, 0, none⟩), .agg #[.int .i64 x0, .int .i64 x1, .int .i64 x2, .int .i64 x3, .int .i64 x4]] w fun e w' => e = .returned (.tuple #[.int .i64 (fnd L x0 x1 x2 x3 x4).1, .int .i64 (fnd L x0 x1 x2 x3 x4).2]) ∧ Below w.heap.size w w' := by
  refine (tfind_any t x0 x1 x2 x3 x4 w F L h).mono ?_
  rintro e w' ⟨a, b, rfl, hf, hb⟩
  rw [fnd_eq hf]
  exact ⟨rfl, hb⟩

/-- How a verdict reads. -/
def verdE : Value → Option (DataW Unit × List MemPlace)
  | .agg cs => match cs.toList with
    | [.int .i64 a, .int .i64 p] => some (.agg [.lit (.int .i64 a), .lit (.int .i64 p)], [])
    | _ => none
  | _ => none
theorem verdE_mk (a p : Int) : verdE (.agg #[.int .i64 a, .int .i64 p]) = some (.agg [.lit (.int .i64 a), .lit (.int .i64 p)], []) := rfl
theorem verdE_inv {v : Value} {a p : Int} {ps : List MemPlace} (h : verdE v = some (.agg [.lit (.int .i64 a), .lit (.int .i64 p)], ps)) : v = .agg #[.int .i64 a, .int .i64 p] := by
  unfold verdE at h
  split at h
  · split at h
    · rename_i cs x y hc
      simp only [Option.some.injEq, Prod.mk.injEq, DataW.agg.injEq, List.cons.injEq, DataW.lit.injEq, Lit.int.injEq, and_true, true_and] at h
      obtain ⟨⟨rfl, rfl⟩, _⟩ := h
      congr 1
      exact Array.toList_inj.1 (by rw [hc])
    · cases h
  · cases h
theorem zeroV (w : World) : (zeroValue 226).run Tryz.prog w = .ok (.agg #[.int .i64 0, .int .i64 0]) w := by kernel_rfl
theorem underVerd : Tryz.prog.underlying 135 = some (.map 3 226) := Tryz.underlying135
/-- The map of verdicts in memory: for each ID the action and the port; it has at most n. -/
def VerdAt (w : World) (b n : Nat) (V : Int → Int × Int) : Prop :=
  ∃ D, w.ownsMap (H := Unit) Tryz.prog 3 verdE b n D ∧ ∀ id, (Lit.int .i64 id).wf = true → D.atKey (.int .i64 id) (.agg [.lit (.int .i64 0), .lit (.int .i64 0)]) = .agg [.lit (.int .i64 (V id).1), .lit (.int .i64 (V id).2)]
theorem VerdAt.below {w w' : World} {b n : Nat} {V : Int → Int × Int} (h : VerdAt w b n V) (hb : Below w.heap.size w w') : VerdAt w' b n V := by
  obtain ⟨D, hO, hV⟩ := h
  have hlt := hO.lt
  obtain ⟨es, cl, h1, h2⟩ := hO
  exact ⟨D, ⟨es, cl, (hb.block b hlt).trans h1, h2⟩, hV⟩
theorem VerdAt.look {w : World} {b n : Nat} {V : Int → Int × Int} (h : VerdAt w b n V) (id : Int) (hi : (Lit.int .i64 id).wf = true) : (Instr.lookup 135 (.map (some b)) (.int .i64 id) false).run Tryz.prog w = .ok (.agg #[.int .i64 (V id).1, .int .i64 (V id).2]) w := by
  obtain ⟨D, hO, hV⟩ := h
  obtain ⟨v, ps, hr, hv⟩ := hO.lookup keyI underVerd (zeroV w) (verdE_mk 0 0) (keyOf_int_mk Tryz.underlying3 hi)
  rw [hV id hi] at hv
  rw [hr, verdE_inv hv]

/-- What a table finds for a packet's key. -/
noncomputable def fndP (L : List Ent) (b : ByteArray) : Int × Int := fnd L (a32 b 12) (a32 b 16) (b8 b 9) (pt0 b) (pt1 b)
/-- Where a frame goes out that is sent to one port. -/
def sentO (P : List Prt) (p : Pg) (at_ : Int) : List (Int × ByteArray) := if hasV (pAt P at_.toNat) p.f.vlan then [(at_, outF (pAt P at_.toNat) p.f)] else []
/-- What the rules do with a frame. -/
noncomputable def judP (L : List Ent) (V : Int → Int × Int) (P : List Prt) (p : Pg) : Option (Int × List (Int × ByteArray)) :=
  if p.right = true ∧ (fndP L p.pb).2 = 0 then
    if (V (fndP L p.pb).1).1 = 1 then some (4, []) else if (V (fndP L p.pb).1).1 = 2 then some (if (sentO P p (V (fndP L p.pb).1).2).length = 0 then 8 else 0, sentO P p (V (fndP L p.pb).1).2) else none
  else none
/-- What judge leaves. -/
def JudAt (g : Nat) (p : Pg) (j : Option (Int × List (Int × ByteArray))) (w : World) (e : Ending) (w' : World) : Prop := ∃ r : Int, e = .returned (.int .i64 r) ∧
      ((r = -1 ∧ j = none ∧ PgAt w' g p (.slice none 0 0) ∧ OnlyG g w w') ∨
       (r ≠ -1 ∧ ∃ Lo ov, j = some (r, Lo) ∧ PgAt w' g p ov ∧ w'.ownsRow w.heap.size 66 2 ov Lo.length (rowO Lo) ∧ OnlyG g w w'))

set_option maxRecDepth 100000 in
set_option maxHeartbeats 2000000 in
theorem judge_any (s g t vb N : Nat) (pv : Value) (P : List Prt) (F : Nat → Prop) (L : List Ent) (V : Int → Int × Int) (p : Pg) (w : World) (h0 : w.cell? ⟨s, 0, none⟩ = some pv) (hp : PortsAt w pv P) (h3 : w.cell? ⟨s, 3, none⟩ = some (.pointer (some ⟨t, 0, none⟩))) (hT : TabIs w t F L)
    (h4 : w.cell? ⟨s, 4, none⟩ = some (.map (some vb))) (hV : VerdAt w vb N V) (hg : PgAt w g p (.slice none 0 0)) (hpk : p.right = true → 20 ≤ p.pb.size ∧ p.pb.size ≤ 1000 ∧ w16 p.pb 2 ≤ p.pb.size ∧ p.ph = ihl p.pb ∧ p.pt = w16 p.pb 2)
    (hVP : ∀ id, (V id).1 = 2 → 0 ≤ (V id).2 ∧ (V id).2 < P.length) (hid : (Lit.int .i64 (fndP L p.pb).1).wf = true) (hv : (Lit.int .i64 p.f.vlan).wf = true) (hl : p.f.to.size + p.f.fr.size + p.f.ty.size + p.f.rest.size ≤ 1000) :
    Calls Tryz.prog 61 #[.pointer (some ⟨s, 0, none⟩), .pointer (some ⟨g, 0, none⟩)] w (JudAt g p (judP L V P p) w) := by
  cases hr : p.right with
  | false =>
    refine (judgeN_any s g p _ w hg hr).mono ?_
    rintro e W' ⟨rfl, rfl⟩
    refine ⟨-1, rfl, .inl ⟨rfl, ?_, hg, OnlyG.of_below (Below.refl _ _)⟩⟩
    unfold judP
    rw [if_neg (by rw [hr]; rintro ⟨h, _⟩; cases h)]
  | true =>
    obtain ⟨k1, k2, k3, k4, k5⟩ := hpk hr
    have g12 : w.cell? ⟨g, 12, none⟩ = some (.bool true) := by rw [← hr]; exact hg.cell rfl
    have g9 : w.cell? ⟨g, 9, none⟩ = some (.string p.pb) := hg.cell rfl
    have g10 : w.cell? ⟨g, 10, none⟩ = some (.int .i64 (ihl p.pb)) := by rw [← k4]; exact hg.cell rfl
    have g11 : w.cell? ⟨g, 11, none⟩ = some (.int .i64 (w16 p.pb 2)) := by rw [← k5]; exact hg.cell rfl
    have CK := hide fun (d : Nat) (os : Array Obj) => pKey_any p.pb (grow (redrawn w d) os) k1 k2 k3
    have CF := hide fun (d : Nat) (os : Array Obj) => tfind_det t (a32 p.pb 12) (a32 p.pb 16) (b8 p.pb 9) (pt0 p.pb) (pt1 p.pb) (grow (redrawn w d) os) F L (hT.still (below_regrown w d os))
    rw [show fnd L (a32 p.pb 12) (a32 p.pb 16) (b8 p.pb 9) (pt0 p.pb) (pt1 p.pb) = fndP L p.pb from rfl] at CF
    have HJ : Hid (judP L V P p = if (fndP L p.pb).2 = 0 then (if (V (fndP L p.pb).1).1 = 1 then some (4, []) else if (V (fndP L p.pb).1).1 = 2 then some (if (sentO P p (V (fndP L p.pb).1).2).length = 0 then 8 else 0, sentO P p (V (fndP L p.pb).1).2) else none) else none) := hide (by
      unfold judP
      by_cases hz : (fndP L p.pb).2 = 0
      · rw [if_pos ⟨hr, hz⟩, if_pos hz]
      · rw [if_neg (fun h => hz h.2), if_neg hz])
    have HVL := hide fun (W : World) (hb : Below w.heap.size w W) => (hV.below hb).look (fndP L p.pb).1 hid
    have HVP := hide (hVP (fndP L p.pb).1)
    have hslt := block_lt_of_cell h0
    have hglt := hg.lt
    have HG := hide hg
    have HP := hide hp
    generalize judP L V P p = jj at *
    generalize fndP L p.pb = fp at *
    obtain ⟨fi, fe⟩ := fp
    generalize V fi = vv at *
    obtain ⟨va, vp⟩ := vv
    generalize a32 p.pb 12 = y0 at *
    generalize a32 p.pb 16 = y1 at *
    generalize b8 p.pb 9 = y2 at *
    generalize pt0 p.pb = y3 at *
    generalize pt1 p.pb = y4 at *
    clear hT hV hg hp k1 k2 k3 k4 k5 hpk hid
    go_enter Tryz.func61, Tryz.ntmps61
    go_wp2
    refine wp_region_quiet_below (by kernel_rfl) (by kernel_rfl) ?_
    repeat (first | go_big_quiet_skip | quiet_step (first | exact Calls.regrown_of (CK.out _ _) | exact Calls.regrown_of (CF.out _ _)))
    refine wpQuiet_nil ?_; intro wq hwq; replace hwq := below_of_regrown hwq; obtain ⟨hcq, hfq⟩ := bcell hwq; have hzq := hwq.size
    have q0 := cell_later hwq h0
    have q4 := cell_later hwq h4
    have HQ := hide hwq
    have hlook := HVL.out wq hwq
    have HPQ := hide (HG.out.below hwq)
    have hsw := Nat.lt_of_lt_of_le hslt hwq.size
    have hgw := Nat.lt_of_lt_of_le hglt hwq.size
    clear hcq hfq hwq CK CF HVL g9 g10 g11 g12 h3 h4 h0 hVP hr
    by_cases hfe : fe = 0
    · have HJ1 : Hid (jj = if va = 1 then some (4, []) else if va = 2 then some (if (sentO P p vp).length = 0 then 8 else 0, sentO P p vp) else none) := hide (by rw [HJ.out, if_pos hfe])
      clear HJ
      by_cases h1 : va = 1
      · have HJ2 : Hid (jj = some (4, [])) := hide (by rw [HJ1.out, if_pos h1])
        clear HJ1 HVP
        subst hfe h1
        go_wp2
        go_ret
        have hB := HQ.out.alloc HQ.out.size (.cells #[.int .i64 1, .int .i64 vp] 226)
        exact ⟨4, rfl, .inr ⟨by decide, [], .slice none 0 0, HJ2.out, HG.out.below hB, ⟨rfl, .inl ⟨rfl, rfl⟩⟩, OnlyG.of_below hB⟩⟩
      · by_cases h2 : va = 2
        · have HJ2 : Hid (jj = some (if (sentO P p vp).length = 0 then 8 else 0, sentO P p vp)) := hide (by rw [HJ1.out, if_neg h1, if_pos h2])
          obtain ⟨v0, v1⟩ := HVP.out h2
          obtain ⟨k, rfl⟩ : ∃ k : Nat, vp = k := ⟨vp.toNat, by omega⟩
          have hk : k < P.length := by omega
          obtain ⟨W1, hW1⟩ : ∃ W1, W1 = wq.alloc (.cells #[.int .i64 va, .int .i64 k] 226) := ⟨_, rfl⟩
          have hB : Below w.heap.size w W1 := by rw [hW1]; exact HQ.out.alloc HQ.out.size _
          have hBq : Below wq.heap.size wq W1 := by rw [hW1]; exact (Below.refl _ _).alloc (Nat.le_refl _) _
          have CL := hide (leave_any s g w.heap.size pv (.slice none 0 0) P p [] k W1 (cell_later hBq q0) (HP.out.below hB) (HG.out.below hB) hk hv ⟨rfl, .inl ⟨rfl, rfl⟩⟩ hB.size (by simp) (fun b hb => by cases hb) hl)
          have hso : sentO P p (k : Int) = if hasV P[k] p.f.vlan then [((k : Int), outF P[k] p.f)] else [] := by
            unfold sentO
            rw [Int.toNat_natCast, pAt_eq hk]
          have HSO := hide hso
          have HB := hide hB
          subst h2
          have HW := hide hW1
          clear HJ1 HVP hso hB hBq hW1 h1 v0 v1
          subst hfe
          go_wp2_with fail
          rw [← HW.out]
          refine CL.out.mono ?_
          rintro e W2 ⟨rfl, v', l1, l2, l3, l4⟩
          simp only [List.nil_append, ← HSO.out] at l2
          have hsl : ∃ a cap, v' = .slice a (sentO P p k).length cap := by
            rcases l2.2 with ⟨e, e0⟩ | ⟨g', cap, cur, e, _⟩
            · exact ⟨none, 0, by rw [e, e0]⟩
            · exact ⟨_, cap, e⟩
          obtain ⟨a, cap, rfl⟩ := hsl
          have CE := hide (left_any g _ cap a p W2 l1)
          have HF : Hid (PgAt W2 g p (.slice a (sentO P p k).length cap) ∧ W2.ownsRow w.heap.size 66 2 (.slice a (sentO P p k).length cap) (sentO P p k).length (rowO (sentO P p k)) ∧ OnlyG g w W2) := hide ⟨l1, l2, ((OnlyB.of_below HB.out (Nat.le_refl _)).trans l4).onlyG⟩
          clear l1 l2 l3 l4 CL HSO hlook q0 q4 hk
          go_wp2_with fail
          refine CE.out.mono ?_
          rintro e W3 ⟨rfl, hww⟩
          rw [hww]
          clear hww W3
          have HE : Hid ((if (sentO P p k).length = 0 then (8 : Int) else 0) ≠ -1) := hide (by split <;> decide)
          generalize (if (sentO P p k).length = 0 then (8 : Int) else 0) = rr at *
          go_wp2
          go_ret
          exact ⟨rr, rfl, .inr ⟨HE.out, _, _, HJ2.out, HF.out.1, HF.out.2.1, HF.out.2.2⟩⟩
        · have HJ2 : Hid (jj = none) := hide (by rw [HJ1.out, if_neg h1, if_neg h2])
          clear HJ1 HVP
          subst hfe
          go_wp2
          go_ret
          have hB := HQ.out.alloc HQ.out.size (.cells #[.int .i64 va, .int .i64 vp] 226)
          exact ⟨-1, rfl, .inl ⟨rfl, HJ2.out, HG.out.below hB, OnlyG.of_below hB⟩⟩
    · have HJ1 : Hid (jj = none) := hide (by rw [HJ.out, if_neg hfe])
      clear HJ HVP
      go_wp2
      go_ret
      exact ⟨-1, rfl, .inl ⟨rfl, HJ1.out, HPQ.out, OnlyG.of_below HQ.out⟩⟩
end Go.Proofs.YtnjalelblbjfiaaGreatDoor

namespace Go.Proofs.YtnjalelblbjfiaaGreatDoor
open Go.RowKit Go.Maps

/-- Block x is none of an entry, a tree's node, a bunch's array, nor the start-up's. -/
structure Away (w : World) (x : Nat) : Prop where
  zero : x ≠ 0
  ent : ∀ r, ¬ EntAt w x r
  leaf : ∀ a n c, w.cell? ⟨x, 0, none⟩ ≠ some (.slice a n c)
  node : ∀ (f l : Int) (bl : Nat), w.cell? ⟨x, 1, none⟩ = some (.int .i64 f) → w.cell? ⟨x, 2, none⟩ = some (.int .i64 l) → w.cell? ⟨x, 3, none⟩ ≠ some (.pointer (some ⟨bl, 0, none⟩))
  bunch : ∀ e r, w.cell? ⟨x, 0, none⟩ = some (.pointer (some ⟨e, 0, none⟩)) → ¬ EntAt w e r

section
variable {X : Nat → Prop} {w w' : World}

theorem EntAt.away (h : KeptBut X w w') (hX : ∀ x, X x → Away w x) {b : Nat} {r : Rl} (he : EntAt w b r) : EntAt w' b r :=
  he.same (h b he.lt fun hx => (hX b hx).ent r he)
theorem BunchAt.away (h : KeptBut X w w') (hX : ∀ x, X x → Away w x) {v : Value} {es : List Ent} (hb : BunchAt w v es) : BunchAt w' v es := by
  obtain ⟨a, cap, hv, hc, he⟩ := hb
  refine ⟨a, cap, hv, fun i hi => ?_, fun e hm => (he e hm).away h hX⟩
  obtain ⟨b, off, ⟨ha, h0⟩, hcell⟩ := hc i hi
  refine ⟨b, off, ⟨ha, h0⟩, h.cell (fun hx => ?_) hcell⟩
  obtain ⟨b', off', ⟨ha', h0'⟩, hcell'⟩ := hc 0 (by omega)
  rw [ha] at ha'
  cases ha'
  subst h0
  rw [Nat.zero_add] at hcell'
  exact (hX b hx).bunch _ _ hcell' (he es[0] (List.getElem_mem (by omega)))
theorem TreeAt.away (h : KeptBut X w w') (hX : ∀ x, X x → Away w x) : ∀ {n b : Nat} {es : List Ent}, TreeAt w n b es → TreeAt w' n b es := by
  have leafy : ∀ {b : Nat} {v : Value} {es : List Ent}, BunchAt w v es → w.cell? ⟨b, 0, none⟩ = some v → ¬ X b := by
    intro b v es hb hc hx
    obtain ⟨a, cap, hv, _, _⟩ := hb
    rw [hv] at hc
    exact (hX b hx).leaf _ _ _ hc
  intro n
  induction n with
  | zero =>
    rintro b es ⟨v, h1, h2, h3⟩
    exact ⟨v, h1.away h hX, h.cell (leafy h1 h2) h2, h.cell (leafy h1 h2) h3⟩
  | succ n ih =>
    rintro b es (⟨v, h1, h2, h3⟩ | ⟨f, last, bl, bh, hf, h1, h2, h3, h4, h5, h6⟩)
    · exact .inl ⟨v, h1.away h hX, h.cell (leafy h1 h2) h2, h.cell (leafy h1 h2) h3⟩
    · have hx : ¬ X b := fun hx => (hX b hx).node _ _ _ h1 h2 h3
      exact .inr ⟨f, last, bl, bh, hf, h.cell hx h1, h.cell hx h2, h.cell hx h3, h.cell hx h4, ih h5, ih h6⟩
theorem Laid.away (hl : Laid w) (h : KeptBut X w w') (hX : ∀ x, X x → Away w x) : Laid w' := by
  have e : ∀ i, w'.cell? ⟨0, i, none⟩ = w.cell? ⟨0, i, none⟩ := fun i => World.cell?_of_block (a := ⟨0, i, none⟩) (h 0 hl.pos fun hx => (hX 0 hx).zero rfl)
  simpa only [Laid, e] using hl
/-- A table is as it was when nothing of it turned. -/
theorem TabIs.away {t : Nat} {F : Nat → Prop} {L : List Ent} (h : TabIs w t F L) (hb : Chg X w w') (hX : ∀ x, X x → Away w x) (hM : ∀ x, F x → ¬ X x) : TabIs w' t F L := by
  obtain ⟨b1, b2, sv1, sv2, LI, h, hm, hl, rfl⟩ := h
  refine ⟨b1, b2, sv1, sv2, LI, ?_, hm, hl, rfl⟩
  have ht := hM t (.inl rfl)
  refine ⟨h.laid.away hb.block hX, hb.block.cell ht h.c0, hb.block.cell ht h.c1, fun j => (World.frozen?_of_block (a := ⟨t, j, none⟩) (hb.block t (block_lt_of_cell h.c0) ht)).trans (h.tf j), h.mI.chg h.hI hb (hM b1 (.inr (.inl (.inl rfl)))) (fun g hg => hM g (.inr (.inl (.inr hg)))), h.sI, h.hI.chg hb (fun g hg => hM g (.inr (.inl (.inr hg)))),
    h.mR.chg h.hR hb (hM b2 (.inr (.inr (.inl rfl)))) (fun g hg => hM g (.inr (.inr (.inr hg)))), h.sR, h.hR.chg hb (fun g hg => hM g (.inr (.inr (.inr hg)))), fun e he => ⟨(h.ent e he).1.away hb.block hX, (h.ent e he).2⟩, fun k hk => ?_⟩
  obtain ⟨tb, c, T⟩ := h.tree k hk
  exact ⟨tb, hb.block.cell ht c, T.away hb.block hX⟩

theorem away_func {x : Nat} {fn : Fn} {f c : Array Value} {a : Option Addr} {n k : Nat} (hl : Laid w) (h0 : w.cell? ⟨x, 0, none⟩ = some (.func fn f c)) (h1 : w.cell? ⟨x, 1, none⟩ = some (.slice a n k)) : Away w x where
  zero := by rintro rfl; have := hl.1; rw [h0] at this; cases this
  ent r he := by have := he.c0; rw [h0] at this; cases this
  leaf a n c h := by rw [h0] at h; cases h
  node f l bl h _ _ := by rw [h1] at h; cases h
  bunch e r h _ := by rw [h0] at h; cases h
theorem away_str {x : Nat} {n : Int} {v : ByteArray} (hl : Laid w) (h0 : w.cell? ⟨x, 0, none⟩ = some (.int .i64 n)) (h1 : w.cell? ⟨x, 1, none⟩ = some (.string v)) : Away w x where
  zero := by rintro rfl; have := hl.2.1; rw [h1] at this; cases this
  ent r he := by have := he.c1; rw [h1] at this; cases this
  leaf a n c h := by rw [h0] at h; cases h
  node f l bl h _ _ := by rw [h1] at h; cases h
  bunch e r h _ := by rw [h0] at h; cases h
theorem TabIs.laid {t : Nat} {F : Nat → Prop} {L : List Ent} (h : TabIs w t F L) : Laid w := by
  obtain ⟨b1, b2, sv1, sv2, LI, T, _, _, rfl⟩ := h
  exact T.laid

/-- The blocks of what is known are none of a table's. -/
theorem known_away {k m : Nat} {sv : Value} {K : List Mc} (hl : Laid w) (h : KnownAt w k m sv K) : ∀ x, KX m sv x → Away w x := by
  rintro x (rfl | hx)
  · obtain ⟨a, cap, g, e, _⟩ := rowP_cells h.2.2.1.1.2.2.1
    have h1 := h.2.2.1.1.2.1
    rw [e] at h1
    exact away_func hl h.2.2.1.1.1 h1
  · obtain ⟨v, hv⟩ := (h.2.2.1.head hx).1
    obtain ⟨v1, hv1⟩ := h.2.2.1.head1 hx
    exact away_str hl hv hv1
theorem known_mine {k m t : Nat} {sv : Value} {K : List Mc} {F : Nat → Prop} {L : List Ent} (hT : TabIs w t F L) (h : KnownAt w k m sv K) : ∀ x, F x → ¬ KX m sv x := by
  obtain ⟨b1, b2, sv1, sv2, LI, T, _, _, rfl⟩ := hT
  have h0 := h.2.2.1.1.1
  rintro x hx (rfl | hy)
  · rcases hx with rfl | (rfl | hx) | (rfl | hx)
    · have := T.c0; rw [h0] at this; cases this
    · have := T.mI.1; rw [h0] at this; cases this
    · obtain ⟨n, p, c0, _⟩ := T.hI _ hx; rw [h0] at c0; cases c0
    · have := T.mR.1; rw [h0] at this; cases this
    · obtain ⟨n, n', p, c0, _⟩ := T.hR _ hx; rw [h0] at c0; cases c0
  · obtain ⟨v, hv⟩ := (h.2.2.1.head hy).1
    obtain ⟨v1, hv1⟩ := h.2.2.1.head1 hy
    rcases hx with rfl | (rfl | hx) | (rfl | hx)
    · have := T.c0; rw [hv] at this; cases this
    · have := T.mI.1; rw [hv] at this; cases this
    · obtain ⟨n, p, _, c1⟩ := T.hI _ hx; rw [hv1] at c1; cases c1
    · have := T.mR.1; rw [hv] at this; cases this
    · obtain ⟨n, n', p, _, c1, _⟩ := T.hR _ hx; rw [hv1] at c1; cases c1
/-- A table is as it was while frames are learned from. -/
theorem TabIs.learned {k m t : Nat} {sv : Value} {K : List Mc} {F : Nat → Prop} {L : List Ent} (hT : TabIs w t F L) (h : KnownAt w k m sv K) (hc : Chg (KX m sv) w w') : TabIs w' t F L :=
  hT.away hc (known_away hT.laid h) (known_mine hT h)
end
end Go.Proofs.YtnjalelblbjfiaaGreatDoor

namespace Go.Proofs.YtnjalelblbjfiaaGreatDoor
open Go.RowKit Go.Maps

/-- A switch's faces and rules in memory. -/
structure SwR (w : World) (s fm t vb : Nat) (fsv : Value) (Fs : List Fc) (F : Nat → Prop) (L : List Ent) (V : Int → Int × Int) : Prop where
  h1 : w.cell? ⟨s, 1, none⟩ = some (.pointer (some ⟨fm, 0, none⟩))
  hF : MapF w fm fsv Fs
  sF : SortedF Fs
  hH : ∀ g, fsv.ownBlock = some g → ∃ n v, w.cell? ⟨g, 0, none⟩ = some (.int .i64 n) ∧ w.cell? ⟨g, 1, none⟩ = some (.string v)
  h3 : w.cell? ⟨s, 3, none⟩ = some (.pointer (some ⟨t, 0, none⟩))
  hT : TabIs w t F L
  h4 : w.cell? ⟨s, 4, none⟩ = some (.map (some vb))
  hV : VerdAt w vb L.length V
  hD : ¬ F fm ∧ ∀ g, fsv.ownBlock = some g → ¬ F g

theorem row_type {w : World} {B : Nat} {t : TypeId} {sz n : Nat} {v : Value} {xs : List Value} (h : w.ownsRow B t sz v n xs) {g : Nat} (hg : v.ownBlock = some g) : ∃ cs, w.heap[g]? = some (.cells cs t (0, 0)) := by
  rcases h.2 with ⟨rfl, _⟩ | ⟨g', cap, cur, rfl, _, hb, _⟩
  · cases hg
  · obtain rfl : g' = g := by simpa [Value.ownBlock] using hg
    exact ⟨cur, hb⟩

theorem SwR.kept {w W : World} {s k m fm t vb : Nat} {pv sv fsv : Value} {P : List Prt} {K : List Mc} {Fs : List Fc} {F : Nat → Prop} {L : List Ent} {V : Int → Int × Int} (h : SwR w s fm t vb fsv Fs F L V) (hS : SwP w s pv P k m sv K) (hc : Chg (KX m sv) w W) : SwR W s fm t vb fsv Fs F L V := by
  have hns := hS.not_s
  have hm0 := hS.hK.2.2.1.1.1
  have hfm : ¬ KX m sv fm := by
    rintro (e | e)
    · subst e
      have := h.hF.1
      rw [hm0] at this
      cases this
    · obtain ⟨v, hv⟩ := (hS.hK.2.2.1.head e).1
      have := h.hF.1
      rw [hv] at this
      cases this
  have hfa : ∀ g, fsv.ownBlock = some g → ¬ KX m sv g := by
    rintro g hg (e | e)
    · subst e
      obtain ⟨n, v, c0, _⟩ := h.hH g hg
      rw [hm0] at c0
      cases c0
    · obtain ⟨c1, h1⟩ := row_type h.hF.2.2.1 hg
      obtain ⟨c2, h2⟩ := row_type hS.hK.2.2.1.1.2.2.1 e
      rw [h1] at h2
      cases h2
  refine ⟨hc.block.cell hns h.h1, ?_, h.sF, fun g hg => ?_, hc.block.cell hns h.h3, h.hT.learned hS.hK hc, hc.block.cell hns h.h4, ?_, h.hD⟩
  · obtain ⟨c0, c1, c2, c3, c4⟩ := h.hF
    exact ⟨hc.block.cell hfm c0, hc.block.cell hfm c1, ownsRow_blk c2 fun g hg => hc.block g (ownsRow_lt c2 hg).2 (hfa g hg), fun j => (World.frozen?_of_block (a := ⟨fm, j, none⟩) (hc.block fm (block_lt_of_cell c0) hfm)).trans (c3 j), c4⟩
  · obtain ⟨n, v, c0, c1⟩ := h.hH g hg
    exact ⟨n, v, hc.block.cell (hfa g hg) c0, hc.block.cell (hfa g hg) c1⟩
  · obtain ⟨D, hO, hV⟩ := h.hV
    have hlt := hO.lt
    obtain ⟨es, cl, e1, e2⟩ := hO
    refine ⟨D, ⟨es, cl, (hc.block vb hlt ?_).trans e1, e2⟩, hV⟩
    rintro (e | e)
    · subst e
      rw [noCell e1 rfl] at hm0
      cases hm0
    · obtain ⟨v, hv⟩ := (hS.hK.2.2.1.head e).1
      rw [noCell e1 rfl] at hv
      cases hv

theorem isRt_size {b : ByteArray} (h : isRt b = true) : 20 ≤ b.size ∧ w16 b 2 ≤ b.size := by
  unfold isRt at h
  simp only [Bool.and_eq_true, decide_eq_true_eq] at h
  exact ⟨h.1.1.1, h.1.2.2⟩
theorem unp_right {p : Pg} (hp : p.right = false) (hs : p.f.rest.size ≤ 1000) (h : (unpP p).right = true) : 20 ≤ (unpP p).pb.size ∧ (unpP p).pb.size ≤ 1000 ∧ w16 (unpP p).pb 2 ≤ (unpP p).pb.size ∧ (unpP p).ph = ihl (unpP p).pb ∧ (unpP p).pt = w16 (unpP p).pb 2 := by
  unfold unpP at *
  split at h
  · rename_i hk
    rw [if_pos hk]
    unfold unpR at *
    split at h
    · rename_i hr
      rw [if_pos hr]
      exact ⟨(isRt_size hr).1, hs, (isRt_size hr).2, rfl, rfl⟩
    · cases h
  · rw [hp] at h
    cases h

end Go.Proofs.YtnjalelblbjfiaaGreatDoor
