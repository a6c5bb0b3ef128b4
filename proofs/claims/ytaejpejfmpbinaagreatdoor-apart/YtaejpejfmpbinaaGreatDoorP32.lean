import Derived.Test.YtaejpejfmpbinaaGreatDoorP31
namespace Go.Proofs.YtaejpejfmpbinaaGreatDoor
open Go.RowKit

section
variable {n0 n1 : Nat} {xs ys : Nat → Int} {w : World} {s k m nb tb : Nat} {pv : Value} {i v : Nat} {nat : Int} {wr : World}

/-- A store into one of the two arrays. -/
theorem ApI.set_sw (h : ApI n0 n1 xs ys w s k m nb tb pv i v nat wr) {b j : Nat} {u : Value} (hb : (∃ c, wr.heap[b]? = some (.cells (arr4 c) 38 (0, 0))) ∨ ∃ c, wr.heap[b]? = some (.cells (arr16 c) 40 (0, 0))) :
    SwP (wr.setCell ⟨b, j, none⟩ u) s pv (portsTo n0 n1 xs ys i) k m (.slice none 0 0) [] ∧ ∃ Q, PortsO (wr.setCell ⟨b, j, none⟩ u) pv (portsTo n0 n1 xs ys i) Q := by
  obtain ⟨Q, hQ⟩ := h.po
  have c01 : (∃ x, wr.cell? ⟨b, 0, none⟩ = some (.int .i64 x)) ∧ (∃ x, wr.cell? ⟨b, 1, none⟩ = some (.int .i64 x)) ∨ ∃ x, wr.cell? ⟨b, 0, none⟩ = some (.bool x) := by
    rcases hb with ⟨c, hb⟩ | ⟨c, hb⟩
    · exact .inl ⟨⟨_, cellRow hb (arr4_get c (by omega))⟩, _, cellRow hb (arr4_get c (by omega))⟩
    · exact .inr ⟨_, cellRow hb (arr16_get c (i := 0) (v := 0) (by omega) (by omega))⟩
  have nc : ∃ cs t, wr.heap[b]? = some (.cells cs t (0, 0)) := by
    rcases hb with ⟨c, hb⟩ | ⟨c, hb⟩ <;> exact ⟨_, _, hb⟩
  have ne : ∀ x i v, wr.cell? ⟨x, i, none⟩ = some v → (i = 0 ∧ ∀ y z, v ≠ .int .i64 y ∧ v ≠ .bool z) → x ≠ b := by
    rintro x i v hv ⟨rfl, h'⟩ rfl
    rcases c01 with ⟨⟨y, hy⟩, _⟩ | ⟨z, hz⟩
    · rw [hy] at hv; cases hv; exact (h' _ true).1 rfl
    · rw [hz] at hv; cases hv; exact (h' 0 _).2 rfl
  have npv : ∀ x, pv.ownBlock = some x → x ≠ b := by
    rintro x hx rfl
    obtain ⟨⟨y, hy⟩, mo, hmo⟩ := hQ.head (by rw [portsTo_length]; omega) hx
    rcases c01 with ⟨_, z, hz⟩ | ⟨z, hz⟩
    · rw [hmo] at hz; cases hz
    · rw [hy] at hz; cases hz
  have oth : ∀ x, x ≠ b → (wr.setCell ⟨b, j, none⟩ u).heap[x]? = wr.heap[x]? := fun x hx => heap_setCell_other _ _ _ _ hx
  have hP' : PortsO (wr.setCell ⟨b, j, none⟩ u) pv (portsTo n0 n1 xs ys i) Q := hQ.keep (fun x hx => oth x (npv x hx)) fun x o ho hco => by
    refine (oth x ?_).trans ho
    rintro rfl
    obtain ⟨cs, t, e⟩ := nc
    rw [e] at ho; cases ho; cases hco
  have hS := h.sw
  have nS : s ≠ b := by
    obtain ⟨a, cap, b', e, _⟩ := hS.hp
    exact ne s 0 _ hS.h0 ⟨rfl, fun y z => by rw [e]; simp⟩
  have n1' : 1 ≠ b := ne 1 0 _ hS.hm.1 ⟨rfl, by simp⟩
  have nk : k ≠ b := ne k 0 _ hS.hK.1 ⟨rfl, by simp⟩
  have nm : m ≠ b := ne m 0 _ hS.hK.2.2.1.1.1 ⟨rfl, by simp⟩
  have cl : ∀ x i v, x ≠ b → wr.cell? ⟨x, i, none⟩ = some v → (wr.setCell ⟨b, j, none⟩ u).cell? ⟨x, i, none⟩ = some v := fun x i v hx hv => (World.cell?_of_block (a := ⟨x, i, none⟩) (oth x hx)).trans hv
  refine ⟨⟨cl _ _ _ nS hS.h0, hP'.at, cl _ _ _ nS hS.h5, hS.hK.keep fun x _ hx => oth x ?_, cl _ _ _ n1' hS.hm.1, cl _ _ _ n1' hS.hm.2.1, cl _ _ _ n1' hS.hm.2.2.1, cl _ _ _ n1' hS.hm.2.2.2⟩, Q, hP'⟩
  rcases hx with rfl | rfl | hx
  · exact nk
  · exact nm
  · cases hx

theorem ApI.ne_nt (h : ApI n0 n1 xs ys w s k m nb tb pv i v nat wr) : nb ≠ tb := by
  rintro rfl
  have := h.na.symm.trans h.ta
  simp at this

theorem ApI.setNat (h : ApI n0 n1 xs ys w s k m nb tb pv i 0 0 wr) (nat' : Int) : ApI n0 n1 xs ys w s k m nb tb pv i 0 nat' (wr.setCell ⟨nb, i, none⟩ (.int .i64 nat')) := by
  obtain ⟨h1, h2⟩ := h.set_sw (b := nb) (j := i) (u := .int .i64 nat') (.inl ⟨_, h.na⟩)
  refine ⟨h1, h2, ?_, (heap_setCell_other _ _ _ _ h.ne_nt.symm).trans h.ta, h.lo.setCell h.hn _, h.hm, h.hk, h.hn, h.ht, h.hp⟩
  rw [heap_setCell_same _ _ i _ _ _ h.na, arr4_set]
  congr 3
  funext j
  by_cases e : j = i
  · subst e; simp
  · simp [e]
theorem ApI.setTag (h : ApI n0 n1 xs ys w s k m nb tb pv i v nat wr) (hv : v < 4) (ht : tagV n0 n1 xs ys i v = true) : ApI n0 n1 xs ys w s k m nb tb pv i (v + 1) nat (wr.setCell ⟨tb, i * 4 + v, none⟩ (.bool true)) := by
  obtain ⟨h1, h2⟩ := h.set_sw (b := tb) (j := i * 4 + v) (u := .bool true) (.inr ⟨_, h.ta⟩)
  refine ⟨h1, h2, (heap_setCell_other _ _ _ _ h.ne_nt).trans h.na, ?_, h.lo.setCell h.ht _, h.hm, h.hk, h.hn, h.ht, h.hp⟩
  rw [heap_setCell_same _ _ (i * 4 + v) _ _ _ h.ta, arr16_set _ hv]
  congr 3
  funext x y
  by_cases e : x = i ∧ y = v
  · obtain ⟨rfl, rfl⟩ := e
    rw [if_pos ⟨rfl, rfl⟩, if_pos (.inr ⟨rfl, by omega⟩), ht]
  · rw [if_neg e]
    by_cases e2 : x < i ∨ (x = i ∧ y < v)
    · rw [if_pos e2, if_pos (by omega)]
    · rw [if_neg e2, if_neg (by omega)]
theorem ApI.skipTag (h : ApI n0 n1 xs ys w s k m nb tb pv i v nat wr) (ht : tagV n0 n1 xs ys i v = false) : ApI n0 n1 xs ys w s k m nb tb pv i (v + 1) nat wr := by
  refine ⟨h.sw, h.po, h.na, ?_, h.lo, h.hm, h.hk, h.hn, h.ht, h.hp⟩
  rw [h.ta]
  congr 3
  funext x y
  by_cases e : x = i ∧ y = v
  · obtain ⟨rfl, rfl⟩ := e
    rw [if_neg (by omega), if_pos (.inr ⟨rfl, by omega⟩), ht]
  · by_cases e2 : x < i ∨ (x = i ∧ y < v)
    · rw [if_pos e2, if_pos (by omega)]
    · rw [if_neg e2, if_neg (by omega)]
theorem ApI.next {W : World} (h : ApI n0 n1 xs ys w s k m nb tb pv i 4 (natV n0 xs i) wr) (hi : i < 4) {Q' : List (Int × Value)} (hP : PortsO W pv (portsTo n0 n1 xs ys (i + 1)) Q') (hc : Chg (fun b => pv.ownBlock = some b) wr W) : ApI n0 n1 xs ys w s k m nb tb pv (i + 1) 0 0 W := by
  obtain ⟨Q, hQ⟩ := h.po
  have h4 : 0 < (portsTo n0 n1 xs ys i).length := by rw [portsTo_length]; omega
  have nn : pv.ownBlock ≠ some nb := by
    intro e
    obtain ⟨mo, hmo⟩ := (hQ.head h4 e).2
    have : wr.cell? ⟨nb, 1, none⟩ = some (.int .i64 _) := cellRow h.na (arr4_get _ (by omega))
    rw [hmo] at this; cases this
  have nt : pv.ownBlock ≠ some tb := by
    intro e
    obtain ⟨x, hx⟩ := (hQ.head h4 e).1
    have : wr.cell? ⟨tb, 0, none⟩ = some (.bool _) := cellRow h.ta (arr16_get _ (i := 0) (v := 0) (by omega) (by omega))
    rw [hx] at this; cases this
  refine ⟨h.sw.ported hQ h4 hc hP, ⟨Q', hP⟩, ?_, ?_, ?_, h.hm, h.hk, h.hn, h.ht, h.hp⟩
  · rw [hc.block nb (lt_of_heap h.na) nn, h.na]
    congr 3
    funext j
    by_cases e : j < i
    · rw [if_pos e, if_pos (by omega)]
    · rw [if_neg e]
      by_cases e2 : j = i
      · subst e2; rw [if_pos rfl, if_pos (by omega)]
      · rw [if_neg e2, if_neg (by omega), ite_self]
  · rw [hc.block tb (lt_of_heap h.ta) nt, h.ta]
    congr 1
    congr 1
    unfold arr16
    congr 1
    refine List.map_congr_left fun z hz => ?_
    have hz16 := List.mem_range.1 hz
    congr 1
    have hm : z % 4 < 4 := Nat.mod_lt _ (by omega)
    dsimp only
    by_cases e : z / 4 < i ∨ (z / 4 = i ∧ z % 4 < 4)
    · rw [if_pos e, if_pos (by omega)]
    · rw [if_neg e, if_neg (by omega)]
  · exact h.lo.trans (hc.below h.lo.size h.hp)
end
end Go.Proofs.YtaejpejfmpbinaaGreatDoor

namespace Go.Proofs.YtaejpejfmpbinaaGreatDoor
open Go.RowKit

theorem conv1 (W : World) (g : Nat) (x : Int) (hx : 0 ≤ x ∧ x < 256) (h0 : W.cell? ⟨g, 0, none⟩ = some (.int .u8 x)) :
    (convert 42 9 (.slice (some ⟨g, 0, none⟩) 1 1)).run Tryz.prog W = .ok (.string ⟨#[UInt8.ofNat x.toNat]⟩) W := by
  refine run_convert_bytes_back W 42 9 5 ⟨g, 0, none⟩ 1 [UInt8.ofNat x.toNat] Tryz.underlying42 Tryz.underlying5 Tryz.underlying9 ?_
  intro j hj
  match j, hj with
  | 0, _ =>
    have e : ((UInt8.ofNat x.toNat).toNat : Int) = x := by simp; omega
    show W.cell? ⟨g, 0, none⟩ = some (.int .u8 ((UInt8.ofNat x.toNat).toNat : Int))
    rw [e]; exact h0

def ff6 : List UInt8 := [255, 255, 255, 255, 255, 255]
/-- A frame of Apart's, in its parts: its VLAN, its mark. -/
def apF (tagged : Bool) (vv mk : Nat) : Fr := ⟨ofL ff6, ofL (macL 1), tagged, vv, mk, ofL [18, 52], ofL [97, 108, 108]⟩
/-- On its way. -/
def apQ (p : Nat) (d : ByteArray) (tagged : Bool) (vv mk : Nat) : Pg := ⟨p, d, apF tagged vv mk, ⟨#[]⟩, 0, 0, false, false⟩

theorem fwdO_prefix (P : List Prt) (q : Pg) (bh : Int) (kn : Bool) {a b : Nat} (h : a ≤ b) : ∃ r, fwdO P q bh kn b = fwdO P q bh kn a ++ r := by
  induction b with
  | zero => exact ⟨[], by rw [Nat.le_zero.1 h]; simp⟩
  | succ b ih =>
    rcases Nat.lt_or_eq_of_le h with h1 | h1
    · obtain ⟨r, hr⟩ := ih (by omega)
      exact ⟨_, by rw [fwdO_succ, hr, List.append_assoc]⟩
    · exact ⟨[], by rw [h1]; simp⟩
theorem fwdO_at {P : List Prt} {q : Pg} {bh : Int} {kn : Bool} {a n : Nat} (h : a < n) (hc : (goesTo q bh kn a && hasV (pAt P a) q.f.vlan) = true) : ∃ hl : (fwdO P q bh kn a).length < (fwdO P q bh kn n).length, (fwdO P q bh kn n)[(fwdO P q bh kn a).length] = ((a : Int), outF (pAt P a) q.f) := by
  obtain ⟨r, hr⟩ := fwdO_prefix P q bh kn (show a + 1 ≤ n from h)
  rw [fwdO_succ, hc, if_pos rfl] at hr
  refine ⟨by rw [hr]; simp, ?_⟩
  simp only [hr]
  rw [List.getElem_append_left (by simp), List.getElem_append_right (Nat.le_refl _)]
  simp

/-- The bytes of such a frame, without a tag and with one. -/
def apOut (tag : Bool) (vv mk : Nat) : ByteArray := if tag then ofL (ff6 ++ macL 1 ++ [129, 0, UInt8.ofNat (mk * 16), UInt8.ofNat vv] ++ [18, 52] ++ [97, 108, 108]) else ofL (ff6 ++ macL 1 ++ [18, 52] ++ [97, 108, 108])
theorem outAp (pt : Prt) (g : Bool) (vv mk : Nat) (hv : vv < 4) (hm : mk < 16) : outF pt (apF g vv mk) = apOut ((vv : Int) != pt.nat) vv mk := by
  unfold outF bytesF apOut
  show ofL ff6 ++ ofL (macL 1) ++ tagS ((vv : Int) != pt.nat) vv mk ++ ofL [18, 52] ++ ofL [97, 108, 108] = _
  cases ((vv : Int) != pt.nat)
  · show ofL ff6 ++ ofL (macL 1) ++ ofL [] ++ ofL [18, 52] ++ ofL [97, 108, 108] = _
    simp only [ofL_append]
    simp
  · rw [tagS_eq vv mk hv hm]
    simp only [ofL_append]
    simp

theorem ff6_known {K' : List Mc} {v p : Int} (h : LearnK [] ⟨v, ofL (macL 1), p, 0⟩ K') : known K' v (ofL ff6) = none := by
  rw [h.known List.Pairwise.nil (by simp), if_neg, known_nil]
  rintro ⟨_, e⟩
  have := congrArg List.head? (ofL_inj e)
  simp [ff6, macL] at this

/-- What becomes of it. -/
def ApR (P : List Prt) (p : Nat) (d : ByteArray) (g inn : Bool) (vv mk : Nat) (r : Int) (L : List (Int × ByteArray)) : Prop :=
  if inn then L = fwdO P (apQ p d g vv mk) 0 false P.length ∧ r = (if L.length = 0 then 8 else 0) else L = [] ∧ r = 3

theorem apart_R {P : List Prt} {p : Nat} {d : ByteArray} {g : Bool} {v0 vv mk : Nat} {r : Int} {L : List (Int × ByteArray)} {K' : List Mc} (hp : p < P.length) (hd : readF d = some (apF g v0 mk)) (hs : d.size ≤ 600) (hv : vlanAt (pAt P p) (apF g v0 mk) = vv) (h : FrameR P [] id (fun _ => none) .inr p d r L K') : ApR P p d g (!barredAt (pAt P p) (apF g v0 mk)) vv mk r L := by
  have hr : fateRead d = -1 := by
    unfold fateRead
    rw [if_neg (by omega), hd]
    show (if isGrp (ofL (macL 1)) = true then (2 : Int) else -1) = -1
    rw [mac_grp]; rfl
  unfold ApR
  cases hb : barredAt (pAt P p) (apF g v0 mk) with
  | false =>
    obtain ⟨q1, q2, q3⟩ := frame_plain h ⟨by omega, by omega⟩ hr hd (by rw [Int.toNat_natCast]; exact hb)
    have e : (pIn P p d (apF g v0 mk)) = apQ p d g vv mk := by
      unfold pIn apQ
      rw [Int.toNat_natCast, hv]
      rfl
    rw [e] at q1 q2
    have hk : known K' (apQ p d g vv mk).f.vlan (ofL ff6) = none := ff6_known q1
    have q2' : L = fwdO P (apQ p d g vv mk) (portOf (known K' (apQ p d g vv mk).f.vlan (ofL ff6))) (known K' (apQ p d g vv mk).f.vlan (ofL ff6)).isSome P.length := q2
    rw [hk] at q2'
    exact ⟨q2', q3⟩
  | true =>
    cases h with
    | unknown h => exact absurd ⟨by omega, by omega⟩ h
    | bad _ h => exact absurd hr h
    | barred f' _ _ hf' hb' => exact ⟨rfl, rfl⟩
    | judged f' K2 r2 L2 _ _ _ _ _ hj => cases hj
    | stopped f' K2 r2 _ _ _ _ _ _ ho => cases ho
    | out f' K2 q _ _ hf' hb' =>
      rw [hd] at hf'
      cases hf'
      rw [Int.toNat_natCast, hb] at hb'
      cases hb'

theorem kind_ap (g : Bool) (v0 mk : Nat) {d : ByteArray} (hd : readF d = some (apF g v0 mk)) : ∀ f, readF d = some f → (kind2 f.ty == 2) = false := by
  intro f h
  rw [hd] at h
  cases h
  show (kind2 (ofL [18, 52]) == 2) = false
  unfold kind2 kindN
  rw [ofL_toList, show (⟨#[129, 0]⟩ : ByteArray) = ofL [129, 0] from rfl, show (⟨#[8, 0]⟩ : ByteArray) = ofL [8, 0] from rfl, ofL_toList, ofL_toList]
  rfl

theorem apart_frame (s k m : Nat) (pv sv : Value) (P : List Prt) (p : Nat) (d : ByteArray) (g : Bool) (v0 vv mk : Nat) (w : World) (h : SwP w s pv P k m sv []) (hP : P.length ≤ 8) (hnat : ∀ p ∈ P, (Lit.int .i64 p.nat).wf = true) (hp : p < P.length) (hd : readF d = some (apF g v0 mk)) (hs : d.size ≤ 600) (hv : vlanAt (pAt P p) (apF g v0 mk) = vv) :
    Calls Tryz.prog 9 #[.pointer (some ⟨s, 0, none⟩), .int .i64 p, .string d] w (FrameEnd w k m sv fun r L _ => ApR P p d g (!barredAt (pAt P p) (apF g v0 mk)) vv mk r L) := by
  refine (sFrame_of s k m pv sv P [] p d w h hP (by simp) hnat _ _ _ (middleN s k m pv sv P [] p d w h hnat (kind_ap g v0 mk hd))).mono fun e W h' => h'.mono fun r L K' h1 => apart_R hp hd hs hv h1

theorem read_ap_tagged (v : Nat) (hv : v < 4) : readF (ofL (ff6 ++ macL 1 ++ [129, 0, 48, UInt8.ofNat v] ++ [18, 52] ++ [97, 108, 108])) = some (apF true v 3) := by
  rw [read_tagged ff6 (macL 1) [97, 108, 108] 48 (UInt8.ofNat v) 18 52 rfl rfl]
  have : ∀ v, v < 4 → (((48 : UInt8).toNat * 256 + (UInt8.ofNat v).toNat) % 4096 = v ∧ ((48 : UInt8).toNat * 256 + (UInt8.ofNat v).toNat) / 4096 = 3) := by decide
  obtain ⟨h1, h2⟩ := this v hv
  rw [h1, h2]
  rfl
theorem read_ap_plain : readF (ofL (ff6 ++ macL 1 ++ [18, 52] ++ [97, 108, 108])) = some (apF false 0 0) := read_plain ff6 (macL 1) [97, 108, 108] 18 52 rfl rfl (by decide)
end Go.Proofs.YtaejpejfmpbinaaGreatDoor

namespace Go.Proofs.YtaejpejfmpbinaaGreatDoor
open Go.RowKit

/-- While a port's tags are told. -/
def ApL (n0 n1 : Nat) (xs ys : Nat → Int) (w : World) (s k m nb tb : Nat) (pv : Value) (i v : Nat) (l : Value) (wr : World) : Prop :=
  ApI n0 n1 xs ys w s k m nb tb pv i v (natV n0 xs i) wr ∧ wr.ownsRow w.heap.size 3 1 l (tagLk n0 n1 xs ys i v).length ((tagLk n0 n1 xs ys i v).map fun x => .int .i64 x) ∧ (l = .slice none 0 0 ∨ 0 < (tagLk n0 n1 xs ys i v).length)

theorem SwP.away {w W : World} {s k m g : Nat} {pv sv : Value} {P : List Prt} {Q : List (Int × Value)} {K : List Mc} {x : Int} (h : SwP w s pv P k m sv K) (hP : PortsO w pv P Q) (hc : Chg (fun b => b = g) w W) (c0 : w.cell? ⟨g, 0, none⟩ = some (.int .i64 x)) (hg : pv.ownBlock ≠ some g) (hsv : sv.ownBlock ≠ some g) : SwP W s pv P k m sv K ∧ PortsO W pv P Q := by
  have ne : ∀ b v, w.cell? ⟨b, 0, none⟩ = some v → (∀ y, v ≠ .int .i64 y) → b ≠ g := by
    rintro b v hv h' rfl
    rw [c0] at hv; cases hv; exact h' _ rfl
  have hP' : PortsO W pv P Q := hP.keep (fun b hb => hc.block b (ownsRow_lt hP.own hb).2 fun e => hg (e ▸ hb)) fun b o ho hco => by
    refine (hc.block b (lt_of_heap ho) fun e => ?_).trans ho
    subst e
    rw [noCell ho hco] at c0
    cases c0
  have nS : s ≠ g := by
    obtain ⟨a, cap, b', e, _⟩ := h.hp
    exact ne s _ h.h0 fun y => by rw [e]; simp
  have n1 : 1 ≠ g := ne 1 _ h.hm.1 (by simp)
  refine ⟨⟨hc.block.cell nS h.h0, hP'.at, hc.block.cell nS h.h5, h.hK.keep fun b hb hx => hc.block b hb ?_, hc.block.cell n1 h.hm.1, hc.block.cell n1 h.hm.2.1, hc.block.cell n1 h.hm.2.2.1, hc.block.cell n1 h.hm.2.2.2⟩, hP'⟩
  rcases hx with rfl | rfl | hx
  · exact ne b _ h.hK.1 (by simp)
  · exact ne b _ h.hK.2.2.1.1.1 (by simp)
  · rintro rfl
    exact hsv hx

section
variable {n0 n1 : Nat} {xs ys : Nat → Int} {w : World} {s k m nb tb : Nat} {pv : Value} {i v : Nat} {nat : Int} {wr : World}
theorem ApI.grown {W : World} {l : Value} {L : List Int} (h : ApI n0 n1 xs ys w s k m nb tb pv i v nat wr) (hO : wr.ownsRow w.heap.size 3 1 l L.length (L.map fun x => .int .i64 x)) (hl : l = .slice none 0 0 ∨ 0 < L.length) (hg : wr.grownBy W l.ownBlock) : ApI n0 n1 xs ys w s k m nb tb pv i v nat W := by
  rcases hl with rfl | hl
  · exact h.below ((Below.refl _ wr).grown hg (Nat.le_refl _) fun x hx => by cases hx)
  rcases hO.2 with ⟨_, e⟩ | ⟨g, cap, cur, rfl, hb, hgb, _⟩
  · omega
  have c0 : wr.cell? ⟨g, 0, none⟩ = some (.int .i64 L[0]) := (hO.cellAt 0 (by omega)).trans (by simp [hl])
  have hc : Chg (fun b => b = g) wr W := ⟨hg.os, hg.tape, hg.output, hg.size, fun b hb' hx => hg.block b hb' fun e => hx (by simpa [Value.ownBlock] using e)⟩
  obtain ⟨Q, hQ⟩ := h.po
  have npv : pv.ownBlock ≠ some g := by
    intro e
    rcases hQ.own.2 with ⟨e2, _⟩ | ⟨g2, cap2, cur2, e2, _, hg2, _⟩
    · rw [e2] at e; cases e
    · rw [e2] at e
      obtain rfl : g2 = g := by simpa [Value.ownBlock] using e
      have := hg2.symm.trans hgb
      simp at this
  have nnb : nb ≠ g := by
    rintro rfl
    have := h.na.symm.trans hgb
    simp at this
  have ntb : tb ≠ g := by
    rintro rfl
    have := h.ta.symm.trans hgb
    simp at this
  obtain ⟨h1, h2⟩ := h.sw.away hQ hc c0 npv (by simp [Value.ownBlock])
  exact ⟨h1, ⟨Q, h2⟩, (hc.block nb (lt_of_heap h.na) nnb).trans h.na, (hc.block tb (lt_of_heap h.ta) ntb).trans h.ta, h.lo.trans (hc.below h.lo.size fun x e => e ▸ hb), h.hm, h.hk, h.hn, h.ht, h.hp⟩

theorem ApL.skip {l : Value} {q : Nat} (h : ApL n0 n1 xs ys w s k m nb tb pv i q l wr) (ht : tagV n0 n1 xs ys i q = false) : ApL n0 n1 xs ys w s k m nb tb pv i (q + 1) l wr := by
  have e : tagLk n0 n1 xs ys i (q + 1) = tagLk n0 n1 xs ys i q := by rw [tagLk_succ, ht]; simp
  refine ⟨h.1.skipTag ht, ?_⟩
  rw [e]
  exact h.2
theorem ApL.take {l : Value} {q g' cap' : Nat} {w2 : World} {o : Obj} (h : ApL n0 n1 xs ys w s k m nb tb pv i q l wr) (hq : q < 4) (ht : tagV n0 n1 xs ys i q = true) (hg : (wr.alloc o).grownBy w2 l.ownBlock) (hO : w2.ownsRow w.heap.size 3 1 (.slice (some ⟨g', 0, none⟩) ((tagLk n0 n1 xs ys i q).length + 1) cap') ((tagLk n0 n1 xs ys i q).length + 1) ((tagLk n0 n1 xs ys i q).map (fun x => .int .i64 x) ++ [.int .i64 q])) :
    ApI n0 n1 xs ys w s k m nb tb pv i q (natV n0 xs i) w2 ∧ ApL n0 n1 xs ys w s k m nb tb pv i (q + 1) (.slice (some ⟨g', 0, none⟩) ((tagLk n0 n1 xs ys i q).length + 1) cap') (w2.setCell ⟨tb, i * 4 + q, none⟩ (.bool true)) := by
  have e : tagLk n0 n1 xs ys i (q + 1) = tagLk n0 n1 xs ys i q ++ [(q : Int)] := by rw [tagLk_succ, ht]; rfl
  have h2 : ApI n0 n1 xs ys w s k m nb tb pv i q (natV n0 xs i) w2 := (h.1.below ((Below.refl _ wr).alloc (Nat.le_refl _) o)).grown (h.2.1.alloc o) h.2.2 hg
  refine ⟨h2, h2.setTag hq ht, ?_, ?_⟩
  · rw [e, List.map_append, List.length_append]
    refine ownsRow_blk hO fun b hb => heap_setCell_other _ _ _ _ ?_
    intro e3
    replace e3 : b = tb := e3
    subst e3
    obtain rfl : g' = b := by simpa [Value.ownBlock] using hb
    rcases hO.2 with ⟨e2, _⟩ | ⟨g2, cap2, cur2, e2, _, hg2, _⟩
    · cases e2
    · cases e2
      have := h2.ta.symm.trans hg2
      simp at this
  · rw [e, List.length_append]
    exact .inr (by simp)
theorem ApL.nums {l : Value} {q : Nat} (h : ApL n0 n1 xs ys w s k m nb tb pv i q l wr) : NumsAt wr l (tagLk n0 n1 xs ys i q) := by
  rcases h.2.1.2 with ⟨e, e0⟩ | ⟨g, cap, cur, e, _⟩
  · exact ⟨none, 0, 0, by rw [e, e0], fun j hj => by omega⟩
  · refine ⟨_, cap, g, e, fun j hj => ⟨rfl, ?_⟩⟩
    have ho := h.2.1
    rw [e] at ho
    exact (ho.cellAt j (by omega)).trans (by simp [hj])
end

theorem bit_eq (p : Int) (hp : 0 ≤ p ∧ p < 16) (q : Nat) (hq : q < 4) : bits BinOp.and IntKind.i64 (p / 2 ^ q) 1 = 1 ↔ (p.toNat / 2 ^ q % 2 == 1) = true := by
  have h : ∀ n, n < 16 → ∀ q, q < 4 → (bits BinOp.and IntKind.i64 (((n : Nat) : Int) / 2 ^ q) 1 = 1 ↔ (n / 2 ^ q % 2 == 1) = true) := by decide +kernel
  obtain ⟨n, rfl⟩ : ∃ n : Nat, p = n := ⟨p.toNat, by omega⟩
  rw [Int.toNat_natCast]
  exact h n (by omega) q hq

set_option maxRecDepth 100000 in
set_option maxHeartbeats 2000000 in
theorem apart_any (a0 a1 : Option Addr) (n0 n1 c0 c1 g0 g1 o0 o1 : Nat) (at_ vl : Int) (w : World) (hl : Laid w) (hm : Means w) (h0 : IntsAt w a0 n0 g0 o0) (h1 : IntsAt w a1 n1 g1 o1) (hn0 : n0 ≤ 9223372036854775000) (hn1 : n1 ≤ 9223372036854775000) (ha : -9223372036854775808 ≤ at_ ∧ at_ ≤ 9223372036854775807) (hv : -9223372036854775808 ≤ vl ∧ vl ≤ 9223372036854775807) :
    Calls Tryz.prog 4 #[.slice a0 n0 c0, .slice a1 n1 c1, .int .i64 at_, .int .i64 vl] w fun e w' => e = .returned (.bool true) ∧ Below w.heap.size w w' := by
  have CH := hide (hall_any w hl hm)
  have CK := hide fun (n : Int) (W : World) (h0 : 0 ≤ n) (h1 : n ≤ 9223372036854775807) => kmac_any n W h0 h1
  have CPk := hide fun (c n : Int) (W : World) => pick_any c n W
  obtain ⟨xs, hxs⟩ := h0.fn
  obtain ⟨ys, hys⟩ := h1.fn
  have HX := hide (And.intro h0.1 hxs)
  have HY := hide (And.intro h1.1 hys)
  have HA := hide ha
  have HV := hide hv
  obtain ⟨i0, hi0, hz0, hz1, hz2⟩ := info_parts infoInt
  clear hl hm ha hv h0 h1 hxs hys
  go_enter Tryz.func4, Tryz.ntmps4
  go_wp2_with fail
  refine CH.out.mono ?_
  rintro e W0 ⟨s, rfl, hH⟩
  obtain ⟨hb0, k, m, pv, Q, hS, hPo, hmw, hkw, hsw, hpw⟩ := hH.ports
  have hsz0 := hb0.size
  obtain ⟨WA, hWA⟩ : ∃ WA, WA = (W0.alloc (.cells (arr4 fun _ => 0) 38)).alloc (.cells (arr16 fun _ _ => false) 40) := ⟨_, rfl⟩
  have hBA : Below W0.heap.size W0 WA := by rw [hWA]; exact ((Below.refl _ W0).alloc (Nat.le_refl _) _).alloc (by simp) _
  have HI : Hid (ApI n0 n1 xs ys w s k m W0.heap.size (W0.heap.size + 1) pv 0 0 0 WA) := hide (by
    refine ⟨hS.below hBA, ⟨Q, hPo.below hBA⟩, ?_, ?_, hb0.trans (hBA.mono hsz0), hmw, hkw, hsz0, by omega, hpw⟩
    · rw [hWA]
      refine ((((Below.refl _ (W0.alloc _)).alloc (Nat.le_refl _) _).block _ (by simp)).trans (allocN _ _)).trans ?_
      congr 3
      funext j
      simp
    · rw [hWA]
      have := allocN (W0.alloc (.cells (arr4 fun _ => 0) 38)) (.cells (arr16 fun _ _ => false) 40)
      rw [World.size_alloc] at this
      rw [this]
      congr 3
      funext j x
      simp)
  have eWA : Hid (WA = (W0.alloc (.cells #[.int .i64 0, .int .i64 0, .int .i64 0, .int .i64 0] 38)).alloc (.cells #[.bool false, .bool false, .bool false, .bool false, .bool false, .bool false, .bool false, .bool false, .bool false, .bool false, .bool false, .bool false, .bool false, .bool false, .bool false, .bool false] 40)) := hide hWA
  clear hH hb0 hS hPo hWA hBA CH
  go_wp2
  rw [← eWA.out]
  go_loopw [12] (fun i wr => ∃ j : Nat, j ≤ 4 ∧ i = .int .i64 j ∧ Hid (ApI n0 n1 xs ys w s k m W0.heap.size (W0.heap.size + 1) pv j 0 0 wr)) (fun i _ => 4 - (intOf i).toNat)
  case atStart => exact ⟨0, by omega, rfl, HI⟩
  case round =>
    obtain ⟨j, hj, rfl, hI⟩ := hrel
    clear HI eWA
    by_cases hlt : j < 4
    · have hji : (j : Int) < 4 := by omega
      have hji0 : (0 : Int) ≤ j := by omega
      have key : ∀ W, ApI n0 n1 xs ys w s k m W0.heap.size (W0.heap.size + 1) pv j 0 (natV n0 xs j) W → Hid (ApL n0 n1 xs ys w s k m W0.heap.size (W0.heap.size + 1) pv j 1 (.slice none 0 0) W) := fun W h =>
        hide ⟨h.skipTag rfl, World.ownsRow_nil _ _ _ _, .inl rfl⟩
      by_cases hj0 : j < n0
      · have hj0i : (j : Int) < n0 := by omega
        obtain rfl := HX.out.1 (by omega)
        obtain ⟨hx, hxb⟩ := HX.out.2 j hj0
        have cx : wr.cell? ⟨g0, o0 + j, none⟩ = some (.int .i64 (xs j)) := (hI.out.lo.cell (p := ⟨g0, o0 + j, none⟩) (block_lt_of_cell hx)).trans hx
        have hg0 : g0 < wr.heap.size := block_lt_of_cell cx
        have cn : wr.cell? ⟨W0.heap.size, j, none⟩ = some (.int .i64 _) := cellRow hI.out.na (arr4_get _ hlt)
        have fn : wr.frozen? ⟨W0.heap.size, j, none⟩ = false := frzRow hI.out.na j
        have en : natV n0 xs j = pickV (xs j) 4 := if_pos hj0
        have h5 := hI.out.setNat (pickV (xs j) 4)
        have HL := key (wr.setCell ⟨W0.heap.size, j, none⟩ (.int .i64 (pickV (xs j) 4))) (by rw [en]; exact h5)
        have HXB := hide hxb
        clear hx hxb key hI en h5
        go_wp2_with fail
        refine (CPk.out (xs j) 4 _ HXB.out.1 HXB.out.2 (by omega) (by omega)).mono ?_
        rintro e W ⟨rfl, hww⟩
        rw [hww]
        clear hww W
        go_wp2
        go_loopw [13, 14] (fun l v wr => ∃ q : Nat, 1 ≤ q ∧ q ≤ 4 ∧ v = .int .i64 q ∧ Hid (ApL n0 n1 xs ys w s k m W0.heap.size (W0.heap.size + 1) pv j q l wr)) (fun _ v _ => 4 - (intOf v).toNat)
        case atStart => exact ⟨1, by omega, by omega, rfl, HL⟩
        case round =>
          clear HL cx cn fn hg0
          obtain ⟨q, hq1, hq4, rfl, hA⟩ := hrel
          obtain ⟨la, lcap, rfl⟩ := slice_of hA.out.2.1
          have cn : wr.cell? ⟨W0.heap.size, j, none⟩ = some (.int .i64 (natV n0 xs j)) := by
            have := cellRow hA.out.1.na (arr4_get _ hlt)
            simpa using this
          by_cases hq : q < 4
          · have hqi : (q : Int) < 4 := by omega
            have hqi0 : (0 : Int) ≤ q := by omega
            have hll := tagLk_length n0 n1 xs ys j q
            by_cases hj1 : j < n1
            · have hj1i : (j : Int) < n1 := by omega
              obtain rfl := HY.out.1 (by omega)
              obtain ⟨hy, hyb⟩ := HY.out.2 j hj1
              have cy : wr.cell? ⟨g1, o1 + j, none⟩ = some (.int .i64 (ys j)) := (hA.out.1.lo.cell (p := ⟨g1, o1 + j, none⟩) (block_lt_of_cell hy)).trans hy
              have hg1 : g1 < wr.heap.size := block_lt_of_cell cy
              have HYB := hide hyb
              have hp16 := pickV_range (ys j) (n := 16) (by omega)
              have hbe := bit_eq _ hp16 q hq
              have htv : tagV n0 n1 xs ys j q = (((pickV (ys j) 16).toNat / 2 ^ q % 2 == 1) && ((q : Int) != natV n0 xs j)) := by
                unfold tagV bitV
                rw [decide_eq_true hq1, decide_eq_true hj1, Bool.true_and, Bool.true_and]
              have HTV := hide htv
              clear hy hyb htv
              cases hbit : ((pickV (ys j) 16).toNat / 2 ^ q % 2 == 1) with
              | false =>
                have hnb : ¬ bits BinOp.and IntKind.i64 (pickV (ys j) 16 / 2 ^ q) 1 = 1 := fun e => by rw [hbe.1 e] at hbit; cases hbit
                have HT : Hid (tagV n0 n1 xs ys j q = false) := hide (by rw [HTV.out, hbit]; rfl)
                clear hbe hbit HTV
                go_wp2_with fail
                refine (CPk.out (ys j) 16 _ HYB.out.1 HYB.out.2 (by omega) (by omega)).mono ?_
                rintro e W ⟨rfl, hww⟩
                rw [hww]
                clear hww W
                generalize pickV (ys j) 16 = p16 at *
                have HN := hide (hA.out.skip HT.out)
                clear hA
                go_wp2
                go_roundw
                case rel => exact ⟨q + 1, by omega, by omega, by go_num, HN⟩
                case measure => simp [intOf]; omega
              | true =>
                have hnb : bits BinOp.and IntKind.i64 (pickV (ys j) 16 / 2 ^ q) 1 = 1 := hbe.2 hbit
                have HTV2 : Hid (tagV n0 n1 xs ys j q = ((q : Int) != natV n0 xs j)) := hide (by rw [HTV.out, hbit]; rfl)
                clear hbe hbit HTV
                go_wp2_with fail
                refine (CPk.out (ys j) 16 _ HYB.out.1 HYB.out.2 (by omega) (by omega)).mono ?_
                rintro e W ⟨rfl, hww⟩
                rw [hww]
                clear hww W
                generalize pickV (ys j) 16 = p16 at *
                by_cases hne : (q : Int) = natV n0 xs j
                · have HT : Hid (tagV n0 n1 xs ys j q = false) := hide (by rw [HTV2.out, hne]; simp)
                  have hd : ((q : Int) != natV n0 xs j) = false := by simpa using hne
                  clear HTV2 hne
                  have HN := hide (hA.out.skip HT.out)
                  clear hA
                  go_wp2
                  go_roundw
                  case rel => exact ⟨q + 1, by omega, by omega, by go_num, HN⟩
                  case measure => simp [intOf]; omega
                · have HT : Hid (tagV n0 n1 xs ys j q = true) := hide (by rw [HTV2.out]; simpa using hne)
                  have hd : ((q : Int) != natV n0 xs j) = true := by simpa using hne
                  have HO := hide hA.out.2.1
                  have hsz := hA.out.1.lo.size
                  clear HTV2 hne
                  go_wp2_with (at_builtin; refine wpList_append_own _ rfl _ _ 22 rfl w.heap.size 3 i0 _ 1 8 Tryz.underlying22 hi0 hz0 hz1 hz2 rfl (by decide) _ _ _ rfl (HO.out.alloc _) ⟨wr.heap.size, 0, none⟩ 1 1 [.int .i64 q] rfl rfl (cell_one_new _ _ _) (by simp [Value.oneCell']) (by unfold maxLen; omega) (by omega) (by simp; omega) ?_; intro v' w2 hown' hgrow _; obtain ⟨g', cap', rfl⟩ := ownsRow_succ hown'; obtain ⟨hI2, hN2⟩ := hA.out.take hq HT.out hgrow hown'; have ct : w2.cell? ⟨W0.heap.size + 1, j * 4 + q, none⟩ = some (.bool _) := cellRow hI2.ta (arr16_get _ hlt hq); have ft : w2.frozen? ⟨W0.heap.size + 1, j * 4 + q, none⟩ = false := frzRow hI2.ta _; have HN := hide hN2; clear hown' hgrow hI2 hN2)
                  go_roundw
                  case rel => exact ⟨q + 1, by omega, by omega, by go_num, HN⟩
                  case measure => simp [intOf]; omega
            · have hj1i : ¬ (j : Int) < n1 := by omega
              have HT : Hid (tagV n0 n1 xs ys j q = false) := hide (by unfold tagV bitV; rw [decide_eq_false hj1]; simp)
              have HN := hide (hA.out.skip HT.out)
              clear hA
              go_wp2
              go_roundw
              case rel => exact ⟨q + 1, by omega, by omega, by go_num, HN⟩
              case measure => simp [intOf]; omega
          · have hqn : ¬ (q : Int) < 4 := by omega
            have hq4' : q = 4 := by omega
            have hA4 := hA.out
            rw [hq4'] at hA4
            obtain ⟨Q, hQ⟩ := hA4.1.po
            have CP := sPort_any s pv _ Q j (natV n0 xs j) _ _ wr hA4.1.sw.h0 hQ hA4.nums (fun t ht => by
              obtain ⟨z, hz, rfl⟩ := List.mem_map.1 ht
              have := List.mem_range.1 (List.mem_filter.1 hz).1
              exact WalkArith.wf_i64 (by omega)) (by have := tagLk_length n0 n1 xs ys j 4; omega)
            obtain ⟨e1, e2⟩ := portsTo_succ n0 n1 xs ys hlt
            rw [e1, e2, ← hq4'] at CP
            have HC := hide CP
            have HA4 := hide hA4.1
            clear CP e1 e2 hA hA4 hQ hq4' hq hq4 hq1
            go_wp2_with fail
            refine HC.out.mono ?_
            rintro e W ⟨rfl, ⟨Q', hQ', _⟩, hch⟩
            have HN := hide (HA4.out.next hlt hQ' hch)
            clear HC HA4 hQ' hch
            go_wp2
            go_roundw
            case rel => exact ⟨j + 1, by omega, by go_num, HN⟩
            case measure => simp [intOf]; omega
      · have hj0i : ¬ (j : Int) < n0 := by omega
        have en : natV n0 xs j = 0 := if_neg hj0
        have HL := key _ (en ▸ hI.out)
        clear key hI en
        go_wp2
        go_loopw [13, 14] (fun l v wr => ∃ q : Nat, 1 ≤ q ∧ q ≤ 4 ∧ v = .int .i64 q ∧ Hid (ApL n0 n1 xs ys w s k m W0.heap.size (W0.heap.size + 1) pv j q l wr)) (fun _ v _ => 4 - (intOf v).toNat)
        case atStart => exact ⟨1, by omega, by omega, rfl, HL⟩
        case round =>
          clear HL
          obtain ⟨q, hq1, hq4, rfl, hA⟩ := hrel
          obtain ⟨la, lcap, rfl⟩ := slice_of hA.out.2.1
          have cn : wr.cell? ⟨W0.heap.size, j, none⟩ = some (.int .i64 (natV n0 xs j)) := by
            have := cellRow hA.out.1.na (arr4_get _ hlt)
            simpa using this
          by_cases hq : q < 4
          · have hqi : (q : Int) < 4 := by omega
            have hqi0 : (0 : Int) ≤ q := by omega
            have hll := tagLk_length n0 n1 xs ys j q
            by_cases hj1 : j < n1
            · have hj1i : (j : Int) < n1 := by omega
              obtain rfl := HY.out.1 (by omega)
              obtain ⟨hy, hyb⟩ := HY.out.2 j hj1
              have cy : wr.cell? ⟨g1, o1 + j, none⟩ = some (.int .i64 (ys j)) := (hA.out.1.lo.cell (p := ⟨g1, o1 + j, none⟩) (block_lt_of_cell hy)).trans hy
              have hg1 : g1 < wr.heap.size := block_lt_of_cell cy
              have HYB := hide hyb
              have hp16 := pickV_range (ys j) (n := 16) (by omega)
              have hbe := bit_eq _ hp16 q hq
              have htv : tagV n0 n1 xs ys j q = (((pickV (ys j) 16).toNat / 2 ^ q % 2 == 1) && ((q : Int) != natV n0 xs j)) := by
                unfold tagV bitV
                rw [decide_eq_true hq1, decide_eq_true hj1, Bool.true_and, Bool.true_and]
              have HTV := hide htv
              clear hy hyb htv
              cases hbit : ((pickV (ys j) 16).toNat / 2 ^ q % 2 == 1) with
              | false =>
                have hnb : ¬ bits BinOp.and IntKind.i64 (pickV (ys j) 16 / 2 ^ q) 1 = 1 := fun e => by rw [hbe.1 e] at hbit; cases hbit
                have HT : Hid (tagV n0 n1 xs ys j q = false) := hide (by rw [HTV.out, hbit]; rfl)
                clear hbe hbit HTV
                go_wp2_with fail
                refine (CPk.out (ys j) 16 _ HYB.out.1 HYB.out.2 (by omega) (by omega)).mono ?_
                rintro e W ⟨rfl, hww⟩
                rw [hww]
                clear hww W
                generalize pickV (ys j) 16 = p16 at *
                have HN := hide (hA.out.skip HT.out)
                clear hA
                go_wp2
                go_roundw
                case rel => exact ⟨q + 1, by omega, by omega, by go_num, HN⟩
                case measure => simp [intOf]; omega
              | true =>
                have hnb : bits BinOp.and IntKind.i64 (pickV (ys j) 16 / 2 ^ q) 1 = 1 := hbe.2 hbit
                have HTV2 : Hid (tagV n0 n1 xs ys j q = ((q : Int) != natV n0 xs j)) := hide (by rw [HTV.out, hbit]; rfl)
                clear hbe hbit HTV
                go_wp2_with fail
                refine (CPk.out (ys j) 16 _ HYB.out.1 HYB.out.2 (by omega) (by omega)).mono ?_
                rintro e W ⟨rfl, hww⟩
                rw [hww]
                clear hww W
                generalize pickV (ys j) 16 = p16 at *
                by_cases hne : (q : Int) = natV n0 xs j
                · have HT : Hid (tagV n0 n1 xs ys j q = false) := hide (by rw [HTV2.out, hne]; simp)
                  have hd : ((q : Int) != natV n0 xs j) = false := by simpa using hne
                  clear HTV2 hne
                  have HN := hide (hA.out.skip HT.out)
                  clear hA
                  go_wp2
                  go_roundw
                  case rel => exact ⟨q + 1, by omega, by omega, by go_num, HN⟩
                  case measure => simp [intOf]; omega
                · have HT : Hid (tagV n0 n1 xs ys j q = true) := hide (by rw [HTV2.out]; simpa using hne)
                  have hd : ((q : Int) != natV n0 xs j) = true := by simpa using hne
                  have HO := hide hA.out.2.1
                  have hsz := hA.out.1.lo.size
                  clear HTV2 hne
                  go_wp2_with (at_builtin; refine wpList_append_own _ rfl _ _ 22 rfl w.heap.size 3 i0 _ 1 8 Tryz.underlying22 hi0 hz0 hz1 hz2 rfl (by decide) _ _ _ rfl (HO.out.alloc _) ⟨wr.heap.size, 0, none⟩ 1 1 [.int .i64 q] rfl rfl (cell_one_new _ _ _) (by simp [Value.oneCell']) (by unfold maxLen; omega) (by omega) (by simp; omega) ?_; intro v' w2 hown' hgrow _; obtain ⟨g', cap', rfl⟩ := ownsRow_succ hown'; obtain ⟨hI2, hN2⟩ := hA.out.take hq HT.out hgrow hown'; have ct : w2.cell? ⟨W0.heap.size + 1, j * 4 + q, none⟩ = some (.bool _) := cellRow hI2.ta (arr16_get _ hlt hq); have ft : w2.frozen? ⟨W0.heap.size + 1, j * 4 + q, none⟩ = false := frzRow hI2.ta _; have HN := hide hN2; clear hown' hgrow hI2 hN2)
                  go_roundw
                  case rel => exact ⟨q + 1, by omega, by omega, by go_num, HN⟩
                  case measure => simp [intOf]; omega
            · have hj1i : ¬ (j : Int) < n1 := by omega
              have HT : Hid (tagV n0 n1 xs ys j q = false) := hide (by unfold tagV bitV; rw [decide_eq_false hj1]; simp)
              have HN := hide (hA.out.skip HT.out)
              clear hA
              go_wp2
              go_roundw
              case rel => exact ⟨q + 1, by omega, by omega, by go_num, HN⟩
              case measure => simp [intOf]; omega
          · have hqn : ¬ (q : Int) < 4 := by omega
            have hq4' : q = 4 := by omega
            have hA4 := hA.out
            rw [hq4'] at hA4
            obtain ⟨Q, hQ⟩ := hA4.1.po
            have CP := sPort_any s pv _ Q j (natV n0 xs j) _ _ wr hA4.1.sw.h0 hQ hA4.nums (fun t ht => by
              obtain ⟨z, hz, rfl⟩ := List.mem_map.1 ht
              have := List.mem_range.1 (List.mem_filter.1 hz).1
              exact WalkArith.wf_i64 (by omega)) (by have := tagLk_length n0 n1 xs ys j 4; omega)
            obtain ⟨e1, e2⟩ := portsTo_succ n0 n1 xs ys hlt
            rw [e1, e2, ← hq4'] at CP
            have HC := hide CP
            have HA4 := hide hA4.1
            clear CP e1 e2 hA hA4 hQ hq4' hq hq4 hq1
            go_wp2_with fail
            refine HC.out.mono ?_
            rintro e W ⟨rfl, ⟨Q', hQ', _⟩, hch⟩
            have HN := hide (HA4.out.next hlt hQ' hch)
            clear HC HA4 hQ' hch
            go_wp2
            go_roundw
            case rel => exact ⟨j + 1, by omega, by go_num, HN⟩
            case measure => simp [intOf]; omega
    · have hjn : ¬ (j : Int) < 4 := by omega
      have hj4 : j = 4 := by omega
      have hI4 := hI.out
      rw [hj4] at hI4
      have hp4 := pickV_range at_ (n := 4) (by omega)
      have hv4 := pickV_range vl (n := 4) (by omega)
      have HI4 := hide hI4
      clear hI hI4 hj4 hj hlt
      go_wp2_with fail
      refine (CPk.out at_ 4 _ HA.out.1 HA.out.2 (by omega) (by omega)).mono ?_
      rintro e W1 ⟨rfl, hww⟩
      rw [hww]
      clear hww W1
      generalize pickV at_ 4 = pp at *
      obtain ⟨p, rfl⟩ : ∃ p : Nat, pp = p := ⟨pp.toNat, by omega⟩
      have hp : p < 4 := by omega
      have hpi : (p : Int) < 4 := by omega
      go_wp2_with fail
      refine (CPk.out vl 4 _ HV.out.1 HV.out.2 (by omega) (by omega)).mono ?_
      rintro e W1 ⟨rfl, hww⟩
      rw [hww]
      clear hww W1
      generalize pickV vl 4 = vv at *
      obtain ⟨v, rfl⟩ : ∃ v : Nat, vv = v := ⟨vv.toNat, by omega⟩
      have hv : v < 4 := by omega
      have hvi : (v : Int) < 4 := by omega
      go_wp2_with fail
      refine (CK.out 1 _ (by omega) (by omega)).mono ?_
      rintro e W2 ⟨rfl, hb2⟩
      have hI2 := HI4.out.below hb2
      have cn : ∀ a, a < 4 → W2.cell? ⟨W0.heap.size, a, none⟩ = some (.int .i64 (natV n0 xs a)) := fun a ha => by
        have := cellRow hI2.na (arr4_get _ ha)
        simpa [ha] using this
      have ct : ∀ a x, a < 4 → x < 4 → W2.cell? ⟨W0.heap.size + 1, a * 4 + x, none⟩ = some (.bool (tagV n0 n1 xs ys a x)) := fun a x ha hx => by
        have := cellRow hI2.ta (arr16_get _ ha hx)
        simpa [ha] using this
      have hz6 : (ofL (macL 1)).size = 6 := by rw [ofL_size, macL_length]
      have HI2 := hide hI2
      have HN := hide cn
      have HTG := hide ct
      have hnn := natV_range n0 xs p
      clear HI4 hb2 hI2 cn ct CK CPk
      have hW2n : W0.heap.size < W2.heap.size := lt_of_heap HI2.out.na
      have hW2t : W0.heap.size + 1 < W2.heap.size := lt_of_heap HI2.out.ta
      by_cases hv0 : v = 0
      · subst hv0
        obtain ⟨nv, hnv⟩ : ∃ nv : Nat, natV n0 xs p = nv := ⟨(natV n0 xs p).toNat, by omega⟩
        have hnv4 : nv < 4 := by omega
        have cnp := HN.out p hp
        rw [hnv] at cnp
        have HNV := hide hnv
        clear hnv hnn
        have hcv0 := conv1 (W2.alloc (.cells #[.int .u8 0] 5)) W2.heap.size 0 (by omega) (cellRow (allocN _ _) rfl)
        have hblk2 : ((W2.alloc (.cells #[.int .u8 0] 5)).alloc (.cells #[.int .u8 nv] 5)).heap[W2.heap.size + 1]? = some (.cells #[.int .u8 nv] 5) := by
          have := allocN (W2.alloc (.cells #[.int .u8 0] 5)) (.cells #[.int .u8 nv] 5)
          rwa [World.size_alloc] at this
        have hcv1 := conv1 ((W2.alloc (.cells #[.int .u8 0] 5)).alloc (.cells #[.int .u8 nv] 5)) (W2.heap.size + 1) nv (by omega) (cellRow hblk2 rfl)
        have hb3 : Below W2.heap.size W2 ((W2.alloc (.cells #[.int .u8 0] 5)).alloc (.cells #[.int .u8 nv] 5)) := ((Below.refl _ W2).alloc (Nat.le_refl _) _).alloc (by simp) _
        clear hblk2
        by_cases hnz : nv = 0
        · have hnzi : decide ((0 : Int) < (nv : Int)) = false := decide_eq_false (by omega)
          have hnzj : decide (0 < nv) = false := decide_eq_false (by omega)
          have CF := apart_frame s k m pv (.slice none 0 0) (portsTo n0 n1 xs ys 4) p _ false 0 nv 0 _ (HI2.out.sw.below hb3) (by rw [portsTo_length]; omega) (fun q hq => by
            obtain ⟨z, _, rfl⟩ := List.mem_map.1 hq
            split
            · have := natV_range n0 xs z
              exact WalkArith.wf_i64 (by show _ ∧ _; dsimp only; omega)
            · rfl) (by rw [portsTo_length]; exact hp) read_ap_plain (by rw [ofL_size]; simp [ff6, macL]) (by rw [portsTo_get n0 n1 xs ys hp]; exact HNV.out)
          have hbar : barredAt (pAt (portsTo n0 n1 xs ys 4) p) (apF false 0 0) = true := by
            rw [portsTo_get n0 n1 xs ys hp]
            unfold barredAt vlanAt
            show (natV n0 xs p == 0 || (false && _)) = _
            rw [HNV.out]
            simp
            try omega
          rw [hbar] at CF
          have hd1 : apOut true nv 0 = ⟨#[255, 255, 255, 255, 255, 255]⟩ ++ ofL (macL 1) ++ (⟨#[129, 0, 0]⟩ ++ ⟨#[UInt8.ofNat nv]⟩) ++ ⟨#[18, 52, 97, 108, 108]⟩ := by
            show _ = ofL [255, 255, 255, 255, 255, 255] ++ ofL (macL 1) ++ (ofL [129, 0, 0] ++ ofL [UInt8.ofNat nv]) ++ ofL [18, 52, 97, 108, 108]
            simp only [ofL_append]
            unfold apOut
            rw [if_pos rfl]
            simp [ff6]
          have hd0 : ofL (ff6 ++ macL 1 ++ [18, 52] ++ [97, 108, 108]) = ⟨#[255, 255, 255, 255, 255, 255]⟩ ++ ofL (macL 1) ++ ⟨#[18, 52, 97, 108, 108]⟩ := by
            show _ = ofL [255, 255, 255, 255, 255, 255] ++ ofL (macL 1) ++ ofL [18, 52, 97, 108, 108]
            simp only [ofL_append]
            simp [ff6]
          have HO0 := hide hd0
          have HO1 := hide hd1
          replace HO0 : Hid (apOut false nv 0 = ⟨#[255, 255, 255, 255, 255, 255]⟩ ++ ofL (macL 1) ++ ⟨#[18, 52, 97, 108, 108]⟩) := HO0
          rw [hd0] at CF
          have HCF := hide CF
          have HB3 := hide hb3
          clear hd0 hd1 CF hb3 hbar hnz
          go_wp2_with fail
          refine HCF.out.mono ?_
          rintro e W4 ⟨r, L, K', ov, sv', rfl, hR0, f10, _, _, _, f50⟩
          generalize hW3 : (W2.alloc (.cells #[.int .u8 0] 5)).alloc (.cells #[.int .u8 nv] 5) = W3 at *
          clear hW3 hcv0 hcv1
          have CF := HCF
          have hDs : ((⟨#[255, 255, 255, 255, 255, 255]⟩ : ByteArray) ++ ofL (macL 1)).size = 12 := by rw [ByteArray.size_append, hz6]; rfl
          generalize hD : ((⟨#[255, 255, 255, 255, 255, 255]⟩ : ByteArray) ++ ofL (macL 1)) = D at *
          have hTs : ((⟨#[129, 0, 0]⟩ ++ ⟨#[UInt8.ofNat nv]⟩ : ByteArray)).size = 4 := by rw [ByteArray.size_append]; rfl
          generalize hT : ((⟨#[129, 0, 0]⟩ ++ ⟨#[UInt8.ofNat nv]⟩ : ByteArray)) = T at *
          clear hD hT
          obtain ⟨hR, f1, f5⟩ : ApR (portsTo n0 n1 xs ys 4) p (D ++ ⟨#[18, 52, 97, 108, 108]⟩) false false nv 0 r L ∧ W4.ownsRow W3.heap.size 32 2 ov L.length (rowO L) ∧ Chg (KX m (.slice none 0 0)) W3 W4 := ⟨hR0, f10, f50⟩
          have hlo4 : Below w.heap.size w W4 := (HI2.out.lo.trans (HB3.out.mono HI2.out.lo.size)).trans (f5.below (by have := HI2.out.lo.size; have := HB3.out.size; omega) (by
            rintro x (rfl | e)
            · exact HI2.out.hm
            · cases e))
          have hmc : W3.cell? ⟨m, 0, none⟩ = some (.func (.func 111) #[] #[]) := cell_later HB3.out HI2.out.sw.hK.2.2.1.1.1
          have cn4 : ∀ a, a < 4 → W4.cell? ⟨W0.heap.size, a, none⟩ = some (.int .i64 (natV n0 xs a)) := fun a ha => f5.block.cell (by
            rintro (e | e)
            · have h9 := cell_later HB3.out (HN.out 0 (by omega))
              rw [e, hmc] at h9
              cases h9
            · cases e) (cell_later HB3.out (HN.out a ha))
          have ct4 : ∀ a x, a < 4 → x < 4 → W4.cell? ⟨W0.heap.size + 1, a * 4 + x, none⟩ = some (.bool (tagV n0 n1 xs ys a x)) := fun a x ha hx => f5.block.cell (by
            rintro (e | e)
            · have h9 := cell_later HB3.out (HTG.out 0 0 (by omega) (by omega))
              rw [e, hmc] at h9
              cases h9
            · cases e) (cell_later HB3.out (HTG.out a x ha hx))
          obtain ⟨oa, ocap, og, rfl, hoc⟩ := outs_cells f1
          have HL4 := hide hlo4
          have HN4 := hide cn4
          have HT4 := hide ct4
          have HOC := hide hoc
          have HRR := hide hR
          clear hR0 f10 f50 f1 f5 hR hlo4 hmc cn4 ct4 hoc HN HTG HB3 HI2 CF
          clear HCF
          have e3 : L = [] ∧ r = 3 := HRR.out
          obtain ⟨rfl, rfl⟩ := e3
          clear HRR HOC HN4 HT4
          go_wp2
          go_ret
          exact ⟨rfl, HL4.out⟩
        · have hnzi : decide ((0 : Int) < (nv : Int)) = true := decide_eq_true (by omega)
          have hnzj : decide (0 < nv) = true := decide_eq_true (by omega)
          have CF := apart_frame s k m pv (.slice none 0 0) (portsTo n0 n1 xs ys 4) p _ false 0 nv 0 _ (HI2.out.sw.below hb3) (by rw [portsTo_length]; omega) (fun q hq => by
            obtain ⟨z, _, rfl⟩ := List.mem_map.1 hq
            split
            · have := natV_range n0 xs z
              exact WalkArith.wf_i64 (by show _ ∧ _; dsimp only; omega)
            · rfl) (by rw [portsTo_length]; exact hp) read_ap_plain (by rw [ofL_size]; simp [ff6, macL]) (by rw [portsTo_get n0 n1 xs ys hp]; exact HNV.out)
          have hbar : barredAt (pAt (portsTo n0 n1 xs ys 4) p) (apF false 0 0) = false := by
            rw [portsTo_get n0 n1 xs ys hp]
            unfold barredAt vlanAt
            show (natV n0 xs p == 0 || (false && _)) = _
            rw [HNV.out]
            simp
            try omega
          rw [hbar] at CF
          have hd1 : apOut true nv 0 = ⟨#[255, 255, 255, 255, 255, 255]⟩ ++ ofL (macL 1) ++ (⟨#[129, 0, 0]⟩ ++ ⟨#[UInt8.ofNat nv]⟩) ++ ⟨#[18, 52, 97, 108, 108]⟩ := by
            show _ = ofL [255, 255, 255, 255, 255, 255] ++ ofL (macL 1) ++ (ofL [129, 0, 0] ++ ofL [UInt8.ofNat nv]) ++ ofL [18, 52, 97, 108, 108]
            simp only [ofL_append]
            unfold apOut
            rw [if_pos rfl]
            simp [ff6]
          have hd0 : ofL (ff6 ++ macL 1 ++ [18, 52] ++ [97, 108, 108]) = ⟨#[255, 255, 255, 255, 255, 255]⟩ ++ ofL (macL 1) ++ ⟨#[18, 52, 97, 108, 108]⟩ := by
            show _ = ofL [255, 255, 255, 255, 255, 255] ++ ofL (macL 1) ++ ofL [18, 52, 97, 108, 108]
            simp only [ofL_append]
            simp [ff6]
          have HO0 := hide hd0
          have HO1 := hide hd1
          replace HO0 : Hid (apOut false nv 0 = ⟨#[255, 255, 255, 255, 255, 255]⟩ ++ ofL (macL 1) ++ ⟨#[18, 52, 97, 108, 108]⟩) := HO0
          rw [hd0] at CF
          have HCF := hide CF
          have HB3 := hide hb3
          clear hd0 hd1 CF hb3 hbar hnz
          go_wp2_with fail
          refine HCF.out.mono ?_
          rintro e W4 ⟨r, L, K', ov, sv', rfl, hR0, f10, _, _, _, f50⟩
          generalize hW3 : (W2.alloc (.cells #[.int .u8 0] 5)).alloc (.cells #[.int .u8 nv] 5) = W3 at *
          clear hW3 hcv0 hcv1
          have CF := HCF
          have hDs : ((⟨#[255, 255, 255, 255, 255, 255]⟩ : ByteArray) ++ ofL (macL 1)).size = 12 := by rw [ByteArray.size_append, hz6]; rfl
          generalize hD : ((⟨#[255, 255, 255, 255, 255, 255]⟩ : ByteArray) ++ ofL (macL 1)) = D at *
          have hTs : ((⟨#[129, 0, 0]⟩ ++ ⟨#[UInt8.ofNat nv]⟩ : ByteArray)).size = 4 := by rw [ByteArray.size_append]; rfl
          generalize hT : ((⟨#[129, 0, 0]⟩ ++ ⟨#[UInt8.ofNat nv]⟩ : ByteArray)) = T at *
          clear hD hT
          obtain ⟨hR, f1, f5⟩ : ApR (portsTo n0 n1 xs ys 4) p (D ++ ⟨#[18, 52, 97, 108, 108]⟩) false true nv 0 r L ∧ W4.ownsRow W3.heap.size 32 2 ov L.length (rowO L) ∧ Chg (KX m (.slice none 0 0)) W3 W4 := ⟨hR0, f10, f50⟩
          have hlo4 : Below w.heap.size w W4 := (HI2.out.lo.trans (HB3.out.mono HI2.out.lo.size)).trans (f5.below (by have := HI2.out.lo.size; have := HB3.out.size; omega) (by
            rintro x (rfl | e)
            · exact HI2.out.hm
            · cases e))
          have hmc : W3.cell? ⟨m, 0, none⟩ = some (.func (.func 111) #[] #[]) := cell_later HB3.out HI2.out.sw.hK.2.2.1.1.1
          have cn4 : ∀ a, a < 4 → W4.cell? ⟨W0.heap.size, a, none⟩ = some (.int .i64 (natV n0 xs a)) := fun a ha => f5.block.cell (by
            rintro (e | e)
            · have h9 := cell_later HB3.out (HN.out 0 (by omega))
              rw [e, hmc] at h9
              cases h9
            · cases e) (cell_later HB3.out (HN.out a ha))
          have ct4 : ∀ a x, a < 4 → x < 4 → W4.cell? ⟨W0.heap.size + 1, a * 4 + x, none⟩ = some (.bool (tagV n0 n1 xs ys a x)) := fun a x ha hx => f5.block.cell (by
            rintro (e | e)
            · have h9 := cell_later HB3.out (HTG.out 0 0 (by omega) (by omega))
              rw [e, hmc] at h9
              cases h9
            · cases e) (cell_later HB3.out (HTG.out a x ha hx))
          obtain ⟨oa, ocap, og, rfl, hoc⟩ := outs_cells f1
          have HL4 := hide hlo4
          have HN4 := hide cn4
          have HT4 := hide ct4
          have HOC := hide hoc
          have HRR := hide hR
          clear hR0 f10 f50 f1 f5 hR hlo4 hmc cn4 ct4 hoc HN HTG HB3 HI2 CF
          clear HCF
          have HRR2 : Hid (L = fwdO (portsTo n0 n1 xs ys 4) (apQ p (D ++ ⟨#[18, 52, 97, 108, 108]⟩) false nv 0) 0 false 4 ∧ r = if L.length = 0 then 8 else 0) := hide (by have := HRR.out; unfold ApR at this; rw [portsTo_length] at this; exact this)
          obtain ⟨fl, hfl⟩ : ∃ fl : Nat → Nat, fl = fun a => (fwdO (portsTo n0 n1 xs ys 4) (apQ p (D ++ ⟨#[18, 52, 97, 108, 108]⟩) false nv 0) 0 false a).length := ⟨_, rfl⟩
          have hflb : ∀ a : Nat, fl a ≤ a := fun a => by rw [hfl]; exact fwdO_length _ _ _ _ _
          have hfl4 : fl 4 = L.length := by rw [hfl, HRR2.out.1]
          have hcond : ∀ a : Nat, a < 4 → (goesTo (apQ p (D ++ ⟨#[18, 52, 97, 108, 108]⟩) false nv 0) 0 false a && hasV (pAt (portsTo n0 n1 xs ys 4) a) nv) = (((a : Int) != p) && (((nv : Int) == natV n0 xs a) || tagV n0 n1 xs ys a nv)) := fun a ha => by
            rw [portsTo_get n0 n1 xs ys ha]
            unfold goesTo hasV
            dsimp only
            rw [tgOf_tags n0 n1 xs ys a nv (by omega)]
            simp [apQ]
          have hskip : ∀ a : Nat, a < 4 ∧ (((a : Int) != p) && (((nv : Int) == natV n0 xs a) || tagV n0 n1 xs ys a nv)) = false → fl (a + 1) = fl a := fun a h => by
            rw [hfl]
            show (fwdO _ _ _ _ (a + 1)).length = (fwdO _ _ _ _ a).length
            rw [fwdO_succ, show (apQ p (D ++ ⟨#[18, 52, 97, 108, 108]⟩) false nv 0).f.vlan = (nv : Int) from rfl, hcond a h.1, h.2]
            simp
          have hgo : ∀ a : Nat, a < 4 → (((a : Int) != p) && (((nv : Int) == natV n0 xs a) || tagV n0 n1 xs ys a nv)) = true → fl a < L.length ∧ fl (a + 1) = fl a + 1 ∧ oa = some ⟨og, 0, none⟩ ∧ W4.cell? ⟨og, fl a * 2, none⟩ = some (.int .i64 a) ∧ W4.cell? ⟨og, fl a * 2 + 1, none⟩ = some (.string (apOut ((nv : Int) != natV n0 xs a) nv 0)) := fun a ha h => by
            have hc : (goesTo (apQ p (D ++ ⟨#[18, 52, 97, 108, 108]⟩) false nv 0) 0 false a && hasV (pAt (portsTo n0 n1 xs ys 4) a) (apQ p (D ++ ⟨#[18, 52, 97, 108, 108]⟩) false nv 0).f.vlan) = true := (hcond a ha).trans h
            obtain ⟨hl, he⟩ := fwdO_at (n := 4) ha hc
            have hl' : fl a < L.length := by rw [hfl, HRR2.out.1]; exact hl
            obtain ⟨p1, _, p2, p3⟩ := HOC.out (fl a) hl'
            have hel : L[fl a] = ((a : Int), apOut ((nv : Int) != natV n0 xs a) nv 0) := by
              have e1 : L[fl a]? = some ((a : Int), outF (pAt (portsTo n0 n1 xs ys 4) a) (apQ p (D ++ ⟨#[18, 52, 97, 108, 108]⟩) false nv 0).f) := by
                rw [HRR2.out.1, hfl, List.getElem?_eq_getElem hl, he]
              have e2 : L[fl a]? = some L[fl a] := List.getElem?_eq_getElem hl'
              rw [e2] at e1
              rw [Option.some.inj e1, portsTo_get n0 n1 xs ys ha]
              show ((a : Int), outF _ (apF false nv 0)) = _
              rw [outAp _ _ _ _ (by omega) (by omega)]
            rw [hel] at p2 p3
            refine ⟨hl', ?_, p1, p2, p3⟩
            rw [hfl]
            show (fwdO _ _ _ _ (a + 1)).length = (fwdO _ _ _ _ a).length + 1
            rw [fwdO_succ, hc, if_pos rfl]
            simp
          have HFL4 := hide hfl4
          have hr := HRR2.out.2
          have HRL := hide hr
          have hL4 : L.length ≤ 4 := by rw [← hfl4]; exact hflb 4
          have hfl0 : fl 0 = 0 := by rw [hfl]; rfl
          have HF0 := hide hfl0
          clear hfl hfl4 hcond HRR HRR2 HOC hr hfl0
          go_wp2
          go_loop [2, 24] (fun at2 i => ∃ a : Nat, a ≤ 4 ∧ i = .int .i64 a ∧ at2 = .int .i64 (fl a)) (fun _ i => 4 - (intOf i).toNat)
          case atStart => exact ⟨0, by omega, rfl, by rw [HF0.out]; rfl⟩
          case round =>
            clear HF0
            obtain ⟨a, ha4, rfl, rfl⟩ := hrel
            by_cases hlt : a < 4
            · have hai : (a : Int) < 4 := by omega
              have hai0 : (0 : Int) ≤ a := by omega
              have hfa := hflb a
              have na := HN4.out a hlt
              have ta := HT4.out a nv hlt (by omega)
              by_cases hap : (a : Int) = p
              · have hd1 : ((a : Int) == p) = true := by simpa using hap
                have HC : Hid (a < 4 ∧ (((a : Int) != p) && (((nv : Int) == natV n0 xs a) || tagV n0 n1 xs ys a nv)) = false) := hide ⟨hlt, by rw [hap]; simp⟩
                clear hap
                have HS : Hid (fl (a + 1) = fl a) := hide (hskip a HC.out)
                clear hskip hgo
                go_wp2
                go_round
                case rel => exact ⟨a + 1, by omega, by go_num, by rw [HS.out]⟩
                case measure => simp [intOf]; omega
              · have hd1 : ((a : Int) == p) = false := by simpa using hap
                have hd2 : ((a : Int) != p) = true := by simpa using hap
                by_cases hnv : natV n0 xs a = nv
                · have HG : Hid ((((a : Int) != p) && (((nv : Int) == natV n0 xs a) || tagV n0 n1 xs ys a nv)) = true) := hide (by rw [hd2, hnv]; simp)
                  have hd3 : (natV n0 xs a != (nv : Int)) = false := by simpa using hnv
                  have e0 : apOut ((nv : Int) != natV n0 xs a) nv 0 = D ++ ⟨#[18, 52, 97, 108, 108]⟩ := by rw [hnv, bne_self_eq_false, HO0.out]
                  clear hap hd2
                  obtain ⟨hl1, hs1, o1, o2, o3⟩ := hgo a hlt HG.out
                  rw [e0] at o3
                  have hq1 : W4.cell? ⟨og, fl a * 2, none⟩ = some (.int .i64 a) := o2
                  have hq2 : W4.cell? ⟨og, fl a * 2 + 1, none⟩ = some (.string (D ++ ⟨#[18, 52, 97, 108, 108]⟩)) := o3
                  have HS := hide hs1
                  clear hskip hgo hs1 o2 o3 e0 HG
                  subst o1
                  generalize natV n0 xs a = nva at *
                  clear hnv
                  generalize fl a = fa at *
                  have hfi : (fa : Int) < L.length := by omega
                  have hfi0 : (0 : Int) ≤ fa := by omega
                  go_wp2
                  go_round
                  case rel => exact ⟨a + 1, by omega, by go_num, by rw [HS.out]; go_num⟩
                  case measure => simp [intOf]; omega
                · have hd3 : (natV n0 xs a != (nv : Int)) = true := by simpa using hnv
                  have hd4 : ((nv : Int) == natV n0 xs a) = false := by simpa using fun e => hnv e.symm
                  have hd5 : ((nv : Int) != natV n0 xs a) = true := by simpa using fun e => hnv e.symm
                  cases htg : tagV n0 n1 xs ys a nv with
                  | false =>
                    rw [htg] at ta
                    have HC : Hid (a < 4 ∧ (((a : Int) != p) && (((nv : Int) == natV n0 xs a) || tagV n0 n1 xs ys a nv)) = false) := hide ⟨hlt, by rw [hd4, htg]; simp⟩
                    clear hap hd2 hd4 hd5 hnv htg
                    have HS : Hid (fl (a + 1) = fl a) := hide (hskip a HC.out)
                    clear hskip hgo
                    go_wp2
                    go_round
                    case rel => exact ⟨a + 1, by omega, by go_num, by rw [HS.out]⟩
                    case measure => simp [intOf]; omega
                  | true =>
                    rw [htg] at ta
                    have HG : Hid ((((a : Int) != p) && (((nv : Int) == natV n0 xs a) || tagV n0 n1 xs ys a nv)) = true) := hide (by rw [hd2, htg]; simp)
                    have e0 : apOut ((nv : Int) != natV n0 xs a) nv 0 = D ++ T ++ ⟨#[18, 52, 97, 108, 108]⟩ := by rw [hd5, HO1.out]
                    clear hap hd2 htg
                    obtain ⟨hl1, hs1, o1, o2, o3⟩ := hgo a hlt HG.out
                    rw [e0] at o3
                    have hq1 : W4.cell? ⟨og, fl a * 2, none⟩ = some (.int .i64 a) := o2
                    have hq2 : W4.cell? ⟨og, fl a * 2 + 1, none⟩ = some (.string (D ++ T ++ ⟨#[18, 52, 97, 108, 108]⟩)) := o3
                    have HS := hide hs1
                    clear hskip hgo hs1 o2 o3 e0 HG
                    subst o1
                    generalize natV n0 xs a = nva at *
                    clear hd4 hd5 hnv
                    generalize fl a = fa at *
                    have hfi : (fa : Int) < L.length := by omega
                    have hfi0 : (0 : Int) ≤ fa := by omega
                    go_wp2
                    go_round
                    case rel => exact ⟨a + 1, by omega, by go_num, by rw [HS.out]; go_num⟩
                    case measure => simp [intOf]; omega
            · have hai : ¬ (a : Int) < 4 := by omega
              have ha : a = 4 := by omega
              have hfa : fl a = L.length := by rw [ha, HFL4.out]
              rw [hfa]
              clear hfa hgo hskip ha
              by_cases hz : L.length = 0
              · have e8 := HRL.out
                rw [if_pos hz] at e8
                have hzi : (L.length : Int) = 0 := by omega
                clear hz HRL
                subst e8
                go_wp2
                go_ret
                exact ⟨rfl, HL4.out⟩
              · have e8 := HRL.out
                rw [if_neg hz] at e8
                have hzi : ¬ (L.length : Int) = 0 := by omega
                clear hz HRL
                subst e8
                go_wp2
                go_ret
                exact ⟨rfl, HL4.out⟩
      · have hvp : (0 : Int) < v := by omega
        have hvz : ¬ (v : Int) = 0 := by omega
        have cv := HTG.out p v hp hv
        have hcv := conv1 (W2.alloc (.cells #[.int .u8 v] 5)) W2.heap.size v (by omega) (cellRow (allocN _ _) rfl)
        have hb3 : Below W2.heap.size W2 (W2.alloc (.cells #[.int .u8 v] 5)) := (Below.refl _ W2).alloc (Nat.le_refl _) _
        have hbar : barredAt (pAt (portsTo n0 n1 xs ys 4) p) (apF true v 3) = !tagV n0 n1 xs ys p v := by
          rw [portsTo_get n0 n1 xs ys hp]
          unfold barredAt vlanAt
          have h1 : ((v : Int) == 0) = false := by simpa using hv0
          show ((v : Int) == 0 || (true && !(tgOf (tagLk n0 n1 xs ys p 4) v))) = _
          rw [h1, tgOf_tags n0 n1 xs ys p v hv]
          rfl
        have CF := apart_frame s k m pv (.slice none 0 0) (portsTo n0 n1 xs ys 4) p _ true v v 3 _ (HI2.out.sw.below hb3) (by rw [portsTo_length]; omega) (fun q hq => by
          obtain ⟨z, _, rfl⟩ := List.mem_map.1 hq
          split
          · have := natV_range n0 xs z
            exact WalkArith.wf_i64 (by show _ ∧ _; dsimp only; omega)
          · rfl) (by rw [portsTo_length]; exact hp) (read_ap_tagged v hv) (by rw [ofL_size]; simp [ff6, macL]) rfl
        rw [hbar, Bool.not_not] at CF
        have hd1 : ofL (ff6 ++ macL 1 ++ [129, 0, 48, UInt8.ofNat v] ++ [18, 52] ++ [97, 108, 108]) = ⟨#[255, 255, 255, 255, 255, 255]⟩ ++ ofL (macL 1) ++ (⟨#[129, 0, 48]⟩ ++ ⟨#[UInt8.ofNat v]⟩) ++ ⟨#[18, 52, 97, 108, 108]⟩ := by
          show _ = ofL [255, 255, 255, 255, 255, 255] ++ ofL (macL 1) ++ (ofL [129, 0, 48] ++ ofL [UInt8.ofNat v]) ++ ofL [18, 52, 97, 108, 108]
          simp only [ofL_append]
          simp [ff6]
        have hd0 : ofL (ff6 ++ macL 1 ++ [18, 52] ++ [97, 108, 108]) = ⟨#[255, 255, 255, 255, 255, 255]⟩ ++ ofL (macL 1) ++ ⟨#[18, 52, 97, 108, 108]⟩ := by
          show _ = ofL [255, 255, 255, 255, 255, 255] ++ ofL (macL 1) ++ ofL [18, 52, 97, 108, 108]
          simp only [ofL_append]
          simp [ff6]
        have HO0 := hide hd0
        have HO1 := hide hd1
        replace HO0 : Hid (apOut false v 3 = ⟨#[255, 255, 255, 255, 255, 255]⟩ ++ ofL (macL 1) ++ ⟨#[18, 52, 97, 108, 108]⟩) := HO0
        replace HO1 : Hid (apOut true v 3 = ⟨#[255, 255, 255, 255, 255, 255]⟩ ++ ofL (macL 1) ++ (⟨#[129, 0, 48]⟩ ++ ⟨#[UInt8.ofNat v]⟩) ++ ⟨#[18, 52, 97, 108, 108]⟩) := HO1
        rw [hd1] at CF
        have HCF := hide CF
        have HB3 := hide hb3
        clear hd0 hd1 CF hb3 hbar
        generalize htgv : tagV n0 n1 xs ys p v = inn at *
        clear htgv
        go_wp2_with fail
        refine HCF.out.mono ?_
        rintro e W4 ⟨r, L, K', ov, sv', rfl, hR0, f10, _, _, _, f50⟩
        generalize hW3 : W2.alloc (.cells #[.int .u8 v] 5) = W3 at *
        clear hW3 hcv
        have CF := HCF
        have hDs : ((⟨#[255, 255, 255, 255, 255, 255]⟩ : ByteArray) ++ ofL (macL 1)).size = 12 := by rw [ByteArray.size_append, hz6]; rfl
        generalize hD : ((⟨#[255, 255, 255, 255, 255, 255]⟩ : ByteArray) ++ ofL (macL 1)) = D at *
        have hTs : ((⟨#[129, 0, 48]⟩ ++ ⟨#[UInt8.ofNat v]⟩ : ByteArray)).size = 4 := by rw [ByteArray.size_append]; rfl
        generalize hT : ((⟨#[129, 0, 48]⟩ ++ ⟨#[UInt8.ofNat v]⟩ : ByteArray)) = T at *
        clear hD hT
        obtain ⟨hR, f1, f5⟩ : ApR (portsTo n0 n1 xs ys 4) p (D ++ T ++ ⟨#[18, 52, 97, 108, 108]⟩) true inn v 3 r L ∧ W4.ownsRow W3.heap.size 32 2 ov L.length (rowO L) ∧ Chg (KX m (.slice none 0 0)) W3 W4 := ⟨hR0, f10, f50⟩
        have hlo4 : Below w.heap.size w W4 := (HI2.out.lo.trans (HB3.out.mono HI2.out.lo.size)).trans (f5.below (by have := HI2.out.lo.size; have := HB3.out.size; omega) (by
          rintro x (rfl | e)
          · exact HI2.out.hm
          · cases e))
        have hmc : W3.cell? ⟨m, 0, none⟩ = some (.func (.func 111) #[] #[]) := cell_later HB3.out HI2.out.sw.hK.2.2.1.1.1
        have cn4 : ∀ a, a < 4 → W4.cell? ⟨W0.heap.size, a, none⟩ = some (.int .i64 (natV n0 xs a)) := fun a ha => f5.block.cell (by
          rintro (e | e)
          · have h9 := cell_later HB3.out (HN.out 0 (by omega))
            rw [e, hmc] at h9
            cases h9
          · cases e) (cell_later HB3.out (HN.out a ha))
        have ct4 : ∀ a x, a < 4 → x < 4 → W4.cell? ⟨W0.heap.size + 1, a * 4 + x, none⟩ = some (.bool (tagV n0 n1 xs ys a x)) := fun a x ha hx => f5.block.cell (by
          rintro (e | e)
          · have h9 := cell_later HB3.out (HTG.out 0 0 (by omega) (by omega))
            rw [e, hmc] at h9
            cases h9
          · cases e) (cell_later HB3.out (HTG.out a x ha hx))
        obtain ⟨oa, ocap, og, rfl, hoc⟩ := outs_cells f1
        have HL4 := hide hlo4
        have HN4 := hide cn4
        have HT4 := hide ct4
        have HOC := hide hoc
        have HRR := hide hR
        clear hR0 f10 f50 f1 f5 hR hlo4 hmc cn4 ct4 hoc HN HTG HB3 HI2 CF
        clear HCF
        cases inn with
        | false =>
          have e3 : L = [] ∧ r = 3 := HRR.out
          obtain ⟨rfl, rfl⟩ := e3
          clear HRR HOC HN4 HT4
          go_wp2
          go_ret
          exact ⟨rfl, HL4.out⟩
        | true =>
          have HRR2 : Hid (L = fwdO (portsTo n0 n1 xs ys 4) (apQ p (D ++ T ++ ⟨#[18, 52, 97, 108, 108]⟩) true v 3) 0 false 4 ∧ r = if L.length = 0 then 8 else 0) := hide (by have := HRR.out; unfold ApR at this; rw [portsTo_length] at this; exact this)
          obtain ⟨fl, hfl⟩ : ∃ fl : Nat → Nat, fl = fun a => (fwdO (portsTo n0 n1 xs ys 4) (apQ p (D ++ T ++ ⟨#[18, 52, 97, 108, 108]⟩) true v 3) 0 false a).length := ⟨_, rfl⟩
          have hflb : ∀ a : Nat, fl a ≤ a := fun a => by rw [hfl]; exact fwdO_length _ _ _ _ _
          have hfl4 : fl 4 = L.length := by rw [hfl, HRR2.out.1]
          have hcond : ∀ a : Nat, a < 4 → (goesTo (apQ p (D ++ T ++ ⟨#[18, 52, 97, 108, 108]⟩) true v 3) 0 false a && hasV (pAt (portsTo n0 n1 xs ys 4) a) v) = (((a : Int) != p) && (((v : Int) == natV n0 xs a) || tagV n0 n1 xs ys a v)) := fun a ha => by
            rw [portsTo_get n0 n1 xs ys ha]
            unfold goesTo hasV
            dsimp only
            rw [tgOf_tags n0 n1 xs ys a v (by omega)]
            simp [apQ]
          have hskip : ∀ a : Nat, a < 4 ∧ (((a : Int) != p) && (((v : Int) == natV n0 xs a) || tagV n0 n1 xs ys a v)) = false → fl (a + 1) = fl a := fun a h => by
            rw [hfl]
            show (fwdO _ _ _ _ (a + 1)).length = (fwdO _ _ _ _ a).length
            rw [fwdO_succ, show (apQ p (D ++ T ++ ⟨#[18, 52, 97, 108, 108]⟩) true v 3).f.vlan = (v : Int) from rfl, hcond a h.1, h.2]
            simp
          have hgo : ∀ a : Nat, a < 4 → (((a : Int) != p) && (((v : Int) == natV n0 xs a) || tagV n0 n1 xs ys a v)) = true → fl a < L.length ∧ fl (a + 1) = fl a + 1 ∧ oa = some ⟨og, 0, none⟩ ∧ W4.cell? ⟨og, fl a * 2, none⟩ = some (.int .i64 a) ∧ W4.cell? ⟨og, fl a * 2 + 1, none⟩ = some (.string (apOut ((v : Int) != natV n0 xs a) v 3)) := fun a ha h => by
            have hc : (goesTo (apQ p (D ++ T ++ ⟨#[18, 52, 97, 108, 108]⟩) true v 3) 0 false a && hasV (pAt (portsTo n0 n1 xs ys 4) a) (apQ p (D ++ T ++ ⟨#[18, 52, 97, 108, 108]⟩) true v 3).f.vlan) = true := (hcond a ha).trans h
            obtain ⟨hl, he⟩ := fwdO_at (n := 4) ha hc
            have hl' : fl a < L.length := by rw [hfl, HRR2.out.1]; exact hl
            obtain ⟨p1, _, p2, p3⟩ := HOC.out (fl a) hl'
            have hel : L[fl a] = ((a : Int), apOut ((v : Int) != natV n0 xs a) v 3) := by
              have e1 : L[fl a]? = some ((a : Int), outF (pAt (portsTo n0 n1 xs ys 4) a) (apQ p (D ++ T ++ ⟨#[18, 52, 97, 108, 108]⟩) true v 3).f) := by
                rw [HRR2.out.1, hfl, List.getElem?_eq_getElem hl, he]
              have e2 : L[fl a]? = some L[fl a] := List.getElem?_eq_getElem hl'
              rw [e2] at e1
              rw [Option.some.inj e1, portsTo_get n0 n1 xs ys ha]
              show ((a : Int), outF _ (apF true v 3)) = _
              rw [outAp _ _ _ _ (by omega) (by omega)]
            rw [hel] at p2 p3
            refine ⟨hl', ?_, p1, p2, p3⟩
            rw [hfl]
            show (fwdO _ _ _ _ (a + 1)).length = (fwdO _ _ _ _ a).length + 1
            rw [fwdO_succ, hc, if_pos rfl]
            simp
          have HFL4 := hide hfl4
          have hr := HRR2.out.2
          have HRL := hide hr
          have hL4 : L.length ≤ 4 := by rw [← hfl4]; exact hflb 4
          have hfl0 : fl 0 = 0 := by rw [hfl]; rfl
          have HF0 := hide hfl0
          clear hfl hfl4 hcond HRR HRR2 HOC hr hfl0
          go_wp2
          go_loop [2, 24] (fun at2 i => ∃ a : Nat, a ≤ 4 ∧ i = .int .i64 a ∧ at2 = .int .i64 (fl a)) (fun _ i => 4 - (intOf i).toNat)
          case atStart => exact ⟨0, by omega, rfl, by rw [HF0.out]; rfl⟩
          case round =>
            clear HF0
            obtain ⟨a, ha4, rfl, rfl⟩ := hrel
            by_cases hlt : a < 4
            · have hai : (a : Int) < 4 := by omega
              have hai0 : (0 : Int) ≤ a := by omega
              have hfa := hflb a
              have na := HN4.out a hlt
              have ta := HT4.out a v hlt (by omega)
              by_cases hap : (a : Int) = p
              · have hd1 : ((a : Int) == p) = true := by simpa using hap
                have HC : Hid (a < 4 ∧ (((a : Int) != p) && (((v : Int) == natV n0 xs a) || tagV n0 n1 xs ys a v)) = false) := hide ⟨hlt, by rw [hap]; simp⟩
                clear hap
                have HS : Hid (fl (a + 1) = fl a) := hide (hskip a HC.out)
                clear hskip hgo
                go_wp2
                go_round
                case rel => exact ⟨a + 1, by omega, by go_num, by rw [HS.out]⟩
                case measure => simp [intOf]; omega
              · have hd1 : ((a : Int) == p) = false := by simpa using hap
                have hd2 : ((a : Int) != p) = true := by simpa using hap
                by_cases hnv : natV n0 xs a = v
                · have HG : Hid ((((a : Int) != p) && (((v : Int) == natV n0 xs a) || tagV n0 n1 xs ys a v)) = true) := hide (by rw [hd2, hnv]; simp)
                  have hd3 : (natV n0 xs a != (v : Int)) = false := by simpa using hnv
                  have e0 : apOut ((v : Int) != natV n0 xs a) v 3 = D ++ ⟨#[18, 52, 97, 108, 108]⟩ := by rw [hnv, bne_self_eq_false, HO0.out]
                  clear hap hd2
                  obtain ⟨hl1, hs1, o1, o2, o3⟩ := hgo a hlt HG.out
                  rw [e0] at o3
                  have hq1 : W4.cell? ⟨og, fl a * 2, none⟩ = some (.int .i64 a) := o2
                  have hq2 : W4.cell? ⟨og, fl a * 2 + 1, none⟩ = some (.string (D ++ ⟨#[18, 52, 97, 108, 108]⟩)) := o3
                  have HS := hide hs1
                  clear hskip hgo hs1 o2 o3 e0 HG
                  subst o1
                  generalize natV n0 xs a = nva at *
                  clear hnv
                  generalize fl a = fa at *
                  have hfi : (fa : Int) < L.length := by omega
                  have hfi0 : (0 : Int) ≤ fa := by omega
                  go_wp2
                  go_round
                  case rel => exact ⟨a + 1, by omega, by go_num, by rw [HS.out]; go_num⟩
                  case measure => simp [intOf]; omega
                · have hd3 : (natV n0 xs a != (v : Int)) = true := by simpa using hnv
                  have hd4 : ((v : Int) == natV n0 xs a) = false := by simpa using fun e => hnv e.symm
                  have hd5 : ((v : Int) != natV n0 xs a) = true := by simpa using fun e => hnv e.symm
                  cases htg : tagV n0 n1 xs ys a v with
                  | false =>
                    rw [htg] at ta
                    have HC : Hid (a < 4 ∧ (((a : Int) != p) && (((v : Int) == natV n0 xs a) || tagV n0 n1 xs ys a v)) = false) := hide ⟨hlt, by rw [hd4, htg]; simp⟩
                    clear hap hd2 hd4 hd5 hnv htg
                    have HS : Hid (fl (a + 1) = fl a) := hide (hskip a HC.out)
                    clear hskip hgo
                    go_wp2
                    go_round
                    case rel => exact ⟨a + 1, by omega, by go_num, by rw [HS.out]⟩
                    case measure => simp [intOf]; omega
                  | true =>
                    rw [htg] at ta
                    have HG : Hid ((((a : Int) != p) && (((v : Int) == natV n0 xs a) || tagV n0 n1 xs ys a v)) = true) := hide (by rw [hd2, htg]; simp)
                    have e0 : apOut ((v : Int) != natV n0 xs a) v 3 = D ++ T ++ ⟨#[18, 52, 97, 108, 108]⟩ := by rw [hd5, HO1.out]
                    clear hap hd2 htg
                    obtain ⟨hl1, hs1, o1, o2, o3⟩ := hgo a hlt HG.out
                    rw [e0] at o3
                    have hq1 : W4.cell? ⟨og, fl a * 2, none⟩ = some (.int .i64 a) := o2
                    have hq2 : W4.cell? ⟨og, fl a * 2 + 1, none⟩ = some (.string (D ++ T ++ ⟨#[18, 52, 97, 108, 108]⟩)) := o3
                    have HS := hide hs1
                    clear hskip hgo hs1 o2 o3 e0 HG
                    subst o1
                    generalize natV n0 xs a = nva at *
                    clear hd4 hd5 hnv
                    generalize fl a = fa at *
                    have hfi : (fa : Int) < L.length := by omega
                    have hfi0 : (0 : Int) ≤ fa := by omega
                    go_wp2
                    go_round
                    case rel => exact ⟨a + 1, by omega, by go_num, by rw [HS.out]; go_num⟩
                    case measure => simp [intOf]; omega
            · have hai : ¬ (a : Int) < 4 := by omega
              have ha : a = 4 := by omega
              have hfa : fl a = L.length := by rw [ha, HFL4.out]
              rw [hfa]
              clear hfa hgo hskip ha
              by_cases hz : L.length = 0
              · have e8 := HRL.out
                rw [if_pos hz] at e8
                have hzi : (L.length : Int) = 0 := by omega
                clear hz HRL
                subst e8
                go_wp2
                go_ret
                exact ⟨rfl, HL4.out⟩
              · have e8 := HRL.out
                rw [if_neg hz] at e8
                have hzi : ¬ (L.length : Int) = 0 := by omega
                clear hz HRL
                subst e8
                go_wp2
                go_ret
                exact ⟨rfl, HL4.out⟩
end Go.Proofs.YtaejpejfmpbinaaGreatDoor
