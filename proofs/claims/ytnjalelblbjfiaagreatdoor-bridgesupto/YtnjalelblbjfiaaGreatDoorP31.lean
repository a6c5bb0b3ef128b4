import Derived.Test.YtnjalelblbjfiaaGreatDoorP29
import Derived.Test.YtnjalelblbjfiaaGreatDoorP24
import Derived.Test.YtnjalelblbjfiaaGreatDoorP13
namespace Go.Proofs.YtnjalelblbjfiaaGreatDoor
open Go.RowKit

theorem tagN_sum {v k : Int} (hv : 0 ≤ v ∧ v < 4096) (hk : 0 ≤ k ∧ k < 16) : tagN v k = 4096 * k + v := by
  obtain ⟨x, rfl⟩ : ∃ x : Nat, v = x := ⟨v.toNat, by omega⟩
  obtain ⟨y, rfl⟩ : ∃ y : Nat, k = y := ⟨k.toNat, by omega⟩
  unfold tagN
  have e1 : wrap64 ((y : Int) * 4096) = ((y * 4096 : Nat) : Int) := by
    unfold wrap64
    omega
  rw [e1, i64_or_nat _ _ (by omega) (by omega)]
  have := Nat.shiftLeft_add_eq_or_of_lt (i := 12) (b := x) (by omega) y
  rw [Nat.shiftLeft_eq] at this
  rw [show (2 : Nat) ^ 12 = 4096 from rfl] at this
  rw [← this]
  omega
set_option maxRecDepth 100000 in
set_option maxHeartbeats 1000000 in
theorem xwritten_any (f : Fr) (tag : Bool) (w : World) (hv : 0 ≤ f.vlan ∧ f.vlan < 4096) (hk : 0 ≤ f.mark ∧ f.mark < 16) (hl : f.to.size + f.fr.size + f.ty.size + f.rest.size ≤ 10000) :
    Calls Tryz.prog 188 #[.agg (xfCells f), .bool tag] w fun e w' => e = .returned (.string (bytesF { f with tagged := tag })) ∧ Below w.heap.size w w' := by
  obtain ⟨t, r, g, v, k, y, z⟩ := f
  have hb : bytesF ⟨t, r, tag, v, k, y, z⟩ = t ++ r ++ (if tag then ⟨#[129, 0]⟩ ++ two2 (4096 * k + v) else ⟨#[]⟩) ++ y ++ z := by
    unfold bytesF tagS
    rw [tagN_sum hv hk]
    rfl
  show Calls _ _ _ _ fun e w' => e = .returned (.string (bytesF ⟨t, r, tag, v, k, y, z⟩)) ∧ _
  rw [hb]
  simp only [xfCells]
  have l1 : ((t ++ r).size : Int) ≤ 10000 := by rw [ByteArray.size_append]; simp only at hl; omega
  simp only at hv hk hl
  cases tag with
  | false =>
    have e1 : t ++ r ++ (if false = true then (⟨#[129, 0]⟩ : ByteArray) ++ two2 (4096 * k + v) else ⟨#[]⟩) ++ y ++ z = t ++ r ++ y ++ z := by
      rw [if_neg (by decide)]
      congr 2
      exact ByteArray.append_empty
    rw [e1]
    clear hb e1
    go_enter Tryz.func188, Tryz.ntmps188
    go_wp2
    go_ret
    exact ⟨rfl, (Below.refl _ w).alloc (Nat.le_refl _) _⟩
  | true =>
    have e1 : t ++ r ++ (if true = true then (⟨#[129, 0]⟩ : ByteArray) ++ two2 (4096 * k + v) else ⟨#[]⟩) ++ y ++ z = t ++ r ++ ⟨#[129, 0]⟩ ++ two2 (4096 * k + v) ++ y ++ z := by
      rw [if_pos rfl, ← ByteArray.append_assoc (a := t ++ r) (b := ⟨#[129, 0]⟩)]
    rw [e1]
    have e2 : IntKind.i64.wrap (4096 * k) = 4096 * k := by rw [IntKind.wrap_i64]; omega
    have e3 : IntKind.i64.wrap (4096 * k + v) = 4096 * k + v := by rw [IntKind.wrap_i64]; omega
    have z2 : (two2 (4096 * k + v)).size = 2 := rfl
    have CB := hide fun (W : World) => xbytes2_any (4096 * k + v) W (by omega)
    clear hb e1
    go_enter Tryz.func188, Tryz.ntmps188
    go_wp2_with fail
    refine (CB.out _).mono ?_
    rintro e w1 ⟨rfl, hb1⟩
    have hr : (w.alloc (.cells #[.string t, .string r, .int .i64 v, .int .i64 k, .bool g, .string y, .string z] 248)).rangeAt w.heap.size 0 [.string t, .string r, .int .i64 v, .int .i64 k, .bool g, .string y, .string z] := range_new _ _ _
    have c5 := cell_later hb1 (hr 5 _ rfl)
    have c6 := cell_later hb1 (hr 6 _ rfl)
    have hlt : w.heap.size < w1.heap.size := block_lt_of_cell c5
    have HB := hide ((((Below.refl _ w).alloc (Nat.le_refl _) (.cells #[.string t, .string r, .int .i64 v, .int .i64 k, .bool g, .string y, .string z] 248))).trans (hb1.mono (by simp)))
    clear hr hb1 CB
    go_wp2
    go_ret
    exact ⟨rfl, HB.out⟩
/-- Of two entries, which comes ahead. -/
theorem xbefore_any (v1 v2 p1 p2 t1 t2 : Int) (m1 m2 : ByteArray) (w : World) :
    Calls Tryz.prog 184 #[.agg #[.int .i64 v1, .string m1, .int .i64 p1, .int .i64 t1], .agg #[.int .i64 v2, .string m2, .int .i64 p2, .int .i64 t2]] w fun e w' => e = .returned (.bool (decide (cmpPl v1 m1.toList v2 m2.toList < 0))) ∧ Below w.heap.size w w' := by
  by_cases h1 : v1 < v2
  · have hd : decide (cmpPl v1 m1.toList v2 m2.toList < 0) = true := decide_eq_true (cmpPl_neg.2 (.inl h1))
    rw [hd]
    clear hd
    go_enter Tryz.func184, Tryz.ntmps184
    go_wp2
    go_ret
    exact ⟨rfl, ((Below.refl _ w).alloc (Nat.le_refl _) _).alloc (by simp) _⟩
  · by_cases h2 : v1 = v2
    · have hd : decide (cmpPl v1 m1.toList v2 m2.toList < 0) = Op.bytesLess m1.toList m2.toList := by
        rw [Bool.eq_iff_iff, decide_eq_true_iff, cmpPl_neg]
        constructor
        · rintro (h | h)
          · omega
          · exact h.2
        · exact fun h => .inr ⟨h2, h⟩
      rw [hd]
      clear hd
      have h2' : (v1 == v2) = true := by simp [h2]
      clear h2
      go_enter Tryz.func184, Tryz.ntmps184
      go_wp2
      all_goals go_ret
      all_goals exact ⟨by simp_all, ((Below.refl _ w).alloc (Nat.le_refl _) _).alloc (by simp) _⟩
    · have hd : decide (cmpPl v1 m1.toList v2 m2.toList < 0) = false := by
        rw [← Bool.not_eq_true, decide_eq_true_iff, cmpPl_neg]
        rintro (h | h)
        · exact h1 h
        · exact h2 h.1
      rw [hd]
      clear hd
      have h2' : (v1 == v2) = false := by simp [h2]
      clear h2
      go_enter Tryz.func184, Tryz.ntmps184
      go_wp2
      go_ret
      exact ⟨rfl, ((Below.refl _ w).alloc (Nat.le_refl _) _).alloc (by simp) _⟩
end Go.Proofs.YtnjalelblbjfiaaGreatDoor

namespace Go.Proofs.YtnjalelblbjfiaaGreatDoor
open Go.RowKit

section
variable {α : Type} {f : α → List Value} {s : Nat}
/-- A row of records. -/
def recs (f : α → List Value) (l : List α) : List Value := l.flatMap f
theorem recs_append (a b : List α) : recs f (a ++ b) = recs f a ++ recs f b := List.flatMap_append
theorem recs_length (hf : ∀ a, (f a).length = s) (l : List α) : (recs f l).length = l.length * s := by
  induction l with
  | nil => simp [recs]
  | cons e t ih =>
    have : recs f (e :: t) = f e ++ recs f t := rfl
    rw [this, List.length_append, ih, hf, List.length_cons, Nat.succ_mul]; omega
theorem recs_get (hf : ∀ a, (f a).length = s) : ∀ (l : List α) (k : Nat) (hk : k < l.length) (j : Nat), j < s → (recs f l)[k * s + j]? = (f l[k])[j]?
  | [], k, hk, _, _ => absurd hk (Nat.not_lt_zero k)
  | e :: t, k, hk, j, hj => by
    have h : recs f (e :: t) = f e ++ recs f t := rfl
    rw [h]
    match k, hk with
    | 0, _ => rw [List.getElem?_append_left (by rw [hf]; omega)]; simp
    | k + 1, hk =>
      have hk' : k < t.length := by simpa using hk
      rw [List.getElem?_append_right (by rw [hf, Nat.succ_mul]; omega), hf, show (k + 1) * s + j - s = k * s + j by rw [Nat.succ_mul]; omega, recs_get hf t k hk' j hj]
      rfl
theorem recs_one (h1 : ∀ a, ∀ u ∈ f a, u.oneCell' = true) (l : List α) : ∀ u ∈ recs f l, u.oneCell' = true := fun u hu => by
  obtain ⟨r, _, h⟩ := List.mem_flatMap.1 hu
  exact h1 r u h
theorem recs_setMany (hf : ∀ a, (f a).length = s) (l : List α) (i : Nat) (hi : i < l.length) (r : α) : setMany (recs f l) (i * s) (f r) = recs f (l.set i r) := by
  have e1 : l = l.take i ++ [l[i]] ++ l.drop (i + 1) := by
    rw [List.append_assoc]
    simp
  have e2 : l.set i r = l.take i ++ [r] ++ l.drop (i + 1) := by
    rw [List.set_eq_take_append_cons_drop, if_pos hi, List.append_assoc]
    rfl
  have h := setMany_mid (f r) (recs f (l.take i)) (recs f [l[i]]) (recs f (l.drop (i + 1))) (by rw [recs_length hf, hf]; simp)
  rw [← recs_append, ← recs_append, ← e1, recs_length hf, List.length_take, Nat.min_eq_left (by omega)] at h
  rw [h, e2, recs_append, recs_append]
  simp [recs]

/-- A list of records in an array of its own. -/
def RecOwn (f : α → List Value) (B : Nat) (w : World) (t : TypeId) (s : Nat) (v : Value) (l : List α) : Prop := w.ownsRow B t s v l.length (recs f l) ∧ (l = [] → v = .slice none 0 0)
variable {B : Nat} {w w' : World} {t : TypeId} {v : Value} {l : List α}
theorem RecOwn.nil (f : α → List Value) (B : Nat) (w : World) (t : TypeId) (s : Nat) : RecOwn f B w t s (.slice none 0 0) [] := ⟨World.ownsRow_nil w B t s, fun _ => rfl⟩
theorem RecOwn.lt (h : RecOwn f B w t s v l) {g : Nat} (hg : v.ownBlock = some g) : g < w.heap.size := (h.1.lt g hg).2
theorem RecOwn.base (h : RecOwn f B w t s v l) {g : Nat} (hg : v.ownBlock = some g) : B ≤ g := (h.1.lt g hg).1
theorem RecOwn.same (h : RecOwn f B w t s v l) (hs : ∀ g, v.ownBlock = some g → w'.heap[g]? = w.heap[g]?) : RecOwn f B w' t s v l := ⟨ownsRow_same h.1 hs, h.2⟩
theorem RecOwn.below (h : RecOwn f B w t s v l) (hb : Below w.heap.size w w') : RecOwn f B w' t s v l := h.same fun _ hg => hb.block _ (h.lt hg)
theorem RecOwn.row (hf : ∀ a, (f a).length = s) (h : RecOwn f B w t s v l) : ∃ a cap g, v = .slice a l.length cap ∧ ∀ k (hk : k < l.length), a = some ⟨g, 0, none⟩ ∧ w.rangeAt g (k * s) (f l[k]) := by
  rcases h.1.2 with ⟨hv, h0⟩ | ⟨g, cap, cur, hv, _⟩
  · exact ⟨none, 0, 0, by rw [hv, h0], fun j hj => by omega⟩
  · refine ⟨_, cap, g, hv, fun k hk => ⟨rfl, fun j u hu => ?_⟩⟩
    have ho := h.1
    rw [hv] at ho
    have hj : j < s := by have := (List.getElem?_eq_some_iff.1 hu).1; rwa [hf] at this
    have hlt : k * s + j < l.length * s := by
      have : (k + 1) * s ≤ l.length * s := Nat.mul_le_mul_right s hk
      rw [Nat.succ_mul] at this
      omega
    rw [ho.cellAt _ hlt, recs_get hf l k hk j hj]
    exact hu
theorem RecOwn.there {g n cap : Nat} (h : RecOwn f B w t s (.slice (some ⟨g, 0, none⟩) n cap) l) (hn : n = l.length) {i : Nat} (hi : i < l.length) : w.there g (i * s) s := by
  subst hn
  refine ownsRow_there h.1 ?_
  have : (i + 1) * s ≤ l.length * s := Nat.mul_le_mul_right s hi
  rw [Nat.succ_mul] at this
  omega
theorem RecOwn.store (hf : ∀ a, (f a).length = s) {g n cap : Nat} (h : RecOwn f B w t s (.slice (some ⟨g, 0, none⟩) n cap) l) (hn : n = l.length) {i : Nat} (hi : i < l.length) (r : α) : RecOwn f B (w.setCells g (i * s) (f r)) t s (.slice (some ⟨g, 0, none⟩) n cap) (l.set i r) := by
  subst hn
  refine ⟨?_, fun e => ?_⟩
  · have hle : i * s + (f r).length ≤ l.length * s := by
      have : (i + 1) * s ≤ l.length * s := Nat.mul_le_mul_right s hi
      rw [Nat.succ_mul] at this
      rw [hf]
      omega
    have h1 := ownsRow_setCells (f r) (i * s) h.1 hle
    rw [recs_setMany hf l i hi r] at h1
    rw [List.length_set]
    exact h1
  · have := congrArg List.length e
    rw [List.length_set] at this
    simp at this
    rw [this] at hi
    exact absurd hi (by simp)
/-- append of records that lie somewhere. -/
theorem RecOwn.append {P : Program} {tl : TypeId} {i : TypeInfo} {z : Value} {bytes : Nat} (hf : ∀ a, (f a).length = s) (h1 : ∀ a, ∀ u ∈ f a, u.oneCell' = true) (ht : P.underlying tl = some (.slice t)) (hi : P.info? t = some i) (hz : i.zero = some z) (hsize : i.size = s) (hby : i.bytes = bytes) (hzs : z.cells.size = s) (hs : 0 < s)
    (h : RecOwn f B w t s v l) (m : List α) (hm : m ≠ []) {a : Addr} {c : Nat} (hnews : ∀ j u, (recs f m)[j]? = some u → w.cell? (a.add j) = some u) (h63 : l.length + m.length ≤ maxLen) (hbytes : (l.length + m.length) * bytes ≤ 140737488355328) (hB : B ≤ w.heap.size) :
    ∃ g cap w', (Builtin.append_ #[tl, tl] tl #[v, .slice (some a) m.length c]).run P w = .ok (.slice (some ⟨g, 0, none⟩) (l.length + m.length) cap) w' ∧ RecOwn f B w' t s (.slice (some ⟨g, 0, none⟩) (l.length + m.length) cap) (l ++ m) ∧ Chg (fun b => v.ownBlock = some b) w w' ∧ (v.ownBlock = some g ∨ w.heap.size ≤ g) := by
  have hml : 0 < m.length := List.length_pos_iff.2 hm
  obtain ⟨v', w', hap, hown', hgr, hiff⟩ := run_append_own (P := P) w B tl tl t i z s bytes ht hi hz hsize hby hzs hs v l.length (recs f l) h.1 a m.length c (recs f m) (recs_length hf m) hnews (recs_one h1 m) h63 hbytes hB
  have hbl := append_block (P := P) w B tl tl t i z s bytes ht hi hz hsize hby v l.length (recs f l) h.1 a m.length c (recs f m) (recs_length hf m) hnews (recs_one h1 m) h63 hbytes hap
  have hv' : ∃ g cap, v' = .slice (some ⟨g, 0, none⟩) (l.length + m.length) cap := by
    rcases hown'.2 with ⟨e, e2⟩ | ⟨g, cap, _, e, _⟩
    · omega
    · exact ⟨g, cap, e⟩
  obtain ⟨g, cap, rfl⟩ := hv'
  refine ⟨g, cap, w', hap, ⟨?_, fun e => ?_⟩, Chg.grown hgr fun _ hk => hk, ?_⟩
  · rw [List.length_append, recs_append]
    exact hown'
  · exact absurd (List.append_eq_nil_iff.1 e).2 hm
  · rcases hbl g rfl with h | h
    · exact .inl h
    · exact .inr (by omega)
end
end Go.Proofs.YtnjalelblbjfiaaGreatDoor

namespace Go.Proofs.YtnjalelblbjfiaaGreatDoor
open Go.RowKit

/-- A port as the document's switch holds it: its native VLAN, where its tagged ones lie, and which they are. -/
structure XPt where
  nat : Int
  tv : Value
  T : List Int
def XPt.row (q : XPt) : List Value := [.int .i64 q.nat, q.tv]
def XPt.prt (q : XPt) : Prt := ⟨q.nat, tgOf q.T⟩
/-- A face, a route, a MAC that is known, as they lie there. -/
def fcRec (f : Int × ByteArray) : List Value := [.int .i64 f.1, .string f.2]
structure XRt where
  bits : Int
  len : Int
  vlan : Int
  mac : ByteArray
def XRt.row (r : XRt) : List Value := [.int .i64 r.bits, .int .i64 r.len, .int .i64 r.vlan, .string r.mac]
def mcRec (now : Int) (e : Mc) : List Value := [.int .i64 e.vlan, .string e.mac, .int .i64 e.port, .int .i64 (now - e.age)]
theorem XPt.row_length (q : XPt) : q.row.length = 2 := rfl
theorem fcRec_length (f : Int × ByteArray) : (fcRec f).length = 2 := rfl
theorem mcRec_length (now : Int) (e : Mc) : (mcRec now e).length = 4 := rfl
/-- The document's switch. -/
structure XSt where
  pv : Value
  Q : List XPt
  fv : Value
  Fl : List (Int × ByteArray)
  rv : Value
  Hl : List XRt
  tv : Value
  rs : List Rl
  kv : Value
  K : List Mc
  now : Int
def XSt.P (x : XSt) : List Prt := x.Q.map XPt.prt
structure XSw (w : World) (y : Nat) (x : XSt) : Prop where
  blk : ∃ cs, w.heap[y]? = some (.cells cs 90 (0, 0))
  c0 : w.cell? ⟨y, 0, none⟩ = some x.pv
  c1 : w.cell? ⟨y, 1, none⟩ = some x.fv
  c2 : w.cell? ⟨y, 2, none⟩ = some x.rv
  c3 : w.cell? ⟨y, 3, none⟩ = some x.tv
  c4 : w.cell? ⟨y, 4, none⟩ = some x.kv
  c5 : w.cell? ⟨y, 5, none⟩ = some (.int .i64 x.now)
  rp : RecOwn XPt.row 1 w 159 2 x.pv x.Q
  rf : RecOwn fcRec 1 w 260 2 x.fv x.Fl
  rr : RecOwn XRt.row 1 w 263 4 x.rv x.Hl
  rt : RulesOwn 1 w x.tv x.rs
  rk : RecOwn (mcRec x.now) 1 w 92 4 x.kv x.K
  tg : ∀ q ∈ x.Q, w.ownsRow 1 3 1 q.tv q.T.length (q.T.map fun t => .int .i64 t)
section
variable {w w' : World} {y : Nat} {x : XSt}
/-- The blocks of the document's switch. -/
def XSt.blocks (x : XSt) (y : Nat) : Nat → Prop := fun b => b = y ∨ x.pv.ownBlock = some b ∨ x.fv.ownBlock = some b ∨ x.rv.ownBlock = some b ∨ x.tv.ownBlock = some b ∨ x.kv.ownBlock = some b ∨ ∃ q ∈ x.Q, q.tv.ownBlock = some b
theorem XSw.frz (h : XSw w y x) (j : Nat) : w.frozen? ⟨y, j, none⟩ = false := by
  obtain ⟨cs, hb⟩ := h.blk
  exact frzRow hb j
theorem XSw.lt (h : XSw w y x) : y < w.heap.size := block_lt_of_cell h.c0
theorem XSw.keep (h : XSw w y x) (hk : ∀ b, x.blocks y b → b < w.heap.size → w'.heap[b]? = w.heap[b]?) : XSw w' y x := by
  have hy : w'.heap[y]? = w.heap[y]? := hk y (.inl rfl) h.lt
  have hc : ∀ j, w'.cell? ⟨y, j, none⟩ = w.cell? ⟨y, j, none⟩ := fun j => (OnlyAt.of_block hy j).1
  obtain ⟨cs, hb⟩ := h.blk
  exact ⟨⟨cs, hy.trans hb⟩, (hc 0).trans h.c0, (hc 1).trans h.c1, (hc 2).trans h.c2, (hc 3).trans h.c3, (hc 4).trans h.c4, (hc 5).trans h.c5,
    h.rp.same fun g hg => hk g (.inr (.inl hg)) (h.rp.lt hg), h.rf.same fun g hg => hk g (.inr (.inr (.inl hg))) (h.rf.lt hg), h.rr.same fun g hg => hk g (.inr (.inr (.inr (.inl hg)))) (h.rr.lt hg), h.rt.same fun g hg => hk g (.inr (.inr (.inr (.inr (.inl hg))))) (h.rt.lt hg), h.rk.same fun g hg => hk g (.inr (.inr (.inr (.inr (.inr (.inl hg)))))) (h.rk.lt hg),
    fun q hq => ownsRow_same (h.tg q hq) fun g hg => hk g (.inr (.inr (.inr (.inr (.inr (.inr ⟨q, hq, hg⟩)))))) ((h.tg q hq).lt g hg).2⟩
theorem XSw.below (h : XSw w y x) (hb : Below w.heap.size w w') : XSw w' y x := h.keep fun b _ hl => hb.block b hl
/-- Rows of unlike types lie in unlike blocks. -/
theorem own_apart {t t' : TypeId} {s s' n n' B B' : Nat} {v v' : Value} {xs xs' : List Value} (h : w.ownsRow B t s v n xs) (h' : w.ownsRow B' t' s' v' n' xs') (ht : t ≠ t') {g : Nat} (hg : v.ownBlock = some g) : v'.ownBlock ≠ some g := fun hg' => by
  rcases h.2 with ⟨e, _⟩ | ⟨g1, cap, cur, e, _, hh, _⟩
  · rw [e] at hg; cases hg
  · rcases h'.2 with ⟨e', _⟩ | ⟨g2, cap', cur', e', _, hh', _⟩
    · rw [e'] at hg'; cases hg'
    · rw [e] at hg; rw [e'] at hg'
      cases hg; cases hg'
      rw [hh] at hh'
      cases hh'
      exact ht rfl
theorem own_block {t t' : TypeId} {s n B : Nat} {v : Value} {xs : List Value} {cs : Array Value} {fr : Nat × Nat} (h : w.ownsRow B t s v n xs) {g : Nat} (hh' : w.heap[g]? = some (.cells cs t' fr)) (ht : t ≠ t') : v.ownBlock ≠ some g := fun hg => by
  rcases h.2 with ⟨e, _⟩ | ⟨g1, cap, cur, e, _, hh, _⟩
  · rw [e] at hg; cases hg
  · rw [e] at hg
    cases hg
    rw [hh] at hh'
    cases hh'
    exact ht rfl
/-- The ports, read. -/
theorem XSw.ports (h : XSw w y x) : ∃ a cap g, x.pv = .slice a x.Q.length cap ∧ ∀ k (hk : k < x.Q.length), a = some ⟨g, 0, none⟩ ∧ w.cell? ⟨g, k * 2, none⟩ = some (.int .i64 x.Q[k].nat) ∧ w.cell? ⟨g, k * 2 + 1, none⟩ = some x.Q[k].tv ∧ NumsAt w x.Q[k].tv x.Q[k].T := by
  obtain ⟨a, cap, g, e, hr⟩ := h.rp.row XPt.row_length
  refine ⟨a, cap, g, e, fun k hk => ?_⟩
  obtain ⟨ha, hc⟩ := hr k hk
  refine ⟨ha, hc 0 _ rfl, hc 1 _ rfl, ?_⟩
  have ho := h.tg _ (List.getElem_mem hk)
  rcases ho.2 with ⟨e, e2⟩ | ⟨g', cap', cur, e, _⟩
  · exact ⟨none, 0, 0, by rw [e, e2], fun j hj => by omega⟩
  · refine ⟨_, cap', g', e, fun j hj => ⟨rfl, ?_⟩⟩
    have := ho.cells (g := g') (by rw [e]; rfl) j (.int .i64 x.Q[k].T[j]) (by rw [List.getElem?_map, List.getElem?_eq_getElem hj]; rfl)
    rwa [Addr.add_mid, Nat.zero_add] at this
theorem XSt.pAt_eq (x : XSt) {k : Nat} (hk : k < x.Q.length) : pAt x.P k = x.Q[k].prt := by
  unfold pAt XSt.P
  rw [List.getElem?_map, List.getElem?_eq_getElem hk]
  rfl
end
set_option maxRecDepth 100000 in
theorem xof_any (y k : Nat) (x : XSt) (v : Int) (w : World) (h : XSw w y x) (hk : k < x.Q.length) (hT : ∀ q ∈ x.Q, q.T.length < 1000000000000) (_hQ : x.Q.length ≤ 8) :
    Calls Tryz.prog 135 #[.pointer (some ⟨y, 0, none⟩), .int .i64 k, .int .i64 v] w fun e w' => e = .returned (.bool (hasV (pAt x.P k) v)) ∧ Below w.heap.size w w' := by
  obtain ⟨a, cap, g, e, hr⟩ := h.ports
  obtain ⟨rfl, q0, q1, hn⟩ := hr k hk
  have c0 := h.c0
  rw [e] at c0
  have hyl := h.lt
  have hgl : g < w.heap.size := block_lt_of_cell q0
  have hki : (k : Int) < x.Q.length := by omega
  have hres : hasV (pAt x.P k) v = (tgOf x.Q[k].T v || x.Q[k].nat == v) := by
    rw [x.pAt_eq hk]
    show (v == x.Q[k].nat || tgOf x.Q[k].T v) = _
    rw [Bool.or_comm, Bool.beq_comm]
  rw [hres]
  have CI := hide fun (W : World) (hb : Below w.heap.size w W) => xin_any x.Q[k].T x.Q[k].tv v W (hn.below hb) (hT _ (List.getElem_mem hk))
  obtain ⟨T, hTe⟩ : ∃ T, T = x.Q[k].T := ⟨_, rfl⟩
  obtain ⟨tv, htv⟩ : ∃ tv, tv = x.Q[k].tv := ⟨_, rfl⟩
  obtain ⟨nt, hnt⟩ : ∃ nt, nt = x.Q[k].nat := ⟨_, rfl⟩
  obtain ⟨n, hne⟩ : ∃ n, n = x.Q.length := ⟨_, rfl⟩
  obtain ⟨a1, c1, b1, htn, -⟩ := hn
  rw [← htv] at q1 htn CI
  rw [← hnt] at q0 ⊢
  rw [← hTe] at CI ⊢ htn
  rw [← hne] at hki _hQ c0
  subst htn
  clear hr h e hT hres hTe htv hnt hne
  have hb0 : Below w.heap.size w (w.alloc (.cells #[.int .i64 nt, .slice a1 T.length c1] 159)) := (Below.refl _ w).alloc (Nat.le_refl _) _
  have C := hide (CI.out _ hb0)
  have HB := hide hb0
  clear CI hb0
  go_enter Tryz.func135, Tryz.ntmps135
  go_wp2_with fail
  refine C.out.mono ?_
  rintro e W ⟨rfl, hww⟩
  rw [hww]
  clear hww W C
  cases ht : tgOf T v with
  | true =>
    have HT := hide ht
    clear ht
    go_wp2
    go_ret
    exact ⟨by rw [HT.out]; rfl, HB.out⟩
  | false =>
    have HT := hide ht
    clear ht
    go_wp2
    go_ret
    exact ⟨by rw [HT.out]; simp, HB.out⟩
end Go.Proofs.YtnjalelblbjfiaaGreatDoor

namespace Go.Proofs.YtnjalelblbjfiaaGreatDoor
open Go.RowKit

theorem find_first {α : Type} {l : List α} {p : α → Bool} {k : Nat} (hk : k < l.length) (hp : p l[k] = true) (hn : ∀ j (hj : j < k), p (l[j]'(by omega)) = false) : l.find? p = some l[k] := by
  rw [List.find?_eq_some_iff_getElem]
  refine ⟨hp, k, hk, rfl, fun j hj => ?_⟩
  rw [hn j hj]
  rfl
theorem find_nobody {α : Type} {l : List α} {p : α → Bool} (hn : ∀ j (hj : j < l.length), p l[j] = false) : l.find? p = none := by
  rw [List.find?_eq_none]
  intro a ha
  obtain ⟨j, hj, rfl⟩ := List.getElem_of_mem ha
  rw [hn j hj]
  decide
/-- Where a MAC is known, as the document's switch tells it. -/
def whereOf (K : List Mc) (v : Int) (b : ByteArray) : Int := match known K v b with | some e => e.port | none => -1
section
variable {w : World} {y : Nat} {x : XSt}
theorem XSw.knowns (h : XSw w y x) : ∃ a cap g, x.kv = .slice a x.K.length cap ∧ ∀ k (hk : k < x.K.length), a = some ⟨g, 0, none⟩ ∧ w.cell? ⟨g, k * 4, none⟩ = some (.int .i64 x.K[k].vlan) ∧ w.cell? ⟨g, k * 4 + 1, none⟩ = some (.string x.K[k].mac) ∧ w.cell? ⟨g, k * 4 + 2, none⟩ = some (.int .i64 x.K[k].port) ∧ w.cell? ⟨g, k * 4 + 3, none⟩ = some (.int .i64 (x.now - x.K[k].age)) := by
  obtain ⟨a, cap, g, e, hr⟩ := h.rk.row (mcRec_length x.now)
  refine ⟨a, cap, g, e, fun k hk => ?_⟩
  obtain ⟨ha, hc⟩ := hr k hk
  exact ⟨ha, hc 0 _ rfl, hc 1 _ rfl, hc 2 _ rfl, hc 3 _ rfl⟩
theorem XSw.facesAt (h : XSw w y x) : ∃ a cap g, x.fv = .slice a x.Fl.length cap ∧ ∀ k (hk : k < x.Fl.length), a = some ⟨g, 0, none⟩ ∧ w.cell? ⟨g, k * 2, none⟩ = some (.int .i64 x.Fl[k].1) ∧ w.cell? ⟨g, k * 2 + 1, none⟩ = some (.string x.Fl[k].2) := by
  obtain ⟨a, cap, g, e, hr⟩ := h.rf.row fcRec_length
  refine ⟨a, cap, g, e, fun k hk => ?_⟩
  obtain ⟨ha, hc⟩ := hr k hk
  exact ⟨ha, hc 0 _ rfl, hc 1 _ rfl⟩
end
set_option maxRecDepth 100000 in
set_option maxHeartbeats 1000000 in
theorem xwhere_any (y : Nat) (x : XSt) (v : Int) (b : ByteArray) (w : World) (h : XSw w y x) (hK : x.K.length ≤ 1000) :
    Calls Tryz.prog 190 #[.pointer (some ⟨y, 0, none⟩), .int .i64 v, .string b] w fun e w' => e = .returned (.int .i64 (whereOf x.K v b)) ∧ w' = w := by
  obtain ⟨a, cap, g, e, hr⟩ := h.knowns
  have c4 := h.c4
  rw [e] at c4
  have hyl := h.lt
  have HR := hide hr
  obtain ⟨K, hKe⟩ : ∃ K, K = x.K := ⟨_, rfl⟩
  rw [← hKe] at HR hK c4 ⊢
  clear hr h e hKe
  go_enter Tryz.func190, Tryz.ntmps190
  go_wp2_with fail
  go_loopw [7] (fun i wr => wr = w ∧ ∃ k : Nat, k ≤ K.length ∧ i = .int .i64 k ∧ ∀ j (hj : j < K.length), j < k → (K[j].vlan == v && K[j].mac.toList == b.toList) = false) (fun i _ => K.length - (intOf i).toNat)
  case atStart => exact ⟨rfl, 0, by omega, rfl, fun j _ h => absurd h (Nat.not_lt_zero j)⟩
  case round =>
    obtain ⟨rfl, k, hk, rfl, hno⟩ := hrel
    have HNO := hide hno
    clear hno
    by_cases hkl : k < K.length
    · have hki : (k : Int) < K.length := by omega
      obtain ⟨rfl, q0, q1, q2, -⟩ := HR.out k hkl
      have hbl := block_lt_of_cell q0
      obtain ⟨z, hz⟩ : ∃ z, z = K[k] := ⟨_, rfl⟩
      rw [← hz] at q0 q1 q2
      have HZ := hide hz
      clear hz
      have next : ((z.vlan == v && z.mac.toList == b.toList) = false) → ∀ j (hj : j < K.length), j < k + 1 → (K[j].vlan == v && K[j].mac.toList == b.toList) = false := fun hf j hj hjk => by
        by_cases e : j = k
        · subst e; rw [← HZ.out]; exact hf
        · exact HNO.out j hj (by omega)
      have HNX := hide next
      clear next
      cases h1 : (z.vlan == v) with
      | false =>
        have H1 := hide h1
        go_wp2_with fail
        go_roundw
        case rel => exact ⟨by trivial, k + 1, by omega, by go_num, HNX.out (by rw [H1.out]; rfl)⟩
        case measure => simp [intOf]; omega
      | true =>
        cases h2 : (z.mac.toList == b.toList) with
        | false =>
          have H2 := hide h2
          go_wp2_with fail
          go_roundw
          case rel => exact ⟨by trivial, k + 1, by omega, by go_num, HNX.out (by rw [H2.out, Bool.and_false])⟩
          case measure => simp [intOf]; omega
        | true =>
          have hw : whereOf K v b = z.port := by
            have hp : (K[k].vlan == v && K[k].mac.toList == b.toList) = true := by rw [← HZ.out, h1, h2]; rfl
            unfold whereOf known
            rw [find_first (p := fun e => e.vlan == v && e.mac.toList == b.toList) hkl hp fun j hj => HNO.out j (by omega) hj, HZ.out]
          have HW := hide hw
          clear hw
          go_wp2
          go_ret
          exact ⟨retInt HW.out.symm, rfl⟩
    · have hki : ¬ (k : Int) < K.length := by omega
      have hw : whereOf K v b = -1 := by
        unfold whereOf known
        rw [find_nobody (p := fun e => e.vlan == v && e.mac.toList == b.toList) fun j hj => HNO.out j hj (by omega)]
      have HW := hide hw
      clear hw
      go_wp2
      go_ret
      exact ⟨retInt HW.out.symm, rfl⟩
/-- A VLAN's face, as the document's switch tells it. -/
def faceIn (Fl : List (Int × ByteArray)) (v : Int) : ByteArray := match Fl.find? (fun f => f.1 == v) with | some f => f.2 | none => ⟨#[]⟩
set_option maxRecDepth 100000 in
set_option maxHeartbeats 1000000 in
theorem xface_any (y : Nat) (x : XSt) (v : Int) (w : World) (h : XSw w y x) (hK : x.Fl.length ≤ 1000) :
    Calls Tryz.prog 137 #[.pointer (some ⟨y, 0, none⟩), .int .i64 v] w fun e w' => e = .returned (.string (faceIn x.Fl v)) ∧ w' = w := by
  obtain ⟨a, cap, g, e, hr⟩ := h.facesAt
  have c4 := h.c1
  rw [e] at c4
  have hyl := h.lt
  have HR := hide hr
  obtain ⟨K, hKe⟩ : ∃ K, K = x.Fl := ⟨_, rfl⟩
  rw [← hKe] at HR hK c4 ⊢
  clear hr h e hKe
  go_enter Tryz.func137, Tryz.ntmps137
  go_wp2_with fail
  go_loopw [5] (fun i wr => wr = w ∧ ∃ k : Nat, k ≤ K.length ∧ i = .int .i64 k ∧ ∀ j (hj : j < K.length), j < k → (K[j].1 == v) = false) (fun i _ => K.length - (intOf i).toNat)
  case atStart => exact ⟨rfl, 0, by omega, rfl, fun j _ h => absurd h (Nat.not_lt_zero j)⟩
  case round =>
    obtain ⟨rfl, k, hk, rfl, hno⟩ := hrel
    have HNO := hide hno
    clear hno
    by_cases hkl : k < K.length
    · have hki : (k : Int) < K.length := by omega
      obtain ⟨rfl, q0, q1⟩ := HR.out k hkl
      have hbl := block_lt_of_cell q0
      obtain ⟨z, hz⟩ : ∃ z, z = K[k] := ⟨_, rfl⟩
      rw [← hz] at q0 q1
      have HZ := hide hz
      clear hz
      cases h1 : (z.1 == v) with
      | false =>
        have H1 := hide h1
        go_wp2_with fail
        go_roundw
        case rel => exact ⟨by trivial, k + 1, by omega, by go_num, fun j hj hjk => by
          by_cases e : j = k
          · subst e; rw [← HZ.out]; exact H1.out
          · exact HNO.out j hj (by omega)⟩
        case measure => simp [intOf]; omega
      | true =>
        have hw : faceIn K v = z.2 := by
          have hp : (K[k].1 == v) = true := by rw [← HZ.out, h1]
          unfold faceIn
          rw [find_first (p := fun f => f.1 == v) hkl hp fun j hj => HNO.out j (by omega) hj, HZ.out]
        have HW := hide hw
        clear hw
        go_wp2
        go_ret
        exact ⟨by rw [HW.out]; rfl, rfl⟩
    · have hki : ¬ (k : Int) < K.length := by omega
      have hw : faceIn K v = ⟨#[]⟩ := by
        unfold faceIn
        rw [find_nobody (p := fun f => f.1 == v) fun j hj => HNO.out j hj (by omega)]
      have HW := hide hw
      clear hw
      go_wp2
      go_ret
      exact ⟨by rw [HW.out]; rfl, rfl⟩
end Go.Proofs.YtnjalelblbjfiaaGreatDoor
