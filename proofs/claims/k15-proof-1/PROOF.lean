import PyProof.Rows.All
import Wide.All
import OpenK.AllK
import Wide.FinOn
import HandS.ForMost
import HandS.ForExc
import HandS.AnyAll
import HandS.TupAny
import HandS.Deep
import HandS.Wide
import HandS.Flow
import HandS.StrMore
import HandS.Small
import KE.GoesEnum
import KE.GoesNew
import HandS.TupSets
import HandS.DictTup
import HandS.SetBool
import HandS.DictComp
import HandS.SetKeys
import HandS.SetFor
import HandS.IsInst
import HandS.Zip
import KE.DataAny
import HandS.Conv
import PyProof.GenQ
import HandS.GenList
import HandS.Strs
import KE.KDictCopyH
import KE.KDictList
import HandS.WordsDict
import KE.KDictPairs
import HandS.MapObj
import HandS.Star
import KE.KSuper
import KE.KExcSuper
import KE.KIsAll
import KE.KTryMore
import HandS.ExcInit
import HandS.ExcIs
import HandS.More
import HandS.MapSum
import KE.DataMinMax
import HandS.Iter
import HandS.TupLe
import PySem.Challenge.RW_stuckrows_k15_greatest_systems
set_option Elab.async false
set_option linter.all false
set_option maxRecDepth 100000
set_option maxHeartbeats 8000000
/-! QA: values of a run of one's own, its heap, how they lie in the layer's heap -/
namespace QE
open PySem L2

inductive U where
  | non | bl (b : Bool) | int (i : Int) | str (x : List Nat) | tup (xs : List U) | ref (i : Nat) | con (v : V)
abbrev Nm := List Nat
def nmEq : List Nat → List Nat → Bool
  | [], [] => true
  | a :: x, b :: y => match Nat.beq a b with | true => nmEq x y | false => false
  | _, _ => false
theorem nmEq_iff : ∀ (x y : List Nat), nmEq x y = true ↔ x = y
  | [], [] => by simp [nmEq]
  | [], b :: y => by simp [nmEq]
  | a :: x, [] => by simp [nmEq]
  | a :: x, b :: y => by
    unfold nmEq
    cases e : Nat.beq a b with
    | true =>
      have := Nat.eq_of_beq_eq_true e
      subst this
      simp [nmEq_iff x y]
    | false =>
      have := Nat.ne_of_beq_eq_false e
      simp [this]
def st (x : List Nat) : Str := ⟨x.toArray⟩
theorem st_inj {x y : List Nat} : st x = st y ↔ x = y := by
  unfold st
  simp
inductive OB where
  | lst (xs : List U) | dct (kvs : List (U × U)) | ins (C : Nm) (fs : List (Nm × U)) | rol (xs : List U) | ptp (xs : List U) | tab (C q : Nm)

/-! ### a tree of objects -/
inductive Tr where
  | nil | node (o : Option OB) (l r : Tr)
def Tr.get : Tr → Nat → Option OB
  | .nil, _ => none
  | .node o l r, i => match Nat.beq i 0 with
    | true => o
    | false => match Nat.beq (i % 2) 1 with
      | true => l.get (i / 2)
      | false => r.get (i / 2 - 1)
def Tr.put : Nat → Tr → Nat → OB → Tr
  | 0, t, _, _ => t
  | f + 1, .nil, i, o => match Nat.beq i 0 with
    | true => .node (some o) .nil .nil
    | false => match Nat.beq (i % 2) 1 with
      | true => .node none (Tr.put f .nil (i / 2) o) .nil
      | false => .node none .nil (Tr.put f .nil (i / 2 - 1) o)
  | f + 1, .node v l r, i, o => match Nat.beq i 0 with
    | true => .node (some o) l r
    | false => match Nat.beq (i % 2) 1 with
      | true => .node v (Tr.put f l (i / 2) o) r
      | false => .node v l (Tr.put f r (i / 2 - 1) o)
theorem beqN (a b : Nat) : Nat.beq a b = decide (a = b) := by
  cases e : Nat.beq a b with
  | true => exact (decide_eq_true (Nat.eq_of_beq_eq_true e)).symm
  | false => exact (decide_eq_false (Nat.ne_of_beq_eq_false e)).symm
theorem get_nil (i : Nat) : Tr.get .nil i = none := by
  unfold Tr.get
  rfl
theorem get_put : ∀ (f : Nat) (t : Tr) (i j : Nat) (o : OB), i + 1 < 2 ^ f → (t.put f i o).get j = if j = i then some o else t.get j
  | 0, t, i, j, o, h => by simp at h
  | f + 1, t, i, j, o, h => by
    have h2 : i + 1 < 2 * 2 ^ f := by rw [Nat.pow_succ] at h; omega
    have key : ∀ (v : Option OB) (l r : Tr), (Tr.get (match Nat.beq i 0 with
        | true => .node (some o) l r
        | false => match Nat.beq (i % 2) 1 with
          | true => .node v (Tr.put f l (i / 2) o) r
          | false => .node v l (Tr.put f r (i / 2 - 1) o)) j) = if j = i then some o else Tr.get (.node v l r) j := by
      intro v l r
      simp only [beqN]
      by_cases i0 : i = 0
      · subst i0
        simp only [decide_true]
        by_cases j0 : j = 0
        · subst j0; simp [Tr.get, beqN]
        · simp [Tr.get, beqN, j0]
      · simp only [i0, decide_false]
        by_cases i1 : i % 2 = 1
        · simp only [i1, decide_true]
          by_cases j0 : j = 0
          · subst j0
            have : ¬ 0 = i := fun z => i0 z.symm
            simp [Tr.get, beqN, this]
          · by_cases j1 : j % 2 = 1
            · simp only [Tr.get, beqN, j0, j1, decide_false, decide_true]
              rw [get_put f l (i / 2) (j / 2) o (by omega)]
              by_cases e : j = i
              · simp [e]
              · have : ¬ j / 2 = i / 2 := by omega
                simp [e, this]
            · have e : ¬ j = i := fun z => j1 (z ▸ i1)
              simp [Tr.get, beqN, j0, j1, e]
        · simp only [i1, decide_false]
          by_cases j0 : j = 0
          · subst j0
            have : ¬ 0 = i := fun z => i0 z.symm
            simp [Tr.get, beqN, this]
          · by_cases j1 : j % 2 = 1
            · have e : ¬ j = i := fun z => i1 (z ▸ j1)
              simp [Tr.get, beqN, j0, j1, e]
            · simp only [Tr.get, beqN, j0, j1, decide_false]
              rw [get_put f r (i / 2 - 1) (j / 2 - 1) o (by omega)]
              by_cases e : j = i
              · simp [e]
              · have : ¬ j / 2 - 1 = i / 2 - 1 := by omega
                simp [e, this]
    cases t with
    | nil =>
      have e : (Tr.put (f + 1) .nil i o) = (match Nat.beq i 0 with
        | true => .node (some o) .nil .nil
        | false => match Nat.beq (i % 2) 1 with
          | true => .node none (Tr.put f .nil (i / 2) o) .nil
          | false => .node none .nil (Tr.put f .nil (i / 2 - 1) o)) := rfl
      rw [e, key none .nil .nil]
      have g : Tr.get (.node none .nil .nil) j = none := by
        unfold Tr.get
        rw [get_nil, get_nil]
        split
        · rfl
        · split <;> rfl
      rw [g, get_nil]
    | node v l r => exact key v l r

structure Hq where
  n : Nat
  t : Tr
def Hq.get (h : Hq) (i : Nat) : Option OB := h.t.get i
def lim : Nat := 1000000000
/-- what stands at i is changed -/
def Hq.set (h : Hq) (i : Nat) (o : OB) : Hq := ⟨h.n, h.t.put 40 i o⟩
/-- a new object -/
def Hq.new (h : Hq) (o : OB) : Hq := ⟨Nat.succ h.n, h.t.put 40 h.n o⟩
theorem lim_lt {i : Nat} (h : i < lim) : i + 1 < 2 ^ 40 := by
  unfold lim at h
  have : 1000000000 < 2 ^ 40 := by decide
  omega
theorem Hq.get_set {h : Hq} {i j : Nat} {o : OB} (hi : i < lim) : (h.set i o).get j = if j = i then some o else h.get j := get_put 40 h.t i j o (lim_lt hi)
theorem Hq.get_new {h : Hq} {j : Nat} {o : OB} (hi : h.n < lim) : (h.new o).get j = if j = h.n then some o else h.get j := get_put 40 h.t h.n j o (lim_lt hi)

/-! ### where they lie -/
abbrev Mp := Nat → Option Addr
variable (K : PySem.W.Frag) (m : Mp) (H : Hp)
mutual
def RU : U → V → Prop
  | .non, v => v = .non
  | .bl b, v => v = .bl b
  | .int i, v => v = .int i
  | .str x, v => v = .str (st x)
  | .con w, v => v = w
  | .ref i, v => ∃ a, m i = some a ∧ v = .ref a
  | .tup us, v => ∃ a vs, v = .ref a ∧ SqT K H a vs ∧ RUs us vs
def RUs : List U → List V → Prop
  | [], vs => vs = []
  | u :: us, vs => ∃ v r, vs = v :: r ∧ RU u v ∧ RUs us r
end
def RF : List (Nm × U) → List (Str × V) → Prop
  | [], vs => vs = []
  | (x, u) :: us, vs => ∃ v r, vs = (st x, v) :: r ∧ RU K m H u v ∧ RF us r
/-- a key that is an int or a text -/
def uKey : U → Option Key
  | .int i => some (.inl i)
  | .str x => some (.inr (st x))
  | _ => none
def uKeys : List U → Option (List Key)
  | [] => some []
  | u :: r => match uKey u, uKeys r with
    | some k, some ks => some (k :: ks)
    | _, _ => none
def RKv : List (U × U) → List (Key × V) → Prop
  | [], vs => vs = []
  | (k, u) :: us, vs => ∃ q v r, vs = (q, v) :: r ∧ uKey k = some q ∧ RU K m H u v ∧ RKv us r
def FunAt (C q : Nm) (f : Addr) : Prop := (C = [] ∧ PySem.W.nsIn K mainGlobals (st q) = some (some (.ref f))) ∨ (C ≠ [] ∧ ∃ A, PySem.W.nsIn K mainGlobals (st C) = some (some (.ref A)) ∧ PySem.W.findIn K (.ref A) (st q) = some (some (.ref f)))
/-- the table of the code of a def q, or of a method q of a class C -/
def TabN (C q : Nm) (P : Addr) : Prop := ∃ f oc od fd osl c o vs, FunAt K C q f ∧ K.lookup f = some ⟨oc, od, .func fd, osl⟩ ∧ fd.code = .ref c ∧ K.lookup c = some o ∧ o.data = .fields vs ∧ vs[11]? = some (.ref P)
def RO : OB → Addr → Prop
  | .lst us, a => ∃ vs, H a = some (.lst vs) ∧ RUs K m H us vs
  | .dct kvs, a => ∃ vs, H a = some (.dK vs) ∧ RKv K m H kvs vs
  | .ins C fs, a => ∃ A dx vs, PySem.W.nsIn K mainGlobals (st C) = some (some (.ref A)) ∧ H a = some (.ins A dx vs) ∧ RF K m H fs vs
  | .ptp us, a => ∃ o vs, H a = some (.frz o (.tup vs)) ∧ o.dict = none ∧ RUs K m H us vs
  | .rol us, a => ∃ vs, SqL K H a vs ∧ (∃ o, H a = some o ∧ ¬ Mut (some o)) ∧ RUs K m H us vs
  | .tab C q, a => TabN K C q a ∧ GxR.TabG H a
structure Ext (m' : Mp) (H' : Hp) : Prop where
  mm : ∀ i a, m i = some a → m' i = some a
  t : ∀ a vs, SqT K H a vs → SqT K H' a vs
  f : ∀ i a, m' i = some a → m i = some a ∨ H a = none
  d : ∀ a o, H a = some o → ∃ o', H' a = some o'
  k : ∀ a o, H a = some o → (∀ i, m i ≠ some a) → H' a = some o
structure RH (h : Hq) : Prop where
  lt : ∀ i a, m i = some a → i < h.n
  ge : h.n < lim
  inj : ∀ i j a, m i = some a → m j = some a → i = j
  ob : ∀ i a, m i = some a → ∃ o, h.get i = some o ∧ RO K m H o a
  at_ : ∀ i o, h.get i = some o → ∃ a, m i = some a
end QE
/-! QB: what stays; new objects, changed ones; the reading of expressions and statements by a run -/
namespace QE
open PySem L2
variable {K : PySem.W.Frag} {m m' m2 : Mp} {H H' H2 : Hp} {h h' : Hq}

theorem Ext.refl : Ext K m H m H := ⟨fun _ _ e => e, fun _ _ e => e, fun _ _ e => .inl e, fun _ o e => ⟨o, e⟩, fun _ _ e _ => e⟩
theorem Ext.trans (a : Ext K m H m' H') (b : Ext K m' H' m2 H2) : Ext K m H m2 H2 where
  mm := fun i x e => b.mm i x (a.mm i x e)
  t := fun x vs e => b.t x vs (a.t x vs e)
  f := fun i x e => by
    rcases b.f i x e with q | q
    · exact a.f i x q
    · cases z : H x with
      | none => exact .inr rfl
      | some o =>
        obtain ⟨o', z'⟩ := a.d x o z
        rw [q] at z'
        cases z'
  d := fun x o e => by
    obtain ⟨o', z⟩ := a.d x o e
    exact b.d x o' z
  k := fun x o e hn => b.k x o (a.k x o e hn) fun i z => by
    rcases a.f i x z with q | q
    · exact hn i q
    · rw [e] at q
      cases q
mutual
theorem RU.mono (e : Ext K m H m' H') : ∀ (u : U) (v : V), RU K m H u v → RU K m' H' u v
  | .non, v, r => r
  | .bl b, v, r => r
  | .int i, v, r => r
  | .str x, v, r => r
  | .con w, v, r => r
  | .ref i, v, r => by
    obtain ⟨a, ha, rfl⟩ := r
    exact ⟨a, e.mm i a ha, rfl⟩
  | .tup us, v, r => by
    obtain ⟨a, vs, rfl, hs, r⟩ := r
    exact ⟨a, vs, rfl, e.t a vs hs, RUs.mono e us vs r⟩
theorem RUs.mono (e : Ext K m H m' H') : ∀ (us : List U) (vs : List V), RUs K m H us vs → RUs K m' H' us vs
  | [], vs, r => r
  | u :: us, vs, r => by
    obtain ⟨v, r', rfl, h1, h2⟩ := r
    exact ⟨v, r', rfl, RU.mono e u v h1, RUs.mono e us r' h2⟩
end
theorem RF.mono (e : Ext K m H m' H') : ∀ (us : List (Nm × U)) (vs : List (Str × V)), RF K m H us vs → RF K m' H' us vs
  | [], vs, r => r
  | (x, u) :: us, vs, r => by
    obtain ⟨v, r', rfl, h1, h2⟩ := r
    exact ⟨v, r', rfl, h1.mono e, RF.mono e us r' h2⟩
theorem RKv.mono (e : Ext K m H m' H') : ∀ (us : List (U × U)) (vs : List (Key × V)), RKv K m H us vs → RKv K m' H' us vs
  | [], vs, r => r
  | (x, u) :: us, vs, r => by
    obtain ⟨q, v, r', rfl, hk, h1, h2⟩ := r
    exact ⟨q, v, r', rfl, hk, h1.mono e, RKv.mono e us r' h2⟩
theorem RUs.len : ∀ {us : List U} {vs : List V}, RUs K m H us vs → us.length = vs.length
  | [], vs, r => by rw [show vs = [] from r]; rfl
  | u :: us, vs, r => by
    obtain ⟨v, r', rfl, h1, h2⟩ := r
    simp [RUs.len h2]
theorem RUs.at {us : List U} {vs : List V} : RUs K m H us vs → ∀ {i : Nat} {u : U}, us[i]? = some u → ∃ v, vs[i]? = some v ∧ RU K m H u v := by
  induction us generalizing vs with
  | nil => intro r i u e; simp at e
  | cons u us ih =>
    intro r i u' e
    obtain ⟨v, r', rfl, h1, h2⟩ := r
    cases i with
    | zero => simp at e; subst e; exact ⟨v, rfl, h1⟩
    | succ i => exact ih h2 (by simpa using e)
theorem RUs.app : ∀ {us : List U} {vs : List V} {us2 : List U} {vs2 : List V}, RUs K m H us vs → RUs K m H us2 vs2 → RUs K m H (us ++ us2) (vs ++ vs2)
  | [], vs, us2, vs2, r, r2 => by rw [show vs = [] from r]; exact r2
  | u :: us, vs, us2, vs2, r, r2 => by
    obtain ⟨v, r', rfl, h1, h2⟩ := r
    exact ⟨v, r' ++ vs2, rfl, h1, RUs.app h2 r2⟩
/-- what is at an address depends on that address, on where the things lie, and on tuples -/
theorem RO.move (e : Ext K m H m' H') {o : OB} {a : Addr} (r : RO K m H o a) (ha : H' a = H a) : RO K m' H' o a := by
  cases o with
  | lst us => obtain ⟨vs, h1, h2⟩ := r; exact ⟨vs, ha.trans h1, h2.mono e⟩
  | dct us => obtain ⟨vs, h1, h2⟩ := r; exact ⟨vs, ha.trans h1, h2.mono e⟩
  | ins C us => obtain ⟨A, dx, vs, h0, h1, h2⟩ := r; exact ⟨A, dx, vs, h0, ha.trans h1, h2.mono e⟩
  | ptp us => obtain ⟨o, vs, h1, h3, h2⟩ := r; exact ⟨o, vs, ha.trans h1, h3, h2.mono e⟩
  | tab C q => obtain ⟨h1, ps, h2, h3⟩ := r; exact ⟨h1, ps, ha.trans h2, h3⟩
  | rol us =>
    obtain ⟨vs, h1, h3, h2⟩ := r
    refine ⟨vs, ?_, by rw [ha]; exact h3, h2.mono e⟩
    rcases h1 with (h | ⟨o, h⟩) | h
    · exact .inl (.inl (ha.trans h))
    · exact .inl (.inr ⟨o, ha.trans h⟩)
    · exact .inr h
theorem RO.trk {o : OB} {a : Addr} (r : RO K m H o a) : ∃ u, H a = some u := by
  cases o with
  | lst us => obtain ⟨vs, h1, _⟩ := r; exact ⟨_, h1⟩
  | dct us => obtain ⟨vs, h1, _⟩ := r; exact ⟨_, h1⟩
  | ins C us => obtain ⟨A, dx, vs, _, h1, _⟩ := r; exact ⟨_, h1⟩
  | rol us => obtain ⟨vs, _, ⟨o, h, _⟩, _⟩ := r; exact ⟨_, h⟩
  | ptp us => obtain ⟨o, vs, h1, h3, h2⟩ := r; exact ⟨_, h1⟩
  | tab C q => obtain ⟨_, ps, h2, _⟩ := r; exact ⟨_, h2⟩
theorem RH.trk (R : RH K m H h) {i : Nat} {a : Addr} (e : m i = some a) : ∃ u, H a = some u := by
  obtain ⟨o, _, r⟩ := R.ob i a e
  exact r.trk
/-- tuples stay where no tuple's address is written -/
theorem sqT_upd {a : Addr} {o : HO} (hf : H a = none ∨ ∃ u, H a = some u ∧ Mut (some u)) {b : Addr} {vs : List V} (t : SqT K H b vs) : SqT K (upd H a o) b vs := by
  have ne : ∀ u, H b = some u → ¬ Mut (some u) → b ≠ a := fun u e hn z => by
    subst z
    rcases hf with q | ⟨w, q, mu⟩
    · rw [q] at e; cases e
    · rw [q] at e; cases e; exact hn mu
  rcases t with (t | ⟨ob, t⟩) | t
  · exact .inl (.inl (by rw [upd_ne (ne _ t fun z => z)]; exact t))
  · exact .inl (.inr ⟨ob, by rw [upd_ne (ne _ t fun z => z)]; exact t⟩)
  · exact .inr t
theorem upd_some {a b : Addr} {o u : HO} (e : H b = some u) : ∃ w, upd H a o b = some w := by
  by_cases z : b = a
  · subst z; exact ⟨o, upd_same⟩
  · exact ⟨u, by rw [upd_ne z]; exact e⟩
theorem Ext.new {a : Addr} {o : HO} (hf : H a = none) : Ext K m H m (upd H a o) := ⟨fun _ _ e => e, fun _ _ t => sqT_upd (.inl hf) t, fun _ _ e => .inl e, fun _ _ e => upd_some e, fun b u e _ => by
  rw [upd_ne (ne_of_none e hf)]
  exact e⟩
theorem Ext.upd {i : Nat} {a : Addr} {o : HO} (hi : m i = some a) (hf : ∃ u, H a = some u ∧ Mut (some u)) : Ext K m H m (upd H a o) := ⟨fun _ _ e => e, fun _ _ t => sqT_upd (.inr hf) t, fun _ _ e => .inl e, fun _ _ e => upd_some e, fun b u e hn => by
  rw [upd_ne fun z => hn i (by rw [hi, z])]
  exact e⟩
/-- nothing of ours is written -/
theorem RH.keep (R : RH K m H h) (e : Ext K m H m H') (k : ∀ i a, m i = some a → H' a = H a) : RH K m H' h :=
  ⟨R.lt, R.ge, R.inj, fun i a hi => by
    obtain ⟨o, h1, h2⟩ := R.ob i a hi
    exact ⟨o, h1, h2.move e (k i a hi)⟩, R.at_⟩
theorem RH.fresh (R : RH K m H h) {p : Addr} {o : HO} (hp : H p = none) : Ext K m H m (upd H p o) ∧ RH K m (upd H p o) h := by
  have e : Ext K m H m (upd H p o) := Ext.new hp
  refine ⟨e, R.keep e fun i a hi => upd_ne fun z => ?_⟩
  obtain ⟨u, q⟩ := R.trk hi
  rw [z, hp] at q
  cases q
def madd (m : Mp) (n : Nat) (p : Addr) : Mp := fun i => match Nat.beq i n with | true => some p | false => m i
theorem madd_same {n : Nat} {p : Addr} : madd m n p n = some p := by unfold madd; rw [beqN, decide_eq_true rfl]
theorem madd_ne {n i : Nat} {p : Addr} (e : i ≠ n) : madd m n p i = m i := by unfold madd; rw [beqN, decide_eq_false e]
theorem madd_le (R : RH K m H h) {p : Addr} {i : Nat} {a : Addr} (e : m i = some a) : madd m h.n p i = some a := by
  rw [madd_ne (Nat.ne_of_lt (R.lt i a e))]
  exact e
mutual
theorem RU.wid (e : ∀ i a, m i = some a → m' i = some a) : ∀ (u : U) (v : V), RU K m H u v → RU K m' H u v
  | .non, v, r => r
  | .bl b, v, r => r
  | .int i, v, r => r
  | .str x, v, r => r
  | .con w, v, r => r
  | .ref i, v, r => by
    obtain ⟨a, ha, rfl⟩ := r
    exact ⟨a, e i a ha, rfl⟩
  | .tup us, v, r => by
    obtain ⟨a, vs, rfl, hs, r⟩ := r
    exact ⟨a, vs, rfl, hs, RUs.wid e us vs r⟩
theorem RUs.wid (e : ∀ i a, m i = some a → m' i = some a) : ∀ (us : List U) (vs : List V), RUs K m H us vs → RUs K m' H us vs
  | [], vs, r => r
  | u :: us, vs, r => by
    obtain ⟨v, r', rfl, h1, h2⟩ := r
    exact ⟨v, r', rfl, RU.wid e u v h1, RUs.wid e us r' h2⟩
end
theorem RF.wid (e : ∀ i a, m i = some a → m' i = some a) : ∀ (us : List (Nm × U)) (vs : List (Str × V)), RF K m H us vs → RF K m' H us vs
  | [], vs, r => r
  | (x, u) :: us, vs, r => by
    obtain ⟨v, r', rfl, h1, h2⟩ := r
    exact ⟨v, r', rfl, h1.wid e, RF.wid e us r' h2⟩
theorem RKv.wid (e : ∀ i a, m i = some a → m' i = some a) : ∀ (us : List (U × U)) (vs : List (Key × V)), RKv K m H us vs → RKv K m' H us vs
  | [], vs, r => r
  | (x, u) :: us, vs, r => by
    obtain ⟨q, v, r', rfl, hk, h1, h2⟩ := r
    exact ⟨q, v, r', rfl, hk, h1.wid e, RKv.wid e us r' h2⟩
theorem RO.mono {o : OB} {a : Addr} (r : RO K m H o a) (e : ∀ i a, m i = some a → m' i = some a) : RO K m' H o a := by
  cases o with
  | lst us => obtain ⟨vs, h1, h2⟩ := r; exact ⟨vs, h1, h2.wid e⟩
  | dct us => obtain ⟨vs, h1, h2⟩ := r; exact ⟨vs, h1, h2.wid e⟩
  | ins C us => obtain ⟨A, dx, vs, h0, h1, h2⟩ := r; exact ⟨A, dx, vs, h0, h1, h2.wid e⟩
  | rol us => obtain ⟨vs, h1, h3, h2⟩ := r; exact ⟨vs, h1, h3, h2.wid e⟩
  | ptp us => obtain ⟨o, vs, h1, h3, h2⟩ := r; exact ⟨o, vs, h1, h3, h2.wid e⟩
  | tab C q => exact r
/-- a new object, of ours -/
theorem RH.add (R : RH K m H h) {p : Addr} {o : OB} (hn : h.n + 1 < lim) (hp : ∀ i a, m i = some a → a ≠ p) (r : RO K (madd m h.n p) H o p) : RH K (madd m h.n p) H (h.new o) where
  lt := fun i a e => by
    by_cases q : i = h.n
    · subst q; exact Nat.lt_succ_self _
    · rw [madd_ne q] at e; exact Nat.lt_succ_of_lt (R.lt i a e)
  ge := hn
  inj := fun i j a e1 e2 => by
    by_cases q : i = h.n
    · by_cases q2 : j = h.n
      · rw [q, q2]
      · rw [q, madd_same] at e1
        rw [madd_ne q2] at e2
        cases e1
        exact absurd rfl (hp _ _ e2)
    · rw [madd_ne q] at e1
      by_cases q2 : j = h.n
      · rw [q2, madd_same] at e2
        cases e2
        exact absurd rfl (hp _ _ e1)
      · rw [madd_ne q2] at e2
        exact R.inj i j a e1 e2
  ob := fun i a e => by
    rw [Hq.get_new R.ge]
    by_cases q : i = h.n
    · rw [q, madd_same] at e
      cases e
      rw [if_pos q]
      exact ⟨o, rfl, r⟩
    · rw [madd_ne q] at e
      rw [if_neg q]
      obtain ⟨u, h1, h2⟩ := R.ob i a e
      exact ⟨u, h1, h2.mono (fun _ _ e => madd_le R e)⟩
  at_ := fun i u e => by
    rw [Hq.get_new R.ge] at e
    by_cases q : i = h.n
    · exact ⟨p, by rw [q, madd_same]⟩
    · rw [if_neg q] at e
      obtain ⟨a, ha⟩ := R.at_ i u e
      exact ⟨a, by rw [madd_ne q]; exact ha⟩
/-- an object of ours is changed -/
theorem RH.put (R : RH K m H h) {i : Nat} {a : Addr} {o : OB} {u ho : HO} (hi : m i = some a) (hu : H a = some u) (mu : Mut (some u)) (r : RO K m (L2.upd H a ho) o a) : Ext K m H m (L2.upd H a ho) ∧ RH K m (L2.upd H a ho) (h.set i o) := by
  have e : Ext K m H m (L2.upd H a ho) := Ext.upd hi ⟨u, hu, mu⟩
  have hl : i < lim := Nat.lt_trans (R.lt i a hi) R.ge
  refine ⟨e, R.lt, R.ge, R.inj, fun j b hj => ?_, fun j w q => ?_⟩
  · rw [Hq.get_set hl]
    by_cases q : j = i
    · subst q
      rw [hi] at hj; cases hj
      rw [if_pos rfl]
      exact ⟨o, rfl, r⟩
    · rw [if_neg q]
      obtain ⟨w, h1, h2⟩ := R.ob j b hj
      exact ⟨w, h1, h2.move e (upd_ne fun z => q (R.inj _ _ _ hj (z ▸ hi)))⟩
  · rw [Hq.get_set hl] at q
    by_cases z : j = i
    · subst z; exact ⟨a, hi⟩
    · rw [if_neg z] at q
      exact R.at_ j w q

/-! ### outcomes -/
inductive Rs (α : Type) where
  | ok (a : α) | ex (C : Nm) (fs : List (Nm × U))
abbrev Env := List (Option U)
abbrev MF (α : Type) := Env → Hq → Option (Rs α × Hq)
def RE (K : PySem.W.Frag) (m : Mp) (H : Hp) : Env → L2.St → Prop
  | [], σ => σ = []
  | none :: r, σ => ∃ o s, σ = o :: s ∧ RE K m H r s
  | some u :: r, σ => ∃ v s, σ = some v :: s ∧ RU K m H u v ∧ RE K m H r s
theorem RE.mono (e : Ext K m H m' H') : ∀ {r : Env} {σ : L2.St}, RE K m H r σ → RE K m' H' r σ
  | [], σ, q => q
  | none :: r, σ, q => by obtain ⟨o, s, rfl, q⟩ := q; exact ⟨o, s, rfl, RE.mono e q⟩
  | some u :: r, σ, q => by obtain ⟨o, s, rfl, q1, q⟩ := q; exact ⟨o, s, rfl, q1.mono e, RE.mono e q⟩
theorem RE.at : ∀ {r : Env} {σ : L2.St} {i : Nat} {u : U}, RE K m H r σ → r[i]? = some (some u) → ∃ v, σ[i]? = some (some v) ∧ RU K m H u v
  | [], σ, i, u, q, e => by simp at e
  | none :: r, σ, i, u, q, e => by
    obtain ⟨o, s, rfl, q⟩ := q
    cases i with
    | zero => simp at e
    | succ i => exact RE.at (i := i) q (by simpa using e)
  | some w :: r, σ, i, u, q, e => by
    obtain ⟨o, s, rfl, q1, q⟩ := q
    cases i with
    | zero => simp at e; subst e; exact ⟨o, rfl, q1⟩
    | succ i => exact RE.at (i := i) q (by simpa using e)
theorem RE.set : ∀ {r : Env} {σ : L2.St} (i : Nat) {u : U} {v : V}, RE K m H r σ → RU K m H u v → RE K m H (r.set i (some u)) (σ.set i (some v))
  | [], σ, i, u, v, q, e => by rw [show σ = [] from q]; exact rfl
  | none :: r, σ, i, u, v, q, e => by
    obtain ⟨o, s, rfl, q⟩ := q
    cases i with
    | zero => exact ⟨v, s, rfl, e, q⟩
    | succ i => exact ⟨o, s.set i (some v), rfl, RE.set i q e⟩
  | some w :: r, σ, i, u, v, q, e => by
    obtain ⟨o, s, rfl, q1, q⟩ := q
    cases i with
    | zero => exact ⟨v, s, rfl, e, q⟩
    | succ i => exact ⟨o, s.set i (some v), rfl, q1, RE.set i q e⟩
/-- what an exception must meet -/
def OutX (K : PySem.W.Frag) (m : Mp) (H : Hp) (h' : Hq) (E : XK) (C : Nm) (fs : List (Nm × U)) : Prop :=
  ∀ m' H' d vs A, Ext K m H m' H' → RH K m' H' h' → H' d = some (.xd vs) → RF K m' H' fs vs → PySem.W.nsIn K mainGlobals (st C) = some (some (.ref A)) → E (.ref A) (some d) H'
def OutV (K : PySem.W.Frag) (m : Mp) (H : Hp) (E : XK) (Q : VK) : Rs U × Hq → Prop
  | (.ok u, h') => ∀ m' H' v, Ext K m H m' H' → RH K m' H' h' → RU K m' H' u v → Q v H'
  | (.ex C fs, h') => OutX K m H h' E C fs
def OutB (K : PySem.W.Frag) (m : Mp) (H : Hp) (E : XK) (Q : Bool → Hp → Prop) : Rs Bool × Hq → Prop
  | (.ok b, h') => ∀ m' H', Ext K m H m' H' → RH K m' H' h' → Q b H'
  | (.ex C fs, h') => OutX K m H h' E C fs
def OutA (K : PySem.W.Frag) (m : Mp) (H : Hp) (E : XK) (Q : List V → Hp → Prop) : Rs (List U) × Hq → Prop
  | (.ok us, h') => ∀ m' H' vs, Ext K m H m' H' → RH K m' H' h' → RUs K m' H' us vs → Q vs H'
  | (.ex C fs, h') => OutX K m H h' E C fs
/-- a reading met by a run -/
def Sim (K : PySem.W.Frag) (E : XK) (t : TE) (f : MF U) : Prop := ∀ m h env σ H r (Q : VK), RE K m H env σ → RH K m H h → f env h = some r → OutV K m H E Q r → t σ H Q
def SimT (K : PySem.W.Frag) (E : XK) (t : TT) (f : MF Bool) : Prop := ∀ m h env σ H r (Q : Bool → Hp → Prop), RE K m H env σ → RH K m H h → f env h = some r → OutB K m H E Q r → t σ H Q
def SimA (K : PySem.W.Frag) (E : XK) (t : TA) (f : MF (List U)) : Prop := ∀ m h env σ H r (Q : List V → Hp → Prop), RE K m H env σ → RH K m H h → f env h = some r → OutA K m H E Q r → t σ H Q
theorem OutX.mono {E : XK} {C : Nm} {fs : List (Nm × U)} (e : Ext K m H m' H') (o : OutX K m H h' E C fs) : OutX K m' H' h' E C fs := fun m2 H2 d vs A e2 R hd rf hA => o m2 H2 d vs A (e.trans e2) R hd rf hA
theorem OutV.mono {E : XK} {Q : VK} {r : Rs U × Hq} (e : Ext K m H m' H') (o : OutV K m H E Q r) : OutV K m' H' E Q r := by
  obtain ⟨r, g⟩ := r
  cases r with
  | ok u => exact fun m2 H2 v e2 R q => o m2 H2 v (e.trans e2) R q
  | ex C fs => exact OutX.mono e o
theorem OutB.mono {E : XK} {Q : Bool → Hp → Prop} {r : Rs Bool × Hq} (e : Ext K m H m' H') (o : OutB K m H E Q r) : OutB K m' H' E Q r := by
  obtain ⟨r, g⟩ := r
  cases r with
  | ok u => exact fun m2 H2 e2 R => o m2 H2 (e.trans e2) R
  | ex C fs => exact OutX.mono e o
theorem OutA.mono {E : XK} {Q : List V → Hp → Prop} {r : Rs (List U) × Hq} (e : Ext K m H m' H') (o : OutA K m H E Q r) : OutA K m' H' E Q r := by
  obtain ⟨r, g⟩ := r
  cases r with
  | ok u => exact fun m2 H2 v e2 R q => o m2 H2 v (e.trans e2) R q
  | ex C fs => exact OutX.mono e o

/-! ### one after the other -/
def bnd {α β : Type} (x : Option (Rs α × Hq)) (g : α → Hq → Option (Rs β × Hq)) : Option (Rs β × Hq) := match x with
  | some (.ok a, h) => g a h
  | some (.ex C fs, h) => some (.ex C fs, h)
  | none => none
def ret {α : Type} (a : α) (h : Hq) : Option (Rs α × Hq) := some (.ok a, h)
theorem bnd_inv {α β : Type} {x : Option (Rs α × Hq)} {g : α → Hq → Option (Rs β × Hq)} {r : Rs β × Hq} (e : bnd x g = some r) :
    (∃ a h, x = some (.ok a, h) ∧ g a h = some r) ∨ ∃ C fs h, x = some (.ex C fs, h) ∧ r = (.ex C fs, h) := by
  match x, e with
  | some (.ok a, h), e => exact .inl ⟨a, h, rfl, e⟩
  | some (.ex C fs, h), e => exact .inr ⟨C, fs, h, rfl, (Option.some.inj e).symm⟩
variable {E : XK}
/-- from an expression on -/
theorem Sim.on {t : TE} {f : MF U} (s : Sim K E t f) {β : Type} {g : U → Hq → Option (Rs β × Hq)} {env : Env} {σ : L2.St} {r : Rs β × Hq} {Q : VK} (re : RE K m H env σ) (R : RH K m H h) (e : bnd (f env h) g = some r)
    (hx : ∀ C fs h', r = (.ex C fs, h') → OutX K m H h' E C fs) (k : ∀ u h1 m1 H1 v, g u h1 = some r → Ext K m H m1 H1 → RH K m1 H1 h1 → RU K m1 H1 u v → Q v H1) : t σ H Q := by
  rcases bnd_inv e with ⟨u, h1, e1, e2⟩ | ⟨C, fs, h1, e1, e2⟩
  · exact s m h env σ H _ Q re R e1 fun m1 H1 v x1 R1 q1 => k u h1 m1 H1 v e2 x1 R1 q1
  · exact s m h env σ H _ Q re R e1 (hx C fs h1 e2)
theorem SimT.on {t : TT} {f : MF Bool} (s : SimT K E t f) {β : Type} {g : Bool → Hq → Option (Rs β × Hq)} {env : Env} {σ : L2.St} {r : Rs β × Hq} {Q : Bool → Hp → Prop} (re : RE K m H env σ) (R : RH K m H h) (e : bnd (f env h) g = some r)
    (hx : ∀ C fs h', r = (.ex C fs, h') → OutX K m H h' E C fs) (k : ∀ b h1 m1 H1, g b h1 = some r → Ext K m H m1 H1 → RH K m1 H1 h1 → Q b H1) : t σ H Q := by
  rcases bnd_inv e with ⟨u, h1, e1, e2⟩ | ⟨C, fs, h1, e1, e2⟩
  · exact s m h env σ H _ Q re R e1 fun m1 H1 x1 R1 => k u h1 m1 H1 e2 x1 R1
  · exact s m h env σ H _ Q re R e1 (hx C fs h1 e2)
theorem SimA.on {t : TA} {f : MF (List U)} (s : SimA K E t f) {β : Type} {g : List U → Hq → Option (Rs β × Hq)} {env : Env} {σ : L2.St} {r : Rs β × Hq} {Q : List V → Hp → Prop} (re : RE K m H env σ) (R : RH K m H h) (e : bnd (f env h) g = some r)
    (hx : ∀ C fs h', r = (.ex C fs, h') → OutX K m H h' E C fs) (k : ∀ us h1 m1 H1 vs, g us h1 = some r → Ext K m H m1 H1 → RH K m1 H1 h1 → RUs K m1 H1 us vs → Q vs H1) : t σ H Q := by
  rcases bnd_inv e with ⟨u, h1, e1, e2⟩ | ⟨C, fs, h1, e1, e2⟩
  · exact s m h env σ H _ Q re R e1 fun m1 H1 v x1 R1 q1 => k u h1 m1 H1 v e2 x1 R1 q1
  · exact s m h env σ H _ Q re R e1 (hx C fs h1 e2)
theorem OutV.x {Q : VK} {r : Rs U × Hq} (o : OutV K m H E Q r) : ∀ C fs h', r = (.ex C fs, h') → OutX K m H h' E C fs := fun C fs h' e => by subst e; exact o
theorem OutB.x {Q : Bool → Hp → Prop} {r : Rs Bool × Hq} (o : OutB K m H E Q r) : ∀ C fs h', r = (.ex C fs, h') → OutX K m H h' E C fs := fun C fs h' e => by subst e; exact o
theorem OutA.x {Q : List V → Hp → Prop} {r : Rs (List U) × Hq} (o : OutA K m H E Q r) : ∀ C fs h', r = (.ex C fs, h') → OutX K m H h' E C fs := fun C fs h' e => by subst e; exact o

/-! ### expressions -/
def eVar (i : Nat) : MF U := fun env h => match env[i]? with | some (some u) => ret u h | _ => none
theorem sim_var (i : Nat) : Sim K E (tVar i) (eVar i) := fun m h env σ H r Q re R e o => by
  unfold eVar at e
  split at e
  · rename_i u q
    cases e
    obtain ⟨v, h1, h2⟩ := re.at q
    exact ⟨v, h1, o m H v .refl R h2⟩
  · cases e
def eC (u : U) : MF U := fun _ h => ret u h
theorem sim_c {v : V} {u : U} (q : ∀ m H, RU K m H u v) : Sim K E (tC v) (eC u) := fun m h env σ H r Q re R e o => by
  cases e
  exact o m H v .refl R (q m H)
theorem sim_int {i : Int} : Sim K E (tC (.int i)) (eC (.int i)) := sim_c fun _ _ => rfl
theorem sim_bl {i : Bool} : Sim K E (tC (.bl i)) (eC (.bl i)) := sim_c fun _ _ => rfl
theorem sim_non : Sim K E (tC .non) (eC .non) := sim_c fun _ _ => rfl
theorem sim_str {x : Str} {y : List Nat} (e : x = st y) : Sim K E (tC (.str x)) (eC (.str y)) := sim_c fun _ _ => by rw [e]; exact rfl
theorem sim_con {v : V} : Sim K E (tC v) (eC (.con v)) := sim_c fun _ _ => rfl
/-- an operation on two values -/
def SimR (K : PySem.W.Frag) (r : R2) (g : U → U → Hq → Option (U × Hq)) : Prop :=
  ∀ m h H x y vx vy u h' (Q : VK), RH K m H h → RU K m H x vx → RU K m H y vy → g x y h = some (u, h') → (∀ m' H' v, Ext K m H m' H' → RH K m' H' h' → RU K m' H' u v → Q v H') → r vx vy H Q
def lf (x : Option (U × Hq)) : Option (Rs U × Hq) := match x with | some (u, h) => some (.ok u, h) | none => none
theorem lf_inv {x : Option (U × Hq)} {r : Rs U × Hq} (e : lf x = some r) : ∃ u h, x = some (u, h) ∧ r = (.ok u, h) := by
  match x, e with
  | some (u, h), e => exact ⟨u, h, rfl, (Option.some.inj e).symm⟩
def eOp (g : U → U → Hq → Option (U × Hq)) (fa fb : MF U) : MF U := fun env h => bnd (fa env h) fun x h1 => bnd (fb env h1) fun y h2 => lf (g x y h2)
theorem sim_op {r : R2} {g : U → U → Hq → Option (U × Hq)} {ta tb : TE} {fa fb : MF U} (hr : SimR K r g) (sa : Sim K E ta fa) (sb : Sim K E tb fb) : Sim K E (tOp r ta tb) (eOp g fa fb) := fun m h env σ H q Q re R e o => by
  refine sa.on re R e o.x fun x h1 m1 H1 vx e1 x1 R1 q1 => ?_
  refine sb.on (re.mono x1) R1 e1 (o.mono x1).x fun y h2 m2 H2 vy e2 x2 R2 q2 => ?_
  obtain ⟨u, h3, e3, rfl⟩ := lf_inv e2
  exact hr m2 h2 H2 x y vx vy u h3 Q R2 (q1.mono x2) q2 e3 (o.mono (x1.trans x2))
def eNil : MF (List U) := fun _ h => ret [] h
def eCons (fa : MF U) (fr : MF (List U)) : MF (List U) := fun env h => bnd (fa env h) fun u h1 => bnd (fr env h1) fun us h2 => ret (u :: us) h2
theorem sim_nil : SimA K E tNil eNil := fun m h env σ H r Q re R e o => by
  cases e
  exact o m H [] .refl R rfl
theorem sim_cons {ta : TE} {tr : TA} {fa : MF U} {fr : MF (List U)} (sa : Sim K E ta fa) (sr : SimA K E tr fr) : SimA K E (tCons ta tr) (eCons fa fr) := fun m h env σ H r Q re R e o => by
  refine sa.on re R e o.x fun u h1 m1 H1 v e1 x1 R1 q1 => ?_
  refine sr.on (re.mono x1) R1 e1 (o.mono x1).x fun us h2 m2 H2 vs e2 x2 R2 q2 => ?_
  cases e2
  exact o m2 H2 (v :: vs) (x1.trans x2) R2 ⟨v, vs, rfl, q1.mono x2, q2⟩
/-- displays -/
def lenOk {α : Type} (n : Nat) (us : List α) : Bool := match us with
  | [] => true
  | _ :: r => match n with | 0 => false | n + 1 => lenOk n r
theorem lenOk_le {α : Type} : ∀ {n : Nat} {us : List α}, lenOk n us = true → us.length ≤ n
  | n, [], _ => Nat.zero_le _
  | 0, _ :: _, h => by simp [lenOk] at h
  | n + 1, _ :: r, h => Nat.succ_le_succ (lenOk_le (n := n) (us := r) h)
def szOk {α : Type} (us : List α) : Bool := lenOk 100000 us
theorem szOk_le {α : Type} {us : List α} (h : szOk us = true) : us.length < sizeLine := Nat.lt_of_le_of_lt (lenOk_le h) (by decide)
def eTup (fa : MF (List U)) : MF U := fun env h => bnd (fa env h) fun us h1 => match szOk us with | true => ret (.tup us) h1 | false => none
theorem sim_tup {t : TA} {f : MF (List U)} (s : SimA K E t f) : Sim K E (tTup t) (eTup f) := fun m h env σ H r Q re R e o => by
  refine s.on re R e o.x fun us h1 m1 H1 vs e1 x1 R1 q1 => ?_
  split at e1
  · rename_i hz
    cases e1
    refine ⟨by rw [← q1.len]; exact Nat.le_of_lt (szOk_le hz), fun p hp => ?_⟩
    obtain ⟨e2, R2⟩ := R1.fresh (o := .tup vs) hp
    exact o m1 _ _ (x1.trans e2) R2 ⟨p, vs, rfl, .inl (.inl upd_same), q1.mono e2⟩
  · cases e1
/-- a new object of ours -/
def mk (o : OB) (h : Hq) : Option (U × Hq) := match Nat.blt (Nat.succ h.n) lim with | true => some (.ref h.n, h.new o) | false => none
theorem mk_inv {o : OB} {u : U} {h h' : Hq} (e : mk o h = some (u, h')) : h.n + 1 < lim ∧ u = .ref h.n ∧ h' = h.new o := by
  unfold mk at e
  split at e
  · rename_i q
    cases e
    exact ⟨by unfold Nat.blt at q; have := Nat.le_of_ble_eq_true q; omega, rfl, rfl⟩
  · cases e
/-- it is laid at a new address -/
theorem RH.laid (R : RH K m H h) {p : Addr} {o : OB} {ho : HO} (hn : h.n + 1 < lim) (hp : H p = none) (r : ∀ m' H', Ext K m H m' H' → H' p = some ho → RO K m' H' o p) :
    Ext K m H (madd m h.n p) (upd H p ho) ∧ RH K (madd m h.n p) (upd H p ho) (h.new o) ∧ RU K (madd m h.n p) (upd H p ho) (.ref h.n) (.ref p) := by
  obtain ⟨e, R1⟩ := R.fresh (o := ho) hp
  have e2 : Ext K m H (madd m h.n p) (upd H p ho) := ⟨fun i a q => madd_le R q, e.t, fun i a q => by
    by_cases z : i = h.n
    · subst z
      rw [madd_same] at q
      cases q
      exact .inr hp
    · rw [madd_ne z] at q
      exact .inl q, e.d, e.k⟩
  refine ⟨e2, R1.add hn (fun i a hi z => ?_) (r _ _ e2 upd_same), p, madd_same, rfl⟩
  obtain ⟨u, q⟩ := R.trk hi
  rw [z, hp] at q
  cases q
def eLst (fa : MF (List U)) : MF U := fun env h => bnd (fa env h) fun us h1 => match szOk us with | true => lf (mk (.lst us) h1) | false => none
theorem sim_lst {t : TA} {f : MF (List U)} (s : SimA K E t f) : Sim K E (tLst t) (eLst f) := fun m h env σ H r Q re R e o => by
  refine s.on re R e o.x fun us h1 m1 H1 vs e1 x1 R1 q1 => ?_
  split at e1
  · rename_i hz
    obtain ⟨u, h2, e2, rfl⟩ := lf_inv e1
    obtain ⟨hn, rfl, rfl⟩ := mk_inv e2
    refine ⟨by rw [← q1.len]; exact Nat.le_of_lt (szOk_le hz), fun p hp => ?_⟩
    obtain ⟨e3, R3, u3⟩ := R1.laid (o := .lst us) (ho := .lst vs) hn hp fun m' H' x hp' => ⟨vs, hp', q1.mono x⟩
    exact o _ _ _ (x1.trans e3) R3 u3
  · cases e1
/-! tests -/
def eB (f : MF U) : MF Bool := fun env h => bnd (f env h) fun u h1 => match u with | .bl b => ret b h1 | _ => none
theorem sim_b {t : TE} {f : MF U} (s : Sim K E t f) : SimT K E (tB t) (eB f) := fun m h env σ H r Q re R e o => by
  refine s.on re R e o.x fun u h1 m1 H1 v e1 x1 R1 q1 => ?_
  split at e1
  · cases e1
    cases q1
    exact ⟨_, rfl, o m1 H1 x1 R1⟩
  · cases e1
def eAnd (f g : MF Bool) : MF Bool := fun env h => bnd (f env h) fun b h1 => match b with | true => g env h1 | false => ret false h1
def eOr (f g : MF Bool) : MF Bool := fun env h => bnd (f env h) fun b h1 => match b with | true => ret true h1 | false => g env h1
def eNot (f : MF Bool) : MF Bool := fun env h => bnd (f env h) fun b h1 => ret (!b) h1
theorem sim_and {t u : TT} {f g : MF Bool} (s : SimT K E t f) (s2 : SimT K E u g) : SimT K E (tAnd t u) (eAnd f g) := fun m h env σ H r Q re R e o => by
  refine s.on re R e o.x fun b h1 m1 H1 e1 x1 R1 => ?_
  cases b with
  | true => exact iteT (s2 m1 h1 env σ H1 r Q (re.mono x1) R1 e1 (o.mono x1))
  | false =>
    cases e1
    exact iteF (o m1 H1 x1 R1)
theorem sim_or {t u : TT} {f g : MF Bool} (s : SimT K E t f) (s2 : SimT K E u g) : SimT K E (tOr t u) (eOr f g) := fun m h env σ H r Q re R e o => by
  refine s.on re R e o.x fun b h1 m1 H1 e1 x1 R1 => ?_
  cases b with
  | false => exact iteF (s2 m1 h1 env σ H1 r Q (re.mono x1) R1 e1 (o.mono x1))
  | true =>
    cases e1
    exact iteT (o m1 H1 x1 R1)
theorem sim_not {t : TT} {f : MF Bool} (s : SimT K E t f) : SimT K E (tNot t) (eNot f) := fun m h env σ H r Q re R e o => by
  refine s.on re R e o.x fun b h1 m1 H1 e1 x1 R1 => ?_
  cases e1
  exact o m1 H1 x1 R1
/-- and, or of bools as values -/
def eAndV (f g : MF U) : MF U := fun env h => bnd (f env h) fun u h1 => match u with | .bl true => g env h1 | .bl false => ret (.bl false) h1 | _ => none
def eOrV (f g : MF U) : MF U := fun env h => bnd (f env h) fun u h1 => match u with | .bl false => g env h1 | .bl true => ret (.bl true) h1 | _ => none
def eNotV (f : MF U) : MF U := fun env h => bnd (f env h) fun u h1 => match u with | .bl b => ret (.bl (!b)) h1 | _ => none
theorem sim_andV {t u : TE} {f g : MF U} (s : Sim K E t f) (s2 : Sim K E u g) : Sim K E (tAndV t u) (eAndV f g) := fun m h env σ H r Q re R e o => by
  refine s.on re R e o.x fun u h1 m1 H1 v e1 x1 R1 q1 => ?_
  split at e1
  · cases q1
    exact ⟨_, rfl, iteT (s2 m1 h1 env σ H1 r Q (re.mono x1) R1 e1 (o.mono x1))⟩
  · cases q1
    cases e1
    exact ⟨_, rfl, iteF (o m1 H1 _ x1 R1 rfl)⟩
  · cases e1
theorem sim_orV {t u : TE} {f g : MF U} (s : Sim K E t f) (s2 : Sim K E u g) : Sim K E (tOrV t u) (eOrV f g) := fun m h env σ H r Q re R e o => by
  refine s.on re R e o.x fun u h1 m1 H1 v e1 x1 R1 q1 => ?_
  split at e1
  · cases q1
    exact ⟨_, rfl, iteF (s2 m1 h1 env σ H1 r Q (re.mono x1) R1 e1 (o.mono x1))⟩
  · cases q1
    cases e1
    exact ⟨_, rfl, iteT (o m1 H1 _ x1 R1 rfl)⟩
  · cases e1
theorem sim_notV {t : TE} {f : MF U} (s : Sim K E t f) : Sim K E (tNotV t) (eNotV f) := fun m h env σ H r Q re R e o => by
  refine s.on re R e o.x fun u h1 m1 H1 v e1 x1 R1 q1 => ?_
  split at e1
  · cases q1
    cases e1
    exact ⟨_, rfl, o m1 H1 _ x1 R1 rfl⟩
  · cases e1
def eIf (c : MF Bool) (f g : MF U) : MF U := fun env h => bnd (c env h) fun b h1 => match b with | true => f env h1 | false => g env h1
theorem sim_if {tc : TT} {t u : TE} {c : MF Bool} {f g : MF U} (sc : SimT K E tc c) (s : Sim K E t f) (s2 : Sim K E u g) : Sim K E (tIf tc t u) (eIf c f g) := fun m h env σ H r Q re R e o => by
  refine sc.on re R e o.x fun b h1 m1 H1 e1 x1 R1 => ?_
  cases b with
  | true => exact iteT (s m1 h1 env σ H1 r Q (re.mono x1) R1 e1 (o.mono x1))
  | false => exact iteF (s2 m1 h1 env σ H1 r Q (re.mono x1) R1 e1 (o.mono x1))
/-- a call of a built-in, by values -/
def SimC (K : PySem.W.Frag) (r : List V → Hp → VK → Prop) (g : List U → Hq → Option (U × Hq)) : Prop :=
  ∀ m h H xs vs u h' (Q : VK), RH K m H h → RUs K m H xs vs → g xs h = some (u, h') → (∀ m' H' v, Ext K m H m' H' → RH K m' H' h' → RU K m' H' u v → Q v H') → r vs H Q
def eCB (g : List U → Hq → Option (U × Hq)) (fa : MF (List U)) : MF U := fun env h => bnd (fa env h) fun us h1 => lf (g us h1)
theorem sim_cb {r : List V → Hp → VK → Prop} {g : List U → Hq → Option (U × Hq)} {t : TA} {f : MF (List U)} (hr : SimC K r g) (s : SimA K E t f) : Sim K E (tCB r t) (eCB g f) := fun m h env σ H q Q re R e o => by
  refine s.on re R e o.x fun us h1 m1 H1 vs e1 x1 R1 q1 => ?_
  obtain ⟨u, h3, e3, rfl⟩ := lf_inv e1
  exact hr m1 h1 H1 us vs u h3 Q R1 q1 e3 (o.mono x1)
/-- a call of a def -/
abbrev FF := List U → Hq → Option (Rs U × Hq)
def spQ (K : PySem.W.Frag) (n : Nat) (f : FF) : Sp := fun vs H Q E => vs.length = n ∧ ∃ m h us r, RUs K m H us vs ∧ RH K m H h ∧ f us h = some r ∧ OutV K m H E Q r
def eCall (f : FF) (fa : MF (List U)) : MF U := fun env h => bnd (fa env h) fun us h1 => f us h1
def chk {α : Type} : Nat → List α → Bool
  | 0, [] => true
  | n + 1, _ :: r => chk n r
  | _, _ => false
theorem chk_len {α : Type} : ∀ {n : Nat} {us : List α}, chk n us = true → us.length = n
  | 0, [], _ => rfl
  | n + 1, _ :: r, h => by simp [chk_len (n := n) (us := r) h]
  | 0, _ :: _, h => by simp [chk] at h
  | n + 1, [], h => by simp [chk] at h
/-- its arguments counted -/
def fn (n : Nat) (f : FF) : FF := fun us h => match chk n us with | true => f us h | false => none
theorem fn_inv {n : Nat} {f : FF} {us : List U} {h : Hq} {r : Rs U × Hq} (e : fn n f us h = some r) : us.length = n ∧ f us h = some r := by
  unfold fn at e
  split at e
  · rename_i q
    exact ⟨chk_len q, e⟩
  · cases e
theorem sim_call {n : Nat} {f : FF} {t : TA} {fa : MF (List U)} (s : SimA K E t fa) : Sim K E (tCall (spQ K n (fn n f)) [] E t) (eCall (fn n f) fa) := fun m h env σ H q Q re R e o => by
  refine s.on re R e o.x fun us h1 m1 H1 vs e1 x1 R1 q1 => ?_
  rw [List.append_nil]
  exact ⟨by rw [← q1.len]; exact (fn_inv e1).1, m1, h1, us, q, q1, R1, e1, o.mono x1⟩
end QE
/-! QC: statements, targets, loops, a def's body -/
namespace QE
open PySem L2
variable {K : PySem.W.Frag} {m m' m2 : Mp} {H H' H2 : Hp} {h h' : Hq} {E : XK}

inductive Fl where
  | nx | bk | ct | rt (u : U) | ex (C : Nm) (fs : List (Nm × U))
abbrev SO := Fl × Env × Hq
abbrev SF := Env → Hq → Option SO
def OutS (K : PySem.W.Frag) (m : Mp) (H : Hp) (E : XK) (D : Ends) : SO → Prop
  | (.nx, env, h') => ∀ m' H' σ', Ext K m H m' H' → RH K m' H' h' → RE K m' H' env σ' → D.nx σ' H'
  | (.bk, env, h') => ∀ m' H' σ', Ext K m H m' H' → RH K m' H' h' → RE K m' H' env σ' → D.bk σ' H'
  | (.ct, env, h') => ∀ m' H' σ', Ext K m H m' H' → RH K m' H' h' → RE K m' H' env σ' → D.ct σ' H'
  | (.rt u, _, h') => ∀ m' H' v, Ext K m H m' H' → RH K m' H' h' → RU K m' H' u v → D.rt v H'
  | (.ex C fs, _, h') => OutX K m H h' E C fs
def SimS (K : PySem.W.Frag) (E : XK) (t : TS) (f : SF) : Prop := ∀ m h env σ H r (D : Ends), RE K m H env σ → RH K m H h → f env h = some r → OutS K m H E D r → t D σ H
theorem OutS.mono {D : Ends} {r : SO} (e : Ext K m H m' H') (o : OutS K m H E D r) : OutS K m' H' E D r := by
  obtain ⟨r, env, g⟩ := r
  cases r with
  | nx => exact fun m2 H2 s e2 R q => o m2 H2 s (e.trans e2) R q
  | bk => exact fun m2 H2 s e2 R q => o m2 H2 s (e.trans e2) R q
  | ct => exact fun m2 H2 s e2 R q => o m2 H2 s (e.trans e2) R q
  | rt u => exact fun m2 H2 s e2 R q => o m2 H2 s (e.trans e2) R q
  | ex C fs => exact OutX.mono e o
def bnS {α : Type} (env : Env) (x : Option (Rs α × Hq)) (g : α → Hq → Option SO) : Option SO := match x with
  | some (.ok a, h) => g a h
  | some (.ex C fs, h) => some (.ex C fs, env, h)
  | none => none
theorem bnS_inv {α : Type} {env : Env} {x : Option (Rs α × Hq)} {g : α → Hq → Option SO} {r : SO} (e : bnS env x g = some r) :
    (∃ a h, x = some (.ok a, h) ∧ g a h = some r) ∨ ∃ C fs h, x = some (.ex C fs, h) ∧ r = (.ex C fs, env, h) := by
  match x, e with
  | some (.ok a, h), e => exact .inl ⟨a, h, rfl, e⟩
  | some (.ex C fs, h), e => exact .inr ⟨C, fs, h, rfl, (Option.some.inj e).symm⟩
theorem OutS.x {D : Ends} {r : SO} (o : OutS K m H E D r) : ∀ C fs env h', r = (.ex C fs, env, h') → OutX K m H h' E C fs := fun C fs env h' e => by subst e; exact o
theorem Sim.onS {t : TE} {f : MF U} (s : Sim K E t f) {g : U → Hq → Option SO} {env : Env} {σ : L2.St} {r : SO} {Q : VK} (re : RE K m H env σ) (R : RH K m H h) (e : bnS env (f env h) g = some r)
    (hx : ∀ C fs env h', r = (.ex C fs, env, h') → OutX K m H h' E C fs) (k : ∀ u h1 m1 H1 v, g u h1 = some r → Ext K m H m1 H1 → RH K m1 H1 h1 → RU K m1 H1 u v → Q v H1) : t σ H Q := by
  rcases bnS_inv e with ⟨u, h1, e1, e2⟩ | ⟨C, fs, h1, e1, e2⟩
  · exact s m h env σ H _ Q re R e1 fun m1 H1 v x1 R1 q1 => k u h1 m1 H1 v e2 x1 R1 q1
  · exact s m h env σ H _ Q re R e1 (hx C fs env h1 e2)
theorem SimT.onS {t : TT} {f : MF Bool} (s : SimT K E t f) {g : Bool → Hq → Option SO} {env : Env} {σ : L2.St} {r : SO} {Q : Bool → Hp → Prop} (re : RE K m H env σ) (R : RH K m H h) (e : bnS env (f env h) g = some r)
    (hx : ∀ C fs env h', r = (.ex C fs, env, h') → OutX K m H h' E C fs) (k : ∀ b h1 m1 H1, g b h1 = some r → Ext K m H m1 H1 → RH K m1 H1 h1 → Q b H1) : t σ H Q := by
  rcases bnS_inv e with ⟨u, h1, e1, e2⟩ | ⟨C, fs, h1, e1, e2⟩
  · exact s m h env σ H _ Q re R e1 fun m1 H1 x1 R1 => k u h1 m1 H1 e2 x1 R1
  · exact s m h env σ H _ Q re R e1 (hx C fs env h1 e2)

def sNext : SF := fun env h => some (.nx, env, h)
def sBreak : SF := fun env h => some (.bk, env, h)
def sCont : SF := fun env h => some (.ct, env, h)
def sNever : SF := fun _ _ => none
theorem sims_next : SimS K E tNext sNext := fun m h env σ H r D re R e o => by
  cases e
  exact o m H σ .refl R re
theorem sims_break : SimS K E tBreak sBreak := fun m h env σ H r D re R e o => by
  cases e
  exact o m H σ .refl R re
theorem sims_cont : SimS K E tCont sCont := fun m h env σ H r D re R e o => by
  cases e
  exact o m H σ .refl R re
theorem sims_never {t : TS} : SimS K E t sNever := fun m h env σ H r D re R e o => by cases e
def sSeq (f g : SF) : SF := fun env h => match f env h with
  | some (.nx, env', h') => g env' h'
  | r => r
theorem sims_seq {t u : TS} {f g : SF} (s : SimS K E t f) (s2 : SimS K E u g) : SimS K E (tSeq t u) (sSeq f g) := fun m h env σ H r D re R e o => by
  unfold sSeq at e
  split at e
  · rename_i env' h' e1
    exact s m h env σ H _ _ re R e1 fun m1 H1 σ1 x1 R1 re1 => s2 m1 h' env' σ1 H1 r D re1 R1 e (o.mono x1)
  · rename_i hn
    obtain ⟨fl, env', h'⟩ := r
    refine s m h env σ H _ _ re R e ?_
    cases fl with
    | nx => exact absurd e (hn env' h')
    | bk => exact o
    | ct => exact o
    | rt u => exact o
    | ex C fs => exact o
def sDrop (f : MF U) : SF := fun env h => bnS env (f env h) fun _ h1 => some (.nx, env, h1)
theorem sims_drop {t : TE} {f : MF U} (s : Sim K E t f) : SimS K E (tDrop t) (sDrop f) := fun m h env σ H r D re R e o => by
  refine s.onS re R e o.x fun u h1 m1 H1 v e1 x1 R1 q1 => ?_
  cases e1
  exact o m1 H1 σ x1 R1 (re.mono x1)
def sRet (f : MF U) : SF := fun env h => bnS env (f env h) fun u h1 => some (.rt u, env, h1)
theorem sims_ret {t : TE} {f : MF U} (s : Sim K E t f) : SimS K E (tRet t) (sRet f) := fun m h env σ H r D re R e o => by
  refine s.onS re R e o.x fun u h1 m1 H1 v e1 x1 R1 q1 => ?_
  cases e1
  exact o m1 H1 v x1 R1 q1
def sRetN : SF := fun env h => some (.rt .non, env, h)
theorem sims_retN : SimS K E tRetN sRetN := fun m h env σ H r D re R e o => by
  cases e
  exact o m H .non .refl R rfl
def sIf (c : MF Bool) (f g : SF) : SF := fun env h => bnS env (c env h) fun b h1 => match b with | true => f env h1 | false => g env h1
theorem sims_if {tc : TT} {t u : TS} {c : MF Bool} {f g : SF} (sc : SimT K E tc c) (s : SimS K E t f) (s2 : SimS K E u g) : SimS K E (tIfS tc t u) (sIf c f g) := fun m h env σ H r D re R e o => by
  refine sc.onS re R e o.x fun b h1 m1 H1 e1 x1 R1 => ?_
  cases b with
  | true => exact iteT (s m1 h1 env σ H1 r D (re.mono x1) R1 e1 (o.mono x1))
  | false => exact iteF (s2 m1 h1 env σ H1 r D (re.mono x1) R1 e1 (o.mono x1))

/-! ### targets -/
abbrev GF := U → Env → Hq → Option (Rs Env × Hq)
abbrev GFs := List U → Env → Hq → Option (Rs Env × Hq)
def OutG (K : PySem.W.Frag) (m : Mp) (H : Hp) (E : XK) (Q : L2.St → Hp → Prop) : Rs Env × Hq → Prop
  | (.ok env, h') => ∀ m' H' σ', Ext K m H m' H' → RH K m' H' h' → RE K m' H' env σ' → Q σ' H'
  | (.ex C fs, h') => OutX K m H h' E C fs
theorem OutG.mono {Q : L2.St → Hp → Prop} {r : Rs Env × Hq} (e : Ext K m H m' H') (o : OutG K m H E Q r) : OutG K m' H' E Q r := by
  obtain ⟨r, g⟩ := r
  cases r with
  | ok u => exact fun m2 H2 s e2 R q => o m2 H2 s (e.trans e2) R q
  | ex C fs => exact OutX.mono e o
theorem OutG.x {Q : L2.St → Hp → Prop} {r : Rs Env × Hq} (o : OutG K m H E Q r) : ∀ C fs h', r = (.ex C fs, h') → OutX K m H h' E C fs := fun C fs h' e => by subst e; exact o
def SimG (K : PySem.W.Frag) (E : XK) (g : TG) (f : GF) : Prop := ∀ m h env σ H u v r Q, RE K m H env σ → RH K m H h → RU K m H u v → f u env h = some r → OutG K m H E Q r → g v σ H Q
def SimGs (K : PySem.W.Frag) (E : XK) (g : TGs) (f : GFs) : Prop := ∀ m h env σ H us vs r Q, RE K m H env σ → RH K m H h → RUs K m H us vs → f us env h = some r → OutG K m H E Q r → g vs σ H Q
def gfName (i : Nat) : GF := fun u env h => ret (env.set i (some u)) h
theorem simg_name (i : Nat) : SimG K E (gName i) (gfName i) := fun m h env σ H u v r Q re R q e o => by
  cases e
  exact o m H _ .refl R (re.set i q)
def gfNil : GFs := fun us env h => match us with | [] => ret env h | _ => none
def gfCons (g : GF) (gs : GFs) : GFs := fun us env h => match us with | u :: r => bnd (g u env h) fun env' h' => gs r env' h' | [] => none
theorem simg_nil : SimGs K E gNil gfNil := fun m h env σ H us vs r Q re R q e o => by
  unfold gfNil at e
  split at e
  · cases e
    exact ⟨q, o m H σ .refl R re⟩
  · cases e
theorem simg_cons {g : TG} {gs : TGs} {f : GF} {fs : GFs} (s : SimG K E g f) (s2 : SimGs K E gs fs) : SimGs K E (gCons g gs) (gfCons f fs) := fun m h env σ H us vs r Q re R q e o => by
  unfold gfCons at e
  split at e
  · obtain ⟨v, w, rfl, q1, q2⟩ := q
    refine ⟨v, w, rfl, ?_⟩
    rcases bnd_inv e with ⟨env1, h1, e1, e2⟩ | ⟨C, fs, h1, e1, e2⟩
    · exact s m h env σ H _ v _ _ re R q1 e1 fun m1 H1 σ1 x1 R1 re1 => s2 m1 h1 env1 σ1 H1 _ w r Q re1 R1 (q2.mono x1) e2 (o.mono x1)
    · exact s m h env σ H _ v _ _ re R q1 e1 (o.x C fs h1 e2)
  · cases e
def gfTup (n : Nat) (gs : GFs) : GF := fun u env h => match u with | .tup us => (match chk n us with | true => gs us env h | false => none) | _ => none
theorem simg_tup {n : Nat} {g : TGs} {f : GFs} (s : SimGs K E g f) : SimG K E (gTup K n g) (gfTup n f) := fun m h env σ H u v r Q re R q e o => by
  unfold gfTup at e
  split at e
  · split at e
    · rename_i hc
      obtain ⟨a, vs, rfl, q1, q2⟩ := q
      exact ⟨a, vs, rfl, q1, by rw [← q2.len]; exact chk_len hc, s m h env σ H _ vs r Q re R q2 e o⟩
    · cases e
  · cases e
def sAsg (f : MF U) (g : GF) : SF := fun env h => bnS env (f env h) fun u h1 => bnS env (g u env h1) fun env' h2 => some (.nx, env', h2)
theorem sims_asg {t : TE} {g : TG} {f : MF U} {gf : GF} (s : Sim K E t f) (sg : SimG K E g gf) : SimS K E (tAsg t g) (sAsg f gf) := fun m h env σ H r D re R e o => by
  refine s.onS re R e o.x fun u h1 m1 H1 v e1 x1 R1 q1 => ?_
  rcases bnS_inv e1 with ⟨env2, h2, e2, e3⟩ | ⟨C, fs, h2, e2, e3⟩
  · cases e3
    exact sg m1 h1 env σ H1 u v _ _ (re.mono x1) R1 q1 e2 fun m2 H2 σ2 x2 R2 re2 => o m2 H2 σ2 (x1.trans x2) R2 re2
  · exact sg m1 h1 env σ H1 u v _ _ (re.mono x1) R1 q1 e2 (OutX.mono x1 (o.x C fs env h2 e3))

/-! ### what is walked -/
/-- at a turn: none: it is not served; some none: it stops -/
abbrev NX := Nat → Hq → Option (Option U)
structure ItR (K : PySem.W.Frag) (m : Mp) (H : Hp) (nx : NX) (J : It) : Prop where
  stop : ∀ i m' H' h', Ext K m H m' H' → RH K m' H' h' → nx i h' = some none → J.stop i H'
  go : ∀ i m' H' h' u, Ext K m H m' H' → RH K m' H' h' → nx i h' = some (some u) → J.go i H' ∧ ∀ x H2, J.yld i H' x H2 → Ext K m' H' m' H2 ∧ RH K m' H2 h' ∧ RU K m' H2 u x
def OutI (K : PySem.W.Frag) (m : Mp) (H : Hp) (E : XK) (Q : It → Hp → Prop) : Rs NX × Hq → Prop
  | (.ok nx, h') => ∀ m' H' J, Ext K m H m' H' → RH K m' H' h' → ItR K m' H' nx J → Q J H'
  | (.ex C fs, h') => OutX K m H h' E C fs
def SimI (K : PySem.W.Frag) (E : XK) (wi : TI) (f : MF NX) : Prop := ∀ m h env σ H r (Q : It → Hp → Prop), RE K m H env σ → RH K m H h → f env h = some r → OutI K m H E Q r → wi σ H Q
theorem SimI.onS {t : TI} {f : MF NX} (s : SimI K E t f) {g : NX → Hq → Option SO} {env : Env} {σ : L2.St} {r : SO} {Q : It → Hp → Prop} (re : RE K m H env σ) (R : RH K m H h) (e : bnS env (f env h) g = some r)
    (hx : ∀ C fs env h', r = (.ex C fs, env, h') → OutX K m H h' E C fs) (k : ∀ nx h1 m1 H1 J, g nx h1 = some r → Ext K m H m1 H1 → RH K m1 H1 h1 → ItR K m1 H1 nx J → Q J H1) : t σ H Q := by
  rcases bnS_inv e with ⟨u, h1, e1, e2⟩ | ⟨C, fs, h1, e1, e2⟩
  · exact s m h env σ H _ Q re R e1 fun m1 H1 J x1 R1 q1 => k u h1 m1 H1 J e2 x1 R1 q1
  · exact s m h env σ H _ Q re R e1 (hx C fs env h1 e2)
/-- the loop, by turns -/
def forL (nx : NX) (g : GF) (b : SF) : Nat → Nat → SF
  | 0, _, _, _ => none
  | f + 1, i, env, h => match nx i h with
    | none => none
    | some none => some (.nx, env, h)
    | some (some u) => bnS env (g u env h) fun env1 h1 => match b env1 h1 with
      | some (.nx, env2, h2) => forL nx g b f (Nat.succ i) env2 h2
      | some (.ct, env2, h2) => forL nx g b f (Nat.succ i) env2 h2
      | some (.bk, env2, h2) => some (.nx, env2, h2)
      | r => r
def fuel : Nat := 1000000
def sFor (fi : MF NX) (g : GF) (b : SF) : SF := fun env h => bnS env (fi env h) fun nx h1 => forL nx g b fuel 0 env h1
theorem sims_for {wi : TI} {g : TG} {tb : TS} {fi : MF NX} {gf : GF} {b : SF} (si : SimI K E wi fi) (sg : SimG K E g gf) (sb : SimS K E tb b) : SimS K E (tFor wi g tb) (sFor fi gf b) := fun m h env σ H r D re R e o => by
  refine si.onS re R e o.x fun nx h1 m1 H1 J e1 x1 R1 ij => ?_
  refine ⟨fun i n σ' H' => ∃ m' env' h', Ext K m1 H1 m' H' ∧ RE K m' H' env' σ' ∧ RH K m' H' h' ∧ forL nx gf b n i env' h' = some r, ⟨fuel, m1, env, h1, .refl, re.mono x1, R1, e1⟩, ?_⟩
  rintro i n σ' H' ⟨m', env', h', x2, re2, R2, e2⟩
  have o2 := o.mono (x1.trans x2)
  cases n with
  | zero => cases e2
  | succ n =>
    unfold forL at e2
    split at e2
    · cases e2
    · rename_i q
      cases e2
      exact .inl ⟨ij.stop i m' H' h' x2 R2 q, o2 m' H' σ' .refl R2 re2⟩
    · rename_i u q
      obtain ⟨hg, hy⟩ := ij.go i m' H' h' u x2 R2 q
      refine .inr ⟨hg, fun σ2 H2 => ∃ m2 env2 h2, Ext K m1 H1 m2 H2 ∧ RE K m2 H2 env2 σ2 ∧ RH K m2 H2 h2 ∧ forL nx gf b n (i + 1) env2 h2 = some r, fun σ2 H2 w => ⟨n, Nat.lt_succ_self n, w⟩, fun x H3 y => ?_⟩
      obtain ⟨x3, R3, q3⟩ := hy x H3 y
      have o3 := o2.mono x3
      rcases bnS_inv e2 with ⟨env4, h4, e3, e4⟩ | ⟨C, fs, h4, e3, e4⟩
      · refine sg m' h' env' σ' H3 u x _ _ (re2.mono x3) R3 q3 e3 fun m4 H4 σ4 x4 R4 re4 => ?_
        have o4 := o3.mono x4
        have xx := (x2.trans x3).trans x4
        split at e4
        · rename_i env5 h5 e5
          exact sb m4 h4 env4 σ4 H4 _ _ re4 R4 e5 fun m6 H6 σ6 x6 R6 re6 => ⟨m6, env5, h5, xx.trans x6, re6, R6, e4⟩
        · rename_i env5 h5 e5
          exact sb m4 h4 env4 σ4 H4 _ _ re4 R4 e5 fun m6 H6 σ6 x6 R6 re6 => ⟨m6, env5, h5, xx.trans x6, re6, R6, e4⟩
        · rename_i env5 h5 e5
          cases e4
          exact sb m4 h4 env4 σ4 H4 _ _ re4 R4 e5 fun m6 H6 σ6 x6 R6 re6 => o4 m6 H6 σ6 x6 R6 re6
        · rename_i n1 n2 n3
          obtain ⟨fl, env5, h5⟩ := r
          refine sb m4 h4 env4 σ4 H4 _ _ re4 R4 e4 ?_
          cases fl with
          | nx => exact absurd e4 (n1 env5 h5)
          | ct => exact absurd e4 (n2 env5 h5)
          | bk => exact absurd e4 (n3 env5 h5)
          | rt u => exact o4
          | ex C fs => exact o4
      · exact sg m' h' env' σ' H3 u x _ _ (re2.mono x3) R3 q3 e3 (o3.x C fs _ h4 e4)
def whL (c : MF Bool) (b : SF) : Nat → SF
  | 0, _, _ => none
  | f + 1, env, h => bnS env (c env h) fun k h1 => match k with
    | false => some (.nx, env, h1)
    | true => match b env h1 with
      | some (.nx, env2, h2) => whL c b f env2 h2
      | some (.ct, env2, h2) => whL c b f env2 h2
      | some (.bk, env2, h2) => some (.nx, env2, h2)
      | r => r
def sWhile (c : MF Bool) (b : SF) : SF := fun env h => whL c b fuel env h
theorem sims_while {tc : TT} {tb : TS} {c : MF Bool} {b : SF} (sc : SimT K E tc c) (sb : SimS K E tb b) : SimS K E (tWhile tc tb) (sWhile c b) := fun m h env σ H r D re R e o => by
  refine ⟨fun n σ' H' => ∃ m' env' h', Ext K m H m' H' ∧ RE K m' H' env' σ' ∧ RH K m' H' h' ∧ whL c b n env' h' = some r, ⟨fuel, m, env, h, .refl, re, R, e⟩, ?_⟩
  rintro n σ' H' ⟨m', env', h', x2, re2, R2, e2⟩
  have o2 := o.mono x2
  cases n with
  | zero => cases e2
  | succ n =>
    unfold whL at e2
    refine sc.onS re2 R2 e2 o2.x fun k h3 m3 H3 e3 x3 R3 => ?_
    have o3 := o2.mono x3
    cases k with
    | false =>
      cases e3
      exact iteF (o3 m3 H3 σ' .refl R3 (re2.mono x3))
    | true =>
      refine iteT ⟨fun σ2 H2 => ∃ m2 env2 h2, Ext K m H m2 H2 ∧ RE K m2 H2 env2 σ2 ∧ RH K m2 H2 h2 ∧ whL c b n env2 h2 = some r, fun σ2 H2 w => ⟨n, Nat.lt_succ_self n, w⟩, ?_⟩
      have xx := x2.trans x3
      simp only [] at e3
      split at e3
      · rename_i env5 h5 e5
        exact sb m3 h3 env' σ' H3 _ _ (re2.mono x3) R3 e5 fun m6 H6 σ6 x6 R6 re6 => ⟨m6, env5, h5, xx.trans x6, re6, R6, e3⟩
      · rename_i env5 h5 e5
        exact sb m3 h3 env' σ' H3 _ _ (re2.mono x3) R3 e5 fun m6 H6 σ6 x6 R6 re6 => ⟨m6, env5, h5, xx.trans x6, re6, R6, e3⟩
      · rename_i env5 h5 e5
        cases e3
        exact sb m3 h3 env' σ' H3 _ _ (re2.mono x3) R3 e5 fun m6 H6 σ6 x6 R6 re6 => o3 m6 H6 σ6 x6 R6 re6
      · rename_i n1 n2 n3
        obtain ⟨fl, env5, h5⟩ := r
        refine sb m3 h3 env' σ' H3 _ _ (re2.mono x3) R3 e3 ?_
        cases fl with
        | nx => exact absurd e3 (n1 env5 h5)
        | ct => exact absurd e3 (n2 env5 h5)
        | bk => exact absurd e3 (n3 env5 h5)
        | rt u => exact o3
        | ex C fs => exact o3

/-! ### a def's body -/
def env0 (n : Nat) (us : List U) : Env := us.map some ++ List.replicate (n - us.length) none
/-- n slots -/
def body (n : Nat) (b : SF) : FF := fun us h => match b (env0 n us) h with
  | some (.rt u, _, h') => some (.ok u, h')
  | some (.nx, _, h') => some (.ok .non, h')
  | some (.ex C fs, _, h') => some (.ex C fs, h')
  | _ => none
theorem re_start {us : List U} {vs : List V} (q : RUs K m H us vs) (N : List Str) : RE K m H (env0 N.length us) (L2.start N vs) := by
  have app : ∀ {us : List U} {vs : List V} {r : Env} {s : L2.St}, RUs K m H us vs → RE K m H r s → RE K m H (us.map some ++ r) (vs.map some ++ s) := by
    intro us
    induction us with
    | nil => intro vs r s q e; rw [show vs = [] from q]; exact e
    | cons u us ih =>
      intro vs r s q e
      obtain ⟨v, w, rfl, q1, q2⟩ := q
      exact ⟨v, w.map some ++ s, rfl, q1, ih q2 e⟩
  have rep : ∀ n : Nat, RE K m H (List.replicate n none) (List.replicate n none) := by
    intro n
    induction n with
    | zero => exact rfl
    | succ n ih => exact ⟨none, _, rfl, ih⟩
  unfold env0 L2.start
  rw [q.len]
  exact app q (rep _)
theorem body_sim {N : List Str} {t : TS} {b : SF} {n : Nat} (hn : N.length = n) (s : SimS K E t b) {us : List U} {vs : List V} {r : Rs U × Hq} {Q : VK} (q : RUs K m H us vs) (R : RH K m H h) (e : body n b us h = some r) (o : OutV K m H E Q r) :
    t { nx := fun _ H' => Q .non H', rt := Q } (L2.start N vs) H := by
  have re := re_start q N
  rw [hn] at re
  unfold body at e
  split at e
  · rename_i u env' h' e1
    cases e
    exact s m h _ _ H _ _ re R e1 o
  · rename_i env' h' e1
    cases e
    exact s m h _ _ H _ _ re R e1 fun m1 H1 σ1 x1 R1 _ => o m1 H1 .non x1 R1 rfl
  · rename_i C fs env' h' e1
    cases e
    exact s m h _ _ H _ _ re R e1 o
  · cases e
/-- a def of the text by its term and its run -/
theorem fun_ok {P : Program} {w : World} {mg : Str → Option Value} {base : Heap} {x qual : Str} {st : Stmt} {f : Addr} {fd : FuncData} {N ps : List Str} {k n n2 : Nat} {b : SF} (F : Fun K x qual st f fd) (S : FnScope N ps (defScope st)) (hp : ps.length = n2) (hn : N.length = n)
    (hb : ∀ (cdv : Value) (A : Around) (outer : List PySem.Env) (s : Shared) (H : Hp) (E : XK), Room k (A.deeper (PyProof.Rows.envOfC qual (defScope st) s.heap.objs.size f cdv)) →
      ∃ t, PSs (cxOf (L2.CX P w) P w K mg base N qual (defScope st) f cdv A outer s H E) (defBody st) t ∧ SimS K E t b) : FnOk P w K mg base (L2.CX P w) (k + 1) f fd ps (spQ K n2 (fn n2 (body n b))) := by
  refine F.okX S (fun vs H Q E h => ?_) (fun cdv A outer s H vs Q E hr h => ?_)
  · exact h.1.trans hp.symm
  · obtain ⟨hl, m, hq, us, r, q, R, e, o⟩ := h
    obtain ⟨t, ht, hs⟩ := hb cdv A outer s H E hr
    exact ⟨t, ht, body_sim hn hs q R (fn_inv e).2 o⟩
end QE
namespace L2
open PySem PySem.Spec PyProof.Rows
section
variable {X : Cx}
def rInDTb (K : PySem.W.Frag) : R2 := fun x y H Q => ∃ (d : PyData) (es : List PyData), Dp K H x d ∧ Dp K H y (.tuple es) ∧ SeqAt.shaped d = true ∧ SeqAt.shaped (.tuple es) = true ∧ Q (.bl (es.any fun z => PyData.eqv z d)) H
def rNotInDTb (K : PySem.W.Frag) : R2 := fun x y H Q => ∃ (d : PyData) (es : List PyData), Dp K H x d ∧ Dp K H y (.tuple es) ∧ SeqAt.shaped d = true ∧ SeqAt.shaped (.tuple es) = true ∧ Q (.bl (!es.any fun z => PyData.eqv z d)) H
theorem room_inT {es : List PyData} {d : PyData} (hu : X.A.units + 65 < cLine) (sd : SeqAt.shaped d = true) : X.A.units + 1 + min (PyData.depthAll es) d.depth < cLine := by
  have : d.depth ≤ 64 := of_decide_eq_true (Bool.and_eq_true_iff.mp sd).2
  omega
theorem op_inDTb (hu : X.A.units + 65 < cLine) : OpR X (compareOp .In) (rInDTb X.K) := by
  intro pins s σ H x y v u Q I rx ry hh
  obtain ⟨d, es, h1, h2, sd, se, q⟩ := hh
  obtain ⟨a1, rd1⟩ := Dp.reads I d x v h1 rx
  obtain ⟨a2, rd2⟩ := Dp.reads I (.tuple es) y u h2 ry
  exact SeqAt.in_tuple_reads rd2 rd1 (SeqAt.canLay_of_shaped se) (SeqAt.canLay_of_shaped sd) (room_inT hu sd) ⟨.bl _, H, I, rfl, q⟩
theorem op_notInDTb (hu : X.A.units + 65 < cLine) : OpR X (compareOp .NotIn) (rNotInDTb X.K) := by
  intro pins s σ H x y v u Q I rx ry hh
  obtain ⟨d, es, h1, h2, sd, se, q⟩ := hh
  obtain ⟨a1, rd1⟩ := Dp.reads I d x v h1 rx
  obtain ⟨a2, rd2⟩ := Dp.reads I (.tuple es) y u h2 ry
  exact SeqAt.notIn_tuple_reads rd2 rd1 (SeqAt.canLay_of_shaped se) (SeqAt.canLay_of_shaped sd) (room_inT hu sd) ⟨.bl _, H, I, rfl, q⟩
/-- xs + ys of any lists -/
def rCatL (K : PySem.W.Frag) : R2 := fun x y H Q => ∃ l b xs zs, x = .ref l ∧ y = .ref b ∧ SqL K H l xs ∧ H b = some (.lst zs) ∧ xs.length + zs.length ≤ sizeLine ∧ ∀ p, H p = none → Q (.ref p) (upd H p (.lst (xs ++ zs)))
theorem op_catL {X : Cx} : OpR X (binaryOp .Add) (rCatL X.K) := by
  intro pins s σ H x y v u Q I rx ry h
  obtain ⟨l, b, xs, zs, rfl, rfl, hH, hB, hz, q⟩ := h
  cases rx
  cases ry
  obtain ⟨its, r, hl, _⟩ := I.list hH
  obtain ⟨z2, its2, n2, r2, hl2, e2⟩ := I.lstM hB
  obtain ⟨⟨oc, od, oda, osl⟩, n, e, hc, hd, hdat⟩ := hl
  have hlen := r.length
  have hlen2 := r2.length
  dsimp only at hc hd hdat
  subst hc hd hdat
  have hsz : its.toArray.size + its2.toArray.size ≤ sizeLine := by
    simp only [List.size_toArray]
    omega
  refine concat_meets ⟨_, e, rfl⟩ ⟨_, e2, rfl⟩ PySem.noFill_list_add PySem.seq_list_add F.slot_list_add F.entry_list_add (F.args_list_add_2 _ _) (list_addW l b its.toArray its2.toArray n n2 none none osl #[] hsz) ⟨e, e2, ?_⟩
  have ea : its.toArray ++ its2.toArray = (its ++ its2).toArray := by simp
  rw [ea]
  exact ⟨.ref _, _, I.lnew (t' := s.toks) (r.append r2) (by rw [List.length_append]; omega), rfl, q _ I.fresh⟩
end
end L2

/-! QD: data, operators -/
namespace QE
open PySem L2
variable {K : PySem.W.Frag} {m m' m2 : Mp} {H H' H2 : Hp} {h h' : Hq} {E : XK}

def getL (h : Hq) (i : Nat) : Option (List U) := match h.get i with | some (.lst us) => some us | some (.rol us) => some us | _ => none
theorem getL_ok (R : RH K m H h) {i : Nat} {us : List U} (e : getL h i = some us) : ∃ a vs, m i = some a ∧ SqL K H a vs ∧ RUs K m H us vs := by
  unfold getL at e
  split at e
  · rename_i us' q
    cases e
    obtain ⟨a, ha⟩ := R.at_ i _ q
    obtain ⟨o, h1, h2⟩ := R.ob i a ha
    rw [q] at h1; cases h1
    obtain ⟨vs, h3, h4⟩ := h2
    exact ⟨a, vs, ha, .of h3, h4⟩
  · rename_i us' q
    cases e
    obtain ⟨a, ha⟩ := R.at_ i _ q
    obtain ⟨o, h1, h2⟩ := R.ob i a ha
    rw [q] at h1; cases h1
    obtain ⟨vs, h3, _, h4⟩ := h2
    exact ⟨a, vs, ha, h3, h4⟩
  · cases e
/-- an object of ours as it lies -/
theorem RH.of (R : RH K m H h) {i : Nat} {o : OB} {v : V} (e : h.get i = some o) (r : RU K m H (.ref i) v) : ∃ a, m i = some a ∧ v = .ref a ∧ RO K m H o a := by
  obtain ⟨a, ha, rfl⟩ := r
  obtain ⟨u, h1, h2⟩ := R.ob i a ha
  rw [e] at h1; cases h1
  exact ⟨a, ha, rfl, h2⟩
theorem RH.ofL (R : RH K m H h) {i : Nat} {us : List U} {v : V} (e : getL h i = some us) (r : RU K m H (.ref i) v) : ∃ a vs, m i = some a ∧ v = .ref a ∧ SqL K H a vs ∧ RUs K m H us vs := by
  obtain ⟨a, ha, rfl⟩ := r
  obtain ⟨b, vs, h1, h2, h3⟩ := getL_ok R e
  rw [ha] at h1; cases h1
  exact ⟨a, vs, ha, rfl, h2, h3⟩

/-! ### data -/
def okS : List Nat → Bool
  | [] => true
  | c :: r => match Nat.blt c 1114112 with | true => okS r | false => false
theorem okS_ok : ∀ {x : List Nat}, okS x = true → PyData.strOk (st x) = true := by
  intro x h
  unfold PyData.strOk st
  have key : ∀ x : List Nat, okS x = true → ∀ c ∈ x, c < 1114112 := by
    intro x
    induction x with
    | nil => intro _ c hc; cases hc
    | cons d r ih =>
      intro h c hc
      unfold okS at h
      split at h
      · rename_i q
        rcases List.mem_cons.mp hc with rfl | hc
        · exact Nat.le_of_ble_eq_true q
        · exact ih h c hc
      · cases h
  simp only [Array.all_eq_true]
  intro i hi
  simp only [List.getElem_toArray, decide_eq_true_eq]
  exact key x h _ (List.getElem_mem _)
def allB (f : U → Bool) : List U → Bool
  | [] => true
  | u :: r => match f u with | true => allB f r | false => false
def okD (h : Hq) : Nat → U → Bool
  | 0, _ => false
  | n + 1, u => match u with
    | .non => true
    | .bl _ => true
    | .int _ => true
    | .str x => okS x
    | .tup us => allB (okD h n) us
    | .ref i => match getL h i with | some us => allB (okD h n) us | none => false
    | .con _ => false
def toD (h : Hq) : Nat → U → PyData
  | 0, _ => .none
  | n + 1, u => match u with
    | .non => .none
    | .bl b => .bool b
    | .int i => .int i
    | .str x => .str (st x)
    | .tup us => .tuple (us.map (toD h n))
    | .ref i => match getL h i with | some us => .list (us.map (toD h n)) | none => .none
    | .con _ => .none
theorem allB_all {f : U → Bool} : ∀ {us : List U}, allB f us = true → ∀ u ∈ us, f u = true
  | [], _, u, hu => by cases hu
  | w :: r, h, u, hu => by
    unfold allB at h
    split at h
    · rename_i q
      rcases List.mem_cons.mp hu with rfl | hu
      · exact q
      · exact allB_all h u hu
    · cases h
theorem dpAll_of {n : Nat} (ih : ∀ u v, okD h n u = true → RU K m H u v → Dp K H v (toD h n u) ∧ (toD h n u).canLay0 = true ∧ (toD h n u).depth ≤ n) :
    ∀ (us : List U) (vs : List V), (∀ u ∈ us, okD h n u = true) → RUs K m H us vs → DpAll K H vs (us.map (toD h n)) ∧ PyData.canLayAll0 (us.map (toD h n)) = true ∧ PyData.depthAll (us.map (toD h n)) ≤ n
  | [], vs, _, r => by
    rw [show vs = [] from r]
    exact ⟨.nil, rfl, Nat.zero_le _⟩
  | u :: us, vs, ho, r => by
    obtain ⟨v, w, rfl, r1, r2⟩ := r
    obtain ⟨a1, a2, a3⟩ := ih u v (ho u (List.mem_cons_self ..)) r1
    obtain ⟨b1, b2, b3⟩ := dpAll_of ih us w (fun x hx => ho x (List.mem_cons_of_mem _ hx)) r2
    refine ⟨.cons a1 b1, ?_, ?_⟩
    · show (PyData.canLay0 (toD h n u) && PyData.canLayAll0 (us.map (toD h n))) = true
      rw [a2, b2]; rfl
    · show max (PyData.depth (toD h n u)) (PyData.depthAll (us.map (toD h n))) ≤ n
      exact Nat.max_le.mpr ⟨a3, b3⟩
theorem dp_of (R : RH K m H h) : ∀ (n : Nat) (u : U) (v : V), okD h n u = true → RU K m H u v → Dp K H v (toD h n u) ∧ (toD h n u).canLay0 = true ∧ (toD h n u).depth ≤ n
  | 0, u, v, e, r => by cases e
  | n + 1, u, v, e, r => by
    cases u with
    | non => cases r; exact ⟨.non, rfl, Nat.zero_le _⟩
    | bl b => cases r; exact ⟨.bl b, rfl, Nat.zero_le _⟩
    | int b => cases r; exact ⟨.int b, rfl, Nat.zero_le _⟩
    | str x => cases r; exact ⟨.str _, okS_ok e, Nat.zero_le _⟩
    | con w => cases e
    | tup us =>
      obtain ⟨a, vs, rfl, hs, r⟩ := r
      obtain ⟨b1, b2, b3⟩ := dpAll_of (dp_of R n) us vs (allB_all e) r
      exact ⟨.tup hs b1, b2, Nat.succ_le_succ b3⟩
    | ref i =>
      have e' : (match getL h i with | some us => allB (okD h n) us | none => false) = true := e
      show Dp K H v (match getL h i with | some us => .list (us.map (toD h n)) | none => .none) ∧ (match getL h i with | some us => PyData.list (us.map (toD h n)) | none => .none).canLay0 = true ∧ (match getL h i with | some us => PyData.list (us.map (toD h n)) | none => .none).depth ≤ n + 1
      cases q : getL h i with
      | none => rw [q] at e'; cases e'
      | some us =>
        rw [q] at e'
        obtain ⟨a, vs, ha, rfl, hs, r⟩ := R.ofL q r
        obtain ⟨b1, b2, b3⟩ := dpAll_of (dp_of R n) us vs (allB_all e') r
        exact ⟨.lst hs b1, b2, Nat.succ_le_succ b3⟩
theorem dp_sh (R : RH K m H h) {n : Nat} {u : U} {v : V} (hn : n ≤ 64) (e : okD h n u = true) (r : RU K m H u v) : Dp K H v (toD h n u) ∧ SeqAt.shaped (toD h n u) = true := by
  obtain ⟨a, b, c⟩ := dp_of R n u v e r
  refine ⟨a, ?_⟩
  unfold SeqAt.shaped
  rw [b, decide_eq_true (Nat.le_trans c hn)]
  rfl
def bEq : Bool → Bool → Bool
  | true, b => b
  | false, true => false
  | false, false => true
def iEq : Int → Int → Bool
  | .ofNat a, .ofNat b => Nat.beq a b
  | .negSucc a, .negSucc b => Nat.beq a b
  | _, _ => false
theorem iEq_eq (i j : Int) : iEq i j = (i == j) := by
  cases i with
  | ofNat a => cases j with
    | ofNat b =>
      show Nat.beq a b = _
      rw [beqN, Bool.eq_iff_iff]
      simp only [decide_eq_true_eq, beq_iff_eq]
      exact ⟨fun z => by rw [z], fun z => by cases z; rfl⟩
    | negSucc b =>
      show false = _
      rw [Bool.eq_iff_iff]
      simp
  | negSucc a => cases j with
    | ofNat b =>
      show false = _
      rw [Bool.eq_iff_iff]
      simp
    | negSucc b =>
      show Nat.beq a b = _
      rw [beqN, Bool.eq_iff_iff]
      simp
theorem nmEq_str (x y : List Nat) : nmEq x y = (st x == st y) := by
  rw [Bool.eq_iff_iff, nmEq_iff, beq_iff_eq, st_inj]
def eqL (f : U → U → Bool) : List U → List U → Bool
  | [], [] => true
  | a :: x, b :: y => match f a b with | true => eqL f x y | false => false
  | _, _ => false
def b2 : Bool → Int | true => 1 | false => 0
def eqU (h : Hq) : Nat → U → U → Bool
  | 0, _, _ => false
  | n + 1, a, b => match a, b with
    | .non, .non => true
    | .bl a, .bl b => bEq a b
    | .bl a, .int j => iEq (b2 a) j
    | .int i, .bl b => iEq i (b2 b)
    | .int i, .int j => iEq i j
    | .str x, .str y => nmEq x y
    | .tup xs, .tup ys => eqL (eqU h n) xs ys
    | .ref i, .ref j => match getL h i, getL h j with | some xs, some ys => eqL (eqU h n) xs ys | _, _ => false
    | _, _ => false
theorem eqL_eqv {n : Nat} (ih : ∀ a b, okD h n a = true → okD h n b = true → eqU h n a b = PyData.eqv (toD h n a) (toD h n b)) :
    ∀ (xs ys : List U), (∀ u ∈ xs, okD h n u = true) → (∀ u ∈ ys, okD h n u = true) → eqL (eqU h n) xs ys = PyData.eqvAll (xs.map (toD h n)) (ys.map (toD h n))
  | [], [], _, _ => by simp [eqL, PyData.eqvAll]
  | [], b :: y, _, _ => by simp [eqL, PyData.eqvAll]
  | a :: x, [], _, _ => by simp [eqL, PyData.eqvAll]
  | a :: x, b :: y, h1, h2 => by
    have e1 := ih a b (h1 a (List.mem_cons_self ..)) (h2 b (List.mem_cons_self ..))
    have e2 := eqL_eqv ih x y (fun u hu => h1 u (List.mem_cons_of_mem _ hu)) fun u hu => h2 u (List.mem_cons_of_mem _ hu)
    show (match eqU h n a b with | true => eqL (eqU h n) x y | false => false) = PyData.eqvAll (toD h n a :: x.map (toD h n)) (toD h n b :: y.map (toD h n))
    rw [show PyData.eqvAll (toD h n a :: x.map (toD h n)) (toD h n b :: y.map (toD h n)) = (PyData.eqv (toD h n a) (toD h n b) && PyData.eqvAll (x.map (toD h n)) (y.map (toD h n))) by simp [PyData.eqvAll], ← e1, ← e2]
    cases eqU h n a b <;> rfl
theorem eqU_eqv : ∀ (n : Nat) (a b : U), okD h n a = true → okD h n b = true → eqU h n a b = PyData.eqv (toD h n a) (toD h n b)
  | 0, a, b, e, _ => by cases e
  | n + 1, a, b, ea, eb => by
    have hb : ∀ a b : Bool, bEq a b = (a == b) := by intro a b; cases a <;> cases b <;> rfl
    have hi : ∀ a : Bool, b2 a = if a then 1 else 0 := by intro a; cases a <;> rfl
    cases a with
    | con w => cases ea
    | non => cases b with
      | con w => cases eb
      | ref i =>
        have : ∃ us, getL h i = some us := by
          have e' : (match getL h i with | some us => allB (okD h n) us | none => false) = true := eb
          cases q : getL h i with
          | none => rw [q] at e'; cases e'
          | some us => exact ⟨us, rfl⟩
        obtain ⟨us, q⟩ := this
        simp [eqU, toD, q, PyData.eqv]
      | _ => simp [eqU, toD, PyData.eqv]
    | bl x => cases b with
      | con w => cases eb
      | ref i =>
        have : ∃ us, getL h i = some us := by
          have e' : (match getL h i with | some us => allB (okD h n) us | none => false) = true := eb
          cases q : getL h i with
          | none => rw [q] at e'; cases e'
          | some us => exact ⟨us, rfl⟩
        obtain ⟨us, q⟩ := this
        simp [eqU, toD, q, PyData.eqv]
      | _ => simp [eqU, toD, PyData.eqv, hb, hi, iEq_eq]
    | int x => cases b with
      | con w => cases eb
      | ref i =>
        have : ∃ us, getL h i = some us := by
          have e' : (match getL h i with | some us => allB (okD h n) us | none => false) = true := eb
          cases q : getL h i with
          | none => rw [q] at e'; cases e'
          | some us => exact ⟨us, rfl⟩
        obtain ⟨us, q⟩ := this
        simp [eqU, toD, q, PyData.eqv]
      | _ => simp [eqU, toD, PyData.eqv, hb, hi, iEq_eq]
    | str x => cases b with
      | con w => cases eb
      | ref i =>
        have : ∃ us, getL h i = some us := by
          have e' : (match getL h i with | some us => allB (okD h n) us | none => false) = true := eb
          cases q : getL h i with
          | none => rw [q] at e'; cases e'
          | some us => exact ⟨us, rfl⟩
        obtain ⟨us, q⟩ := this
        simp [eqU, toD, q, PyData.eqv]
      | _ => simp [eqU, toD, PyData.eqv, nmEq_str]
    | tup xs => cases b with
      | con w => cases eb
      | tup ys =>
        show eqL (eqU h n) xs ys = PyData.eqv (.tuple (xs.map (toD h n))) (.tuple (ys.map (toD h n)))
        rw [eqL_eqv (eqU_eqv n) xs ys (allB_all ea) (allB_all eb)]
        simp [PyData.eqv]
      | ref i =>
        have : ∃ us, getL h i = some us := by
          have e' : (match getL h i with | some us => allB (okD h n) us | none => false) = true := eb
          cases q : getL h i with
          | none => rw [q] at e'; cases e'
          | some us => exact ⟨us, rfl⟩
        obtain ⟨us, q⟩ := this
        simp [eqU, toD, q, PyData.eqv]
      | _ => simp [eqU, toD, PyData.eqv]
    | ref j =>
      have e1 : (match getL h j with | some us => allB (okD h n) us | none => false) = true := ea
      cases q1 : getL h j with
      | none => rw [q1] at e1; cases e1
      | some xs =>
        rw [q1] at e1
        cases b with
        | con w => cases eb
        | ref i =>
          have e' : (match getL h i with | some us => allB (okD h n) us | none => false) = true := eb
          cases q : getL h i with
          | none => rw [q] at e'; cases e'
          | some ys =>
            rw [q] at e'
            have := eqL_eqv (eqU_eqv n) xs ys (allB_all e1) (allB_all e')
            simp [eqU, toD, q, q1, PyData.eqv, this]
        | _ => simp [eqU, toD, q1, PyData.eqv]
/-! == and != -/
def dp60 : Nat := 40
def okB (h : Hq) (x y : U) : Bool := match okD h dp60 x with | true => okD h dp60 y | false => false
theorem okB_ok {x y : U} (e : okB h x y = true) : okD h dp60 x = true ∧ okD h dp60 y = true := by
  unfold okB at e
  split at e
  · exact ⟨‹_›, e⟩
  · cases e
def gEq : U → U → Hq → Option (U × Hq) := fun x y h => match okB h x y with | true => some (.bl (eqU h dp60 x y), h) | false => none
def gNe : U → U → Hq → Option (U × Hq) := fun x y h => match okB h x y with | true => some (.bl (!eqU h dp60 x y), h) | false => none
theorem simr_eq : SimR K (rEqD K) gEq := fun m h H x y vx vy u h' Q R qx qy e o => by
  unfold gEq at e
  split at e
  · rename_i q
    cases e
    obtain ⟨q1, q2⟩ := okB_ok q
    obtain ⟨d1, s1⟩ := dp_sh R (by decide) q1 qx
    obtain ⟨d2, s2⟩ := dp_sh R (by decide) q2 qy
    exact ⟨_, _, d1, d2, s1, s2, o m H _ .refl R (by rw [eqU_eqv _ _ _ q1 q2]; exact rfl)⟩
  · cases e
theorem simr_ne : SimR K (rNeD K) gNe := fun m h H x y vx vy u h' Q R qx qy e o => by
  unfold gNe at e
  split at e
  · rename_i q
    cases e
    obtain ⟨q1, q2⟩ := okB_ok q
    obtain ⟨d1, s1⟩ := dp_sh R (by decide) q1 qx
    obtain ⟨d2, s2⟩ := dp_sh R (by decide) q2 qy
    exact ⟨_, _, d1, d2, s1, s2, o m H _ .refl R (by rw [eqU_eqv _ _ _ q1 q2]; exact rfl)⟩
  · cases e
theorem SimR.or {r1 r2 : R2} {g1 g2 : U → U → Hq → Option (U × Hq)} (s1 : SimR K r1 g1) (s2 : SimR K r2 g2) : SimR K (fun x y H Q => r1 x y H Q ∨ r2 x y H Q) (fun x y h => match g1 x y h with | some r => some r | none => g2 x y h) := fun m h H x y vx vy u h' Q R qx qy e o => by
  simp only [] at e
  split at e
  · rename_i r q
    cases e
    exact .inl (s1 m h H x y vx vy u h' Q R qx qy q o)
  · exact .inr (s2 m h H x y vx vy u h' Q R qx qy e o)
/-! ints -/
def gI (f : Int → Int → Int) : U → U → Hq → Option (U × Hq) := fun x y h => match x, y with | .int i, .int j => some (.int (f i j), h) | _, _ => none
theorem simr_I (f : Int → Int → Int) : SimR K (rI0 fun i j => .int (f i j)) (gI f) := fun m h H x y vx vy u h' Q R qx qy e o => by
  unfold gI at e
  split at e
  · cases e
    cases qx
    cases qy
    exact ⟨_, _, rfl, rfl, o m H _ .refl R rfl⟩
  · cases e
def gIC (c : Int → Int → Bool) (f : Int → Int → Int) : U → U → Hq → Option (U × Hq) := fun x y h => match x, y with | .int i, .int j => (match c i j with | true => some (.int (f i j), h) | false => none) | _, _ => none
theorem simr_IC {C : Int → Int → Prop} {c : Int → Int → Bool} (f : Int → Int → Int) (hc : ∀ i j, c i j = true → C i j) : SimR K (rI C fun i j => .int (f i j)) (gIC c f) := fun m h H x y vx vy u h' Q R qx qy e o => by
  unfold gIC at e
  split at e
  · split at e
    · rename_i q
      cases e
      cases qx
      cases qy
      exact ⟨_, _, rfl, rfl, hc _ _ q, o m H _ .refl R rfl⟩
    · cases e
  · cases e
def gB (f : Int → Int → Bool) : U → U → Hq → Option (U × Hq) := fun x y h => match x, y with | .int i, .int j => some (.bl (f i j), h) | _, _ => none
theorem simr_B (f g : Int → Int → Bool) (e : ∀ i j, f i j = g i j) : SimR K (rI0 fun i j => .bl (f i j)) (gB g) := fun m h H x y vx vy u h' Q R qx qy e2 o => by
  unfold gB at e2
  split at e2
  · cases e2
    cases qx
    cases qy
    exact ⟨_, _, rfl, rfl, o m H _ .refl R (congrArg V.bl (e _ _))⟩
  · cases e2
def iLt : Int → Int → Bool
  | .ofNat a, .ofNat b => Nat.blt a b
  | .negSucc a, .negSucc b => Nat.blt b a
  | .negSucc _, .ofNat _ => true
  | .ofNat _, .negSucc _ => false
theorem iLt_eq (i j : Int) : decide (i < j) = iLt i j := by
  have hb : ∀ a b : Nat, Nat.blt a b = decide (a < b) := by
    intro a b
    rw [Bool.eq_iff_iff, decide_eq_true_iff]
    exact ⟨Nat.le_of_ble_eq_true, Nat.ble_eq_true_of_le⟩
  cases i with
  | ofNat a => cases j with
    | ofNat b =>
      show decide ((a : Int) < (b : Int)) = Nat.blt a b
      rw [hb]
      simp
    | negSucc b =>
      show decide ((a : Int) < Int.negSucc b) = false
      rw [decide_eq_false_iff_not]
      omega
  | negSucc a => cases j with
    | ofNat b =>
      show decide (Int.negSucc a < (b : Int)) = true
      rw [decide_eq_true_iff]
      omega
    | negSucc b =>
      show decide (Int.negSucc a < Int.negSucc b) = Nat.blt b a
      rw [hb, Bool.eq_iff_iff, decide_eq_true_iff, decide_eq_true_iff]
      omega
def iLe (i j : Int) : Bool := !iLt j i
theorem iLe_eq (i j : Int) : decide (i ≤ j) = iLe i j := by
  unfold iLe
  rw [← iLt_eq, Bool.eq_iff_iff]
  simp
theorem simr_lt : SimR K (rI0 fun i j => .bl (decide (i < j))) (gB iLt) := simr_B _ _ iLt_eq
theorem simr_le : SimR K (rI0 fun i j => .bl (decide (i ≤ j))) (gB iLe) := simr_B _ _ iLe_eq
theorem simr_gt : SimR K (rI0 fun i j => .bl (decide (j < i))) (gB fun i j => iLt j i) := simr_B _ _ fun i j => iLt_eq j i
theorem simr_ge : SimR K (rI0 fun i j => .bl (decide (j ≤ i))) (gB fun i j => iLe j i) := simr_B _ _ fun i j => iLe_eq j i
/-! a + b -/
def gStr : U → U → Hq → Option (U × Hq) := fun x y h => match x, y with | .str a, .str b => (match szOk (a ++ b) with | true => some (.str (a ++ b), h) | false => none) | _, _ => none
theorem st_app (a b : List Nat) : st a ++ st b = st (a ++ b) := by
  show (⟨(a.toArray ++ b.toArray)⟩ : Str) = ⟨(a ++ b).toArray⟩
  simp
theorem st_len (a : List Nat) : (st a).length = a.length := by
  unfold st
  show (a.toArray).size = _
  simp
theorem simr_str : SimR K (fun x y H Q => ∃ i j, x = .str i ∧ y = .str j ∧ i.length + j.length ≤ sizeLine ∧ Q (.str (i ++ j)) H) gStr := fun m h H x y vx vy u h' Q R qx qy e o => by
  unfold gStr at e
  split at e
  · split at e
    · rename_i q
      cases e
      cases qx
      cases qy
      refine ⟨_, _, rfl, rfl, ?_, ?_⟩
      · have := szOk_le q
        rw [List.length_append] at this
        rw [st_len, st_len]
        exact Nat.le_of_lt this
      · rw [st_app]
        exact o m H _ .refl R rfl
    · cases e
  · cases e
def gTup : U → U → Hq → Option (U × Hq) := fun x y h => match x, y with | .tup a, .tup b => (match szOk (a ++ b) with | true => some (.tup (a ++ b), h) | false => none) | _, _ => none
theorem RUs.nil_iff {us : List U} {vs : List V} (r : RUs K m H us vs) : us = [] ↔ vs = [] := by
  have := r.len
  constructor
  · intro e; subst e; exact List.eq_nil_of_length_eq_zero this.symm
  · intro e; subst e; exact List.eq_nil_of_length_eq_zero this
theorem simr_tup : SimR K (rCatA K) gTup := fun m h H x y vx vy u h' Q R qx qy e o => by
  unfold gTup at e
  split at e
  · rename_i xs ys
    split at e
    · rename_i q
      cases e
      obtain ⟨a, vs, rfl, s1, r1⟩ := qx
      obtain ⟨b, ws, rfl, s2, r2⟩ := qy
      refine ⟨a, b, vs, ws, rfl, rfl, s1, s2, ?_, fun z => ?_, fun z1 z2 => ?_, fun z1 z2 p hp => ?_⟩
      · have := szOk_le q
        rw [List.length_append] at this
        rw [← r1.len, ← r2.len]
        exact Nat.le_of_lt this
      · have e := r1.nil_iff.mpr z
        subst e
        exact o m H _ .refl R ⟨b, ws, rfl, s2, r2⟩
      · have e := r2.nil_iff.mpr z2
        subst e
        exact o m H _ .refl R ⟨a, vs, rfl, s1, by rw [List.append_nil]; exact r1⟩
      · obtain ⟨e2, R2⟩ := R.fresh (o := .tup (vs ++ ws)) hp
        exact o m _ _ e2 R2 ⟨p, vs ++ ws, rfl, .of upd_same, (r1.app r2).mono e2⟩
    · cases e
  · cases e
def gLst : U → U → Hq → Option (U × Hq) := fun x y h => match x, y with
  | .ref i, .ref j => (match getL h i, h.get j with
    | some a, some (.lst b) => (match szOk (a ++ b) with | true => mk (.lst (a ++ b)) h | false => none)
    | _, _ => none)
  | _, _ => none
theorem simr_lst : SimR K (rCatL K) gLst := fun m h H x y vx vy u h' Q R qx qy e o => by
  unfold gLst at e
  split at e
  · split at e
    · rename_i a b q1 q2
      split at e
      · rename_i q
        obtain ⟨l, vs, hl, rfl, s1, r1⟩ := R.ofL q1 qx
        obtain ⟨b, hb, rfl, ws, s2, r2⟩ := R.of q2 qy
        obtain ⟨hn, rfl, rfl⟩ := mk_inv e
        refine ⟨l, b, vs, ws, rfl, rfl, s1, s2, ?_, fun p hp => ?_⟩
        · have := szOk_le q
          rw [List.length_append] at this
          rw [← r1.len, ← r2.len]
          exact Nat.le_of_lt this
        · obtain ⟨e3, R3, u3⟩ := R.laid (o := .lst _) (ho := .lst (vs ++ ws)) hn hp fun m' H' x hp' => ⟨vs ++ ws, hp', (r1.app r2).mono x⟩
          exact o _ _ _ e3 R3 u3
      · cases e
    · cases e
  · cases e
/-- + of ints, texts, tuples, lists -/
def rAddQ (K : PySem.W.Frag) : R2 := fun x y H Q => (((∃ i j, x = .int i ∧ y = .int j ∧ Q (.int (i + j)) H) ∨ (∃ i j, x = .str i ∧ y = .str j ∧ i.length + j.length ≤ sizeLine ∧ Q (.str (i ++ j)) H)) ∨ rCatA K x y H Q) ∨ rCatL K x y H Q
theorem op_addQ {X : Cx} : OpR X (binaryOp .Add) (rAddQ X.K) := ((op_add.or op_add_str).or op_catA).or op_catL
def gAdd : U → U → Hq → Option (U × Hq) := fun x y h => match x with
  | .int _ => gI (· + ·) x y h
  | .str _ => gStr x y h
  | .tup _ => gTup x y h
  | .ref _ => gLst x y h
  | _ => none
theorem simr_add : SimR K (rAddQ K) gAdd := fun m h H x y vx vy u h' Q R qx qy e o => by
  unfold gAdd at e
  split at e
  · exact .inl (.inl (.inl (simr_I _ m h H _ y vx vy u h' Q R qx qy e o)))
  · exact .inl (.inl (.inr (simr_str m h H _ y vx vy u h' Q R qx qy e o)))
  · exact .inl (.inr (simr_tup m h H _ y vx vy u h' Q R qx qy e o))
  · exact .inr (simr_lst m h H _ y vx vy u h' Q R qx qy e o)
  · cases e
theorem simr_sub : SimR K (rI0 fun i j => .int (i - j)) (gI (· - ·)) := simr_I _
/-! is None -/
def gIsN : U → U → Hq → Option (U × Hq) := fun x y h => match y with | .non => (match x with | .non => some (.bl true, h) | _ => some (.bl false, h)) | _ => none
def gNotN : U → U → Hq → Option (U × Hq) := fun x y h => match y with | .non => (match x with | .non => some (.bl false, h) | _ => some (.bl true, h)) | _ => none
theorem ru_non {u : U} {v : V} (r : RU K m H u v) (hc : ∀ w, u ≠ .con w) : decide (v = .non) = (match u with | .non => true | _ => false) := by
  cases u with
  | non => cases r; rfl
  | bl _ => cases r; rfl
  | int _ => cases r; rfl
  | str _ => cases r; rfl
  | con w => exact absurd rfl (hc w)
  | tup _ => obtain ⟨a, vs, rfl, _⟩ := r; rfl
  | ref _ => obtain ⟨a, _, rfl⟩ := r; rfl
def gIsN' : U → U → Hq → Option (U × Hq) := fun x y h => match y, x with
  | .non, .con _ => none
  | .non, .non => some (.bl true, h)
  | .non, _ => some (.bl false, h)
  | _, _ => none
def gNotN' : U → U → Hq → Option (U × Hq) := fun x y h => match y, x with
  | .non, .con _ => none
  | .non, .non => some (.bl false, h)
  | .non, _ => some (.bl true, h)
  | _, _ => none
theorem simr_isN : SimR K (fun x y H Q => y = .non ∧ Q (.bl (decide (x = .non))) H) gIsN' := fun m h H x y vx vy u h' Q R qx qy e o => by
  unfold gIsN' at e
  split at e
  · cases e
  · cases e; cases qy; cases qx
    exact ⟨rfl, o m H _ .refl R rfl⟩
  · rename_i h1 h2
    cases e; cases qy
    refine ⟨rfl, ?_⟩
    have := ru_non qx (fun w z => h1 w z)
    rw [this]
    refine o m H _ .refl R ?_
    cases x with
    | non => exact absurd rfl h2
    | _ => exact rfl
  · cases e
theorem simr_notN : SimR K (fun x y H Q => y = .non ∧ Q (.bl (!decide (x = .non))) H) gNotN' := fun m h H x y vx vy u h' Q R qx qy e o => by
  unfold gNotN' at e
  split at e
  · cases e
  · cases e; cases qy; cases qx
    exact ⟨rfl, o m H _ .refl R rfl⟩
  · rename_i h1 h2
    cases e; cases qy
    refine ⟨rfl, ?_⟩
    have := ru_non qx (fun w z => h1 w z)
    rw [this]
    refine o m H _ .refl R ?_
    cases x with
    | non => exact absurd rfl h2
    | _ => exact rfl
  · cases e
end QE
namespace L2
open PySem PySem.Spec PyProof.Rows
section
variable {X : Cx}
def rInDk (neg : Bool) : R2 := fun y x H Q => ∃ a o, x = .ref a ∧ DGet H a y o ∧ Q (.bl (if neg then !o.isSome else o.isSome)) H
theorem op_inDk (hu : X.A.units + 1 < cLine) : OpR X (compareOp .In) (rInDk false) := by
  intro pins s σ H y x v u Q I ry rx h
  obtain ⟨a, o, ex, g, q⟩ := h
  subst ex
  obtain rfl : u = Value.ref a := rx
  exact d_in hu I g ry fun s3 I3 => ⟨.bl _, H, I3, rfl, q⟩
theorem op_notInDk (hu : X.A.units + 1 < cLine) : OpR X (compareOp .NotIn) (rInDk true) := by
  intro pins s σ H y x v u Q I ry rx h
  obtain ⟨a, o, ex, g, q⟩ := h
  subst ex
  obtain rfl : u = Value.ref a := rx
  exact d_notIn hu I g ry fun s3 I3 => ⟨.bl _, H, I3, rfl, q⟩
def rIxDk : R2 := fun x y H Q => ∃ a v, x = .ref a ∧ DGet H a y (some v) ∧ Q v H
theorem ix_dct (hu : X.A.units + 1 < cLine) : IxR X rIxDk := by
  intro value slice pins s σ H x y ov iv Q I rx ry h hs
  obtain ⟨a, v, ex, g, q⟩ := h
  subst ex
  obtain rfl : ov = Value.ref a := rx
  have hT := dict_typeIs I g
  unfold subscriptTail
  refine wpAny_bind ?_
  rw [getitemInPython_of_ne hT.not_modules]
  refine wpAny_bind (wpAny_specialOf hT PySem.F.slot_dict_getitem.lookup ?_)
  have fin : wpAny (model X.prog X.w) X.A (subscripted slice false (.ref a) iv) (fun r s₃ => wpAny (model X.prog X.w) X.A (letTemporaryGo value (.ref a) r >>= fun _ => pure r) (EP X pins σ Q) X.xe s₃) X.xe s := by
    rw [hs]
    exact wpAny_operating (wpAny_mono (d_getItem hu I g ry (Q := EP X pins σ Q) (E := X.xe) fun w' s3 I3 rw' => ⟨v, H, I3, rw', q⟩) (fun r s₃ h₃ => wpAny_bind (wpAny_letTemporaryGo (wpAny_pure h₃))) fun _ _ x => x)
  first
    | exact wpAny_pure (wpAny_bind fin)
    | exact wpAny_bind (wpAny_pure (wpAny_bind fin))
    | exact wpAny_bind fin
theorem get_dct (hu : X.A.units + 1 < cLine) : PGet X rIxDk := by
  intro pins s σ H o i ov iv Q I ro ri h
  obtain ⟨a, v, ex, g, q⟩ := h
  subst ex
  obtain rfl : ov = Value.ref a := ro
  exact d_getItem hu I g ri fun w' s3 I3 rw' => ⟨v, H, I3, rw', q⟩
theorem PSet.or {t t' : TSet} (h : PSet X t) (h' : PSet X t') : PSet X (fun o i v H Q => t o i v H Q ∨ t' o i v H Q) := by
  intro pins s σ H o i v ov iv u Q I ro ri rv q
  rcases q with q | q
  · exact h pins s σ H o i v ov iv u Q I ro ri rv q
  · exact h' pins s σ H o i v ov iv u Q I ro ri rv q
theorem pip_of {op : Operator} {r : R2} (h : OpR X (inplaceOp op) r) : PIp X op r := h
end
end L2

/-! QF: membership, subscripts, slices, dicts of ints and texts -/
namespace QE
open PySem L2
variable {K : PySem.W.Frag} {m m' m2 : Mp} {H H' H2 : Hp} {h h' : Hq} {E : XK}

/-! ### keys -/
def kEq : U → U → Bool
  | .int i, .int j => iEq i j
  | .str x, .str y => nmEq x y
  | _, _ => false
theorem kEq_eq {a b : U} {p q : Key} (ha : uKey a = some p) (hb : uKey b = some q) : kEq a b = decide (p = q) := by
  cases a with
  | int i =>
    cases ha
    cases b with
    | int j => cases hb; rw [key_ll]; exact iEq_eq i j
    | str y => cases hb; rw [key_lr]; rfl
    | _ => cases hb
  | str x =>
    cases ha
    cases b with
    | int j => cases hb; rw [key_rl]; rfl
    | str y =>
      cases hb
      rw [key_rr]
      show nmEq x y = _
      rw [nmEq_str, Bool.beq_eq_decide_eq]
    | _ => cases hb
  | _ => cases ha
theorem ru_key {u : U} {v : V} {k : Key} (r : RU K m H u v) (e : uKey u = some k) : v = kV k := by
  cases u with
  | int i => cases e; exact r
  | str x => cases e; exact r
  | _ => cases e
theorem ru_kV {u : U} {k : Key} (e : uKey u = some k) : RU K m H u (kV k) := by
  cases u with
  | int i => cases e; exact rfl
  | str x => cases e; exact rfl
  | _ => cases e
def isKey : U → Bool
  | .int _ => true
  | .str _ => true
  | _ => false
theorem isKey_ok {u : U} (h : isKey u = true) : ∃ k, uKey u = some k := by
  cases u with
  | int i => exact ⟨_, rfl⟩
  | str x => exact ⟨_, rfl⟩
  | _ => cases h
def dget : List (U × U) → U → Option U
  | [], _ => none
  | (k, u) :: r, x => match kEq k x with | true => some u | false => dget r x
theorem dget_ok {x : U} {q : Key} (hx : uKey x = some q) : ∀ {kvs : List (U × U)} {vs : List (Key × V)}, RKv K m H kvs vs → (∀ u, dget kvs x = some u → ∃ v, valV vs q = some v ∧ RU K m H u v) ∧ (dget kvs x = none → valV vs q = none)
  | [], vs, r => by
    rw [show vs = [] from r]
    exact ⟨fun u e => by simp [dget] at e, fun _ => rfl⟩
  | (k, u) :: kvs, vs, r => by
    obtain ⟨p, v, ws, rfl, hk, h1, h2⟩ := r
    have ih := dget_ok hx h2
    have e := kEq_eq hk hx
    by_cases z : p = q
    · rw [decide_eq_true z] at e
      have e1 : valV ((p, v) :: ws) q = some v := by unfold valV; rw [List.find?_cons, decide_eq_true z]; rfl
      have e2 : dget ((k, u) :: kvs) x = some u := by unfold dget; rw [e]
      exact ⟨fun w hw => by rw [e2] at hw; cases hw; exact ⟨v, e1, h1⟩, fun hn => by rw [e2] at hn; cases hn⟩
    · rw [decide_eq_false z] at e
      have e1 : valV ((p, v) :: ws) q = valV ws q := by unfold valV; rw [List.find?_cons, decide_eq_false z]
      have e2 : dget ((k, u) :: kvs) x = dget kvs x := by rw [dget, e]
      rw [e1, e2]
      exact ih
def dput : List (U × U) → U → U → List (U × U)
  | [], x, y => [(x, y)]
  | (k, u) :: r, x, y => match kEq k x with | true => (k, y) :: r | false => (k, u) :: dput r x y
theorem dput_ok {x y : U} {vy : V} {q : Key} (hx : uKey x = some q) (hy : RU K m H y vy) : ∀ {kvs : List (U × U)} {vs : List (Key × V)}, RKv K m H kvs vs → (vs.map (·.1)).Nodup → RKv K m H (dput kvs x y) (putK vs q vy)
  | [], vs, r, _ => by
    rw [show vs = [] from r]
    exact ⟨q, vy, [], rfl, hx, hy, rfl⟩
  | (k, u) :: kvs, vs, r, nd => by
    obtain ⟨p, v, ws, rfl, hk, h1, h2⟩ := r
    have nd2 : (ws.map (·.1)).Nodup := (List.nodup_cons.mp nd).2
    have np : p ∉ ws.map (·.1) := (List.nodup_cons.mp nd).1
    have ih := dput_ok hx hy h2 nd2
    have e := kEq_eq hk hx
    by_cases z : p = q
    · rw [decide_eq_true z] at e
      have e2 : dput ((k, u) :: kvs) x y = (k, y) :: kvs := by rw [dput, e]
      have e1 : putK ((p, v) :: ws) q vy = (p, vy) :: ws := by
        unfold putK
        rw [List.any_cons, decide_eq_true z, Bool.true_or, if_pos rfl, List.map_cons, if_pos z]
        congr 1
        refine (List.map_congr_left fun w hw => ?_).trans (List.map_id _)
        have : ¬ w.1 = q := fun e => np (by rw [z, ← e]; exact List.mem_map_of_mem hw)
        rw [if_neg this]
        rfl
      rw [e1, e2]
      exact ⟨p, vy, ws, rfl, hk, hy, h2⟩
    · rw [decide_eq_false z] at e
      have e2 : dput ((k, u) :: kvs) x y = (k, u) :: dput kvs x y := by rw [dput, e]
      have e1 : putK ((p, v) :: ws) q vy = (p, v) :: putK ws q vy := by
        unfold putK
        rw [List.any_cons, decide_eq_false z, Bool.false_or]
        by_cases w : (ws.any fun kv => decide (kv.1 = q)) = true
        · rw [if_pos w, if_pos w, List.map_cons, if_neg z]
        · rw [if_neg w, if_neg w, List.cons_append]
      rw [e1, e2]
      exact ⟨p, v, putK ws q vy, rfl, hk, h1, ih⟩
/-- no key of ours stands twice -/
def kNew (x : U) : List (U × U) → Bool
  | [] => true
  | (k, _) :: r => match kEq k x with | true => false | false => kNew x r
def kNd : List (U × U) → Bool
  | [] => true
  | (k, _) :: r => match kNew k r with | true => kNd r | false => false
theorem kNew_ok {x : U} {q : Key} (hx : uKey x = some q) : ∀ {kvs : List (U × U)} {vs : List (Key × V)}, RKv K m H kvs vs → kNew x kvs = true → q ∉ vs.map (·.1)
  | [], vs, r, _ => by rw [show vs = [] from r]; simp
  | (k, u) :: kvs, vs, r, hn => by
    obtain ⟨p, v, ws, rfl, hk, h1, h2⟩ := r
    unfold kNew at hn
    rw [kEq_eq hk hx] at hn
    by_cases z : p = q
    · rw [decide_eq_true z] at hn; cases hn
    · rw [decide_eq_false z] at hn
      have ih := kNew_ok hx h2 hn
      simp only [List.map_cons, List.mem_cons, not_or]
      exact ⟨fun e => z e.symm, ih⟩
theorem kNd_ok : ∀ {kvs : List (U × U)} {vs : List (Key × V)}, RKv K m H kvs vs → kNd kvs = true → (vs.map (·.1)).Nodup
  | [], vs, r, _ => by rw [show vs = [] from r]; exact List.nodup_nil
  | (k, u) :: kvs, vs, r, hn => by
    obtain ⟨p, v, ws, rfl, hk, h1, h2⟩ := r
    unfold kNd at hn
    split at hn
    · rename_i q
      exact List.nodup_cons.mpr ⟨kNew_ok hk h2 q, kNd_ok h2 hn⟩
    · cases hn
theorem RKv.len : ∀ {kvs : List (U × U)} {vs : List (Key × V)}, RKv K m H kvs vs → kvs.length = vs.length
  | [], vs, r => by rw [show vs = [] from r]; rfl
  | (k, u) :: kvs, vs, r => by
    obtain ⟨p, v, ws, rfl, hk, h1, h2⟩ := r
    simp [RKv.len h2]
/-! ### in -/
def inL (f : U → U → Bool) (x : U) : List U → Bool
  | [] => false
  | y :: r => match f y x with | true => true | false => inL f x r
theorem inL_eqv {n : Nat} {x : U} (hx : okD h n x = true) : ∀ (us : List U), (∀ u ∈ us, okD h n u = true) → inL (eqU h n) x us = (us.map (toD h n)).any fun z => PyData.eqv z (toD h n x)
  | [], _ => rfl
  | y :: r, ho => by
    unfold inL
    rw [List.map_cons, List.any_cons, eqU_eqv n y x (ho y (List.mem_cons_self ..)) hx, inL_eqv hx r fun u hu => ho u (List.mem_cons_of_mem _ hu)]
    cases PyData.eqv (toD h n y) (toD h n x) <;> rfl
def gIn (neg : Bool) : U → U → Hq → Option (U × Hq) := fun x y h => match y with
  | .tup us => (match okB h x y with | true => some (.bl (match neg with | true => !inL (eqU h 39) x us | false => inL (eqU h 39) x us), h) | false => none)
  | .ref i => (match h.get i with
    | some (.dct kvs) => (match isKey x with | true => some (.bl (match neg with | true => !(dget kvs x).isSome | false => (dget kvs x).isSome), h) | false => none)
    | _ => (match getL h i with
      | some us => (match okB h x y with | true => some (.bl (match neg with | true => !inL (eqU h 39) x us | false => inL (eqU h 39) x us), h) | false => none)
      | none => none))
  | _ => none
theorem okD_up : ∀ (n : Nat) (u : U), okD h n u = true → okD h (n + 1) u = true
  | 0, u, e => by cases e
  | n + 1, u, e => by
    have all : ∀ us : List U, allB (okD h n) us = true → allB (okD h (n + 1)) us = true := by
      intro us
      induction us with
      | nil => intro _; rfl
      | cons w r ih =>
        intro q
        unfold allB at q ⊢
        split at q
        · rename_i z
          rw [okD_up n w z]
          exact ih q
        · cases q
    cases u with
    | tup us => exact all us e
    | ref i =>
      have e' : (match getL h i with | some us => allB (okD h n) us | none => false) = true := e
      show (match getL h i with | some us => allB (okD h (n + 1)) us | none => false) = true
      cases q : getL h i with
      | none => rw [q] at e'; cases e'
      | some us => rw [q] at e'; exact all us e'
    | non => rfl
    | bl b => rfl
    | int i => rfl
    | str x => exact e
    | con w => exact e
theorem okD_top {u : U} (e : okD h dp60 u = true) (hs : ∀ us, u ≠ .tup us) (hr : ∀ i, u ≠ .ref i) : okD h 39 u = true := by
  cases u with
  | tup us => exact absurd rfl (hs us)
  | ref i => exact absurd rfl (hr i)
  | non => rfl
  | bl b => rfl
  | int i => rfl
  | str x => exact e
  | con w => exact e
/-- x is tested one level down -/
def gIn' (neg : Bool) : U → U → Hq → Option (U × Hq) := fun x y h => match y with
  | .tup us => (match okD h 39 x, okD h dp60 y with | true, true => some (.bl (match neg with | true => !inL (eqU h 39) x us | false => inL (eqU h 39) x us), h) | _, _ => none)
  | .ref i => (match h.get i with
    | some (.dct kvs) => (match isKey x with | true => some (.bl (match neg with | true => !(dget kvs x).isSome | false => (dget kvs x).isSome), h) | false => none)
    | _ => (match getL h i with
      | some us => (match okD h 39 x, okD h dp60 y with | true, true => some (.bl (match neg with | true => !inL (eqU h 39) x us | false => inL (eqU h 39) x us), h) | _, _ => none)
      | none => none))
  | _ => none
def rInQ (K : PySem.W.Frag) : R2 := fun x y H Q => (rInD K x y H Q ∨ rInDTb K x y H Q) ∨ rInDk false x y H Q
def rNotInQ (K : PySem.W.Frag) : R2 := fun x y H Q => (rNotInD K x y H Q ∨ rNotInDTb K x y H Q) ∨ rInDk true x y H Q
theorem op_inQ {X : Cx} (hu : X.A.units + 65 < cLine) : OpR X (compareOp .In) (rInQ X.K) := ((op_inD hu).or (op_inDTb hu)).or (op_inDk (by omega))
theorem op_notInQ {X : Cx} (hu : X.A.units + 65 < cLine) : OpR X (compareOp .NotIn) (rNotInQ X.K) := ((op_notInD hu).or (op_notInDTb hu)).or (op_notInDk (by omega))
theorem getL_dp {i : Nat} {us : List U} (q : getL h i = some us) (e : okD h dp60 (.ref i) = true) : allB (okD h 39) us = true ∧ toD h dp60 (.ref i) = .list (us.map (toD h 39)) := by
  have e' : (match getL h i with | some us => allB (okD h 39) us | none => false) = true := e
  rw [q] at e'
  refine ⟨e', ?_⟩
  show (match getL h i with | some us => PyData.list (us.map (toD h 39)) | none => .none) = _
  rw [q]
theorem simr_in : SimR K (rInQ K) (gIn' false) := fun m h H x y vx vy u h' Q R qx qy e o => by
  unfold gIn' at e
  split at e
  · rename_i us
    split at e
    · rename_i h1 h2
      cases e
      obtain ⟨d1, s1⟩ := dp_sh R (by decide) h1 qx
      obtain ⟨d2, s2⟩ := dp_sh R (by decide) h2 qy
      exact .inl (.inr ⟨_, us.map (toD h 39), d1, d2, s1, s2, o m H _ .refl R (congrArg V.bl (inL_eqv h1 us (allB_all h2)).symm)⟩)
    · cases e
  · rename_i i
    split at e
    · rename_i kvs q
      split at e
      · rename_i hk
        cases e
        obtain ⟨k, hk⟩ := isKey_ok hk
        obtain ⟨a, ha, rfl, vs, h1, h2⟩ := R.of q qy
        have ev := ru_key qx hk
        subst ev
        have g := dget_ok hk h2
        refine .inr ⟨a, _, rfl, DGet.k h1, ?_⟩
        have e : (valV vs k).isSome = (dget kvs x).isSome := by
          cases z : dget kvs x with
          | none => rw [g.2 z]; rfl
          | some w => obtain ⟨v, e1, _⟩ := g.1 w z; rw [e1]; rfl
        exact o m H _ .refl R (congrArg V.bl e)
      · cases e
    · split at e
      · rename_i us q
        split at e
        · rename_i h1 h2
          cases e
          obtain ⟨d1, s1⟩ := dp_sh R (by decide) h1 qx
          obtain ⟨d2, s2⟩ := dp_sh R (by decide) h2 qy
          obtain ⟨a1, a2⟩ := getL_dp q h2
          rw [a2] at d2 s2
          exact .inl (.inl ⟨_, us.map (toD h 39), d1, d2, s1, s2, o m H _ .refl R (congrArg V.bl (inL_eqv h1 us (allB_all a1)).symm)⟩)
        · cases e
      · cases e
  · cases e
theorem simr_notIn : SimR K (rNotInQ K) (gIn' true) := fun m h H x y vx vy u h' Q R qx qy e o => by
  unfold gIn' at e
  split at e
  · rename_i us
    split at e
    · rename_i h1 h2
      cases e
      obtain ⟨d1, s1⟩ := dp_sh R (by decide) h1 qx
      obtain ⟨d2, s2⟩ := dp_sh R (by decide) h2 qy
      exact .inl (.inr ⟨_, us.map (toD h 39), d1, d2, s1, s2, o m H _ .refl R (congrArg (fun b => V.bl (!b)) (inL_eqv h1 us (allB_all h2)).symm)⟩)
    · cases e
  · rename_i i
    split at e
    · rename_i kvs q
      split at e
      · rename_i hk
        cases e
        obtain ⟨k, hk⟩ := isKey_ok hk
        obtain ⟨a, ha, rfl, vs, h1, h2⟩ := R.of q qy
        have ev := ru_key qx hk
        subst ev
        have g := dget_ok hk h2
        refine .inr ⟨a, _, rfl, DGet.k h1, ?_⟩
        have e : (valV vs k).isSome = (dget kvs x).isSome := by
          cases z : dget kvs x with
          | none => rw [g.2 z]; rfl
          | some w => obtain ⟨v, e1, _⟩ := g.1 w z; rw [e1]; rfl
        exact o m H _ .refl R (congrArg (fun b => V.bl (!b)) e)
      · cases e
    · split at e
      · rename_i us q
        split at e
        · rename_i h1 h2
          cases e
          obtain ⟨d1, s1⟩ := dp_sh R (by decide) h1 qx
          obtain ⟨d2, s2⟩ := dp_sh R (by decide) h2 qy
          obtain ⟨a1, a2⟩ := getL_dp q h2
          rw [a2] at d2 s2
          exact .inl (.inl ⟨_, us.map (toD h 39), d1, d2, s1, s2, o m H _ .refl R (congrArg (fun b => V.bl (!b)) (inL_eqv h1 us (allB_all a1)).symm)⟩)
        · cases e
      · cases e
  · cases e
/-! ### a[i] -/
def ixQ {α : Type} (xs : List α) : Int → Option α
  | .ofNat k => nthQ xs k
  | .negSucc k => nthQ xs.reverse k
where nthQ : List α → Nat → Option α
  | [], _ => none
  | a :: r, k => match k with | 0 => some a | k + 1 => nthQ r k
theorem nthQ_eq {α : Type} : ∀ (xs : List α) (k : Nat), ixQ.nthQ xs k = xs[k]?
  | [], k => by simp [ixQ.nthQ]
  | a :: r, 0 => by simp [ixQ.nthQ]
  | a :: r, k + 1 => by simp [ixQ.nthQ, nthQ_eq r k]
theorem ixQ_eq {α : Type} (xs : List α) (i : Int) : ixQ xs i = atI xs i := by
  unfold atI ixN
  cases i with
  | ofNat k =>
    show ixQ.nthQ xs k = _
    rw [nthQ_eq, if_pos (show (0 : Int) ≤ Int.ofNat k from Int.natCast_nonneg k)]
    by_cases z : k < xs.length
    · rw [if_pos (show Int.ofNat k < (xs.length : Int) by show (k : Int) < _; omega)]
      rfl
    · rw [if_neg (show ¬ Int.ofNat k < (xs.length : Int) by show ¬ (k : Int) < _; omega)]
      rw [List.getElem?_eq_none_iff.mpr (by omega)]
      rfl
  | negSucc k =>
    show ixQ.nthQ xs.reverse k = _
    rw [nthQ_eq, if_neg (by omega)]
    by_cases z : k < xs.length
    · rw [if_pos (by omega), List.getElem?_reverse z]
      show _ = xs[(Int.negSucc k + (xs.length : Int)).toNat]?
      congr 1
      omega
    · rw [if_neg (by omega)]
      rw [List.getElem?_eq_none_iff.mpr (by rw [List.length_reverse]; omega)]
      rfl
theorem RUs.atI {us : List U} {vs : List V} (r : RUs K m H us vs) {i : Int} {u : U} (e : ixQ us i = some u) : ∃ v, L2.atI vs i = some v ∧ RU K m H u v := by
  rw [ixQ_eq] at e
  unfold L2.atI at e ⊢
  rw [r.len] at e
  cases q : ixN vs.length i with
  | none => rw [q] at e; cases e
  | some j =>
    rw [q] at e
    exact r.at (i := j) e
def gIx : U → U → Hq → Option (U × Hq) := fun x y h => match x with
  | .tup us => (match y with | .int i => (match ixQ us i with | some u => some (u, h) | none => none) | _ => none)
  | .str z => (match y with | .int i => (match szOk z, ixQ z i with | true, some c => some (.str [c], h) | _, _ => none) | _ => none)
  | .ref j => (match h.get j with
    | some (.dct kvs) => (match isKey y, dget kvs y with | true, some u => some (u, h) | _, _ => none)
    | _ => (match y, getL h j with | .int i, some us => (match ixQ us i with | some u => some (u, h) | none => none) | _, _ => none))
  | _ => none
def rIxQ (K : PySem.W.Frag) : R2 := fun x y H Q => ((rIxL K x y H Q ∨ rIxT K x y H Q) ∨ rIxS x y H Q) ∨ rIxDk x y H Q
theorem ix_Q {X : Cx} (hu : X.A.units + 1 < cLine) : IxR X (rIxQ X.K) := ((ix_list.or ix_tup).or ix_str).or (ix_dct hu)
theorem simr_ix : SimR K (rIxQ K) gIx := fun m h H x y vx vy u h' Q R qx qy e o => by
  unfold gIx at e
  split at e
  · split at e
    · split at e
      · rename_i w q
        cases e
        obtain ⟨a, vs, rfl, h1, h2⟩ := qx
        cases qy
        obtain ⟨v, h3, h4⟩ := h2.atI q
        exact .inl (.inl (.inr ⟨a, vs, _, v, rfl, rfl, h1, h3, o m H _ .refl R h4⟩))
      · cases e
    · cases e
  · split at e
    · split at e
      · rename_i c h1 h2
        cases e
        cases qx
        cases qy
        rw [ixQ_eq] at h2
        exact .inl (.inr ⟨st _, _, c, rfl, rfl, by rw [st_len]; exact Nat.le_of_lt (szOk_le h1), by simpa [st] using h2, o m H _ .refl R rfl⟩)
      · cases e
    · cases e
  · split at e
    · rename_i j kvs q
      split at e
      · rename_i hk hg
        cases e
        obtain ⟨k, hk⟩ := isKey_ok hk
        obtain ⟨a, ha, rfl, vs, h1, h2⟩ := R.of q qx
        have ev := ru_key qy hk
        subst ev
        obtain ⟨v, e1, e2⟩ := (dget_ok hk h2).1 _ hg
        exact .inr ⟨a, v, rfl, by rw [← e1]; exact DGet.k h1, o m H _ .refl R e2⟩
      · cases e
    · split at e
      · rename_i i us q
        split at e
        · rename_i w q2
          cases e
          obtain ⟨a, vs, ha, rfl, h1, h2⟩ := R.ofL q qx
          cases qy
          obtain ⟨v, h3, h4⟩ := h2.atI q2
          exact .inl (.inl (.inl ⟨a, vs, i, v, rfl, rfl, h1, h3, o m H _ .refl R h4⟩))
        · cases e
      · cases e
  · cases e
/-! ### a[i] = v -/
def SimSet (K : PySem.W.Frag) (t : TSet) (g : U → U → U → Hq → Option Hq) : Prop :=
  ∀ m h H x y z vx vy vz h' (Q : Hp → Prop), RH K m H h → RU K m H x vx → RU K m H y vy → RU K m H z vz → g x y z h = some h' → (∀ H', Ext K m H m H' → RH K m H' h' → Q H') → t vx vy vz H Q
def setL : List U → Nat → U → List U
  | [], _, _ => []
  | a :: r, k, u => match k with | 0 => u :: r | k + 1 => a :: setL r k u
theorem setL_eq : ∀ (xs : List U) (k : Nat) (u : U), setL xs k u = xs.set k u
  | [], k, u => by simp [setL]
  | a :: r, 0, u => by simp [setL]
  | a :: r, k + 1, u => by simp [setL, setL_eq r k u]
theorem RUs.set : ∀ {us : List U} {vs : List V} {u : U} {v : V} (k : Nat), RUs K m H us vs → RU K m H u v → RUs K m H (us.set k u) (vs.set k v)
  | [], vs, u, v, k, r, q => by rw [show vs = [] from r]; simp; exact rfl
  | a :: us, vs, u, v, k, r, q => by
    obtain ⟨w, ws, rfl, r1, r2⟩ := r
    cases k with
    | zero => exact ⟨v, ws, rfl, q, r2⟩
    | succ k => exact ⟨w, ws.set k v, rfl, r1, RUs.set k r2 q⟩
def gSet : U → U → U → Hq → Option Hq := fun x y z h => match x with
  | .ref j => (match h.get j with
    | some (.dct kvs) => (match isKey y, kNd kvs, szOk kvs with | true, true, true => some (h.set j (.dct (dput kvs y z))) | _, _, _ => none)
    | some (.lst us) => (match y with | .int i => (match ixN us.length i with | some k => some (h.set j (.lst (setL us k z))) | none => none) | _ => none)
    | _ => none)
  | _ => none
def rSetQ : TSet := fun o i v H Q => rSetL o i v H Q ∨ rSetD o i v H Q
theorem set_Q {X : Cx} (hu : X.A.units + 1 < cLine) : PSet X rSetQ := set_list.or (set_dict hu)
theorem simset : SimSet K rSetQ gSet := fun m h H x y z vx vy vz h' Q R qx qy qz e o => by
  unfold gSet at e
  split at e
  · rename_i j
    split at e
    · rename_i kvs q
      split at e
      · rename_i hk hn hz
        cases e
        obtain ⟨k, hk⟩ := isKey_ok hk
        obtain ⟨a, ha, rfl, vs, h1, h2⟩ := R.of q qx
        have ev := ru_key qy hk
        subst ev
        have nd := kNd_ok h2 hn
        obtain ⟨e1, R1⟩ := R.put (o := .dct (dput kvs y z)) (ho := .dK (putK vs k vz)) ha h1 trivial ⟨_, upd_same, (dput_ok hk qz h2 nd).mono (Ext.upd ha ⟨_, h1, trivial⟩)⟩
        exact .inr ⟨a, _, rfl, DPut.k h1 (by rw [← h2.len]; exact szOk_le hz), o _ e1 R1⟩
      · cases e
    · rename_i us q
      split at e
      · split at e
        · rename_i k hk
          cases e
          obtain ⟨a, ha, rfl, vs, h1, h2⟩ := R.of q qx
          cases qy
          rw [h2.len] at hk
          obtain ⟨e1, R1⟩ := R.put (o := .lst (setL us k z)) (ho := .lst (vs.set k vz)) ha h1 trivial ⟨_, upd_same, by rw [setL_eq]; exact (h2.set k qz).mono (Ext.upd ha ⟨_, h1, trivial⟩)⟩
          exact .inl ⟨a, vs, _, k, rfl, rfl, h1, hk, o _ e1 R1⟩
        · cases e
      · cases e
    · cases e
  · cases e
/-- a target o[i] -/
def gfSub (g : U → U → U → Hq → Option Hq) (fo fi : MF U) : GF := fun v env h => bnd (fo env h) fun x h1 => bnd (fi env h1) fun y h2 => match g x y v h2 with | some h3 => ret env h3 | none => none
theorem simg_sub {to ti : TE} {t : TSet} {fo fi : MF U} {g : U → U → U → Hq → Option Hq} (so : Sim K E to fo) (si : Sim K E ti fi) (ss : SimSet K t g) : SimG K E (gSub to ti t) (gfSub g fo fi) := fun m h env σ H u v r Q re R q e o => by
  refine so.on re R e o.x fun x h1 m1 H1 vx e1 x1 R1 q1 => ?_
  refine si.on (re.mono x1) R1 e1 (o.mono x1).x fun y h2 m2 H2 vy e2 x2 R2 q2 => ?_
  split at e2
  · rename_i h3 q3
    cases e2
    exact ss m2 h2 H2 x y u vx vy v h3 _ R2 (q1.mono x2) q2 (q.mono (x1.trans x2)) q3 fun H' x3 R3 => o m2 H' σ ((x1.trans x2).trans x3) R3 (re.mono ((x1.trans x2).trans x3))
  · cases e2
/-- o[i] op= e -/
def SimGet (K : PySem.W.Frag) (t : V → V → Hp → VK → Prop) (g : U → U → Hq → Option (U × Hq)) : Prop := SimR K t g
def gDget : U → U → Hq → Option (U × Hq) := fun x y h => match x with
  | .ref j => (match h.get j with | some (.dct kvs) => (match isKey y, dget kvs y with | true, some u => some (u, h) | _, _ => none) | _ => none)
  | _ => none
theorem simr_dget : SimR K rIxDk gDget := fun m h H x y vx vy u h' Q R qx qy e o => by
  unfold gDget at e
  split at e
  · split at e
    · rename_i kvs q
      split at e
      · rename_i hk hg
        cases e
        obtain ⟨k, hk⟩ := isKey_ok hk
        obtain ⟨a, ha, rfl, vs, h1, h2⟩ := R.of q qx
        have ev := ru_key qy hk
        subst ev
        obtain ⟨v, e1, e2⟩ := (dget_ok hk h2).1 _ hg
        exact ⟨a, v, rfl, by rw [← e1]; exact DGet.k h1, o m H _ .refl R e2⟩
      · cases e
    · cases e
  · cases e
def sAugS (gg gp : U → U → Hq → Option (U × Hq)) (gs : U → U → U → Hq → Option Hq) (fo fi fe : MF U) : SF := fun env h => bnS env (fo env h) fun x h1 => bnS env (fi env h1) fun y h2 => match gg x y h2 with
  | some (w, h3) => bnS env (fe env h3) fun z h4 => (match gp w z h4 with
    | some (q, h5) => (match gs x y q h5 with | some h6 => some (.nx, env, h6) | none => none)
    | none => none)
  | none => none
theorem sims_augS {to ti te : TE} {tget : V → V → Hp → VK → Prop} {tip : TIp} {tset : TSet} {gg gp : U → U → Hq → Option (U × Hq)} {gs : U → U → U → Hq → Option Hq} {fo fi fe : MF U} (so : Sim K E to fo) (si : Sim K E ti fi) (sg : SimR K tget gg) (se : Sim K E te fe) (sp : SimR K tip gp) (ss : SimSet K tset gs) :
    SimS K E (tAugS to ti te tget tip tset) (sAugS gg gp gs fo fi fe) := fun m h env σ H r D re R e o => by
  refine so.onS re R e o.x fun x h1 m1 H1 vx e1 x1 R1 q1 => ?_
  refine si.onS (re.mono x1) R1 e1 (o.mono x1).x fun y h2 m2 H2 vy e2 x2 R2 q2 => ?_
  split at e2
  · rename_i w h3 e3
    refine sg m2 h2 H2 x y vx vy w h3 _ R2 (q1.mono x2) q2 e3 fun m3 H3 vw x3 R3 q3 => ?_
    have x03 := (x1.trans x2).trans x3
    refine se.onS (re.mono x03) R3 e2 (o.mono x03).x fun z h4 m4 H4 vz e4 x4 R4 q4 => ?_
    split at e4
    · rename_i q h5 e5
      refine sp m4 h4 H4 w z vw vz q h5 _ R4 (q3.mono x4) q4 e5 fun m5 H5 vq x5 R5 q5 => ?_
      split at e4
      · rename_i h6 e6
        cases e4
        have x35 := x3.trans (x4.trans x5)
        refine ss m5 h5 H5 x y q vx vy vq h6 _ R5 (q1.mono (x2.trans x35)) (q2.mono x35) q5 e6 fun H6 x6 R6 => ?_
        have x06 := (x03.trans (x4.trans x5)).trans x6
        exact o m5 H6 σ x06 R6 (re.mono x06)
      · cases e4
    · cases e4
  · cases e2
/-- x op= e at a name -/
def sAug (i : Nat) (gp : U → U → Hq → Option (U × Hq)) (fe : MF U) : SF := fun env h => match env[i]? with
  | some (some w) => bnS env (fe env h) fun z h1 => (match gp w z h1 with | some (q, h2) => some (.nx, env.set i (some q), h2) | none => none)
  | _ => none
theorem sims_aug {i : Nat} {te : TE} {ti : TIp} {fe : MF U} {gp : U → U → Hq → Option (U × Hq)} (se : Sim K E te fe) (sp : SimR K ti gp) : SimS K E (tAug i te ti) (sAug i gp fe) := fun m h env σ H r D re R e o => by
  unfold sAug at e
  split at e
  · rename_i w q
    obtain ⟨v, h1, h2⟩ := re.at q
    refine ⟨v, h1, ?_⟩
    refine se.onS re R e o.x fun z h1 m1 H1 vz e1 x1 R1 q1 => ?_
    split at e1
    · rename_i y h3 e3
      cases e1
      exact sp m1 h1 H1 w z v vz y h3 _ R1 (h2.mono x1) q1 e3 fun m3 H3 vy x3 R3 q3 => o m3 H3 _ (x1.trans x3) R3 ((re.mono (x1.trans x3)).set i q3)
    · cases e1
  · cases e
/-! ### {} -/
def eDnew : MF U := fun _ h => lf (mk (.dct []) h)
theorem sim_dnew : Sim K E tDNewK eDnew := fun m h env σ H r Q re R e o => by
  obtain ⟨u, h2, e2, rfl⟩ := lf_inv e
  obtain ⟨hn, rfl, rfl⟩ := mk_inv e2
  intro p hp
  obtain ⟨e3, R3, u3⟩ := R.laid (o := .dct []) (ho := .dK []) hn hp fun m' H' x hp' => ⟨[], hp', rfl⟩
  exact o _ _ _ e3 R3 u3
end QE
/-! enumerate(t), t a tuple. -/
namespace L2
open PySem PySem.Spec PyProof.Rows
theorem wp_both {α : Type} {M : Model} {A : Around} {b : Bool} {m1 m2 : Sem α} {Q : α → Shared → Prop} {E : Value → Shared → Prop} {s : Shared} (h1 : wpAny M A m1 Q E s) (h2 : wpAny M A m2 Q E s) : wpAny M A (if b = true then m1 else m2) Q E s := by
  cases b
  · exact h2
  · exact h1
theorem meets_enum1 {v : Value} {o : Obj} {H : Heap → Prop} (B : Begins v o H) : Meets (Builtin.«enumerate.__new__» { pos := [.type "enumerate", v] }) fun _ R s =>
    H s.heap ∧ R (.ok (.ret (.ref (s.heap.push o).objs.size))) { s with heap := (s.heap.push o).push { cls := .type "enumerate", data := .fields #[.none, .bool false, .ref s.heap.objs.size, rawInt 0, .none, .none] } } := by
  intro prog w A R s h
  obtain ⟨hH, hR⟩ := h
  unfold Builtin.«enumerate.__new__»
  have e1 : Builtin.SmallTypes.newClass "enumerate" { pos := [.type "enumerate", v] } = pure (.type "enumerate", [v]) := by rfl
  rw [e1]
  refine wpAny_bind (wpAny_pure ?_)
  dsimp only
  rw [if_pos (by rfl)]
  have tail : wpAny (model prog w) A.in1 (do
              let __do_lift ← pyIter v
              let __do_lift ←
                Builtin.SmallTypes.newRecord (Value.type "enumerate")
                    (Builtin.SmallTypes.ownedTupleFields ++ [__do_lift, rawInt 0, Value.none, Value.none])
              ret __do_lift) (fun fin s' =>
        match fin with
        | Fin.done f => R (Except.ok f) s'
        | Fin.again c' => c'.quiet = true ∧ codeAny (model prog w) A c' R s')
      (fun e s' => R (Except.error e) s') s := by
    refine wpAny_bind (B.iter _ _ _ _ _ _ hH ?_)
    refine wpAny_bind ?_
    unfold Builtin.SmallTypes.newRecord
    dsimp only
    unfold newObj
    exact wpAny_bind (wpAny_alloc (wpAny_pure (wpAny_pure hR)))
  refine wpAny_bind ?_
  unfold Builtin.SmallTypes.calledThroughType
  refine wpAny_bind (wpAny_stack ?_)
  intro st _ _ _
  refine wpAny_pure ?_
  refine wp_both ?_ ?_
  · refine wpAny_bind ?_
    show wpAny _ _ (pure (v, none)) _ _ _
    exact wpAny_pure tail
  · refine wpAny_bind ?_
    show wpAny _ _ (pure (v, none)) _ _ _
    exact wpAny_pure tail
theorem begins_tup (t : Addr) (items : Array Value) : Begins (.ref t) { cls := .type "tuple_iterator", data := .fields #[.ref t, .int 0 0] } (fun h => h.IsTuple t items) where
  iter := fun prog w A E s Q h q => wpAny_pyIter_tuple h q
  keeps := fun h h' ⟨o, e, r⟩ k => ⟨o, k t o e, r⟩
  free := rfl
theorem call_enum1 {prog : Program} {w : World} {A : Around} {E : Value → Shared → Prop} {s : Shared} {v : Value} {o : Obj} {H : Heap → Prop} {Q : Value → Shared → Prop} (B : Begins v o H) (h : H s.heap)
    (q : ∀ h' : Heap, IsEnum h' (s.heap.objs.size + 1) s.heap.objs.size 0 .none → h'.get? s.heap.objs.size = some o → h'.objs.size = s.heap.objs.size + 2 → (∀ b o, s.heap.get? b = some o → h'.get? b = some o) → Q (.ref (s.heap.objs.size + 1)) { s with heap := h' }) :
    wpAny (model prog w) A (call (.type "enumerate") [v]) Q E s := by
  have z1 : (s.heap.push o).objs.size = s.heap.objs.size + 1 := Heap.size_push ..
  have hob : ((s.heap.push o).push { cls := .type "enumerate", data := .fields #[.none, .bool false, .ref s.heap.objs.size, rawInt 0, .none, .none] }).get? (s.heap.objs.size + 1) = some { cls := .type "enumerate", data := .fields #[.none, .bool false, .ref s.heap.objs.size, rawInt 0, .none, .none] } := by
    rw [← z1]
    exact Heap.get?_push_size _ rfl
  refine callType_new F.called_enumerate (by decide) (F.typeCall_enumerate_1 v) (F.newCall_enumerate_1 v) (fun obj => by rfl) F.entry_enumerate_new (meets_enum1 B) ⟨h, ?_⟩
  refine ⟨⟨_, by rw [z1]; exact hob, rfl⟩, ?_⟩
  rw [z1]
  refine q _ hob ?_ ?_ ?_
  · exact Heap.get?_push_of_some _ (Heap.get?_push_size _ B.free)
  · rw [Heap.size_push, z1]
  · exact fun b u e => Heap.get?_push_of_some _ (Heap.get?_push_of_some _ e)
theorem relV_inj {x y : V} {u : Value} (h1 : RelV x u) (h2 : RelV y u) : x = y := by
  cases x <;> cases y <;> simp only [RelV] at h1 h2 <;>
    first
    | rfl
    | (subst h1; cases h2; done)
    | (subst h1; cases h2; rfl)
    | (obtain ⟨t1, rfl⟩ := h1; obtain ⟨t2, h2⟩ := h2; cases h2; rfl)
    | (obtain ⟨t1, rfl⟩ := h1; obtain ⟨t2, h2⟩ := h2; cases h2; done)
    | (obtain ⟨t1, rfl⟩ := h1; cases h2; done)
    | (subst h1; obtain ⟨t2, h2⟩ := h2; cases h2; done)
theorem vals_inj : ∀ {xs ys : List V} {us : List Value}, Vals xs us → Vals ys us → xs = ys
  | _, _, _, .nil, .nil => rfl
  | _, _, _, .cons a b, .cons c d => by rw [relV_inj a c, vals_inj b d]
theorem Inv.tup_inj {X : Cx} {pins : List (Addr × Obj)} {σ : St} {H : Hp} {s : Shared} {a : Addr} {xs ys : List V} (I : Inv X pins σ H s) (h1 : SqT X.K H a xs) (h2 : SqT X.K H a ys) : xs = ys := by
  obtain ⟨i1, r1, ⟨o1, e1, _, n1, d1⟩, _⟩ := I.tuple h1
  obtain ⟨i2, r2, ⟨o2, e2, _, n2, d2⟩, _⟩ := I.tuple h2
  rw [e1] at e2
  cases e2
  rw [d1] at d2
  have e : i1.toArray = i2.toArray := by injection d2
  have e' : i1 = i2 := by simpa using e
  subst e'
  exact vals_inj r1 r2
def IteT (K : PySem.W.Frag) (a : Addr) : It where
  go := fun i H => ∃ xs x, SqT K H a xs ∧ xs[i]? = some x
  yld := fun i H v H' => ∃ T x, v = .ref T ∧ H T = none ∧ H' = upd H T (.tup [.int i, x]) ∧ ∀ xs, SqT K H a xs → xs[i]? = some x
  stop := fun i H => ∃ xs, SqT K H a xs ∧ xs.length = i
theorem turn_enumT {P : Program} {w : World} {K : PySem.W.Frag} {elts : List Expr} {kk : Nat} {tpos : Pos} (a e it : Addr) :
    Turn P w K (.Tuple elts kk tpos) (IteT K a) [e, it] e fun i h => (∃ old, IsEnum h e it i old) ∧ h.IsTupleIter it a i ∧ e ≠ it where
  mem := List.mem_cons_self
  obj := by
    rintro i h ⟨⟨old, h1⟩, h2, _⟩ b hb
    simp only [List.mem_cons, List.not_mem_nil, or_false] at hb
    rcases hb with rfl | rfl
    · exact ⟨_, h1, fun v z => by cases z⟩
    · obtain ⟨o, e1, e2, e3⟩ := h2
      refine ⟨o, e1, fun v z => ?_⟩
      first
        | (rw [z] at e3; cases e3)
        | (obtain ⟨_, e3⟩ := e3; rw [z] at e3; cases e3)
  keep := by
    rintro i h h' ⟨⟨old, h1⟩, h2, h3⟩ k
    refine ⟨⟨old, k e (by simp) _ h1⟩, ?_, h3⟩
    obtain ⟨o, e1, e2⟩ := h2
    exact ⟨o, k it (by simp) o e1, e2⟩
  item := by
    rintro X rfl rfl rfl hc i pins s σ H E I fok ⟨⟨old, h1⟩, h2, hne⟩ ⟨xs, x, hx, ex⟩
    obtain ⟨its, rv, ht, hz⟩ := I.tuple hx
    have nte : ∀ {o : Obj} {es}, s.heap.get? e = some o → o.data = .fields es → a ≠ e := fun {o es} e1 e2 z => by
      obtain ⟨o2, e3, _, n, e4⟩ := ht
      rw [z, e1] at e3
      cases e3
      rw [e2] at e4
      cases e4
    have nti : a ≠ it := fun z => by
      obtain ⟨o2, e3, _, n, e4⟩ := ht
      obtain ⟨o, e1, e2, e5⟩ := h2
      rw [z, e1] at e3
      cases e3
      first
        | (rw [e4] at e5; cases e5)
        | (obtain ⟨_, e5⟩ := e5; rw [e4] at e5; cases e5)
    have D := Draws.tuple (prog := X.prog) (w := X.w) (A := X.A.in1) (I.ok.hd hc) it a nti its.toArray
    have hlt : i < its.toArray.size := by
      have := (List.getElem?_eq_some_iff.mp ex).1
      rw [rv.length] at this
      simpa using this
    refine wpAny_pyNext_enum_itemD D h1 ⟨h2, ht⟩ hlt hne (by
      simp only [List.mem_cons, List.not_mem_nil, or_false, not_or]
      exact ⟨hne, fun z => nte h1 rfl z.symm⟩) fun x' h' tk px hout hst ht2 hsz kp => ⟨_, rfl, ?_⟩
    refine wpAny_letOwnedTupleGo_enum hout fun h2' he2 sb => ?_
    obtain ⟨u, hu, ru⟩ := rv.get ex
    have px' : its[i]? = some x' := by simpa using px
    rw [hu] at px'
    have px2 : u = x' := Option.some.inj px'
    subst px2
    have nT : s.heap.objs.size ≠ e := fun z => by
      have l := Heap.lt_size h1
      rw [z] at l
      exact Nat.lt_irrefl _ l
    have kp2 : ∀ b o, b ∉ [e, it] → s.heap.get? b = some o → h2'.get? b = some o := fun b o hb e1 => by
      simp only [List.mem_cons, List.not_mem_nil, or_false, not_or] at hb
      rw [sb.2 b hb.1]
      exact kp b o hb.1 hb.2 e1
    have hTn := I.hok.fresh (Nat.le_refl s.heap.objs.size)
    refine ⟨.ref s.heap.objs.size, upd H s.heap.objs.size (.tup [.int i, x]), ?_, rfl, ⟨_, x, rfl, hTn, rfl, fun ys hy => ?_⟩, ⟨⟨_, he2⟩, ?_, hne⟩, fun b hb => ?_⟩
    · refine I.turnedNew (ch := [e, it]) (t' := tk + 1) kp2 fok (Nat.le_refl _) ⟨by show 2 ≤ sizeLine; decide, [.int i tk, u], .cons ⟨_, rfl⟩ (.cons ru .nil), ?_⟩
      exact ⟨_, (sb.2 _ nT).trans ht2, rfl, _, rfl⟩
    · rw [I.tup_inj hy hx]
      exact ex
    · obtain ⟨o, e1, e2⟩ := hst.1
      exact ⟨o, by rw [sb.2 it (Ne.symm hne)]; exact e1, e2⟩
    · have hb1 := (fok b hb).1
      rw [upd_ne]
      · exact hb1
      · intro z
        simp only [List.mem_cons, List.not_mem_nil, or_false] at hb
        rcases hb with rfl | rfl
        · exact nT z.symm
        · obtain ⟨o, e1, _⟩ := h2
          have l := Heap.lt_size e1
          rw [← z] at l
          exact Nat.lt_irrefl _ l
  done := by
    rintro X rfl rfl rfl hc i pins s σ H E I fok ⟨⟨old, h1⟩, h2, hne⟩ ⟨xs, hx, rfl⟩
    obtain ⟨its, rv, ht, hz⟩ := I.tuple hx
    have nti : a ≠ it := fun z => by
      obtain ⟨o2, e3, _, n, e4⟩ := ht
      obtain ⟨o, e1, e2, e5⟩ := h2
      rw [z, e1] at e3
      cases e3
      first
        | (rw [e4] at e5; cases e5)
        | (obtain ⟨_, e5⟩ := e5; rw [e4] at e5; cases e5)
    have D := Draws.tuple (prog := X.prog) (w := X.w) (A := X.A.in1) (I.ok.hd hc) it a nti its.toArray
    have hn : its.toArray.size = xs.length := by rw [List.size_toArray, rv.length]
    refine wpAny_pyNext_enum_endD D h1 (by rw [hn]; exact ⟨h2, ht⟩) fun h' eb => ⟨rfl, ?_⟩
    exact I.turnedL (ch := [e, it]) (t' := s.toks) (fun b o hb e1 => eb b o (fun z => hb (by rw [z]; simp)) e1) fok
  self := by
    rintro A i s Q E ⟨⟨old, h1⟩, _⟩ q
    exact wpAny_pyIter_enum h1 q
def iEnumT (K : PySem.W.Frag) (ta : TA) : TI := fun σ H R => ta σ H fun vs H1 => ∃ a xs, vs = [.ref a] ∧ SqT K H1 a xs ∧ R (IteT K a) H1
theorem pi_enumT {X : Cx} {e : Expr} {ta : TA} {p pos tpos : Pos} {elts : List Expr} {kk : Nat} (hg : Gl X "enumerate") (hm : X.mg "enumerate" = none) (ha : PA X [e] ta) (hs : starEach [e] X.env = [(false, eval e X.env)] := by rfl) :
    PI X (.Tuple elts kk tpos) (.Call (.Name "enumerate" p) [e] [] pos) (iEnumT X.K ta) where
  run := fun pins s σ H R I q => by
    refine wpAny_Call_Name_kw (ld_blt I hg hm PyProof.Rows.boot_enumerate ?_)
    refine PyProof.Rows.callWith_type1 ?_ hs (by rfl)
    refine wpAny_mono (ha.run _ pins s σ H _ I q) (fun us s1 h1 => ?_) fun _ _ e => e
    obtain ⟨vs, H1, I1, rv, a, xs, rfl, hx, r⟩ := h1
    obtain ⟨u, rfl, ru⟩ := vals1 rv
    cases ru
    obtain ⟨its, rx, ht, hz⟩ := I1.tuple hx
    refine call_enum1 (begins_tup a its.toArray) ht fun h' he hi hsz kp => ?_
    refine wpAny_pyIter_enum he ?_
    have I2 : Inv X pins σ H1 { s1 with heap := h' } := I1.turnedL (ch := []) (t' := s1.toks) (fun b o _ e => kp b o e) (fun b hb => by cases hb)
    have ne : s1.heap.objs.size + 1 ≠ s1.heap.objs.size := Nat.succ_ne_self _
    refine ⟨s1.heap.objs.size + 1, [s1.heap.objs.size + 1, s1.heap.objs.size], _, IteT X.K a, H1, rfl, I2, turn_enumT a _ s1.heap.objs.size, ⟨⟨_, he⟩, ⟨_, hi, rfl, rfl⟩, ne⟩, fun b hb => ?_, r⟩
    simp only [List.mem_cons, List.not_mem_nil, or_false] at hb
    have hb2 : s1.heap.objs.size ≤ b := by rcases hb with rfl | rfl <;> omega
    exact I1.fpOk hb2 (I1.hok.fresh hb2)
end L2
/-! Sets of tuples of keys (texts and ints): what the machine asks of an element. -/
namespace L2
open PySem PySem.Spec PyProof.Rows
/-- the tuples of texts and ints -/
abbrev MK (P : Program) (w : World) : HeapKind P w (List Key) := tupleKind (mixKind P w)
abbrev IsM (P : Program) (w : World) (h : Heap) (k : List Key) (a : Addr) : Prop := IsTupleKey (mixKind P w) h k a
section
variable {P : Program} {w : World} {A : Around} {E : Value → Shared → Prop} {s : Shared}
theorem isM_keep {h h' : Heap} {k : List Key} {b : Addr} (i : IsM P w h k b) (kp : ∀ o, h.get? b = some o → h'.get? b = some o) : IsM P w h' k b := by
  obtain ⟨o, items, n, e, r⟩ := i
  exact ⟨o, items, n, kp o e, r⟩
theorem isM_same {h h' : Heap} {k : List Key} {a b : Addr} {o : Obj} {es : Array (Int × Value)} {ep : Nat} {t : SetTable} (i : IsM P w h k b) (e : h.get? a = some o) (d : o.data = .set es ep t) (sb : Heap.SameBut a h h') : IsM P w h' k b := by
  refine isM_keep i fun o2 e2 => ?_
  by_cases z : b = a
  · obtain ⟨o3, items, n, e3, _, d3, _⟩ := i
    rw [z, e] at e3
    cases e3
    rw [d] at d3
    cases d3
  · rw [sb.2 b z]
    exact e2
theorem isM_ne {h : Heap} {k : List Key} {a b : Addr} {o : Obj} {es : Array (Int × Value)} {ep : Nat} {t : SetTable} (i : IsM P w h k b) (e : h.get? a = some o) (d : o.data = .set es ep t) : b ≠ a := by
  intro z
  obtain ⟨o3, items, n, e3, _, d3, _⟩ := i
  rw [z, e] at e3
  cases e3
  rw [d] at d3
  cases d3
theorem mix_val {k : Key} {v : Value} (h : (mixKind P w).is k v = true) : carriedByValue v = true := (mixKind P w).byValue k v h
theorem items_byValue : ∀ {ks : List Key} {vs : List Value}, ItemsAre (mixKind P w) ks vs → ∀ v ∈ vs, carriedByValue v = true
  | _, _, .nil, _, h => by cases h
  | _, _, .cons h t, v, m => by
    rcases List.mem_cons.mp m with rfl | m
    · exact mix_val h
    · exact items_byValue t v m
theorem hashBy_val : ∀ (n : Nat) {v : Value}, carriedByValue v = true → ∃ b, hashByValue n v = pure b
  | n, v, h => by
    rw [hashByValue.eq_def]
    cases v <;> first | exact ⟨_, rfl⟩ | cases h
theorem ofAClass_val : ∀ (n : Nat) {v : Value}, carriedByValue v = true → ofAClassStatement n v = pure false
  | n, v, h => by
    rw [ofAClassStatement.eq_def]
    cases v <;> first | rfl | cases h
theorem isM_type {h : Heap} {k : List Key} {b : Addr} (i : IsM P w h k b) : ∃ o, h.get? b = some o ∧ o.cls = .type "tuple" := by
  obtain ⟨o, items, n, e, c, _⟩ := i
  exact ⟨o, e, c⟩
theorem hashBy_mix {k : List Key} {b : Addr} {Q : Bool → Shared → Prop} (i : IsM P w s.heap k b) (q : ∀ z, Q z s) : wpAny (model P w) A (hashByValue 8 (.ref b)) Q E s := by
  obtain ⟨o, items, n, e, c, d, it⟩ := i
  rw [hashByValue.eq_def]
  refine wpAny_bind (wpAny_specialOf (T := "tuple") ⟨o, e, c⟩ (r := some (.builtin "tuple.__hash__")) rfl ?_)
  refine wpAny_bind (wpAny_seqItems e d ?_)
  refine wpAny_bind (wpAny_forIn_array' _ (fun rest (_ : Option Bool × Unit) s' => s' = s ∧ ∀ v ∈ rest, carriedByValue v = true) _ ?_ ?_ _ _ ⟨rfl, items_byValue it⟩)
  · rintro x rest r s' ⟨rfl, hv⟩
    obtain ⟨z, hz⟩ := hashBy_val 7 (hv x List.mem_cons_self)
    rw [hz]
    refine wpAny_bind (wpAny_pure ?_)
    cases z
    · refine wpAny_pure ?_
      exact wpAny_pure (q _)
    · exact wpAny_pure ⟨rfl, fun v hm => hv v (List.mem_cons_of_mem _ hm)⟩
  · rintro r s' ⟨rfl, _⟩
    obtain ⟨r1, r2⟩ := r
    cases r1 <;> exact wpAny_pure (q _)
theorem ofAClass_mix {k : List Key} {b : Addr} {Q : Bool → Shared → Prop} (i : IsM P w s.heap k b) (q : Q false s) : wpAny (model P w) A (ofAClassStatement 8 (.ref b)) Q E s := by
  obtain ⟨o, items, n, e, c, d, it⟩ := i
  rw [ofAClassStatement.eq_def]
  refine wpAny_bind (wpAny_typeOf (T := "tuple") ⟨o, e, c⟩ ?_)
  refine wpAny_bind (wpAny_pure ?_)
  refine wpAny_bind (wpAny_seqItems e d ?_)
  refine wpAny_bind (wpAny_forIn_array' _ (fun rest (r : Option Bool × Unit) s' => s' = s ∧ r = (none, ()) ∧ ∀ v ∈ rest, carriedByValue v = true) _ ?_ ?_ _ _ ⟨rfl, rfl, items_byValue it⟩)
  · rintro x rest r s' ⟨rfl, rfl, hv⟩
    rw [ofAClass_val 7 (hv x List.mem_cons_self)]
    refine wpAny_bind (wpAny_pure ?_)
    exact wpAny_pure ⟨rfl, rfl, fun v hm => hv v (List.mem_cons_of_mem _ hm)⟩
  · rintro r s' ⟨rfl, rfl, _⟩
    exact wpAny_pure q
theorem seen_mix {k : List Key} {b : Addr} {Q : Bool → Shared → Prop} (i : IsM P w s.heap k b) {ys : List Value} (hy : ∀ y ∈ ys, ∃ k' c, y = .ref c ∧ IsM P w s.heap k' c) (q : Q false s) : wpAny (model P w) A (searchCouldBeSeen (.ref b) ys) Q E s := by
  unfold searchCouldBeSeen
  refine wpAny_bind (wpAny_forIn_list _ (fun rest (r : Option Bool × Unit) s' => s' = s ∧ r = (none, ()) ∧ ∀ y ∈ rest, ∃ k' c, y = .ref c ∧ IsM P w s.heap k' c) _ ?_ ?_ _ _ ⟨rfl, rfl, hy⟩)
  · rintro y rest r s' ⟨rfl, rfl, hv⟩
    obtain ⟨k', c, rfl, i'⟩ := hv _ List.mem_cons_self
    have nx : ∀ y ∈ rest, ∃ k' c, y = .ref c ∧ IsM P w s'.heap k' c := fun v hm => hv v (List.mem_cons_of_mem _ hm)
    dsimp only
    by_cases z : (b == c || carriedByValue (.ref b) && carriedByValue (.ref c)) = true
    · rw [if_pos z]
      exact wpAny_pure ⟨rfl, rfl, nx⟩
    · rw [if_neg z]
      refine wpAny_bind (wpAny_eqIsQuiet_tuple i ?_)
      refine wpAny_bind (wpAny_eqIsQuiet_tuple i' ?_)
      refine wpAny_bind (ofAClass_mix i ?_)
      refine wpAny_bind (ofAClass_mix i' ?_)
      exact wpAny_pure ⟨rfl, rfl, nx⟩
  · rintro r s' ⟨rfl, rfl, _⟩
    exact wpAny_pure q
end
end L2
/-! Sets of tuples of keys: the search in the table. -/
namespace L2
open PySem PySem.Spec PyProof.Rows
abbrev mh (P : Program) (w : World) (k : List Key) : Int := (MK P w).hash k
abbrev rowsM (P : Program) (w : World) (L : List (Addr × List Key)) : List (Int × Value) := L.map fun p => (mh P w p.2, Value.ref p.1)
/-- the set at a, by its elements as they stand in its rows -/
structure SetM (P : Program) (w : World) (h : Heap) (a : Addr) (L : List (Addr × List Key)) (es : Array (Int × Value)) (ep : Nat) (t : SetTable) : Prop where
  ob : ∃ o, h.get? a = some o ∧ o.ExactSet ∧ o.data = .set es ep t
  rows : es.toList = rowsM P w L
  tab : TabOk t (L.map fun p => mh P w p.2)
  nd : (L.map (·.2)).Nodup
  tup : ∀ p ∈ L, IsM P w h p.2 p.1
  room : L.length * 5 < t.mask * 3
  few : L.length < 64
theorem nth_dummy (m : Nat) (p : SetTable.Probe) (h : p.dummy = none) : ∀ k, (nth m p k).dummy = none
  | 0 => h
  | k + 1 => by
    rw [nth_succ]
    have ih := nth_dummy m p h k
    unfold adv
    split
    · exact ih
    · exact ih
section
variable {P : Program} {w : World} {A : Around} {E : Value → Shared → Prop} {s : Shared} {h : Heap} {a : Addr} {L : List (Addr × List Key)} {es : Array (Int × Value)} {ep : Nat} {t : SetTable}
theorem SetM.size (S : SetM P w h a L es ep t) : es.size = L.length := by
  have e := congrArg List.length S.rows
  simpa using e
theorem SetM.psize (S : SetM P w h a L es ep t) : t.place.size = L.length := by
  rw [S.tab.sz, List.length_map]
theorem SetM.fits (S : SetM P w h a L es ep t) : t.fits es.size = true := by
  unfold SetTable.fits SetTable.fill
  rw [S.size, S.psize, S.tab.dm]
  have := S.room
  simp
  omega
theorem SetM.gw (S : SetM P w h a L es ep t) : t.gaveWay = false := by
  unfold SetTable.gaveWay
  rcases S.tab.mok with e | e | e <;> rw [e] <;> rfl
theorem SetM.entry (S : SetM P w h a L es ep t) {i : Nat} {p : Addr × List Key} (e : L[i]? = some p) : es[i]? = some (mh P w p.2, .ref p.1) := by
  rw [← Array.getElem?_toList, S.rows, List.getElem?_map, e]
  rfl
theorem searchM_from (S : SetM P w s.heap a L es ep t) {x : Addr} {k : List Key} (hx : IsM P w s.heap k x) (hu : A.units < cLine) {K : Nat} (hK : K < 10 * SetTable.turns t.mask) (hf : way t.mask (mh P w k) K ∉ t.place.toList) (hl : ∀ c, c < K → way t.mask (mh P w k) c ∈ t.place.toList)
    {Q : SetFound → Shared → Prop} (q1 : k ∈ L.map (·.2) → Q (.there none) s) (q2 : k ∉ L.map (·.2) → Q (.free (way t.mask (mh P w k) K) false) s) :
    ∀ (f c : Nat) (stand : Option SetTable.Probe), stand.getD (t.probeStart (mh P w k)) = nth t.mask (runAt t.mask (SetTable.bits (mh P w k) % (t.mask + 1)) (SetTable.bits (mh P w k))) c → c ≤ K → K - c < f →
      (∀ (i : Nat) (p : Addr × List Key), L[i]? = some p → p.2 = k → ∃ c', c ≤ c' ∧ c' < K ∧ t.place.toList[i]? = some (way t.mask (mh P w k) c')) →
      wpAny (model P w) A (setSearchFrom a (.ref x) (mh P w k) true f stand) Q E s := by
  intro f
  induction f with
  | zero => intro c stand _ _ h; omega
  | succ f ih =>
    intro c stand hst hcK hfu hpos
    obtain ⟨o, ho, hex, hd⟩ := S.ob
    rw [setSearchFrom_succ]
    refine wpAny_bind (wpAny_setState_of ho hd S.fits ?_)
    dsimp only
    rw [if_neg (by rw [S.gw]; exact Bool.false_ne_true)]
    generalize hp : runAt t.mask (SetTable.bits (mh P w k) % (t.mask + 1)) (SetTable.bits (mh P w k)) = p0 at *
    have hw : ∀ c, way t.mask (mh P w k) c = (nth t.mask p0 c).j := fun c => by rw [← hp]
    have hd0 : p0.dummy = none := by rw [← hp]; rfl
    rw [hst]
    unfold SetTable.probe
    have hentry : ∀ (i : Nat) (p : Addr × List Key), L[i]? = some p → ((es[i]?).map (·.1)).getD 0 = mh P w p.2 := fun i p e => by rw [S.entry e]; rfl
    have hlen : ∀ {i j : Nat}, t.place.toList[i]? = some j → ∃ p, L[i]? = some p := fun {i j} e => by
      have z := (List.getElem?_eq_some_iff.mp e).1
      rw [Array.length_toList, S.psize] at z
      exact ⟨L[i], List.getElem?_eq_getElem z⟩
    rcases go_spec t S.tab.ris S.tab.dm (fun i => ((es[i]?).map (·.1)).getD 0) (mh P w k) (10 * SetTable.turns t.mask) (K - c) (nth t.mask p0 c) (nth_dummy _ _ hd0 c) (by omega) (fun k' hk' => by rw [← nth_add, ← hw]; exact hl _ (by omega)) (by rw [← nth_add, ← hw]; rw [show c + (K - c) = K by omega]; exact hf) with ⟨k1, i, hk1, hpl, hha, hbf, hgo⟩ | ⟨hno, hgo⟩
    · rw [hgo]
      dsimp only
      obtain ⟨p, hLi⟩ := hlen hpl
      have hes := S.entry hLi
      have hpt : IsM P w s.heap p.2 p.1 := S.tup p (List.mem_of_getElem? hLi)
      have hh : mh P w p.2 = mh P w k := by rw [← hentry i p hLi]; exact hha
      have rest : wpAny (model P w) A (searchRest a (.ref x) (mh P w k) true f es t (nth t.mask (nth t.mask p0 c) k1).j i (nth t.mask (nth t.mask p0 c) (k1 + 1))) Q E s := by
        unfold searchRest
        rw [hes]
        refine wpAny_bind (wpAny_holding ((MK P w).eqBool hu hpt hx ?_))
        refine wpAny_bind (wpAny_setState_of ho hd S.fits ?_)
        dsimp only
        by_cases he : p.2 = k
        · rw [decide_eq_true he]
          refine wpAny_pure (q1 ?_)
          exact List.mem_map.mpr ⟨p, List.mem_of_getElem? hLi, he⟩
        · rw [decide_eq_false he]
          rw [if_neg (by simp)]
          rw [sameMem]
          dsimp only
          rw [if_pos rfl]
          rw [slot_live S.tab.ris hpl]
          dsimp only
          rw [hes]
          dsimp only
          refine wpAny_bind (wpAny_isSame_ref_self ?_)
          refine wpAny_bind (wpAny_pure ?_)
          rw [if_pos rfl]
          dsimp only
          rw [if_neg Bool.false_ne_true]
          refine ih (c + k1 + 1) _ ?_ (by omega) (by omega) ?_
          · show nth t.mask (nth t.mask p0 c) (k1 + 1) = _
            rw [← nth_add]
            rfl
          · intro i0 p1 h1 h2
            obtain ⟨c', g1, g2, g3⟩ := hpos i0 p1 h1 h2
            refine ⟨c', ?_, g2, g3⟩
            rcases Nat.lt_trichotomy c' (c + k1) with z | z | z
            · exfalso
              refine hbf (c' - c) i0 (by omega) ?_ ?_
              · rw [← nth_add, show c + (c' - c) = c' by omega, ← hw]
                exact g3
              · show ((es[i0]?).map (·.1)).getD 0 = _
                rw [hentry i0 p1 h1, h2]
            · exfalso
              rw [z, hw, nth_add] at g3
              have e1 : i0 = i := by
                have r := S.tab.ris
                have u1 := List.getElem?_eq_some_iff.mp g3
                have u2 := List.getElem?_eq_some_iff.mp hpl
                obtain ⟨v1, w1⟩ := u1
                obtain ⟨v2, w2⟩ := u2
                rcases Nat.lt_trichotomy i0 i with y | y | y
                · have := List.pairwise_iff_getElem.mp r i0 i v1 v2 y
                  omega
                · exact y
                · have := List.pairwise_iff_getElem.mp r i i0 v2 v1 y
                  omega
              rw [e1, hLi] at h1
              cases h1
              exact he h2
            · omega
      cases hled : t.led
      · rw [if_pos (show (!false) = true from rfl)]
        refine wpAny_bind (seen_mix hx (fun y hy => ?_) ?_)
        · obtain ⟨e, me, rfl⟩ := List.mem_map.mp hy
          have m2 : e ∈ es.toList := by
            have := Array.mem_toList_iff.mp me
            exact Array.mem_toList_iff.mpr (Array.mem_filter.mp this).1
          rw [S.rows] at m2
          obtain ⟨p', m3, rfl⟩ := List.mem_map.mp m2
          exact ⟨_, _, rfl, S.tup p' m3⟩
        · rw [if_neg Bool.false_ne_true]
          exact rest
      · rw [if_neg (by simp)]
        exact rest
    · rw [hgo]
      dsimp only
      have e : (nth t.mask (nth t.mask p0 c) (K - c)).j = way t.mask (mh P w k) K := by
        rw [← nth_add, show c + (K - c) = K by omega, ← hw]
      rw [e]
      refine wpAny_pure (q2 fun hm => ?_)
      obtain ⟨p1, m1, h2⟩ := List.mem_map.mp hm
      obtain ⟨i0, h1⟩ := List.mem_iff_getElem?.mp m1
      obtain ⟨c', g1, g2, g3⟩ := hpos i0 p1 h1 h2
      refine hno (c' - c) i0 (by omega) ?_ ?_
      · rw [← nth_add, show c + (c' - c) = c' by omega, ← hw]
        exact g3
      · show ((es[i0]?).map (·.1)).getD 0 = _
        rw [hentry i0 p1 h1, h2]
end
end L2
/-! Sets of tuples of keys: an element added. -/
namespace L2
open PySem PySem.Spec PyProof.Rows
section
variable {P : Program} {w : World} {A : Around} {E : Value → Shared → Prop} {s : Shared} {h : Heap} {a : Addr} {L : List (Addr × List Key)} {es : Array (Int × Value)} {ep : Nat} {t : SetTable}
theorem searchM (S : SetM P w s.heap a L es ep t) {x : Addr} {k : List Key} (hx : IsM P w s.heap k x) (hu : A.units < cLine)
    {Q : SetFound → Shared → Prop} (q1 : k ∈ L.map (·.2) → Q (.there none) s) (q2 : ∀ K, k ∉ L.map (·.2) → way t.mask (mh P w k) K ∉ t.place.toList → (∀ c, c < K → way t.mask (mh P w k) c ∈ t.place.toList) → Q (.free (way t.mask (mh P w k) K) false) s) :
    wpAny (model P w) A (setSearch a (.ref x) (mh P w k) true) Q E s := by
  have hr := S.room
  obtain ⟨K, hK, hf, hl⟩ := S.tab.first (by rw [List.length_map]; omega) (mh P w k)
  unfold setSearch
  have hb : 10 * SetTable.turns t.mask < 100000 := by
    unfold SetTable.turns
    rcases S.tab.mok with e | e | e <;> rw [e] <;> decide
  refine searchM_from S hx hu hK hf hl q1 (fun hn => q2 K hn hf hl) 100000 0 none (start_run _ _) (Nat.zero_le _) (by omega) fun i p e1 e2 => ?_
  have e3 : (L.map fun p => mh P w p.2)[i]? = some (mh P w k) := by rw [List.getElem?_map, e1]; exact congrArg (fun z => some (mh P w z)) e2
  have hi : i < t.place.toList.length := by
    rw [Array.length_toList, S.psize]
    exact (List.getElem?_eq_some_iff.mp e1).1
  obtain ⟨c, hc1, hc2⟩ := S.tab.before hf e3 (List.getElem?_eq_getElem hi)
  exact ⟨c, Nat.zero_le _, hc1, by rw [hc2]; exact List.getElem?_eq_getElem hi⟩
theorem orderM (L : List (Addr × List Key)) (es : Array (Int × Value)) (order : Array Nat) (e : es.toList = rowsM P w L) (hp : order.toList.Perm (List.range L.length)) :
    ∃ L', (Array.filterMap (fun x => es[x]?) order).toList = rowsM P w L' ∧ L'.Perm L ∧ (L'.map fun p => mh P w p.2) = order.toList.map fun i => (es.map (·.1)).getD i 0 := by
  have hsz : es.size = L.length := by
    have := congrArg List.length e
    simpa using this
  have ent : ∀ (i : Nat) (hi : i < L.length), es[i]? = some (mh P w L[i].2, .ref L[i].1) := fun i hi => by
    rw [← Array.getElem?_toList, e, List.getElem?_map, List.getElem?_eq_getElem hi]
    rfl
  refine ⟨order.toList.filterMap fun i => L[i]?, ?_, ?_, ?_⟩
  · rw [Array.toList_filterMap]
    have hin : ∀ i ∈ order.toList, i < L.length := fun i hi => List.mem_range.mp (hp.mem_iff.mp hi)
    clear hp
    generalize order.toList = ol at *
    induction ol with
    | nil => rfl
    | cons i l ih =>
      have hi := hin i List.mem_cons_self
      have hr := ih fun j hj => hin j (List.mem_cons_of_mem _ hj)
      rw [List.filterMap_cons, List.filterMap_cons, ent i hi, List.getElem?_eq_getElem hi]
      show _ :: _ = List.map _ (_ :: _)
      rw [List.map_cons]
      exact congrArg _ hr
  · refine (hp.filterMap _).trans ?_
    have : (List.range L.length).filterMap (fun i => L[i]?) = L := by
      apply List.ext_getElem?
      intro i
      have key : ∀ (M : List (Addr × List Key)), (List.range M.length).filterMap (fun i => M[i]?) = M := by
        intro M
        induction M with
        | nil => rfl
        | cons m M ih =>
          rw [List.length_cons, List.range_succ_eq_map, List.filterMap_cons]
          show m :: _ = _
          rw [List.filterMap_map]
          congr 1
      rw [key]
    rw [this]
  · have hin : ∀ i ∈ order.toList, i < L.length := fun i hi => List.mem_range.mp (hp.mem_iff.mp hi)
    clear hp
    generalize order.toList = ol at *
    induction ol with
    | nil => rfl
    | cons i l ih =>
      have hi := hin i List.mem_cons_self
      have hr := ih fun j hj => hin j (List.mem_cons_of_mem _ hj)
      rw [List.filterMap_cons, List.getElem?_eq_getElem hi, List.map_cons, List.map_cons, hr]
      congr 1
      have z := ent i hi
      have hie : i < es.size := by omega
      rw [Array.getElem?_eq_getElem hie] at z
      have z2 := Option.some.inj z
      rw [Array.getD_eq_getD_getElem?, Array.getElem?_map, Array.getElem?_eq_getElem hie]
      simp [z2]
theorem relayM {o : Obj} (ho : s.heap.get? a = some o) (hex : o.ExactSet) (hd : o.data = .set es ep t) (hrows : es.toList = rowsM P w L) (hps : t.place.size = es.size) (hdm : t.dummies = #[]) (hle : es.size ≤ t.mask) (hnd : (L.map (·.2)).Nodup) (htup : ∀ p ∈ L, IsM P w s.heap p.2 p.1) (hfew : L.length < 64)
    {wanted M : Nat} (hM : SetTable.sizeAbove wanted - 1 = M) (hMok : MaskOk M) (hsz : SetTable.sizeAbove wanted ≤ 128) (hroom : L.length * 5 < M * 3) {Q : Unit → Shared → Prop}
    (q : ∀ (h' : Heap) (L' : List (Addr × List Key)) (es' : Array (Int × Value)) (ep' : Nat) (t' : SetTable), Heap.SameBut a s.heap h' → SetM P w h' a L' es' ep' t' → L'.Perm L → Q () { s with heap := h' }) :
    wpAny (model P w) A (setRelay a wanted) Q E s := by
  have hfits : t.fits es.size = true := by
    unfold SetTable.fits SetTable.fill
    rw [hps, hdm]
    simp
    omega
  have hesz : es.size = L.length := by
    have := congrArg List.length hrows
    simpa using this
  rw [setRelay_eq]
  refine wpAny_bind (wpAny_setState_of ho hd hfits ?_)
  dsimp only
  rw [if_neg (by unfold sizeLine; omega)]
  have hMsz : (es.map (·.1)).size ≤ M := by rw [Array.size_map, hesz]; omega
  obtain ⟨t', order, e1, e2, e3, e4, e5, e6, e7⟩ := relaid_ok t (hs := es.map (·.1)) hM hMok hMsz
  rw [e1]
  dsimp only
  rw [Array.size_map, hesz] at e2
  obtain ⟨L', g1, g2, g3⟩ := orderM L es order hrows e2
  have hsz' : (Array.filterMap (fun x => es[x]?) order).size = es.size := by
    have := congrArg List.length g1
    rw [Array.length_toList, List.length_map, g2.length_eq] at this
    rw [this, hesz]
  rw [if_neg (by rw [hsz']; simp)]
  refine wpAny_bind (wpAny_pure ?_)
  dsimp only
  refine wpAny_storeSet_of ho hd ?_ (by rw [hsz', hesz]; unfold sizeLine; omega)
  have sb : Heap.SameBut a s.heap (s.heap.update a (Obj.putSet (Array.filterMap (fun x => es[x]?) order) t')) := Heap.SameBut.update _ _ _
  refine q _ L' _ (ep + 1) t' sb ⟨?_, g1, ?_, ?_, ?_, ?_, ?_⟩ g2
  · obtain ⟨c1, c2, c3⟩ := hex
    cases o with
    | mk c d da sl =>
      simp only at c1 c2 c3 hd
      subst c1 c2 c3 hd
      exact ⟨_, Heap.get?_update_self _ ho rfl, ⟨rfl, rfl, rfl⟩, rfl⟩
  · rw [g3]; exact e3
  · exact (g2.map _).nodup_iff.mpr hnd
  · exact fun p hp => isM_same (htup p (g2.mem_iff.mp hp)) ho hd sb
  · rw [g2.length_eq, e4]; exact hroom
  · rw [g2.length_eq]; exact hfew
theorem TabOk.plainOff {t : SetTable} {hs : List Int} (T : TabOk t hs) (b : Bool) : TabOk { t with plain := b } hs := ⟨T.ris, T.dm, T.sz, T.mok, T.bd, T.reach⟩
theorem insAt_toList {α : Type} (es : Array α) (p : Nat) (x : α) : (SetTable.insertAt es p x).toList = es.toList.take p ++ x :: es.toList.drop p := by
  unfold SetTable.insertAt
  simp [Array.toList_extract, List.extract_eq_take_drop]
  exact List.take_of_length_le (by rw [List.length_drop, Array.length_toList]; exact Nat.le_refl _)
theorem addM (S : SetM P w s.heap a L es ep t) {x : Addr} {k : List Key} (hx : IsM P w s.heap k x) (hu : A.units < cLine) (hl : L.length + 1 < 64) {Q : Bool → Shared → Prop}
    (q : ∀ (b : Bool) (h' : Heap) (L' : List (Addr × List Key)) (es' : Array (Int × Value)) (ep' : Nat) (t' : SetTable), Heap.SameBut a s.heap h' → SetM P w h' a L' es' ep' t' → (k ∈ L.map (·.2) → L' = L) → (k ∉ L.map (·.2) → L'.Perm ((x, k) :: L)) → Q b { s with heap := h' }) :
    wpAny (model P w) A (setAddHashed a (.ref x) (mh P w k)) Q E s := by
  obtain ⟨o, ho, hex, hd⟩ := S.ob
  unfold setAddHashed
  refine wpAny_holding ?_
  rw [show (100000 : Nat) = 99999 + 1 from rfl, setAddHashedIn_succ]
  refine wpAny_bind (wpAny_setState_of ho hd S.fits ?_)
  dsimp only
  rw [if_neg (show ¬ byScan (.ref x) es = true from Bool.false_ne_true)]
  refine wpAny_bind (searchM S hx hu (fun hm => ?_) fun K hn hf hle => ?_)
  · dsimp only
    exact wpAny_pure (q false s.heap L es ep t ⟨rfl, fun _ _ => rfl⟩ S (fun _ => rfl) fun z => absurd hm z)
  · dsimp only
    refine wpAny_bind (wpAny_setState_of ho hd S.fits ?_)
    dsimp only
    obtain ⟨g1, g2, g3, g4, g5, g6, g7, g8, g9⟩ := S.tab.put hf hle
    generalize hpt : t.put (way t.mask (mh P w k) K) = tp at *
    obtain ⟨t2, p⟩ := tp
    dsimp only at g1 g3 g4 g5 g6 g7 g8 g9 ⊢
    subst g1
    generalize hp : SetTable.below t.place (way t.mask (mh P w k) K) = p at *
    rw [List.length_map] at g2 g9
    have main : ∀ b : Bool, wpAny (model P w) A (do
        storeSet a (SetTable.insertAt es p (mh P w k, .ref x)) (if b = true then t2 else { t2 with plain := false })
        if (!false && (if b = true then t2 else { t2 with plain := false }).tooFull) = true then do
            setRelay a (SetTable.grown (es.size + 1))
            pure true
          else pure true) Q E s := by
      intro b
      have hT : TabOk (if b = true then t2 else { t2 with plain := false }) (List.take p (L.map fun p => mh P w p.2) ++ mh P w k :: List.drop p (L.map fun p => mh P w p.2)) := by
        cases b
        · exact g3.plainOff false
        · exact g3
      have hM : (if b = true then t2 else { t2 with plain := false }).mask = t.mask := by cases b <;> exact g4
      have hF : (if b = true then t2 else { t2 with plain := false }).fill = L.length + 1 := by cases b <;> exact g9
      generalize (if b = true then t2 else { t2 with plain := false }) = t3 at *
      have r1 : (SetTable.insertAt es p (mh P w k, Value.ref x)).toList = rowsM P w (L.take p ++ (x, k) :: L.drop p) := by
        rw [insAt_toList, S.rows]
        unfold rowsM
        rw [List.map_append, List.map_cons, List.map_take, List.map_drop]
      have hperm : (L.take p ++ (x, k) :: L.drop p).Perm ((x, k) :: L) := put_perm L p (x, k)
      have hlen : (L.take p ++ (x, k) :: L.drop p).length = L.length + 1 := by rw [hperm.length_eq]; rfl
      have hsz : (SetTable.insertAt es p (mh P w k, Value.ref x)).size = L.length + 1 := by
        have := congrArg List.length r1
        rw [Array.length_toList, List.length_map, hlen] at this
        exact this
      have hnd : ((L.take p ++ (x, k) :: L.drop p).map (·.2)).Nodup := by
        refine (hperm.map _).nodup_iff.mpr ?_
        rw [List.map_cons, List.nodup_cons]
        exact ⟨hn, S.nd⟩
      refine wpAny_bind (wpAny_storeSet_of ho hd ?_ (by rw [hsz]; unfold sizeLine; omega))
      have sb : Heap.SameBut a s.heap (s.heap.update a (Obj.putSet (SetTable.insertAt es p (mh P w k, Value.ref x)) t3)) := Heap.SameBut.update _ _ _
      have hob : ∃ o2, (s.heap.update a (Obj.putSet (SetTable.insertAt es p (mh P w k, Value.ref x)) t3)).get? a = some o2 ∧ o2.ExactSet ∧ o2.data = .set (SetTable.insertAt es p (mh P w k, Value.ref x)) (ep + 1) t3 := by
        obtain ⟨c1, c2, c3⟩ := hex
        cases o with
        | mk c d da sl =>
          simp only at c1 c2 c3 hd
          subst c1 c2 c3 hd
          exact ⟨_, Heap.get?_update_self _ ho rfl, ⟨rfl, rfl, rfl⟩, rfl⟩
      have htup : ∀ q ∈ L.take p ++ (x, k) :: L.drop p, IsM P w (s.heap.update a (Obj.putSet (SetTable.insertAt es p (mh P w k, Value.ref x)) t3)) q.2 q.1 := by
        intro z hz
        rcases List.mem_cons.mp (hperm.mem_iff.mp hz) with rfl | hz
        · exact isM_same hx ho hd sb
        · exact isM_same (S.tup z hz) ho hd sb
      have tabE : List.take p (L.map fun p => mh P w p.2) ++ mh P w k :: List.drop p (L.map fun p => mh P w p.2) = (L.take p ++ (x, k) :: L.drop p).map fun p => mh P w p.2 := by
        rw [List.map_append, List.map_cons, List.map_take, List.map_drop]
      rw [tabE] at hT
      by_cases hfull : t3.tooFull = true
      · rw [hfull, if_pos (show (!false && true) = true from rfl)]
        obtain ⟨o2, ho2, hex2, hd2⟩ := hob
        have hfu : t.mask * 3 ≤ (L.length + 1) * 5 := by
          unfold SetTable.tooFull at hfull
          have := of_decide_eq_true hfull
          rw [hF, hM] at this
          exact this
        have hrm := S.room
        have hcs : ∃ M, SetTable.sizeAbove (SetTable.grown (es.size + 1)) - 1 = M ∧ MaskOk M ∧ SetTable.sizeAbove (SetTable.grown (es.size + 1)) ≤ 128 ∧ (L.length + 1) * 5 < M * 3 ∧ L.length + 1 ≤ t.mask := by
          rw [S.size]
          rcases S.tab.mok with e | e | e
          · have : L.length = 4 := by omega
            rw [this, size_20]
            exact ⟨31, rfl, .inr (.inl rfl), by decide, by decide, by omega⟩
          · have : L.length = 18 := by omega
            rw [this, size_76]
            exact ⟨127, rfl, .inr (.inr rfl), by decide, by decide, by omega⟩
          · omega
        obtain ⟨M, m1, m2, m3, m4, m5⟩ := hcs
        refine wpAny_bind (relayM (s := { s with heap := _ }) ho2 hex2 hd2 r1 ?_ hT.dm ?_ hnd htup (by rw [hlen]; exact hl) m1 m2 m3 (by rw [hlen]; exact m4) fun h' L' es' ep' t' sb' S' pm => ?_)
        · rw [hT.sz, List.length_map, hlen, hsz]
        · rw [hsz, hM]; exact m5
        · refine wpAny_pure (q true h' L' es' ep' t' (sb.trans sb') S' (fun z => absurd z hn) fun _ => pm.trans hperm)
      · rw [if_neg (by rw [Bool.not_false, Bool.true_and]; exact hfull)]
        refine wpAny_pure (q true _ _ _ (ep + 1) t3 sb ⟨hob, r1, hT, hnd, htup, ?_, by rw [hlen]; exact hl⟩ (fun z => absurd z hn) fun _ => hperm)
        have := fun z : t3.mask * 3 ≤ t3.fill * 5 => hfull (decide_eq_true z)
        rw [hF, hM] at this
        rw [hlen, hM]
        exact Nat.lt_of_not_le this
    by_cases hpl : t2.plain = true
    · rw [if_pos hpl]
      exact wpAny_bind (hashBy_mix hx fun z => main z)
    · rw [if_neg hpl]
      exact wpAny_bind (wpAny_pure (main true))
end
end L2
/-! {elt for tg in iter if ..}: a set of anything that can be added. -/
namespace L2
open PySem PySem.Spec PyProof.Rows
/-- what an element's adding asks: D the set, y the element, Nx what is wanted behind it -/
abbrev AddR := Addr → V → Hp → (Hp → Prop) → Prop
/-- a set comprehension's reading -/
def tScG (o0 : Addr → HO) (ad : AddR) (wi : TI) (g : TG) (tt : TT) (te : TE) (vs : List Nat) : TE := fun σ H Q => wi σ H fun J H1 => ∀ D, H1 D = none → ∃ W : Nat → Nat → Hp → Prop, (∃ m, W 0 m (upd H1 D (o0 D))) ∧ ∀ i m H, W i m H →
  (J.stop i H ∧ Q (.ref D) H) ∨ (J.go i H ∧ ∃ Nx : Hp → Prop, (∀ H', Nx H' → ∃ m', m' < m ∧ W (i + 1) m' H') ∧ ∀ x H', J.yld i H x H' → g x (wipe σ vs) H' fun σ2 H2 => wipe σ2 vs = wipe σ vs ∧ tt σ2 H2 fun b H3 => if b = true then te σ2 H3 fun y H4 => ad D y H4 Nx else Nx H3)
/-- that the adding does so, in each context that has the def's around -/
structure AddOk (X : Cx) (o0 : Addr → HO) (ad : AddR) : Prop where
  new : ∀ (H : Hp) (h : Heap) (a : Addr), h.get? a = some { cls := .type "set", data := .set #[] 0 (.fresh 0 0 (!X.w.params.followText "set-order")) } → ObjOk X.prog X.w H h a (o0 a)
  add : ∀ (X' : Cx), X'.prog = X.prog → X'.w = X.w → X'.K = X.K → X'.A = X.A → ∀ (pins : List (Addr × Obj)) (σ : St) (H : Hp) (s : Shared) (D : Addr) (y : V) (u : Value) (Nx : Hp → Prop) (E : Value → Shared → Prop),
    Inv X' pins σ H s → RelV y u → ad D y H Nx → wpAny (model X.prog X.w) X.A (call (.builtin "set.add") [.ref D, u]) (fun _ s' => ∃ H', Inv X' pins σ H' s' ∧ Nx H') E s
theorem HOk.but {P : Program} {w : World} {H : Hp} {h h' : Heap} {C : Addr} (k : HOk P w H h) (hc : H C = none) (sb : Heap.SameBut C h h') : HOk P w H h' := fun a o e => (k a o e).stay (fun b u hb eu => by
    have z : b ≠ C := by
      rintro rfl
      rcases hb with rfl | hb
      · rw [hc] at e; cases e
      · rw [hc] at hb; cases hb
    rw [sb.2 b z]; exact eu) (fun _ e => e) fun _ _ e => e
theorem Un.but {fs ex : List Addr} {H H' : Hp} {h h1 h2 : Heap} {C : Addr} (u : Un fs ex H H' h h1) (hC : h.objs.size ≤ C) (sb : Heap.SameBut C h1 h2) : Un fs ex H H' h h2 := by
  have ne : ∀ (b : Addr) (o : Obj), h.get? b = some o → h2.get? b = h1.get? b := fun b o e => sb.2 b fun z => by
    subst z
    exact absurd (Nat.lt_of_lt_of_le (Heap.lt_size e) hC) (Nat.lt_irrefl _)
  exact ⟨fun b o e1 e2 e3 e4 => by rw [ne b o e1]; exact u.keep b o e1 e2 e3 e4, fun b o e1 e2 e3 e4 => by rw [ne b o e1]; exact u.slot b o e1 e2 e3 e4, u.free, fun b o e1 e2 => by rw [ne b o e1]; exact u.there b o e1 e2, u.tups, u.frzs, u.tbls⟩

section
variable {X : Cx} {pins : List (Addr × Obj)} {s : Shared} {σ : St} {H : Hp} {Q : VK} {elt tg iter : Expr} {ifs : List Expr} {scope : Scope} {own : List (Str × Nat)} {pos pos' : Pos} {wi : TI} {g : TG} {tt : TT} {te : TE} {o0 : Addr → HO} {ad : AddR} {Qf : Value → Shared → Prop}
theorem scg_core (hc : X.calm = true) (hN : X.N.Nodup) (I : Inv X pins σ H s) (hi : PI X tg iter wi) (ok : BlkOk X.N X.env.scope scope own) (ao : AddOk X o0 ad)
    (hg : ∀ s H C cl fp, PG (X.blk s H scope (compEnvC scope cl C X.env) fp) tg g) (ht : ∀ s H C cl fp, PTs (X.blk s H scope (compEnvC scope cl C X.env) fp) ifs tt) (he : ∀ s H C cl fp, PE (X.blk s H scope (compEnvC scope cl C X.env) fp) elt te)
    (hf : ∀ x, foldedSetIterable iter X.env x = pure x) (q : tScG o0 ad wi g tt te (own.map (·.2)) σ H Q) :
    wpAny (model X.prog X.w) X.A (comprehension (.SetComp elt [⟨tg, iter, ifs, 0⟩] scope pos) scope X.env pos' (newSet (.type "set")) false (eval iter X.env)) (EP X pins σ Q) X.xe s := by
  have hfree : ∀ y ∈ scope.names, y.2 = .free → ∃ c, X.env.cells.lookup y.1 = some c := fun y hy e => by
    rcases ok.free y hy e with k | k
    · exact I.ok.has _ (.inl k)
    · exact I.ok.has _ (.inr k)
  refine wpAny_comprehension_free (g := ⟨tg, iter, ifs, 0⟩) (gs := []) rfl hf (closure_ok hfree) ok.kind (fun x hx e => by rw [ok.uniq x hx, e]) ?_
  refine wpAny_mono (hi.run pins s σ H _ I q) (fun v s1 h1 => wpAny_mono h1 (fun itv s2 h2 => ?_) fun _ _ e => e) fun _ _ e => e
  obtain ⟨it, fp, tn, J, H2, rfl, I2, T, t2, fpok, q2⟩ := h2
  refine PpSet.newSet_ok ?_
  have hD := I2.hok.fresh (Nat.le_refl _)
  generalize hd : s2.heap.objs.size = D at *
  have kp : ∀ b u, s2.heap.get? b = some u → (s2.heap.push { cls := .type "set", data := .set #[] 0 (.fresh 0 0 (!X.w.params.followText "set-order")) }).get? b = some u := fun b u e => Heap.get?_push_of_some _ e
  have I3 := I2.laid (a := D) (t' := s2.toks) kp (Nat.le_of_eq hd) (ao.new (upd H2 D (o0 D)) _ D (by rw [← hd]; exact Heap.get?_push_size _ rfl))
  obtain ⟨W, ⟨m0, hw0⟩, step⟩ := q2 D hD
  have f3 : ∀ b ∈ fp, FpOk X pins (upd H2 D (o0 D)) b := fun b hb => by
    obtain ⟨o, e, _⟩ := T.obj _ _ t2 b hb
    have z : b ≠ D := by
      intro z
      have l := Heap.lt_size e
      rw [hd, z] at l
      exact Nat.lt_irrefl _ l
    have k := fpok b hb
    exact ⟨by rw [upd_ne z]; exact k.1, k.2⟩
  have t3 := T.keep _ _ _ t2 fun b hb o e => kp b o e
  have I3x : ∃ s3 : Shared, s3 = { s2 with heap := s2.heap.push { cls := .type "set", data := .set #[] 0 (.fresh 0 0 (!X.w.params.followText "set-order")) } } := ⟨_, rfl⟩
  obtain ⟨s3, hs3⟩ := I3x
  have I3' : Inv X pins σ (upd H2 D (o0 D)) s3 := by rw [hs3]; exact I3
  have t3' : tn 0 s3.heap := by rw [hs3]; exact t3
  rw [← hs3]
  clear I3 t3
  clear hs3
  -- := s2.heap.push { cls := .type "set", data := .set #[] 0 (.fresh 0 0 (!X.w.params.followText "set-order")) } } : Shared) = s3 at *
  have f3s : ∀ b ∈ fp, FpOk X pins (upd H2 D (o0 D)) b ∧ b < s3.heap.objs.size := fun b hb => by
    obtain ⟨o, e, _⟩ := T.obj _ _ t3' b hb
    exact ⟨f3 b hb, Heap.lt_size e⟩
  refine newEnv_comp ?_
  have IB := block_start I3' ok hN f3s
  generalize hcl : cellsFrom (s3.heap.objs.size + 1) scope.names (cloFrom X.env.cells scope.names []) = cl at *
  generalize hCC : s3.heap.objs.size = C at *
  have kpB : ∀ b u, s3.heap.get? b = some u → (pushCells (s3.heap.push { cls := .type "dict", data := .dict #[] }) scope.names).get? b = some u := fun b u e => pushCells_keeps _ _ b u (Heap.get?_push_of_some _ e)
  have t4 : tn 0 (pushCells (s3.heap.push { cls := .type "dict", data := .dict #[] }) scope.names) := T.keep _ _ _ t3' fun b hb o e => kpB b o e
  show codeAny (model X.prog X.w) X.A (.compStart (.SetComp elt [⟨tg, iter, ifs, 0⟩] scope pos) 0 (.ref it) (.ref D) (compEnvC scope cl C X.env)) _ _
  have main : codeAny (model X.prog X.w) X.A (.compLoop (.SetComp elt [⟨tg, iter, ifs, 0⟩] scope pos) 0 (.ref it) (.ref D) (compEnvC scope cl C X.env)) (compPost (model X.prog X.w) X.A X.xe none (EP X pins σ Q) (.ref D) C) { s3 with heap := pushCells (s3.heap.push { cls := .type "dict", data := .dict #[] }) scope.names } := by
    refine PpSet.compLoopS_any (fun m s => ∃ i H5, W i m H5 ∧ Inv (X.blk s3 (upd H2 D (o0 D)) scope (compEnvC scope cl C X.env) fp) [] (wipe σ (own.map (·.2))) H5 s ∧ tn i s.heap ∧ ∀ b ∈ fp, H5 b = none) (fun m s h => ?_) m0 ⟨0, _, hw0, IB, t4, fun b hb => (f3 b hb).1⟩
    obtain ⟨i, H5, w5, I5, t5, n5⟩ := h
    have fok : ∀ {H'' : Hp} {s'' : Shared}, Inv (X.blk s3 (upd H2 D (o0 D)) scope (compEnvC scope cl C X.env) fp) [] (wipe σ (own.map (·.2))) H'' s'' → (∀ b ∈ fp, H'' b = none) → ∀ b ∈ fp, FpOk (X.blk s3 (upd H2 D (o0 D)) scope (compEnvC scope cl C X.env) fp) [] H'' b := fun I'' hn b hb =>
      ⟨hn b hb, (I''.ok.exf b hb).1, I''.ok.exfs b hb, .inl hb, fun x c e => (I''.ok.exf b hb).2 x c e, fun p hp => absurd (show p ∈ ([] : List (Addr × Obj)) ++ [] from hp) (by simp)⟩
    rcases step i m H5 w5 with ⟨js, qd⟩ | ⟨jg, Nx, hnx, body⟩
    · refine wpAny_mono (T.done (X.blk s3 (upd H2 D (o0 D)) scope (compEnvC scope cl C X.env) fp) rfl rfl rfl hc i _ s _ H5 _ I5 (fok I5 n5) t5 js) (fun r s6 h6 => ?_) fun _ _ e => e
      obtain ⟨rfl, I6⟩ := h6
      obtain ⟨m', hns, _⟩ := I6.loc
      refine ⟨m', hns, fun h' sb => ⟨.ref D, H5, ?_, rfl, qd⟩⟩
      refine I3'.call' (ch := fp) I6.os (I6.base.but (Nat.le_of_eq hCC) sb) (I6.hok.but I6.free sb) I6.bare fun b hb => ⟨(f3 b hb).2.2.2.1, (f3 b hb).2.1, (f3 b hb).2.2.2.2.1, (f3 b hb).2.2.2.2.2⟩
    · refine wpAny_mono (T.item (X.blk s3 (upd H2 D (o0 D)) scope (compEnvC scope cl C X.env) fp) rfl rfl rfl hc i _ s _ H5 _ I5 (fok I5 n5) t5 jg) (fun r s6 h6 => ?_) fun _ _ e => e
      obtain ⟨u, rfl, h6⟩ := h6
      refine wpAny_mono h6 (fun _ s7 h7 => ?_) fun _ _ e => e
      obtain ⟨x, H7, I7, r7, y7, t7, n7⟩ := h7
      have I7' := I7.pinned (fok I7 n7) (T.obj _ _ t7)
      refine wpAny_mono ((hg s3 (upd H2 D (o0 D)) C cl fp).run _ s7 _ H7 x u _ I7' r7 (body x H7 y7)) (fun _ s8 h8 => ?_) fun _ _ e => e.elim
      obtain ⟨σ8, H8, I8, hw8, q8⟩ := h8
      have hl : (wipe σ (own.map (·.2))).length = σ8.length := by rw [← hw8, wipe_length]
      have fin : ∀ {H9 : Hp} {s9 : Shared}, Inv (X.blk s3 (upd H2 D (o0 D)) scope (compEnvC scope cl C X.env) fp) ([] ++ pinsAt fp s7.heap) σ8 H9 s9 → Nx H9 → ∃ m', m' < m ∧ ∃ i H5, W i m' H5 ∧ Inv (X.blk s3 (upd H2 D (o0 D)) scope (compEnvC scope cl C X.env) fp) [] (wipe σ (own.map (·.2))) H5 s9 ∧ tn i s9.heap ∧ ∀ b ∈ fp, H5 b = none := fun {H9 s9} I9 nx => by
        obtain ⟨m', lt, w'⟩ := hnx H9 nx
        have pin' : ∀ b ∈ fp, ∀ o, s7.heap.get? b = some o → s9.heap.get? b = some o ∧ H9 b = none := fun b hb o e =>
          let z := I9.pin (b, o) (List.mem_append_right _ (List.mem_append_right _ (mem_pinsAt hb e)))
          ⟨z.1, z.2.1⟩
        refine ⟨m', lt, i + 1, H9, w', (I9.unpinned (pins := [])).weak hl (fun j v e => ?_), T.keep _ _ _ t7 fun b hb o e => (pin' b hb o e).1, fun b hb => ?_⟩
        · rw [← hw8] at e
          exact (wipe_some e).1
        · obtain ⟨o, e, _⟩ := T.obj _ _ t7 b hb
          exact (pin' b hb o e).2
      refine wpAny_mono ((ht s3 (upd H2 D (o0 D)) C cl fp).run _ s8 σ8 H8 _ I8 q8) (fun b s9 h9 => ?_) fun _ _ e => e.elim
      obtain ⟨H9, I9, q9⟩ := h9
      cases b with
      | false =>
        rw [if_neg Bool.false_ne_true] at q9 ⊢
        exact fin I9 q9
      | true =>
        rw [if_pos rfl] at q9 ⊢
        refine wpAny_mono ((he s3 (upd H2 D (o0 D)) C cl fp).run _ s9 σ8 H9 _ I9 q9) (fun z s10 h10 => ?_) fun _ _ e => e.elim
        obtain ⟨y, H10, I10, r10, q10⟩ := h10
        refine wpAny_mono (ao.add (X.blk s3 (upd H2 D (o0 D)) scope (compEnvC scope cl C X.env) fp) rfl rfl rfl rfl _ σ8 H10 s10 D y z Nx _ I10 r10 q10) (fun _ s11 h11 => ?_) fun _ _ e => e
        obtain ⟨H11, I11, nx⟩ := h11
        exact fin I11 nx
  exact PpSet.codeAny_compStart_set main (T.self X.A 0 _ _ _ t4 main)
theorem pe_scg (hc : X.calm = true) (hN : X.N.Nodup) (hi : PI X tg iter wi) (ok : BlkOk X.N X.env.scope scope own) (ao : AddOk X o0 ad)
    (hg : ∀ s H C cl fp, PG (X.blk s H scope (compEnvC scope cl C X.env) fp) tg g) (ht : ∀ s H C cl fp, PTs (X.blk s H scope (compEnvC scope cl C X.env) fp) ifs tt) (he : ∀ s H C cl fp, PE (X.blk s H scope (compEnvC scope cl C X.env) fp) elt te)
    (hf : ∀ x, foldedSetIterable iter X.env x = pure x := by exact fun _ => rfl) : PE X (.SetComp elt [⟨tg, iter, ifs, 0⟩] scope pos) (tScG o0 ad wi g tt te (own.map (·.2))) where
  run := fun pins s σ H Q I q => by
    rw [PpSet.eval_SetComp]
    exact scg_core hc hN I hi ok ao hg ht he hf q
end
end L2
/-! set(t) of a tuple of keys (any kind of key that is told by its value), with the number of its items; len of it. -/
namespace L2
open PySem PySem.Spec PyProof.Rows
/-- how many different ones stand among the first i -/
def cntD {κ : Type} [DecidableEq κ] (ks : List κ) : Nat → Nat
  | 0 => 0
  | i + 1 => match ks[i]? with
    | some k => if k ∈ ks.take i then cntD ks i else cntD ks i + 1
    | none => cntD ks i
theorem setOf_keep {P : Program} {w : World} {κ : Type} [DecidableEq κ] {knd : KeyKind P w κ} {h h2 : Heap} {a : Addr} {S : κ → Bool} {n : Nat} (r : h.SetOf knd a S n) (k : ∀ o, h.get? a = some o → h2.get? a = some o) : h2.SetOf knd a S n := by
  obtain ⟨o, es, ep, t, ho, r⟩ := r
  exact ⟨o, es, ep, t, k o ho, r⟩
theorem cntD_le {κ : Type} [DecidableEq κ] (ks : List κ) : ∀ i, cntD ks i ≤ i
  | 0 => Nat.le_refl _
  | i + 1 => by
    have h := cntD_le ks i
    unfold cntD
    split
    · split <;> omega
    · omega
theorem cntD_all {κ : Type} [DecidableEq κ] (ks : List κ) : ∀ i, i ≤ ks.length → (cntD ks i = i ↔ (ks.take i).Nodup)
  | 0, _ => by simp [cntD]
  | i + 1, hi => by
    have ih := cntD_all ks i (by omega)
    have hl := cntD_le ks i
    have hlt : i < ks.length := by omega
    have e : ks[i]? = some ks[i] := List.getElem?_eq_getElem hlt
    unfold cntD
    rw [e, List.take_add_one, e]
    simp only [Option.toList]
    rw [List.nodup_append]
    by_cases m : ks[i] ∈ ks.take i
    · rw [if_pos m]
      constructor
      · intro h
        omega
      · rintro ⟨_, _, h⟩
        exact absurd rfl (h _ m _ (List.mem_singleton.mpr rfl))
    · rw [if_neg m]
      constructor
      · intro h
        refine ⟨ih.mp (by omega), by simp, fun a ha b hb => ?_⟩
        rw [List.mem_singleton.mp hb]
        intro z
        exact m (z ▸ ha)
      · rintro ⟨h, _⟩
        have := ih.mpr h
        omega
/-- the whole: so many as there are if none stands twice -/
theorem cntD_nodup {κ : Type} [DecidableEq κ] (ks : List κ) : cntD ks ks.length = ks.length ↔ ks.Nodup := by
  have h := cntD_all ks ks.length (Nat.le_refl _)
  rw [List.take_length] at h
  exact h
section
variable {P : Program} {w : World} {A : Around} {E : Value → Shared → Prop} {s : Shared} {κ : Type} [DecidableEq κ] {knd : KeyKind P w κ}
theorem set_fill {I : Addr} {fp wr : List Addr} {G : Array GenState → Array GenState → Prop} {n : Nat} {Pv : Nat → Value → Prop} {St : Nat → Shared → Prop} {R : Result → Shared → Prop} (W : WalksS P w A.in1 I fp wr G n Pv St) (S : Addr) (hS0 : S ∉ fp) (ks : List κ) (hn : n = ks.length) (room : ks.length + 1 < scanBound)
    (val : ∀ i v, Pv i v → ∃ k, ks[i]? = some k ∧ knd.is k v = true ∧ v.scannable = true) :
    ∀ (m i : Nat) (s : Shared), n - i = m → i ≤ n → St i s → s.heap.SetOf knd S (fun j => decide (j ∈ ks.take i)) (cntD ks i) →
      (∀ s', Moved (S :: wr) G s s' → s'.heap.SetOf knd S (fun j => decide (j ∈ ks)) (cntD ks n) → R (.ok (.ret .none)) s') →
      codeAny (model P w) A (.builtin "set.update.loop" ⟨[.ref S, .ref I], []⟩) R s := by
  have hSw : S ∉ wr := fun h => hS0 (W.sub _ h)
  have more : ∀ b ∈ wr, b ∈ S :: wr := fun b hb => List.mem_cons_of_mem _ hb
  intro m
  induction m with
  | zero =>
    intro i s hm hi hst hS hR
    obtain rfl : i = n := by omega
    refine codeAny_builtin F.entry_set_update_loop ?_
    rw [Around.under_plainId F.plain_set_update_loop _]
    show wpAny _ A.in1 (pyNext (.ref I) >>= _) _ _ s
    refine wpAny_bind (W.done s _ _ hst fun s' mv => ?_)
    rw [List.take_of_length_le (by omega)] at hS
    exact wpAny_pure (hR s' (mv.mono more) (setOf_keep hS fun o e => mv.heap S o hSw e))
  | succ m ih =>
    intro i s hm hi hst hS hR
    have lt : i < n := by omega
    refine codeAny_builtin F.entry_set_update_loop ?_
    rw [Around.under_plainId F.plain_set_update_loop _]
    show wpAny _ A.in1 (pyNext (.ref I) >>= _) _ _ s
    refine wpAny_bind (W.item i s _ _ lt hst fun v s' hv hst' mv => ?_)
    obtain ⟨z, hz, hk, hsc⟩ := val i v hv
    have hS' := setOf_keep hS fun o e => mv.heap S o hSw e
    show wpAny _ A.in1 (holding [v] (setAdd S v) >>= _) _ _ s'
    refine wpAny_bind (wpAny_holding ?_)
    unfold setAdd
    refine wpAny_holding (wpAny_bind (knd.pyHash (k := z) hk ?_))
    refine wpAny_setAddHashed_of (knd := knd) (s := { s' with toks := s'.toks + 1 }) hk hsc hS' (Nat.lt_of_le_of_lt (Nat.add_le_add_right (Nat.le_trans (cntD_le ks i) (by omega)) 1) room) fun h' sb hS2 => ?_
    have hS3 : h'.SetOf knd S (fun j => decide (j ∈ ks.take (i + 1))) (cntD ks (i + 1)) := by
      have e1 : (fun j => decide (j ∈ ks.take (i + 1))) = fun j => decide (j ∈ ks.take i) || decide (j = z) := by
        funext j
        rw [List.take_add_one, hz]
        simp [List.mem_append]
      have e2 : cntD ks (i + 1) = if decide (z ∈ ks.take i) = true then cntD ks i else cntD ks i + 1 := by
        show (match ks[i]? with | some k => if k ∈ ks.take i then cntD ks i else cntD ks i + 1 | none => cntD ks i) = _
        rw [hz]
        simp
      rw [e1, e2]
      exact hS2
    refine wpAny_pure ⟨plainId_quiet F.plain_set_update_loop _, ih (i + 1) _ (by omega) lt (W.frame _ s' _ _ hst' (Nat.le_succ _) fun b hb o e => ?_) hS3 fun s2 mv2 hS4 => ?_⟩
    · exact (sb.2 b fun z : b = S => hS0 (z ▸ hb)).trans e
    · refine hR s2 (Moved.trans W.gtrans ((mv.mono more).then_heap (Nat.le_succ _) fun b o hb e => ?_) mv2) hS4
      exact (sb.2 b fun z : b = S => hb (z ▸ List.mem_cons_self)).trans e
end
end L2
namespace L2
open PySem PySem.Spec PyProof.Rows
/-- a set as it is made -/
abbrev set0 (w : World) : Obj := { cls := .type "set", dict := none, data := .set #[] 0 (.fresh 0 0 (!w.params.followText "set-order")) }
theorem setOf_new {P : Program} {w : World} {κ : Type} [DecidableEq κ] {knd : KeyKind P w κ} {h : Heap} {a : Addr} (e : h.get? a = some (set0 w)) : h.SetOf knd a (fun _ => false) 0 :=
  ⟨_, #[], 0, _, e, ⟨rfl, rfl, rfl⟩, rfl, (fun x hx => by simp at hx), (fun k => by simp), (by decide), (by rfl), rfl⟩
section
variable {P : Program} {w : World} {A : Around} {E : Value → Shared → Prop} {s : Shared} {κ : Type} [DecidableEq κ] {knd : KeyKind P w κ}
theorem call_setT {l : Addr} {items : Array Value} (ks : List κ) {Q : Value → Shared → Prop} (hh : A.handled = none) (hl : s.heap.IsTuple l items) (hn : items.size = ks.length) (room : ks.length + 1 < scanBound)
    (val : ∀ (i : Nat) (v : Value), items[i]? = some v → ∃ k, ks[i]? = some k ∧ knd.is k v = true ∧ v.scannable = true)
    (q : ∀ (h' : Heap) (tk : Nat), h'.SetOf knd s.heap.objs.size (fun j => decide (j ∈ ks)) (cntD ks ks.length) → (∀ b o, s.heap.get? b = some o → h'.get? b = some o) → Q (.ref s.heap.objs.size) { s with heap := h', toks := tk }) :
    wpAny (model P w) A (call (.type "set") [.ref l]) Q E s := by
  obtain ⟨c, tl, hmro⟩ := F.called_set.mro
  have hmade := F.called_set.made
  have hsub := F.called_set.sub
  refine wpAny_call (codeAny_of_tree ?_)
  show wpAny _ _ (callAny (.type "set") _) _ _ _
  refine wpAny_pure ⟨Code.quiet_builtin _ (by decide +kernel), codeAny_builtin F.entry_type_call ?_⟩
  rw [Around.under_plain (weight_type_call_type "set" [.ref l] []) rfl]
  have h1 := F.called_set.notType
  have h2 := F.called_set.canCreate
  have hct := F.typeCall_set_1 (.ref l)
  repeat (any_goals (first | assumption | wp_step))
  refine codeAny_mono (code_set_led1 (.ref l) (E := E) (Q₁ := fun u s₁ => u = .ref s.heap.objs.size ∧ s₁ = { s with heap := s.heap.push (set0 w) }) ⟨rfl, rfl⟩) fun r s₁ hr => ?_
  match r, hr with
  | .error e, hr => exact hr
  | .ok (.ret u), hr =>
    obtain ⟨rfl, rfl⟩ := hr
    have hS : (s.heap.push (set0 w)).get? s.heap.objs.size = some (set0 w) := Heap.get?_push_size _ rfl
    have hT : Shared.TypeIs { s with heap := s.heap.push (set0 w) } (.ref s.heap.objs.size) "set" := ⟨_, hS, rfl⟩
    have hli := F.called_set.init.lookup
    have hbi := F.called_set.init.bind (.ref s.heap.objs.size)
    repeat (any_goals (first | assumption | wp_step))
    refine codeAny_mono (codeAny_call_builtin (R := wants (fun r s₂ => r = .none ∧ ∃ h' tk, s₂ = { s with heap := h', toks := tk } ∧ h'.SetOf knd s.heap.objs.size (fun j => decide (j ∈ ks)) (cntD ks ks.length) ∧ (∀ b o, s.heap.get? b = some o → h'.get? b = some o)) E)
      F.called_set.init.plain F.entry_set_init (check_set_init_1 hT ?_)) fun r₂ s₂ hr₂ => ?_
    · obtain ⟨ol, hol, hcl, nl, hdl⟩ := hl
      obtain ⟨ocls, odict, odata, oslots⟩ := ol
      simp only at hcl hdl
      subst hcl hdl
      have hol' : (s.heap.push (set0 w)).get? l = some { cls := .type "tuple", dict := odict, data := .seq items nl, slots := oslots } := Heap.get?_push_of_some _ hol
      have hsls := F.sub_tuple_set
      have hslf := F.sub_tuple_frozenset
      have hne : (Value.type "tuple" == Value.type "dict") = false := by decide
      have hl1 : (s.heap.push (set0 w)).IsTuple l items := ⟨_, hol', rfl, nl, rfl⟩
      unfold Builtin.«set.__init__» noKeywords Builtin.Frozenset.updateFrom
      generalize hPI : pyIter = PI
      wp_walk
      subst hPI
      refine wpAny_pyIter_tuple hl1 (wpAny_bind (wpAny_runValue ?_))
      have hlS : l < s.heap.objs.size := Heap.lt_size hol
      have h3 : A.in1.in1.in1.handled = none := hh
      have z1 : (s.heap.push (set0 w)).objs.size = s.heap.objs.size + 1 := Heap.size_push ..
      have n1 : l ≠ (s.heap.push (set0 w)).objs.size := by rw [z1]; exact Nat.ne_of_lt (Nat.lt_succ_of_lt hlS)
      have n2 : s.heap.objs.size ∉ [(s.heap.push (set0 w)).objs.size, l] := by
        rw [z1]
        simp only [List.mem_cons, List.not_mem_nil, or_false, not_or]
        exact ⟨Nat.ne_of_lt (Nat.lt_succ_self _), Nat.ne_of_gt hlS⟩
      refine set_fill (knd := knd) ((Walks.tuple h3 _ l n1 items).toS) s.heap.objs.size n2 ks hn room val (items.size - 0) 0 _ (by omega) (Nat.zero_le _) ⟨⟨_, Heap.get?_push_size _ rfl, rfl, rfl⟩, hl1.push _⟩ ?_ fun s' mv hS' => ?_
      · have e : (fun j => decide (j ∈ ks.take 0)) = fun _ : κ => false := by funext j; simp
        rw [e]
        exact setOf_new (Heap.get?_push_of_some _ hS)
      · obtain ⟨h', g2, d', tk', os'⟩ := s'
        have eg : g2 = s.gens := mv.gens
        have ed : d' = s.drawn := mv.drawn
        have eo : os' = s.os := mv.os
        subst eg ed eo
        show wpAny _ _ _ _ _ _
        refine wpAny_pure ?_
        show wpAny _ _ (ret Value.none) _ _ _
        rw [hn] at hS'
        refine wpAny_pure ⟨rfl, h', tk', rfl, hS', fun b o e => ?_⟩
        have b0 : b < s.heap.objs.size := Heap.lt_size e
        refine mv.heap b o ?_ (Heap.get?_push_of_some _ (Heap.get?_push_of_some _ e))
        simp only [List.mem_cons, List.not_mem_nil, or_false, not_or]
        exact ⟨Nat.ne_of_lt b0, by rw [z1]; exact Nat.ne_of_lt (Nat.lt_succ_of_lt b0)⟩
    · match r₂, hr₂ with
      | .error e, hr₂ => exact hr₂
      | .ok (.ret r), hr₂ =>
        obtain ⟨rfl, h', tk, rfl, hS', hk'⟩ := hr₂
        repeat (any_goals (first | assumption | wp_step))
        exact q _ _ hS' hk'
      | .ok .next, hr₂ => exact hr₂.elim
      | .ok .brk, hr₂ => exact hr₂.elim
      | .ok .cont, hr₂ => exact hr₂.elim
  | .ok .next, hr => exact hr.elim
  | .ok .brk, hr => exact hr.elim
  | .ok .cont, hr => exact hr.elim
end
end L2
namespace L2
open PySem PySem.Spec PyProof.Rows
/-- j stands among ks -/
def memD {κ : Type} [DecidableEq κ] (ks : List κ) (j : κ) : Bool := decide (j ∈ ks)
section
variable {X : Cx}
/-- set(t), t a tuple of texts and ints -/
def rSetTK (K : PySem.W.Frag) (P : Program) (w : World) : List V → Hp → VK → Prop := fun xs H Q => ∃ (a : Addr) (ks : List Key), xs = [.ref a] ∧ SqT K H a (ks.map kV) ∧ ks.length + 1 < scanBound ∧ ∀ p, H p = none → Q (.ref p) (upd H p (SetK P w p (memD ks) (cntD ks ks.length)))
theorem call_setTK (hc : X.calm = true) : CallR X (.type "set") (rSetTK X.K X.prog X.w) := by
  intro pins s σ H xs us Q I r h
  obtain ⟨a, ks, rfl, hs, room, q⟩ := h
  obtain ⟨u, rfl, ru⟩ := vals1 r
  cases ru
  obtain ⟨its, rv, ht, hz⟩ := I.tuple hs
  have hlen : its.toArray.size = ks.length := by rw [List.size_toArray, ← rv.length, List.length_map]
  refine call_setT (knd := mixKind X.prog X.w) ks (I.ok.hd hc) ht hlen room (fun i v hv => ?_) fun h' tk hS kp => ?_
  · have hv2 : its[i]? = some v := by simpa using hv
    have hi : i < ks.length := by rw [← hlen, List.size_toArray]; exact (List.getElem?_eq_some_iff.mp hv2).1
    have e : (ks.map kV)[i]? = some (kV ks[i]) := by simp [hi]
    obtain ⟨u, hu, ru⟩ := rv.get e
    rw [hv2] at hu
    cases hu
    exact ⟨ks[i], List.getElem?_eq_getElem hi, kV_is ru, key_scan ru⟩
  · exact ⟨.ref _, _, I.laid (a := s.heap.objs.size) (t' := tk) kp (Nat.le_refl _) (setK_new hS), rfl, q _ (I.hok.fresh (Nat.le_refl _))⟩
/-- len of such a set -/
def rLenK (P : Program) (w : World) : List V → Hp → VK → Prop := fun xs H Q => ∃ (a : Addr) (S : Key → Bool) (n : Nat), xs = [.ref a] ∧ H a = some (SetK P w a S n) ∧ Q (.int n) H
theorem call_lenK : CallR X (.builtin "len") (rLenK X.prog X.w) := by
  intro pins s σ H xs us Q I r h
  obtain ⟨a, S, n, rfl, ha, q⟩ := h
  obtain ⟨u, rfl, ru⟩ := vals1 r
  cases ru
  obtain ⟨o, es, ep, t, ho, hex, hd, _, _, hb, hf, hn⟩ := setK_get I ha
  have hb2 : es.size < 4096 := hb
  refine call_len_set ho hex hd hf (by omega) ⟨.int n, H, I.tok _, ⟨s.toks + 1, by rw [hn]⟩, q⟩
end
end L2
/-! Sets of tuples of keys over the layer. -/
namespace L2
open PySem PySem.Spec PyProof.Rows
/-- the set's own object, without what its elements are -/
def SetM0 (P : Program) (w : World) (h : Heap) (a : Addr) (L : List (Addr × List Key)) : Prop :=
  ∃ es ep t, (∃ o, h.get? a = some o ∧ o.ExactSet ∧ o.data = .set es ep t) ∧ es.toList = rowsM P w L ∧ TabOk t (L.map fun p => mh P w p.2) ∧ (L.map (·.2)).Nodup ∧ L.length * 5 < t.mask * 3 ∧ L.length < 64
theorem SetM0.full {P : Program} {w : World} {h : Heap} {a : Addr} {L : List (Addr × List Key)} (S : SetM0 P w h a L) (tup : ∀ p ∈ L, IsM P w h p.2 p.1) : ∃ es ep t, SetM P w h a L es ep t := by
  obtain ⟨es, ep, t, h1, h2, h3, h4, h5, h6⟩ := S
  exact ⟨es, ep, t, h1, h2, h3, h4, tup, h5, h6⟩
theorem SetM.s0 {P : Program} {w : World} {h : Heap} {a : Addr} {L : List (Addr × List Key)} {es : Array (Int × Value)} {ep : Nat} {t : SetTable} (S : SetM P w h a L es ep t) : SetM0 P w h a L := ⟨es, ep, t, S.ob, S.rows, S.tab, S.nd, S.room, S.few⟩
/-- a set of tuples of keys, its elements in the order of its rows -/
def SetMO (P : Program) (w : World) (a : Addr) (L : List (Addr × List Key)) : HO := .ext fun h => SetM0 P w h a L
theorem setMO_new {P : Program} {w : World} {H : Hp} {h : Heap} {a : Addr} {L : List (Addr × List Key)} (S : SetM0 P w h a L) : ObjOk P w H h a (SetMO P w a L) := by
  refine ⟨S, ?_, fun h1 h2 S1 k => ?_⟩
  · obtain ⟨es, ep, t, ⟨o, e, _⟩, _⟩ := S
    exact ⟨o, e⟩
  · obtain ⟨es, ep, t, ⟨o, e, r⟩, q⟩ := S1
    exact ⟨es, ep, t, ⟨o, k o e, r⟩, q⟩
theorem setM0_fresh {P : Program} {w : World} {h : Heap} {a : Addr} (e : h.get? a = some { cls := .type "set", data := .set #[] 0 (.fresh 0 0 (!w.params.followText "set-order")) }) : SetM0 P w h a [] := by
  have z := setTR_fresh (P := P) (w := w) e
  exact ⟨#[], 0, _, ⟨_, e, ⟨rfl, rfl, rfl⟩, rfl⟩, rfl, z.tab, List.nodup_nil, by show 0 * 5 < 7 * 3; decide, by decide⟩
section
variable {X : Cx} {pins : List (Addr × Obj)} {σ : St} {H : Hp} {s : Shared} {E : Value → Shared → Prop}
theorem vals_items {P : Program} {w : World} : ∀ {k : List Key} {its : List Value}, Vals (k.map kV) its → ItemsAre (mixKind P w) k its
  | [], _, .nil => .nil
  | _ :: _, _, .cons r t => .cons (kV_is r) (vals_items t)
theorem setMO_get {a : Addr} {L : List (Addr × List Key)} (I : Inv X pins σ H s) (e : H a = some (SetMO X.prog X.w a L)) : SetM0 X.prog X.w s.heap a L := (I.hok a _ e).1
theorem Inv.isM {b : Addr} {k : List Key} (I : Inv X pins σ H s) (h : SqT X.K H b (k.map kV)) : IsM X.prog X.w s.heap k b := by
  obtain ⟨its, rv, ⟨o, ho, hc, n, hd⟩, _⟩ := I.tuple h
  exact ⟨o, its.toArray, n, ho, hc, hd, by rw [List.toList_toArray]; exact vals_items rv⟩
theorem addM_call {A : Around} {P : Program} {w : World} {a x : Addr} {k : List Key} {L : List (Addr × List Key)} (S : SetM0 P w s.heap a L) (tup : ∀ p ∈ L, IsM P w s.heap p.2 p.1) (hx : IsM P w s.heap k x) (hu : A.units + 3 < cLine) (hl : L.length + 1 < 64) {Q : Value → Shared → Prop}
    (q : ∀ (h' : Heap) (L' : List (Addr × List Key)) (tk : Nat), Heap.SameBut a s.heap h' → SetM0 P w h' a L' → (k ∈ L.map (·.2) → L' = L) → (k ∉ L.map (·.2) → L'.Perm ((x, k) :: L)) → Q .none { s with heap := h', toks := tk }) :
    wpAny (model P w) A (call (.builtin "set.add") [.ref a, .ref x]) Q E s := by
  obtain ⟨es, ep, t, S2⟩ := S.full tup
  have hT : s.TypeIs (.ref a) "set" := by
    obtain ⟨o, e, ex, _⟩ := S2.ob
    exact ⟨o, e, ex.1⟩
  refine wpAny_call (codeAny_call_builtin (by decide +kernel) F.entry_set_add ?_)
  have hk : builtinKind "set.add" = some .method := by decide +kernel
  have hs : splitId "set.add" = some ("set", "add") := by decide +kernel
  have hsub : isSubtype (.type "set") (.type "set") = pure true := by rfl
  have chk : ∀ (R : Unit → Shared → Prop) (E' : Value → Shared → Prop), R () s → wpAny (model P w) A.in1 (checkBuiltinCall "set.add" { pos := [.ref a, .ref x] }) R E' s := by
    intro R E' r
    have ha := F.args_set_add_2 (.ref a) (.ref x)
    unfold argsOk at ha
    unfold checkBuiltinCall
    dsimp only
    rw [hk, hs]
    cases hsig : Manifest.signature? "set.add" with
    | none =>
      dsimp only
      refine wpAny_bind (wpAny_isInstance hT hsub ?_)
      exact wpAny_pure r
    | some sig =>
      rw [hsig] at ha
      dsimp only at ha ⊢
      rw [ha]
      refine wpAny_bind (wpAny_isInstance hT hsub ?_)
      exact wpAny_pure r
  refine chk _ _ ?_
  unfold Builtin.«set.add» Builtin.Frozenset.oneOther
  dsimp only [List.isEmpty]
  refine wpAny_bind (wpAny_bind ?_)
  show wpAny _ _ (pure a) _ _ _
  refine wpAny_pure (wpAny_pure ?_)
  dsimp only
  unfold setAdd
  refine wpAny_bind (wpAny_holding (wpAny_bind ((MK P w).pyHash ?_ hx ?_)))
  · show A.units + 1 < cLine
    omega
  · refine addM (s := { s with toks := s.toks + (MK P w).draws k }) (by exact S2) (by exact hx) ?_ hl fun b h' L' es' ep' t' sb S' e1 e2 => ?_
    · show A.units + 1 < cLine
      omega
    · exact wpAny_pure (q h' L' _ sb S'.s0 e1 e2)
theorem mut_setMO {P : Program} {w : World} {a : Addr} {L : List (Addr × List Key)} : Mut (some (SetMO P w a L)) := by
  first
    | trivial
    | (unfold SetMO; trivial)
    | (refine ⟨_, rfl, ?_⟩; trivial)
/-- an element of a set comprehension, a tuple of keys -/
def adM (P : Program) (w : World) (K : PySem.W.Frag) : AddR := fun D y H Nx => ∃ (b : Addr) (k : List Key) (L : List (Addr × List Key)), y = .ref b ∧ SqT K H b (k.map kV) ∧ H D = some (SetMO P w D L) ∧ (∀ p ∈ L, SqT K H p.1 (p.2.map kV)) ∧ L.length + 1 < 64 ∧
  ∀ L', (k ∈ L.map (·.2) → L' = L) → (k ∉ L.map (·.2) → L'.Perm ((b, k) :: L)) → Nx (upd H D (SetMO P w D L'))
theorem adM_ok (hu : X.A.units + 3 < cLine) : AddOk X (fun D => SetMO X.prog X.w D []) (adM X.prog X.w X.K) where
  new := fun H h a e => setMO_new (setM0_fresh e)
  add := fun X' e1 e2 e3 e4 pins σ H s D y u Nx E I r h => by
    obtain ⟨b, k, L, rfl, hb, hD, hL, hl, nx⟩ := h
    cases r
    rw [← e1, ← e2] at *
    rw [← e3] at hb hL
    refine addM_call (setMO_get I hD) (fun p hp => I.isM (hL p hp)) (I.isM hb) hu hl fun h' L' tk sb S' q1 q2 => ?_
    refine ⟨_, ?_, nx L' q1 q2⟩
    refine I.write (x := D) (e := D) (by rw [hD]; exact mut_setMO) (.inl rfl) (fun b u z e => by rw [sb.2 b z]; exact e) ?_ (setMO_new S')
    obtain ⟨es, ep, t, ⟨o, e, _⟩, _⟩ := S'
    exact ⟨o, e⟩
end
end L2
#print L2.Mut
/-! set(t) of a tuple of tuples of keys. -/
namespace L2
open PySem PySem.Spec PyProof.Rows
theorem cntD_in {κ : Type} [DecidableEq κ] {ks : List κ} {i : Nat} {k : κ} (h : ks[i]? = some k) (m : k ∈ ks.take i) : cntD ks (i + 1) = cntD ks i := by
  rw [cntD, h]
  exact if_pos m
theorem cntD_out {κ : Type} [DecidableEq κ] {ks : List κ} {i : Nat} {k : κ} (h : ks[i]? = some k) (m : k ∉ ks.take i) : cntD ks (i + 1) = cntD ks i + 1 := by
  rw [cntD, h]
  exact if_neg m
abbrev keysM (L : List (Addr × List Key)) : List (List Key) := L.map (·.2)
/-- what a set has behind the first i of the rows ks -/
structure GotM (ks : List (Addr × List Key)) (i : Nat) (L : List (Addr × List Key)) : Prop where
  sub : ∀ p ∈ L, p ∈ ks.take i
  mem : ∀ k, k ∈ keysM L ↔ k ∈ keysM (ks.take i)
  len : L.length = cntD (keysM ks) i
theorem GotM.zero (ks : List (Addr × List Key)) : GotM ks 0 [] := ⟨by simp, by simp, rfl⟩
theorem GotM.next {ks L L' : List (Addr × List Key)} {i : Nat} {p : Addr × List Key} (g : GotM ks i L) (hp : ks[i]? = some p) (e1 : p.2 ∈ keysM L → L' = L) (e2 : p.2 ∉ keysM L → L'.Perm (p :: L)) : GotM ks (i + 1) L' := by
  have ht : ks.take (i + 1) = ks.take i ++ [p] := by rw [List.take_add_one, hp]; rfl
  have hk : (keysM ks)[i]? = some p.2 := by
    show (ks.map _)[i]? = _
    rw [List.getElem?_map, hp]
    rfl
  have hk2 : (keysM ks).take i = keysM (ks.take i) := by
    show (ks.map _).take i = _
    rw [← List.map_take]
  by_cases m : p.2 ∈ keysM L
  · rw [e1 m]
    have m' := (g.mem _).mp m
    refine ⟨fun q hq => ?_, fun k => ?_, ?_⟩
    · rw [ht]; exact List.mem_append_left _ (g.sub q hq)
    · unfold keysM at *
      rw [ht, List.map_append, List.mem_append, g.mem k]
      constructor
      · exact .inl
      · rintro (h | h)
        · exact h
        · rw [List.map_singleton, List.mem_singleton] at h
          rw [h]; exact m'
    · rw [cntD_in hk (by rw [hk2]; exact m'), g.len]
  · have pm := e2 m
    have m' : p.2 ∉ keysM (ks.take i) := fun z => m ((g.mem _).mpr z)
    refine ⟨fun q hq => ?_, fun k => ?_, ?_⟩
    · rw [ht]
      rcases List.mem_cons.mp (pm.mem_iff.mp hq) with rfl | h
      · exact List.mem_append_right _ (List.mem_singleton.mpr rfl)
      · exact List.mem_append_left _ (g.sub q h)
    · unfold keysM at *
      rw [(pm.map _).mem_iff, List.map_cons, List.mem_cons, ht, List.map_append, List.mem_append, g.mem k, List.map_singleton, List.mem_singleton]
      exact Or.comm
    · rw [cntD_out hk (by rw [hk2]; exact m'), pm.length_eq, List.length_cons, g.len]
section
variable {P : Program} {w : World} {A : Around} {E : Value → Shared → Prop} {s : Shared}
theorem setM0_keep {h h' : Heap} {a : Addr} {L : List (Addr × List Key)} (S : SetM0 P w h a L) (k : ∀ o, h.get? a = some o → h'.get? a = some o) : SetM0 P w h' a L := by
  obtain ⟨es, ep, t, ⟨o, e, r⟩, q⟩ := S
  exact ⟨es, ep, t, ⟨o, k o e, r⟩, q⟩
theorem setM_fill {I : Addr} {fp wr : List Addr} {G : Array GenState → Array GenState → Prop} {n : Nat} {Pv : Nat → Value → Prop} {St : Nat → Shared → Prop} {R : Result → Shared → Prop} (W : WalksS P w A.in1 I fp wr G n Pv St) (S : Addr) (hS0 : S ∉ fp) (ks : List (Addr × List Key)) (hn : n = ks.length) (room : ks.length < 64)
    (val : ∀ i v, Pv i v → ∃ p, ks[i]? = some p ∧ v = .ref p.1) (h0 : Heap) (hk : ∀ p ∈ ks, IsM P w h0 p.2 p.1) (hS : h0.get? S = none) (hwr : ∀ b ∈ wr, h0.get? b = none) (hu : A.in1.units + 1 < cLine) :
    ∀ (m i : Nat) (s : Shared), n - i = m → i ≤ n → St i s → (∀ b o, h0.get? b = some o → s.heap.get? b = some o) → (∃ L, SetM0 P w s.heap S L ∧ GotM ks i L) →
      (∀ s' L, Moved (S :: wr) G s s' → SetM0 P w s'.heap S L → GotM ks n L → (∀ b o, h0.get? b = some o → s'.heap.get? b = some o) → R (.ok (.ret .none)) s') →
      codeAny (model P w) A (.builtin "set.update.loop" ⟨[.ref S, .ref I], []⟩) R s := by
  have hSw : S ∉ wr := fun h => hS0 (W.sub _ h)
  have more : ∀ b ∈ wr, b ∈ S :: wr := fun b hb => List.mem_cons_of_mem _ hb
  intro m
  induction m with
  | zero =>
    intro i s hm hi hst kp hL hR
    obtain rfl : i = n := by omega
    refine codeAny_builtin F.entry_set_update_loop ?_
    rw [Around.under_plainId F.plain_set_update_loop _]
    show wpAny _ A.in1 (pyNext (.ref I) >>= _) _ _ s
    refine wpAny_bind (W.done s _ _ hst fun s' mv => ?_)
    obtain ⟨L, sL, g⟩ := hL
    exact wpAny_pure (hR s' L (mv.mono more) (setM0_keep sL fun o e => mv.heap S o hSw e) g fun b o e => mv.heap b o (fun hb => by rw [hwr b hb] at e; cases e) (kp b o e))
  | succ m ih =>
    intro i s hm hi hst kp hL hR
    have lt : i < n := by omega
    refine codeAny_builtin F.entry_set_update_loop ?_
    rw [Around.under_plainId F.plain_set_update_loop _]
    show wpAny _ A.in1 (pyNext (.ref I) >>= _) _ _ s
    refine wpAny_bind (W.item i s _ _ lt hst fun v s' hv hst' mv => ?_)
    obtain ⟨L, sL, g⟩ := hL
    obtain ⟨p, hp, rfl⟩ := val i v hv
    have sL' := setM0_keep sL fun o e => mv.heap S o hSw e
    have kp' : ∀ b o, h0.get? b = some o → s'.heap.get? b = some o := fun b o e => mv.heap b o (fun hb => by rw [hwr b hb] at e; cases e) (kp b o e)
    have isM' : ∀ q ∈ ks, IsM P w s'.heap q.2 q.1 := fun q hq => isM_keep (hk q hq) fun o e => kp' _ o e
    have hmem : ∀ q ∈ L, q ∈ ks := fun q hq => List.mem_of_mem_take (g.sub q hq)
    obtain ⟨es, ep, t, S2⟩ := sL'.full fun q hq => isM' q (hmem q hq)
    have hlen : L.length + 1 < 64 := by
      have := cntD_le (keysM ks) i
      have := g.len
      omega
    show wpAny _ A.in1 (holding [.ref p.1] (setAdd S (.ref p.1)) >>= _) _ _ s'
    refine wpAny_bind (wpAny_holding ?_)
    unfold setAdd
    refine wpAny_holding (wpAny_bind ((MK P w).pyHash (k := p.2) ?_ (isM' p (List.mem_of_getElem? hp)) ?_))
    · show A.units + 1 < cLine
      exact Nat.lt_of_succ_lt hu
    · refine addM (s := { s' with toks := s'.toks + (MK P w).draws p.2 }) (by exact S2) (by exact isM' p (List.mem_of_getElem? hp)) ?_ hlen fun b h' L' es' ep' t' sb S' e1 e2 => ?_
      · exact Nat.lt_of_succ_lt hu
      · have kp2 : ∀ b o, h0.get? b = some o → h'.get? b = some o := fun b o e => (sb.2 b fun z => by rw [z, hS] at e; cases e).trans (kp' b o e)
        refine wpAny_pure ⟨plainId_quiet F.plain_set_update_loop _, ih (i + 1) _ (by omega) lt (W.frame _ s' _ _ hst' (Nat.le_add_right _ _) fun b hb o e => ?_) kp2 ⟨L', S'.s0, g.next hp e1 e2⟩ fun s2 L2 mv2 sL2 g2 kp3 => ?_⟩
        · exact (sb.2 b fun z : b = S => hS0 (z ▸ hb)).trans e
        · refine hR s2 L2 (Moved.trans W.gtrans ((mv.mono more).then_heap (Nat.le_add_right _ _) fun b o hb e => ?_) mv2) sL2 g2 kp3
          exact (sb.2 b fun z : b = S => hb (z ▸ List.mem_cons_self)).trans e
end
end L2
namespace L2
open PySem PySem.Spec PyProof.Rows
section
variable {P : Program} {w : World} {A : Around} {E : Value → Shared → Prop} {s : Shared}
theorem call_setMT {l : Addr} {items : Array Value} (ks : List (Addr × List Key)) {Q : Value → Shared → Prop} (hh : A.handled = none) (hl : s.heap.IsTuple l items) (hi : items.toList = ks.map fun p => Value.ref p.1) (hk : ∀ p ∈ ks, IsM P w s.heap p.2 p.1) (room : ks.length < 64) (hu : A.units + 8 < cLine)
    (q : ∀ (h' : Heap) (tk : Nat) (L : List (Addr × List Key)), SetM0 P w h' s.heap.objs.size L → GotM ks ks.length L → (∀ b o, s.heap.get? b = some o → h'.get? b = some o) → Q (.ref s.heap.objs.size) { s with heap := h', toks := tk }) :
    wpAny (model P w) A (call (.type "set") [.ref l]) Q E s := by
  obtain ⟨c, tl, hmro⟩ := F.called_set.mro
  have hmade := F.called_set.made
  have hsub := F.called_set.sub
  have hsz : items.size = ks.length := by
    have := congrArg List.length hi
    simpa using this
  refine wpAny_call (codeAny_of_tree ?_)
  show wpAny _ _ (callAny (.type "set") _) _ _ _
  refine wpAny_pure ⟨Code.quiet_builtin _ (by decide +kernel), codeAny_builtin F.entry_type_call ?_⟩
  rw [Around.under_plain (weight_type_call_type "set" [.ref l] []) rfl]
  have h1 := F.called_set.notType
  have h2 := F.called_set.canCreate
  have hct := F.typeCall_set_1 (.ref l)
  repeat (any_goals (first | assumption | wp_step))
  refine codeAny_mono (code_set_led1 (.ref l) (E := E) (Q₁ := fun u s₁ => u = .ref s.heap.objs.size ∧ s₁ = { s with heap := s.heap.push (set0 w) }) ⟨rfl, rfl⟩) fun r s₁ hr => ?_
  match r, hr with
  | .error e, hr => exact hr
  | .ok (.ret u), hr =>
    obtain ⟨rfl, rfl⟩ := hr
    have hS : (s.heap.push (set0 w)).get? s.heap.objs.size = some (set0 w) := Heap.get?_push_size _ rfl
    have hT : Shared.TypeIs { s with heap := s.heap.push (set0 w) } (.ref s.heap.objs.size) "set" := ⟨_, hS, rfl⟩
    have hli := F.called_set.init.lookup
    have hbi := F.called_set.init.bind (.ref s.heap.objs.size)
    repeat (any_goals (first | assumption | wp_step))
    refine codeAny_mono (codeAny_call_builtin (R := wants (fun r s₂ => r = .none ∧ ∃ h' tk L, s₂ = { s with heap := h', toks := tk } ∧ SetM0 P w h' s.heap.objs.size L ∧ GotM ks ks.length L ∧ (∀ b o, s.heap.get? b = some o → h'.get? b = some o)) E)
      F.called_set.init.plain F.entry_set_init (check_set_init_1 hT ?_)) fun r₂ s₂ hr₂ => ?_
    · obtain ⟨ol, hol, hcl, nl, hdl⟩ := hl
      obtain ⟨ocls, odict, odata, oslots⟩ := ol
      simp only at hcl hdl
      subst hcl hdl
      have hol' : (s.heap.push (set0 w)).get? l = some { cls := .type "tuple", dict := odict, data := .seq items nl, slots := oslots } := Heap.get?_push_of_some _ hol
      have hsls := F.sub_tuple_set
      have hslf := F.sub_tuple_frozenset
      have hne : (Value.type "tuple" == Value.type "dict") = false := by decide
      have hl1 : (s.heap.push (set0 w)).IsTuple l items := ⟨_, hol', rfl, nl, rfl⟩
      unfold Builtin.«set.__init__» noKeywords Builtin.Frozenset.updateFrom
      generalize hPI : pyIter = PI
      wp_walk
      subst hPI
      refine wpAny_pyIter_tuple hl1 (wpAny_bind (wpAny_runValue ?_))
      have hlS : l < s.heap.objs.size := Heap.lt_size hol
      have h3 : A.in1.in1.in1.handled = none := hh
      have z1 : (s.heap.push (set0 w)).objs.size = s.heap.objs.size + 1 := Heap.size_push ..
      have n1 : l ≠ (s.heap.push (set0 w)).objs.size := by rw [z1]; exact Nat.ne_of_lt (Nat.lt_succ_of_lt hlS)
      have n2 : s.heap.objs.size ∉ [(s.heap.push (set0 w)).objs.size, l] := by
        rw [z1]
        simp only [List.mem_cons, List.not_mem_nil, or_false, not_or]
        exact ⟨Nat.ne_of_lt (Nat.lt_succ_self _), Nat.ne_of_gt hlS⟩
      have nn : ∀ b, s.heap.objs.size ≤ b → s.heap.get? b = none := fun b hb => by
        cases e : s.heap.get? b with
        | none => rfl
        | some o => exact absurd (Nat.lt_of_lt_of_le (Heap.lt_size e) hb) (Nat.lt_irrefl _)
      refine setM_fill ((Walks.tuple h3 _ l n1 items).toS) s.heap.objs.size n2 ks hsz room (fun i v hv => ?_) s.heap hk (nn _ (Nat.le_refl _)) (fun b hb => ?_) ?_ (items.size - 0) 0 _ (by omega) (Nat.zero_le _) ⟨⟨_, Heap.get?_push_size _ rfl, rfl, rfl⟩, hl1.push _⟩ (fun b o e => Heap.get?_push_of_some _ (Heap.get?_push_of_some _ e)) ⟨[], ?_, GotM.zero ks⟩ fun s' L mv hS' g kp => ?_
      · have hv2 : items.toList[i]? = some v := by rw [Array.getElem?_toList]; exact hv
        rw [hi, List.getElem?_map] at hv2
        cases e : ks[i]? with
        | none => rw [e] at hv2; cases hv2
        | some p =>
          rw [e] at hv2
          cases hv2
          exact ⟨p, rfl, rfl⟩
      · have hb' : b = (s.heap.push (set0 w)).objs.size := by simpa using hb
        rw [hb', z1]
        exact nn _ (Nat.le_succ _)
      · show A.units + 1 + 1 + 1 + 1 < cLine
        omega
      · exact setM0_keep (setM0_fresh hS) fun o e => Heap.get?_push_of_some _ e
      · obtain ⟨h', g2, d', tk', os'⟩ := s'
        have eg : g2 = s.gens := mv.gens
        have ed : d' = s.drawn := mv.drawn
        have eo : os' = s.os := mv.os
        subst eg ed eo
        show wpAny _ _ _ _ _ _
        refine wpAny_pure ?_
        show wpAny _ _ (ret Value.none) _ _ _
        rw [hsz] at g
        exact wpAny_pure ⟨rfl, h', tk', L, rfl, hS', g, kp⟩
    · match r₂, hr₂ with
      | .error e, hr₂ => exact hr₂
      | .ok (.ret r), hr₂ =>
        obtain ⟨rfl, h', tk, L, rfl, hS', g, hk'⟩ := hr₂
        repeat (any_goals (first | assumption | wp_step))
        exact q _ _ L hS' g hk'
      | .ok .next, hr₂ => exact hr₂.elim
      | .ok .brk, hr₂ => exact hr₂.elim
      | .ok .cont, hr₂ => exact hr₂.elim
  | .ok .next, hr => exact hr.elim
  | .ok .brk, hr => exact hr.elim
  | .ok .cont, hr => exact hr.elim
end
section
variable {X : Cx}
/-- set(t), t a tuple of tuples of texts and ints -/
def rSetMT (K : PySem.W.Frag) (P : Program) (w : World) : List V → Hp → VK → Prop := fun xs H Q => ∃ (a : Addr) (ks : List (Addr × List Key)), xs = [.ref a] ∧ SqT K H a (ks.map fun p => V.ref p.1) ∧ (∀ p ∈ ks, SqT K H p.1 (p.2.map kV)) ∧ ks.length < 64 ∧
  ∀ p L, H p = none → GotM ks ks.length L → Q (.ref p) (upd H p (SetMO P w p L))
theorem call_setMTr (hc : X.calm = true) (hu : X.A.units + 8 < cLine) : CallR X (.type "set") (rSetMT X.K X.prog X.w) := by
  intro pins s σ H xs us Q I r h
  obtain ⟨a, ks, rfl, hs, ht, room, q⟩ := h
  obtain ⟨u, rfl, ru⟩ := vals1 r
  cases ru
  obtain ⟨its, rv, hti, hz⟩ := I.tuple hs
  have hits : its = ks.map fun p => Value.ref p.1 := by
    clear hs hti ht room q hz
    induction ks generalizing its with
    | nil => cases rv; rfl
    | cons p ks ih =>
      cases rv with
      | cons r1 r2 =>
        cases r1
        rw [ih _ r2]
        rfl
  refine call_setMT ks (I.ok.hd hc) hti (by rw [List.toList_toArray]; exact hits) (fun p hp => I.isM (ht p hp)) room hu fun h' tk L hS g kp => ?_
  exact ⟨.ref _, _, I.laid (a := s.heap.objs.size) (t' := tk) kp (Nat.le_refl _) (setMO_new hS), rfl, q _ L (I.hok.fresh (Nat.le_refl _)) g⟩
/-- len of such a set -/
def rLenM (P : Program) (w : World) : List V → Hp → VK → Prop := fun xs H Q => ∃ (a : Addr) (L : List (Addr × List Key)), xs = [.ref a] ∧ H a = some (SetMO P w a L) ∧ Q (.int L.length) H
theorem call_lenM : CallR X (.builtin "len") (rLenM X.prog X.w) := by
  intro pins s σ H xs us Q I r h
  obtain ⟨a, L, rfl, ha, q⟩ := h
  obtain ⟨u, rfl, ru⟩ := vals1 r
  cases ru
  obtain ⟨es, ep, t, ⟨o, ho, hex, hd⟩, rows, tab, nd, hroom, few⟩ := setMO_get I ha
  have hsz : es.size = L.length := by
    have := congrArg List.length rows
    simpa using this
  have hf : t.fits es.size = true := by
    unfold SetTable.fits SetTable.fill
    rw [hsz, tab.dm, tab.sz, List.length_map]
    simp
    omega
  refine call_len_set ho hex hd hf (by omega) ⟨.int L.length, H, I.tok _, ⟨s.toks + 1, by rw [hsz]⟩, q⟩
end
end L2
/-! {k: v for tg in iter if ..}: a dict of anything that can be put. -/
namespace L2
open PySem PySem.Spec PyProof.Rows
/-- what putting asks: D the dict, y the key, z the value, Nx what is wanted behind it -/
abbrev PutR := Addr → V → V → Hp → (Hp → Prop) → Prop
def tDcG (o0 : Addr → HO) (ad : PutR) (wi : TI) (g : TG) (tt : TT) (tk tv : TE) (vs : List Nat) : TE := fun σ H Q => wi σ H fun J H1 => ∀ D, H1 D = none → ∃ W : Nat → Nat → Hp → Prop, (∃ m, W 0 m (upd H1 D (o0 D))) ∧ ∀ i m H, W i m H →
  (J.stop i H ∧ Q (.ref D) H) ∨ (J.go i H ∧ ∃ Nx : Hp → Prop, (∀ H', Nx H' → ∃ m', m' < m ∧ W (i + 1) m' H') ∧ ∀ x H', J.yld i H x H' → g x (wipe σ vs) H' fun σ2 H2 => wipe σ2 vs = wipe σ vs ∧ tt σ2 H2 fun b H3 => if b = true then tk σ2 H3 fun y H4 => tv σ2 H4 fun z H5 => ad D y z H5 Nx else Nx H3)
structure PutOk (X : Cx) (o0 : Addr → HO) (ad : PutR) : Prop where
  new : ∀ (H : Hp) (h : Heap) (a : Addr), sysModules < a → h.get? a = some { cls := .type "dict", data := .dict #[] } → ObjOk X.prog X.w H h a (o0 a)
  put : ∀ (X' : Cx), X'.prog = X.prog → X'.w = X.w → X'.K = X.K → X'.A = X.A → ∀ (pins : List (Addr × Obj)) (σ : St) (H : Hp) (s : Shared) (D : Addr) (y z : V) (u r : Value) (Nx : Hp → Prop) (E : Value → Shared → Prop),
    Inv X' pins σ H s → RelV y u → RelV z r → ad D y z H Nx → wpAny (model X.prog X.w) X.A (dictSet D u r) (fun _ s' => ∃ H', Inv X' pins σ H' s' ∧ Nx H') E s
theorem newDict_ok {P : Program} {w : World} {A : Around} {E : Value → Shared → Prop} {s : Shared} {Q : Value → Shared → Prop} (q : Q (.ref s.heap.objs.size) { s with heap := s.heap.push { cls := .type "dict", data := .dict #[] } }) : wpAny (model P w) A newDict Q E s := by
  unfold newDict newObj
  exact wpAny_bind (wpAny_alloc (wpAny_pure q))
section
variable {X : Cx} {pins : List (Addr × Obj)} {s : Shared} {σ : St} {H : Hp} {Q : VK} {kx vx tg iter : Expr} {ifs : List Expr} {scope : Scope} {own : List (Str × Nat)} {pos pos' : Pos} {wi : TI} {g : TG} {tt : TT} {tk tv : TE} {o0 : Addr → HO} {ad : PutR} {Qf : Value → Shared → Prop}
theorem dcg_core (hc : X.calm = true) (hN : X.N.Nodup) (I : Inv X pins σ H s) (hi : PI X tg iter wi) (ok : BlkOk X.N X.env.scope scope own) (ao : PutOk X o0 ad)
    (hg : ∀ s H C cl fp, PG (X.blk s H scope (compEnvC scope cl C X.env) fp) tg g) (ht : ∀ s H C cl fp, PTs (X.blk s H scope (compEnvC scope cl C X.env) fp) ifs tt) (hk : ∀ s H C cl fp, PE (X.blk s H scope (compEnvC scope cl C X.env) fp) kx tk) (he : ∀ s H C cl fp, PE (X.blk s H scope (compEnvC scope cl C X.env) fp) vx tv)
    (hf : ∀ x, foldedSetIterable iter X.env x = pure x) (q : tDcG o0 ad wi g tt tk tv (own.map (·.2)) σ H Q) {use : Option (Value → Sem Unit)}
    (fin : ∀ (D C : Addr) (s' : Shared) (m : Str → Option Value) (H' : Hp), Inv X pins σ H' s' → Q (.ref D) H' → s'.heap.Ns C m → FpOk X pins H' C → compPost (model X.prog X.w) X.A X.xe use Qf (.ref D) C (.ok .next) s') :
    wpAny (model X.prog X.w) X.A (comprehension (.DictComp kx vx [⟨tg, iter, ifs, 0⟩] scope pos) scope X.env pos' newDict false (eval iter X.env) use) Qf X.xe s := by
  have hfree : ∀ y ∈ scope.names, y.2 = .free → ∃ c, X.env.cells.lookup y.1 = some c := fun y hy e => by
    rcases ok.free y hy e with k | k
    · exact I.ok.has _ (.inl k)
    · exact I.ok.has _ (.inr k)
  refine wpAny_comprehension_free (g := ⟨tg, iter, ifs, 0⟩) (gs := []) rfl hf (closure_ok hfree) ok.kind (fun x hx e => by rw [ok.uniq x hx, e]) ?_
  refine wpAny_mono (hi.run pins s σ H _ I q) (fun v s1 h1 => wpAny_mono h1 (fun itv s2 h2 => ?_) fun _ _ e => e) fun _ _ e => e
  obtain ⟨it, fp, tn, J, H2, rfl, I2, T, t2, fpok, q2⟩ := h2
  refine newDict_ok ?_
  have hD := I2.hok.fresh (Nat.le_refl _)
  generalize hd : s2.heap.objs.size = D at *
  have kp : ∀ b u, s2.heap.get? b = some u → (s2.heap.push { cls := .type "dict", data := .dict #[] }).get? b = some u := fun b u e => Heap.get?_push_of_some _ e
  have I3 := I2.laid (a := D) (t' := s2.toks) kp (Nat.le_of_eq hd) (ao.new (upd H2 D (o0 D)) _ D (by rw [← hd]; exact I2.big) (by rw [← hd]; exact Heap.get?_push_size _ rfl))
  obtain ⟨W, ⟨m0, hw0⟩, step⟩ := q2 D hD
  have f3 : ∀ b ∈ fp, FpOk X pins (upd H2 D (o0 D)) b := fun b hb => by
    obtain ⟨o, e, _⟩ := T.obj _ _ t2 b hb
    have z : b ≠ D := by
      intro z
      have l := Heap.lt_size e
      rw [hd, z] at l
      exact Nat.lt_irrefl _ l
    have k := fpok b hb
    exact ⟨by rw [upd_ne z]; exact k.1, k.2⟩
  have t3 := T.keep _ _ _ t2 fun b hb o e => kp b o e
  have I3x : ∃ s3 : Shared, s3 = { s2 with heap := s2.heap.push { cls := .type "dict", data := .dict #[] } } := ⟨_, rfl⟩
  obtain ⟨s3, hs3⟩ := I3x
  have I3' : Inv X pins σ (upd H2 D (o0 D)) s3 := by rw [hs3]; exact I3
  have t3' : tn 0 s3.heap := by rw [hs3]; exact t3
  rw [← hs3]
  clear I3 t3
  clear hs3
  -- := s2.heap.push { cls := .type "dict", data := .dict #[] } } : Shared) = s3 at *
  have f3s : ∀ b ∈ fp, FpOk X pins (upd H2 D (o0 D)) b ∧ b < s3.heap.objs.size := fun b hb => by
    obtain ⟨o, e, _⟩ := T.obj _ _ t3' b hb
    exact ⟨f3 b hb, Heap.lt_size e⟩
  refine newEnv_comp ?_
  have IB := block_start I3' ok hN f3s
  generalize hcl : cellsFrom (s3.heap.objs.size + 1) scope.names (cloFrom X.env.cells scope.names []) = cl at *
  generalize hCC : s3.heap.objs.size = C at *
  have kpB : ∀ b u, s3.heap.get? b = some u → (pushCells (s3.heap.push { cls := .type "dict", data := .dict #[] }) scope.names).get? b = some u := fun b u e => pushCells_keeps _ _ b u (Heap.get?_push_of_some _ e)
  have t4 : tn 0 (pushCells (s3.heap.push { cls := .type "dict", data := .dict #[] }) scope.names) := T.keep _ _ _ t3' fun b hb o e => kpB b o e
  show codeAny (model X.prog X.w) X.A (.compStart (.DictComp kx vx [⟨tg, iter, ifs, 0⟩] scope pos) 0 (.ref it) (.ref D) (compEnvC scope cl C X.env)) _ _
  have main : codeAny (model X.prog X.w) X.A (.compLoop (.DictComp kx vx [⟨tg, iter, ifs, 0⟩] scope pos) 0 (.ref it) (.ref D) (compEnvC scope cl C X.env)) (compPost (model X.prog X.w) X.A X.xe use Qf (.ref D) C) { s3 with heap := pushCells (s3.heap.push { cls := .type "dict", data := .dict #[] }) scope.names } := by
    refine compLoop_anyD (fun m s => ∃ i H5, W i m H5 ∧ Inv (X.blk s3 (upd H2 D (o0 D)) scope (compEnvC scope cl C X.env) fp) [] (wipe σ (own.map (·.2))) H5 s ∧ tn i s.heap ∧ ∀ b ∈ fp, H5 b = none) (fun m s h => ?_) m0 ⟨0, _, hw0, IB, t4, fun b hb => (f3 b hb).1⟩
    obtain ⟨i, H5, w5, I5, t5, n5⟩ := h
    have fok : ∀ {H'' : Hp} {s'' : Shared}, Inv (X.blk s3 (upd H2 D (o0 D)) scope (compEnvC scope cl C X.env) fp) [] (wipe σ (own.map (·.2))) H'' s'' → (∀ b ∈ fp, H'' b = none) → ∀ b ∈ fp, FpOk (X.blk s3 (upd H2 D (o0 D)) scope (compEnvC scope cl C X.env) fp) [] H'' b := fun I'' hn b hb =>
      ⟨hn b hb, (I''.ok.exf b hb).1, I''.ok.exfs b hb, .inl hb, fun x c e => (I''.ok.exf b hb).2 x c e, fun p hp => absurd (show p ∈ ([] : List (Addr × Obj)) ++ [] from hp) (by simp)⟩
    rcases step i m H5 w5 with ⟨js, qd⟩ | ⟨jg, Nx, hnx, body⟩
    · refine wpAny_mono (T.done (X.blk s3 (upd H2 D (o0 D)) scope (compEnvC scope cl C X.env) fp) rfl rfl rfl hc i _ s _ H5 _ I5 (fok I5 n5) t5 js) (fun r s6 h6 => ?_) fun _ _ e => e
      obtain ⟨rfl, I6⟩ := h6
      obtain ⟨m', hns, _⟩ := I6.loc
      have hX : Inv X pins σ H5 s6 := I3'.call' (ch := fp) I6.os I6.base I6.hok I6.bare fun b hb => ⟨(f3 b hb).2.2.2.1, (f3 b hb).2.1, (f3 b hb).2.2.2.2.1, (f3 b hb).2.2.2.2.2⟩
      exact fin D C s6 m' H5 hX qd hns (I3'.fpOk (Nat.le_of_eq hCC) I6.free)
    · refine wpAny_mono (T.item (X.blk s3 (upd H2 D (o0 D)) scope (compEnvC scope cl C X.env) fp) rfl rfl rfl hc i _ s _ H5 _ I5 (fok I5 n5) t5 jg) (fun r s6 h6 => ?_) fun _ _ e => e
      obtain ⟨u, rfl, h6⟩ := h6
      refine wpAny_mono h6 (fun _ s7 h7 => ?_) fun _ _ e => e
      obtain ⟨x, H7, I7, r7, y7, t7, n7⟩ := h7
      have I7' := I7.pinned (fok I7 n7) (T.obj _ _ t7)
      refine wpAny_mono ((hg s3 (upd H2 D (o0 D)) C cl fp).run _ s7 _ H7 x u _ I7' r7 (body x H7 y7)) (fun _ s8 h8 => ?_) fun _ _ e => e.elim
      obtain ⟨σ8, H8, I8, hw8, q8⟩ := h8
      have hl : (wipe σ (own.map (·.2))).length = σ8.length := by rw [← hw8, wipe_length]
      have fin : ∀ {H9 : Hp} {s9 : Shared}, Inv (X.blk s3 (upd H2 D (o0 D)) scope (compEnvC scope cl C X.env) fp) ([] ++ pinsAt fp s7.heap) σ8 H9 s9 → Nx H9 → ∃ m', m' < m ∧ ∃ i H5, W i m' H5 ∧ Inv (X.blk s3 (upd H2 D (o0 D)) scope (compEnvC scope cl C X.env) fp) [] (wipe σ (own.map (·.2))) H5 s9 ∧ tn i s9.heap ∧ ∀ b ∈ fp, H5 b = none := fun {H9 s9} I9 nx => by
        obtain ⟨m', lt, w'⟩ := hnx H9 nx
        have pin' : ∀ b ∈ fp, ∀ o, s7.heap.get? b = some o → s9.heap.get? b = some o ∧ H9 b = none := fun b hb o e =>
          let z := I9.pin (b, o) (List.mem_append_right _ (List.mem_append_right _ (mem_pinsAt hb e)))
          ⟨z.1, z.2.1⟩
        refine ⟨m', lt, i + 1, H9, w', (I9.unpinned (pins := [])).weak hl (fun j v e => ?_), T.keep _ _ _ t7 fun b hb o e => (pin' b hb o e).1, fun b hb => ?_⟩
        · rw [← hw8] at e
          exact (wipe_some e).1
        · obtain ⟨o, e, _⟩ := T.obj _ _ t7 b hb
          exact (pin' b hb o e).2
      refine wpAny_mono ((ht s3 (upd H2 D (o0 D)) C cl fp).run _ s8 σ8 H8 _ I8 q8) (fun b s9 h9 => ?_) fun _ _ e => e.elim
      obtain ⟨H9, I9, q9⟩ := h9
      cases b with
      | false =>
        rw [if_neg Bool.false_ne_true] at q9 ⊢
        exact fin I9 q9
      | true =>
        rw [if_pos rfl] at q9 ⊢
        refine wpAny_mono ((hk s3 (upd H2 D (o0 D)) C cl fp).run _ s9 σ8 H9 _ I9 q9) (fun u0 s0 h0 => ?_) fun _ _ e => e.elim
        obtain ⟨y0, H0, I0, r0, q0⟩ := h0
        refine wpAny_mono ((he s3 (upd H2 D (o0 D)) C cl fp).run _ s0 σ8 H0 _ I0 q0) (fun z s10 h10 => ?_) fun _ _ e => e.elim
        obtain ⟨y, H10, I10, r10, q10⟩ := h10
        refine wpAny_mono (ao.put (X.blk s3 (upd H2 D (o0 D)) scope (compEnvC scope cl C X.env) fp) rfl rfl rfl rfl _ σ8 H10 s10 D y0 y u0 z Nx _ I10 r0 r10 q10) (fun _ s11 h11 => ?_) fun _ _ e => e
        obtain ⟨H11, I11, nx⟩ := h11
        exact fin I11 nx
  exact codeAny_compStart_dict main (T.self X.A 0 _ _ _ t4 main)
/-- the comprehension's own names gone, at C -/
theorem Inv.dropC {h' : Heap} {C : Addr} (I : Inv X pins σ H s) (f : FpOk X pins H C) (sb : Heap.SameBut C s.heap h') : Inv X pins σ H { s with heap := h' } := by
  refine I.call (ch := [C]) (t' := s.toks) (d' := s.drawn) ⟨fun b o e1 e2 e3 e4 => ?_, fun b o e1 e2 e3 e4 => ⟨o.slots, ?_⟩, fun b o e1 e2 e3 => e2, fun b o e1 e2 => ⟨o, ?_⟩, fun _ _ e => e, fun _ _ _ e => e, fun b ps e => ⟨#[], by simpa using e⟩⟩ (I.hok.but f.1 sb) I.bare fun b hb => ?_
  · rw [sb.2 b fun z => e4 (by rw [z]; exact List.mem_cons_self)]; exact e1
  · rw [sb.2 b fun z => e4 (by rw [z]; exact List.mem_cons_self)]; exact e1
  · rw [sb.2 b fun z => e2 (by rw [z]; exact List.mem_cons_self)]; exact e1
  · rw [List.mem_singleton] at hb
    subst hb
    exact ⟨f.2.2.2.1, f.2.1, f.2.2.2.2.1, f.2.2.2.2.2⟩
theorem fin_pe {D C : Addr} {s' : Shared} {m : Str → Option Value} {H' : Hp} (I : Inv X pins σ H' s') (q : Q (.ref D) H') (hns : s'.heap.Ns C m) (f : FpOk X pins H' C) : compPost (model X.prog X.w) X.A X.xe none (EP X pins σ Q) (.ref D) C (.ok .next) s' :=
  ⟨m, hns, fun h' sb => ⟨.ref D, H', I.dropC f sb, rfl, q⟩⟩
theorem pe_dcg (hc : X.calm = true) (hN : X.N.Nodup) (hi : PI X tg iter wi) (ok : BlkOk X.N X.env.scope scope own) (ao : PutOk X o0 ad)
    (hg : ∀ s H C cl fp, PG (X.blk s H scope (compEnvC scope cl C X.env) fp) tg g) (ht : ∀ s H C cl fp, PTs (X.blk s H scope (compEnvC scope cl C X.env) fp) ifs tt) (hk : ∀ s H C cl fp, PE (X.blk s H scope (compEnvC scope cl C X.env) fp) kx tk) (he : ∀ s H C cl fp, PE (X.blk s H scope (compEnvC scope cl C X.env) fp) vx tv)
    (hf : ∀ x, foldedSetIterable iter X.env x = pure x := by exact fun _ => rfl) : PE X (.DictComp kx vx [⟨tg, iter, ifs, 0⟩] scope pos) (tDcG o0 ad wi g tt tk tv (own.map (·.2))) where
  run := fun pins s σ H Q I q => by
    show wpAny _ _ (comprehension _ _ _ _ _ _ _) _ _ _
    exact dcg_core hc hN I hi ok ao hg ht hk he hf q fun D C s' m H' => fin_pe
/-- y = {k: v for ..}, y a plain name of the def: the stores are exchanged -/
theorem fin_use {i : Nat} {y : Str} {py : Pos} {D0 : Ends} (hN : X.N.Nodup) (hy : X.N[i]? = some y) (hyl : X.env.scope.names.lookup y = some .local) {D C : Addr} {s' : Shared} {m : Str → Option Value} {H' : Hp}
    (I : Inv X pins σ H' s') (q : D0.nx (σ.set i (some (.ref D))) H') (hns : s'.heap.Ns C m) (f : FpOk X pins H' C) :
    compPost (model X.prog X.w) X.A X.xe (some (assign (.Name y py) X.env)) (fun _ s2 => SP X pins D0 .next s2) (.ref D) C (.ok .next) s' := by
  obtain ⟨o, es, ep, ho, hd, hsk, hnf⟩ := hns
  have Ip := I.pinned (fp := [C]) (fun b hb => by rw [List.mem_singleton] at hb; subst hb; exact f) (fun b hb => by rw [List.mem_singleton] at hb; subst hb; exact ⟨o, ho, fun v z => by rw [hd] at z; cases z⟩)
  refine wpAny_mono ((pg_name (pos := py) hN hy (.inl hyl) (.inr hyl)).run _ s' σ H' (.ref D) (.ref D) (fun σ2 H2 => σ2 = σ.set i (some (.ref D)) ∧ H2 = H') Ip rfl ⟨rfl, rfl⟩) (fun _ s2 h2 => ?_) fun _ _ e => e
  obtain ⟨σ2, H2, I2, rfl, rfl⟩ := h2
  have pc := I2.pin (C, o) (List.mem_append_right _ (List.mem_append_right _ (mem_pinsAt List.mem_cons_self ho)))
  refine ⟨m, ⟨o, es, ep, pc.1, hd, hsk, hnf⟩, fun h' sb => ⟨_, H2, I2.unpinned.dropC f sb, q⟩⟩
theorem sw_dict {y : Str} {l : Nat} {py : Pos} (hk : X.env.scope.kind = .function) (hyl : X.env.scope.names.lookup y = some .local) (hl : (py.line == pos.line) = true)
    (hs : (scope.names.any fun x => match x with | (n, k) => n == y && (k == .local || k == .cell)) = false) : swapsWith (.DictComp kx vx [⟨tg, iter, ifs, 0⟩] scope pos) (some (.Name y py)) l X.env = pure true := by
  exact sw_true (l := l) (elt := kx) (gs := [⟨tg, iter, ifs, 0⟩]) (pos := pos) hk hyl hl hs
theorem ps_setDg {i : Nat} {y : Str} {py spos : Pos} (hc : X.calm = true) (hN : X.N.Nodup) (hy : X.N[i]? = some y) (hyl : X.env.scope.names.lookup y = some .local) (hsw : swapsWith (.DictComp kx vx [⟨tg, iter, ifs, 0⟩] scope pos) (some (.Name y py)) spos.line X.env = pure true)
    (hi : PI X tg iter wi) (ok : BlkOk X.N X.env.scope scope own) (ao : PutOk X o0 ad)
    (hg : ∀ s H C cl fp, PG (X.blk s H scope (compEnvC scope cl C X.env) fp) tg g) (ht : ∀ s H C cl fp, PTs (X.blk s H scope (compEnvC scope cl C X.env) fp) ifs tt) (hk : ∀ s H C cl fp, PE (X.blk s H scope (compEnvC scope cl C X.env) fp) kx tk) (he : ∀ s H C cl fp, PE (X.blk s H scope (compEnvC scope cl C X.env) fp) vx tv)
    (hf : ∀ x, foldedSetIterable iter X.env x = pure x := by exact fun _ => rfl) : PS X (.Assign [.Name y py] (.DictComp kx vx [⟨tg, iter, ifs, 0⟩] scope pos) spos) (tAsg (tDcG o0 ad wi g tt tk tv (own.map (·.2))) (gName i)) where
  run := fun pins s σ H D I q => by
    rw [exec_Assign_Name_used y py _ spos hsw]
    refine wpAny_bind (wpAny_standAt ?_)
    refine wpAny_bind ?_
    rw [arm_evalThenUse_DictComp]
    refine wpAny_bind ?_
    refine wpAny_mono (dcg_core hc hN I hi ok ao hg ht hk he hf q (use := some (assign (.Name y py) X.env)) (Qf := fun _ s2 => SP X pins D .next s2) fun D1 C s' m H' I' q' hns f => fin_use hN hy hyl I' q' hns f) (fun _ s2 h2 => wpAny_pure (wpAny_pure h2)) fun _ _ e => e
/-- the same for the library's dicts (keys texts and ints) -/
theorem ps_setDc {i : Nat} {y : Str} {py spos : Pos} (hc : X.calm = true) (hN : X.N.Nodup) (hy : X.N[i]? = some y) (hyl : X.env.scope.names.lookup y = some .local) (hsw : swapsWith (.DictComp kx vx [⟨tg, iter, ifs, 0⟩] scope pos) (some (.Name y py)) spos.line X.env = pure true)
    (hi : PI X tg iter wi) (ok : BlkOk X.N X.env.scope scope own)
    (hg : ∀ s H C cl fp, PG (X.blk s H scope (compEnvC scope cl C X.env) fp) tg g) (ht : ∀ s H C cl fp, PTs (X.blk s H scope (compEnvC scope cl C X.env) fp) ifs tt) (hk : ∀ s H C cl fp, PE (X.blk s H scope (compEnvC scope cl C X.env) fp) kx tk) (he : ∀ s H C cl fp, PE (X.blk s H scope (compEnvC scope cl C X.env) fp) vx tv)
    (hf : ∀ x, foldedSetIterable iter X.env x = pure x := by exact fun _ => rfl) : PS X (.Assign [.Name y py] (.DictComp kx vx [⟨tg, iter, ifs, 0⟩] scope pos) spos) (tAsg (tDc wi g tt tk tv (own.map (·.2))) (gName i)) where
  run := fun pins s σ H D I q => by
    rw [exec_Assign_Name_used y py _ spos hsw]
    refine wpAny_bind (wpAny_standAt ?_)
    refine wpAny_bind ?_
    rw [arm_evalThenUse_DictComp]
    refine wpAny_bind ?_
    refine wpAny_mono (dc_core hc hN I hi ok hg ht hk he hf q (use := some (assign (.Name y py) X.env)) (Qf := fun _ s2 => SP X pins D .next s2) fun D1 C s' m H' I' q' hns f => fin_use hN hy hyl I' q' hns f) (fun _ s2 h2 => wpAny_pure (wpAny_pure h2)) fun _ _ e => e
end
end L2
namespace L2
open PySem PySem.Spec PyProof.Rows
theorem PI.or {X : Cx} {tg e : Expr} {w w' : TI} (h : PI X tg e w) (h' : PI X tg e w') : PI X tg e (fun σ H R => w σ H R ∨ w' σ H R) := ⟨fun pins s σ H R I q => by
  rcases q with q | q
  · exact h.run pins s σ H R I q
  · exact h'.run pins s σ H R I q⟩
theorem pe_false {X : Cx} {e : Expr} : PE X e (fun _ _ _ => False) := ⟨fun _ _ _ _ _ _ h => h.elim⟩
theorem pt_false {X : Cx} {e : Expr} : PT X e (fun _ _ _ => False) := ⟨fun _ _ _ _ _ _ h => h.elim⟩
/-- a list or a tuple -/
def iSeq (K : PySem.W.Frag) (te : TE) : TI := fun σ H R => iList K te σ H R ∨ iTup K te σ H R
theorem pi_seq {X : Cx} {tg e : Expr} {te : TE} (h : PE X e te) : PI X tg e (iSeq X.K te) := (pi_list h).or (pi_tup h)
def iEn (K : PySem.W.Frag) (ta : TA) : TI := fun σ H R => iEnum K ta σ H R ∨ iEnumT K ta σ H R
theorem pi_en {X : Cx} {e : Expr} {ta : TA} {p pos tpos : Pos} {elts : List Expr} {kk : Nat} (hg : Gl X "enumerate") (hm : X.mg "enumerate" = none) (ha : PA X [e] ta) (hs : starEach [e] X.env = [(false, eval e X.env)] := by rfl) :
    PI X (.Tuple elts kk tpos) (.Call (.Name "enumerate" p) [e] [] pos) (iEn X.K ta) := (pi_enum hg hm ha hs).or (pi_enumT hg hm ha hs)
end L2

/-! QG: what is walked, comprehensions, len, isinstance, slices, truth, chains -/
namespace QE
open PySem L2
variable {K : PySem.W.Frag} {m m' m2 : Mp} {H H' H2 : Hp} {h h' : Hq} {E : XK}

/-! ### walks -/
def nxT (us : List U) : NX := fun i _ => some (ixQ.nthQ us i)
def nxL (j : Nat) : NX := fun i h => match getL h j with | some us => some (ixQ.nthQ us i) | none => none
def nxR (lo : Int) (n : Nat) : NX := fun i _ => match Nat.blt i n with | true => some (some (.int (lo + Int.ofNat i))) | false => some none
def nxS (z : List Nat) : NX := fun i _ => match ixQ.nthQ z i with | some c => some (some (.str [c])) | none => some none
def nxE (nx : NX) : NX := fun i h => match nx i h with | some (some u) => some (some (.tup [.int (Int.ofNat i), u])) | r => r
theorem sqT_inj {a : Addr} {vs ws : List V} (h1 : ∀ xs, SqT K H a xs → xs = vs) (h2 : SqT K H a ws) : ws = vs := h1 ws h2
def uSeq (u : U) (h : Hq) : Option NX := match u with | .tup us => some (nxT us) | .ref j => (match getL h j with | some _ => some (nxL j) | none => none) | _ => none
def eSeq (f : MF U) : MF NX := fun env h => bnd (f env h) fun u h1 => match uSeq u h1 with | some nx => ret nx h1 | none => none
theorem sqL_at {a : Addr} {vs : List V} {i : Nat} (q : vs[i]? = none) : vs.length ≤ i := by
  rw [List.getElem?_eq_none_iff] at q
  exact q
theorem itr_tup {us : List U} {a : Addr} {vs : List V} (hs : SqT K H a vs) (r : RUs K m H us vs) : ItR K m H (nxT us) (Itt K a) where
  stop := fun i m' H' h' x R e => by
    have e2 : ixQ.nthQ us i = none := Option.some.inj e
    rw [nthQ_eq] at e2
    refine ⟨vs, x.t a vs hs, ?_⟩
    rw [← r.len]
    rw [List.getElem?_eq_none_iff] at e2
    exact e2
  go := fun i m' H' h' u x R e => by
    have e2 : ixQ.nthQ us i = some u := Option.some.inj e
    rw [nthQ_eq] at e2
    obtain ⟨v, h1, h2⟩ := r.at e2
    refine ⟨⟨vs, v, x.t a vs hs, h1⟩, fun y H2 hy => ?_⟩
    obtain ⟨rfl, hy⟩ := hy
    have := hy vs (x.t a vs hs)
    rw [h1] at this
    cases this
    exact ⟨.refl, R, h2.mono x⟩
theorem RH.atL (R : RH K m H h) {j : Nat} {a : Addr} {us : List U} (hj : m j = some a) (e : getL h j = some us) : ∃ vs, SqL K H a vs ∧ RUs K m H us vs := by
  obtain ⟨b, vs, h1, h2, h3⟩ := getL_ok R e
  rw [hj] at h1; cases h1
  exact ⟨vs, h2, h3⟩
theorem itr_list {j : Nat} {a : Addr} (hj : m j = some a) : ItR K m H (nxL j) (Itl K a) where
  stop := fun i m' H' h' x R e => by
    unfold nxL at e
    split at e
    · rename_i us q
      have e2 : ixQ.nthQ us i = none := Option.some.inj e
      rw [nthQ_eq] at e2
      obtain ⟨vs, h2, h3⟩ := R.atL (x.mm j a hj) q
      refine ⟨vs, h2, ?_⟩
      rw [← h3.len]
      rw [List.getElem?_eq_none_iff] at e2
      exact e2
    · cases e
  go := fun i m' H' h' u x R e => by
    unfold nxL at e
    split at e
    · rename_i us q
      have e2 : ixQ.nthQ us i = some u := Option.some.inj e
      rw [nthQ_eq] at e2
      obtain ⟨vs, h2, h3⟩ := R.atL (x.mm j a hj) q
      obtain ⟨v, h1, h4⟩ := h3.at e2
      refine ⟨⟨vs, v, h2, h1⟩, fun y H2 hy => ?_⟩
      obtain ⟨rfl, hy⟩ := hy
      have := hy vs h2
      rw [h1] at this
      cases this
      exact ⟨.refl, R, h4⟩
    · cases e
theorem simi_seq {te : TE} {f : MF U} (s : Sim K E te f) : SimI K E (iSeq K te) (eSeq f) := fun m h env σ H r Q re R e o => by
  have key : (∃ u h1, f env h = some (.ok u, h1) ∧ ∃ nx, uSeq u h1 = some nx ∧ r = (.ok nx, h1)) ∨ ∃ C fs h1, f env h = some (.ex C fs, h1) ∧ r = (.ex C fs, h1) := by
    rcases bnd_inv e with ⟨u, h1, e1, e2⟩ | ⟨C, fs, h1, e1, e2⟩
    · split at e2
      · rename_i nx q
        cases e2
        exact .inl ⟨u, h1, e1, nx, q, rfl⟩
      · cases e2
    · exact .inr ⟨C, fs, h1, e1, e2⟩
  rcases key with ⟨u, h1, e1, nx, q, rfl⟩ | ⟨C, fs, h1, e1, rfl⟩
  · unfold uSeq at q
    split at q
    · rename_i us
      cases q
      refine .inr (s m h env σ H _ _ re R e1 fun m1 H1 v x1 R1 q1 => ?_)
      obtain ⟨a, vs, rfl, hs, rr⟩ := q1
      exact ⟨a, rfl, ⟨vs, hs⟩, o m1 H1 _ x1 R1 (itr_tup hs rr)⟩
    · rename_i j
      split at q
      · rename_i us q2
        cases q
        refine .inl (s m h env σ H _ _ re R e1 fun m1 H1 v x1 R1 q1 => ?_)
        obtain ⟨a, vs, ha, rfl, hs, rr⟩ := R1.ofL q2 q1
        exact ⟨a, rfl, ⟨vs, hs⟩, o m1 H1 _ x1 R1 (itr_list ha)⟩
      · cases q
    · cases q
  · exact .inl (s m h env σ H _ _ re R e1 o)
/-- range(n), range(a, b) -/
def iOk (i : Int) : Bool := match iLe (-1000000000) i with | true => iLe i 1000000000 | false => false
theorem iOk_ok {i : Int} (e : iOk i = true) : -(2 ^ 62) ≤ i ∧ i < 2 ^ 62 := by
  unfold iOk at e
  split at e
  · rename_i q
    rw [← iLe_eq, decide_eq_true_iff] at q e
    omega
  · cases e
def natOf : Int → Nat
  | .ofNat n => n
  | .negSucc _ => 0
theorem natOf_eq (i : Int) : natOf i = i.toNat := by cases i <;> rfl
def eRng1 (f : MF (List U)) : MF NX := fun env h => bnd (f env h) fun us h1 => match us with
  | [.int j] => (match iOk j with | true => ret (nxR 0 (natOf j)) h1 | false => none)
  | _ => none
def eRng2 (f : MF (List U)) : MF NX := fun env h => bnd (f env h) fun us h1 => match us with
  | [.int i, .int j] => (match iOk i, iOk j with | true, true => ret (nxR i (natOf (j - i))) h1 | _, _ => none)
  | _ => none
theorem itr_rng {lo : Int} {n : Nat} : ItR K m H (nxR lo n) (Itr lo n) where
  stop := fun i m' H' h' x R e => by
    unfold nxR at e
    split at e
    · cases e
    · rename_i q
      show n ≤ i
      unfold Nat.blt at q
      have : ¬ (i + 1 ≤ n) := fun z => by rw [Nat.ble_eq_true_of_le z] at q; cases q
      omega
  go := fun i m' H' h' u x R e => by
    unfold nxR at e
    split at e
    · rename_i q
      cases e
      refine ⟨Nat.le_of_ble_eq_true q, fun y H2 hy => ?_⟩
      obtain ⟨rfl, rfl⟩ := hy
      exact ⟨.refl, R, rfl⟩
    · cases e
theorem simi_rng1 {ta : TA} {f : MF (List U)} (s : SimA K E ta f) : SimI K E (iRng1 ta) (eRng1 f) := fun m h env σ H r Q re R e o => by
  rcases bnd_inv e with ⟨us, h1, e1, e2⟩ | ⟨C, fs, h1, e1, rfl⟩
  · split at e2
    · split at e2
      · rename_i q
        cases e2
        refine s m h env σ H _ _ re R e1 fun m1 H1 vs x1 R1 q1 => ?_
        obtain ⟨v, w, rfl, q2, q3⟩ := q1
        cases q2
        cases (show w = [] from q3)
        obtain ⟨a, b⟩ := iOk_ok q
        exact ⟨_, rfl, a, b, by rw [← natOf_eq]; exact o m1 H1 _ x1 R1 itr_rng⟩
      · cases e2
    · cases e2
  · exact s m h env σ H _ _ re R e1 o
theorem simi_rng2 {ta : TA} {f : MF (List U)} (s : SimA K E ta f) : SimI K E (iRng2 ta) (eRng2 f) := fun m h env σ H r Q re R e o => by
  rcases bnd_inv e with ⟨us, h1, e1, e2⟩ | ⟨C, fs, h1, e1, rfl⟩
  · split at e2
    · split at e2
      · rename_i q q'
        cases e2
        refine s m h env σ H _ _ re R e1 fun m1 H1 vs x1 R1 q1 => ?_
        obtain ⟨v, w, rfl, q2, q3⟩ := q1
        obtain ⟨v2, w2, rfl, q4, q5⟩ := q3
        cases q2
        cases q4
        cases (show w2 = [] from q5)
        obtain ⟨a, b⟩ := iOk_ok q
        obtain ⟨c, d⟩ := iOk_ok q'
        exact ⟨_, _, rfl, ⟨a, b, c, d⟩, by rw [← natOf_eq]; exact o m1 H1 _ x1 R1 itr_rng⟩
      · cases e2
    · cases e2
  · exact s m h env σ H _ _ re R e1 o
/-- enumerate of a list, a tuple -/
def nxET (us : List U) : NX := fun i _ => match ixQ.nthQ us i with
  | some u => some (some (.tup [.int (Int.ofNat i), u]))
  | none => match Nat.beq us.length i with | true => some none | false => none
def nxEL (j : Nat) : NX := fun i h => match getL h j with
  | some us => (match ixQ.nthQ us i with | some u => some (some (.tup [.int (Int.ofNat i), u])) | none => some none)
  | none => none
theorem tup2 {a b : U} {va vb : V} {T : Addr} (R : RH K m H h) (hT : H T = none) (q1 : RU K m H a va) (q2 : RU K m H b vb) :
    Ext K m H m (upd H T (.tup [va, vb])) ∧ RH K m (upd H T (.tup [va, vb])) h ∧ RU K m (upd H T (.tup [va, vb])) (.tup [a, b]) (.ref T) := by
  obtain ⟨e2, R2⟩ := R.fresh (o := .tup [va, vb]) hT
  exact ⟨e2, R2, T, _, rfl, .of upd_same, va, [vb], rfl, q1.mono e2, vb, [], rfl, q2.mono e2, rfl⟩
theorem itr_enT {us : List U} {a : Addr} {vs : List V} (hs : SqT K H a vs) (r : RUs K m H us vs) : ItR K m H (nxET us) (IteT K a) where
  stop := fun i m' H' h' x R e => by
    unfold nxET at e
    split at e
    · cases e
    · split at e
      · rename_i q
        exact ⟨vs, x.t a vs hs, by rw [← r.len]; exact Nat.eq_of_beq_eq_true q⟩
      · cases e
  go := fun i m' H' h' u x R e => by
    unfold nxET at e
    split at e
    · rename_i w q
      cases e
      rw [nthQ_eq] at q
      obtain ⟨v, h1, h2⟩ := r.at q
      refine ⟨⟨vs, v, x.t a vs hs, h1⟩, fun y H2 hy => ?_⟩
      obtain ⟨T, z, rfl, hT, rfl, hz⟩ := hy
      have := hz vs (x.t a vs hs)
      rw [h1] at this
      cases this
      exact tup2 R hT rfl (h2.mono x)
    · split at e <;> cases e
theorem itr_enL {j : Nat} {a : Addr} (hj : m j = some a) : ItR K m H (nxEL j) (Ite K a) where
  stop := fun i m' H' h' x R e => by
    unfold nxEL at e
    split at e
    · rename_i us q
      split at e
      · cases e
      · rename_i q2
        rw [nthQ_eq] at q2
        obtain ⟨vs, h2, h3⟩ := R.atL (x.mm j a hj) q
        refine ⟨vs, h2, ?_⟩
        rw [← h3.len]
        rw [List.getElem?_eq_none_iff] at q2
        exact q2
    · cases e
  go := fun i m' H' h' u x R e => by
    unfold nxEL at e
    split at e
    · rename_i us q
      split at e
      · rename_i w q2
        cases e
        rw [nthQ_eq] at q2
        obtain ⟨vs, h2, h3⟩ := R.atL (x.mm j a hj) q
        obtain ⟨v, h1, h4⟩ := h3.at q2
        refine ⟨⟨vs, v, h2, h1⟩, fun y H2 hy => ?_⟩
        obtain ⟨T, z, rfl, hT, rfl, hz⟩ := hy
        have := hz vs h2
        rw [h1] at this
        cases this
        exact tup2 R hT rfl h4
      · cases e
    · cases e
def eEn (f : MF (List U)) : MF NX := fun env h => bnd (f env h) fun us h1 => match us with
  | [.tup ys] => ret (nxET ys) h1
  | [.ref j] => (match getL h1 j with | some _ => ret (nxEL j) h1 | none => none)
  | _ => none
theorem simi_en {ta : TA} {f : MF (List U)} (s : SimA K E ta f) : SimI K E (iEn K ta) (eEn f) := fun m h env σ H r Q re R e o => by
  rcases bnd_inv e with ⟨us, h1, e1, e2⟩ | ⟨C, fs, h1, e1, rfl⟩
  · split at e2
    · cases e2
      refine .inr (s m h env σ H _ _ re R e1 fun m1 H1 vs x1 R1 q1 => ?_)
      obtain ⟨v, w, rfl, q2, q3⟩ := q1
      obtain ⟨a, vs, rfl, hs, rr⟩ := q2
      cases (show w = [] from q3)
      exact ⟨a, vs, rfl, hs, o m1 H1 _ x1 R1 (itr_enT hs rr)⟩
    · split at e2
      · rename_i us q
        cases e2
        refine .inl (s m h env σ H _ _ re R e1 fun m1 H1 vs x1 R1 q1 => ?_)
        obtain ⟨v, w, rfl, q2, q3⟩ := q1
        obtain ⟨a, vs, ha, rfl, hs, rr⟩ := R1.ofL q q2
        cases (show w = [] from q3)
        exact ⟨a, vs, rfl, hs, o m1 H1 _ x1 R1 (itr_enL ha)⟩
      · cases e2
    · cases e2
  · exact .inl (s m h env σ H _ _ re R e1 o)
/-! ### comprehensions -/
def wipeE (env : Env) : List Nat → Env
  | [] => env
  | v :: vs => (wipeE env vs).set v none
theorem RE.setN : ∀ {r : Env} {σ : L2.St} (i : Nat), RE K m H r σ → RE K m H (r.set i none) (σ.set i none)
  | [], σ, i, q => by rw [show σ = [] from q]; exact rfl
  | none :: r, σ, i, q => by
    obtain ⟨o, s, rfl, q⟩ := q
    cases i with
    | zero => exact ⟨none, s, rfl, q⟩
    | succ i => exact ⟨o, s.set i none, rfl, RE.setN i q⟩
  | some w :: r, σ, i, q => by
    obtain ⟨o, s, rfl, q1, q⟩ := q
    cases i with
    | zero => exact ⟨none, s, rfl, q⟩
    | succ i => exact ⟨o, s.set i none, rfl, q1, RE.setN i q⟩
theorem RE.wipe {env : Env} {σ : L2.St} (q : RE K m H env σ) : ∀ vs : List Nat, RE K m H (wipeE env vs) (L2.wipe σ vs)
  | [] => q
  | v :: vs => RE.setN v (RE.wipe q vs)
theorem wipe_at {σ : L2.St} {vs : List Nat} (j : Nat) : (L2.wipe σ vs)[j]? = if j ∈ vs ∧ j < σ.length then some none else σ[j]? := by
  induction vs with
  | nil => simp [L2.wipe]
  | cons v vs ih =>
    unfold L2.wipe
    rw [List.getElem?_set, ih, L2.wipe_length]
    by_cases e : v = j
    · subst e
      by_cases l : v < σ.length
      · simp [l]
      · simp [l]
    · have e' : ¬ j = v := fun z => e z.symm
      simp [e, e']
theorem wipe_set {σ : L2.St} {vs : List Nat} {i : Nat} {x : Option V} (hi : i ∈ vs) : L2.wipe (σ.set i x) vs = L2.wipe σ vs := by
  apply List.ext_getElem?
  intro j
  rw [wipe_at, wipe_at, List.length_set, List.getElem?_set]
  by_cases e : i = j
  · subst e
    by_cases l : i < σ.length
    · simp [hi, l]
    · simp [l]
  · simp [e]
theorem wipe_wipe {σ : L2.St} {vs : List Nat} : L2.wipe (L2.wipe σ vs) vs = L2.wipe σ vs := by
  apply List.ext_getElem?
  intro j
  rw [wipe_at, L2.wipe_length, wipe_at]
  split <;> rfl
/-- a target of the block's own names -/
def GOwn (vs : List Nat) (g : TG) : Prop := ∀ x σ H (R : L2.St → Hp → Prop), g x σ H R → g x σ H fun σ2 H2 => L2.wipe σ2 vs = L2.wipe σ vs ∧ R σ2 H2
def GsOwn (vs : List Nat) (g : TGs) : Prop := ∀ x σ H (R : L2.St → Hp → Prop), g x σ H R → g x σ H fun σ2 H2 => L2.wipe σ2 vs = L2.wipe σ vs ∧ R σ2 H2
theorem gown_name {vs : List Nat} {i : Nat} (hi : i ∈ vs := by decide) : GOwn vs (gName i) := fun x σ H R q => ⟨wipe_set hi, q⟩
theorem gown_nil {vs : List Nat} : GsOwn vs gNil := fun x σ H R q => ⟨q.1, rfl, q.2⟩
theorem gown_cons {vs : List Nat} {g : TG} {gs : TGs} (h1 : GOwn vs g) (h2 : GsOwn vs gs) (mono : ∀ x σ H (R R' : L2.St → Hp → Prop), (∀ s h, R s h → R' s h) → g x σ H R → g x σ H R') (mono2 : ∀ x σ H (R R' : L2.St → Hp → Prop), (∀ s h, R s h → R' s h) → gs x σ H R → gs x σ H R') : GsOwn vs (gCons g gs) := fun x σ H R q => by
  obtain ⟨v, r, rfl, q⟩ := q
  refine ⟨v, r, rfl, mono _ _ _ _ _ (fun s hh z => ?_) (h1 v σ H _ q)⟩
  obtain ⟨z1, z2⟩ := z
  exact mono2 _ _ _ _ _ (fun s2 h2 w => ⟨w.1.trans z1, w.2⟩) (h2 r s hh R z2)
def GMono (g : TG) : Prop := ∀ x σ H (R R' : L2.St → Hp → Prop), (∀ s h, R s h → R' s h) → g x σ H R → g x σ H R'
def GsMono (g : TGs) : Prop := ∀ x σ H (R R' : L2.St → Hp → Prop), (∀ s h, R s h → R' s h) → g x σ H R → g x σ H R'
structure GO (vs : List Nat) (g : TG) : Prop where
  o : GOwn vs g
  m : GMono g
structure GsO (vs : List Nat) (g : TGs) : Prop where
  o : GsOwn vs g
  m : GsMono g
theorem go_name {vs : List Nat} {i : Nat} (hi : i ∈ vs := by decide) : GO vs (gName i) := ⟨gown_name hi, fun x σ H R R' k q => k _ _ q⟩
theorem go_nil {vs : List Nat} : GsO vs gNil := ⟨gown_nil, fun x σ H R R' k q => ⟨q.1, k _ _ q.2⟩⟩
theorem go_cons {vs : List Nat} {g : TG} {gs : TGs} (h1 : GO vs g) (h2 : GsO vs gs) : GsO vs (gCons g gs) := ⟨gown_cons h1.o h2.o h1.m h2.m, fun x σ H R R' k q => by
  obtain ⟨v, r, rfl, q⟩ := q
  exact ⟨v, r, rfl, h1.m _ _ _ _ _ (fun s hh z => h2.m _ _ _ _ _ k z) q⟩⟩
theorem go_tup {vs : List Nat} {n : Nat} {g : TGs} (h : GsO vs g) : GO vs (L2.gTup K n g) := ⟨fun x σ H R q => by
  obtain ⟨a, xs, rfl, q1, q2, q3⟩ := q
  exact ⟨a, xs, rfl, q1, q2, h.o _ _ _ _ q3⟩, fun x σ H R R' k q => by
  obtain ⟨a, xs, rfl, q1, q2, q3⟩ := q
  exact ⟨a, xs, rfl, q1, q2, h.m _ _ _ _ _ k q3⟩⟩
def eYes : MF Bool := fun _ h => ret true h
theorem sim_yes : SimT K E tYes eYes := fun m h env σ H r Q re R e o => by
  cases e
  exact o m H .refl R
/-- the turns of a list comprehension whose list is our object n -/
def lcL (nx : NX) (g : GF) (t : MF Bool) (f : MF U) (n : Nat) (env : Env) : Nat → Nat → Hq → Option Hq
  | 0, _, _ => none
  | k + 1, i, h => match nx i h with
    | none => none
    | some none => some h
    | some (some u) => match g u env h with
      | some (.ok env1, h1) => (match t env1 h1 with
        | some (.ok true, h2) => (match f env1 h2 with
          | some (.ok y, h3) => (match h3.get n with
            | some (.lst acc) => (match szOk acc with | true => lcL nx g t f n env k (Nat.succ i) (h3.set n (.lst (acc ++ [y]))) | false => none)
            | _ => none)
          | _ => none)
        | some (.ok false, h2) => lcL nx g t f n env k (Nat.succ i) h2
        | _ => none)
      | _ => none
def eLc (fi : MF NX) (g : GF) (t : MF Bool) (f : MF U) (vs : List Nat) : MF U := fun env h => bnd (fi env h) fun nx h1 => match mk (.lst []) h1 with
  | some (u, h2) => (match lcL nx g t f h1.n (wipeE env vs) fuel 0 h2 with | some h3 => ret u h3 | none => none)
  | none => none
theorem sim_lc {wi : TI} {g : TG} {tt : TT} {te : TE} {vs : List Nat} {fi : MF NX} {gf : GF} {t : MF Bool} {f : MF U} (si : SimI K E wi fi) (sg : SimG K E0 g gf) (go : GO vs g) (st : SimT K E0 tt t) (sf : Sim K E0 te f) : Sim K E (tLc wi g tt te vs) (eLc fi gf t f vs) := fun m h env σ H r Q re R e o => by
  rcases bnd_inv e with ⟨nx, h1, e1, e2⟩ | ⟨C, fs, h1, e1, rfl⟩
  · refine si m h env σ H _ _ re R e1 fun m1 H1 J x1 R1 ij D hD => ?_
    split at e2
    · rename_i u h2 q2
      split at e2
      · rename_i h3 q3
        cases e2
        obtain ⟨hn, rfl, rfl⟩ := mk_inv q2
        obtain ⟨x2, R2, u2⟩ := R1.laid (o := .lst []) (ho := .lst []) hn hD fun m' H' x hp' => ⟨[], hp', rfl⟩
        refine ⟨fun i k H' => ∃ m' h', Ext K (madd m1 h1.n D) (upd H1 D (.lst [])) m' H' ∧ RH K m' H' h' ∧ lcL nx gf t f h1.n (wipeE env vs) k i h' = some h3, ⟨fuel, _, _, .refl, R2, q3⟩, ?_⟩
        rintro i k H' ⟨m', h', x3, R3, e3⟩
        have x13 := x2.trans x3
        have x03 := x1.trans x13
        cases k with
        | zero => cases e3
        | succ k =>
          unfold lcL at e3
          split at e3
          · cases e3
          · rename_i q
            cases e3
            exact .inl ⟨ij.stop i m' H' _ x13 R3 q, o m' H' _ x03 R3 ⟨D, x3.mm _ _ madd_same, rfl⟩⟩
          · rename_i w q
            obtain ⟨hg, hy⟩ := ij.go i m' H' h' w x13 R3 q
            refine .inr ⟨hg, fun H2 => ∃ m2 h2, Ext K (madd m1 h1.n D) (upd H1 D (.lst [])) m2 H2 ∧ RH K m2 H2 h2 ∧ lcL nx gf t f h1.n (wipeE env vs) k (i + 1) h2 = some h3, fun H2 z => ⟨k, Nat.lt_succ_self k, z⟩, fun y H4 hyy => ?_⟩
            obtain ⟨x4, R4, u4⟩ := hy y H4 hyy
            split at e3
            · rename_i env1 h5 q5
              have re4 := (re.mono (x03.trans x4)).wipe vs
              have : g y (L2.wipe σ vs) H4 fun σ5 H5 => L2.wipe σ5 vs = L2.wipe (L2.wipe σ vs) vs ∧ (tt σ5 H5 fun b H6 => if b = true then te σ5 H6 fun y H7 => ∃ acc, H7 D = some (.lst acc) ∧ acc.length < sizeLine ∧ (∃ m2 h2, Ext K (madd m1 h1.n D) (upd H1 D (.lst [])) m2 (upd H7 D (.lst (acc ++ [y]))) ∧ RH K m2 (upd H7 D (.lst (acc ++ [y]))) h2 ∧ lcL nx gf t f h1.n (wipeE env vs) k (i + 1) h2 = some h3) else ∃ m2 h2, Ext K (madd m1 h1.n D) (upd H1 D (.lst [])) m2 H6 ∧ RH K m2 H6 h2 ∧ lcL nx gf t f h1.n (wipeE env vs) k (i + 1) h2 = some h3) := by
                refine go.o y (L2.wipe σ vs) H4 _ (sg m' h' _ _ H4 w y _ _ re4 R4 u4 q5 fun m5 H5 σ5 x5 R5 re5 => ?_)
                have x35 := (x3.trans x4).trans x5
                split at e3
                · rename_i h6 q6
                  refine st m5 h5 env1 σ5 H5 _ _ re5 R5 q6 fun m6 H6 x6 R6 => iteT ?_
                  split at e3
                  · rename_i z h7 q7
                    refine sf m6 h6 env1 σ5 H6 _ _ (re5.mono x6) R6 q7 fun m7 H7 vz x7 R7 u7 => ?_
                    split at e3
                    · rename_i acc q8
                      split at e3
                      · rename_i hz
                        have x37 := (x35.trans x6).trans x7
                        obtain ⟨a, ha, ea, va, hv1, hv2⟩ := R7.of q8 (v := .ref D) ⟨D, x37.mm _ _ madd_same, rfl⟩
                        cases ea
                        obtain ⟨x8, R8⟩ := R7.put (o := .lst (acc ++ [z])) (ho := .lst (va ++ [vz])) ha hv1 trivial ⟨va ++ [vz], upd_same, ((hv2.app (show RUs K m7 H7 [z] [vz] from ⟨vz, [], rfl, u7, rfl⟩))).mono (Ext.upd ha ⟨_, hv1, trivial⟩)⟩
                        exact ⟨va, hv1, by rw [← hv2.len]; exact szOk_le hz, m7, _, x37.trans x8, R8, e3⟩
                      · cases e3
                    · cases e3
                  · cases e3
                · rename_i h6 q6
                  refine st m5 h5 env1 σ5 H5 _ _ re5 R5 q6 fun m6 H6 x6 R6 => iteF ?_
                  exact ⟨m6, h6, x35.trans x6, R6, e3⟩
                · cases e3
              refine go.m _ _ _ _ _ (fun s5 H5 z => ⟨z.1.trans wipe_wipe, z.2⟩) this
            · cases e3
      · cases e2
    · cases e2
  · exact si m h env σ H _ _ re R e1 o
end QE
/-! dicts whose keys are tuples of texts and ints (written ones, too), all values True. -/
namespace L2
open PySem PySem.Spec PyProof.Rows
def DM0 (P : Program) (w : World) (h : Heap) (a : Addr) (L : List (Addr × List Key)) : Prop :=
  (a == sysModules) = false ∧ ∃ o es ep, h.get? a = some o ∧ o.ExactDict ∧ o.data = .dict es ep ∧ es.toList = (L.map fun p => (p.2, p.1, Value.bool true)).map (entryOfKey (MK P w)) ∧ (L.map (·.2)).Nodup ∧ L.length ≤ sizeLine
def DMO (P : Program) (w : World) (a : Addr) (L : List (Addr × List Key)) : HO := .ext fun h => DM0 P w h a L
abbrev rowsD (L : List (Addr × List Key)) : List (List Key × Addr × Value) := L.map fun p => (p.2, p.1, Value.bool true)
theorem dMO_new {P : Program} {w : World} {H : Hp} {h : Heap} {a : Addr} {L : List (Addr × List Key)} (S : DM0 P w h a L) : ObjOk P w H h a (DMO P w a L) := by
  refine ⟨S, ?_, fun h1 h2 S1 k => ?_⟩
  · obtain ⟨_, o, es, ep, e, _⟩ := S
    exact ⟨o, e⟩
  · obtain ⟨z, o, es, ep, e, q⟩ := S1
    exact ⟨z, o, es, ep, k o e, q⟩
theorem mut_DMO {P : Program} {w : World} {a : Addr} {L : List (Addr × List Key)} : Mut (some (DMO P w a L)) := trivial
section
variable {P : Program} {w : World} {h : Heap} {a : Addr} {L : List (Addr × List Key)}
theorem DM0.dict (S : DM0 P w h a L) (tup : ∀ p ∈ L, IsM P w h p.2 p.1) : h.DictOfH (MK P w) a (rowsD L) := by
  obtain ⟨z, o, es, ep, e1, e2, e3, e4, e5, e6⟩ := S
  refine ⟨o, es, ep, e1, e2, e3, e4, fun x hx => ?_, ?_⟩
  · obtain ⟨p, hp, rfl⟩ := List.mem_map.mp hx
    exact tup p hp
  · rw [List.map_map]
    exact e5
theorem atKey_rows (k : List Key) : ∀ L : List (Addr × List Key), (atKey (rowsD L) k).isSome = true ↔ k ∈ keysM L
  | [] => by simp [atKey, keysM]
  | p :: L => by
    have ih := atKey_rows k L
    unfold atKey at ih ⊢
    show (Option.map _ (List.find? _ ((p.2, p.1, Value.bool true) :: rowsD L))).isSome = true ↔ _
    rw [List.find?_cons]
    unfold keysM at ih ⊢
    rw [List.map_cons, List.mem_cons]
    by_cases e : p.2 = k
    · rw [show decide ((p.2, p.1, Value.bool true).1 = k) = true from decide_eq_true e]
      simp [e]
    · rw [show decide ((p.2, p.1, Value.bool true).1 = k) = false from decide_eq_false e]
      rw [ih]
      exact ⟨.inr, fun h => h.elim (fun z => absurd z.symm e) id⟩
theorem stored_rows {x : Addr} {k : List Key} (L : List (Addr × List Key)) : (k ∈ L.map (·.2) → storedH (rowsD L) k x (.bool true) = rowsD L) ∧ (k ∉ L.map (·.2) → storedH (rowsD L) k x (.bool true) = rowsD (L ++ [(x, k)])) := by
  refine ⟨fun m => ?_, fun m => ?_⟩
  · unfold storedH
    rw [if_pos ((atKey_rows k L).mpr m)]
    unfold rowsD
    rw [List.map_map]
    refine List.map_congr_left fun p hp => ?_
    show putAt k (.bool true) (p.2, p.1, Value.bool true) = _
    unfold putAt
    by_cases e : p.2 = k
    · rw [if_pos (by exact e)]
    · rw [if_neg (by exact e)]
  · unfold storedH
    rw [if_neg (fun z => m ((atKey_rows k L).mp z))]
    unfold rowsD
    rw [List.map_append]
    rfl
end
section
variable {X : Cx} {pins : List (Addr × Obj)} {σ : St} {H : Hp} {s : Shared} {E : Value → Shared → Prop}
theorem dMO_get {a : Addr} {L : List (Addr × List Key)} (I : Inv X pins σ H s) (e : H a = some (DMO X.prog X.w a L)) : DM0 X.prog X.w s.heap a L := (I.hok a _ e).1
/-- D[y] = True, y a tuple of keys -/
def pdM (P : Program) (w : World) (K : PySem.W.Frag) : PutR := fun D y z H Nx => ∃ (b : Addr) (k : List Key) (L : List (Addr × List Key)), y = .ref b ∧ z = .bl true ∧ SqT K H b (k.map kV) ∧ H D = some (DMO P w D L) ∧ (∀ p ∈ L, SqT K H p.1 (p.2.map kV)) ∧ L.length < sizeLine ∧
  (k ∈ L.map (·.2) → Nx (upd H D (DMO P w D L))) ∧ (k ∉ L.map (·.2) → Nx (upd H D (DMO P w D (L ++ [(b, k)]))))
theorem pdM_ok (hu : X.A.units + 3 < cLine) : PutOk X (fun D => DMO X.prog X.w D []) (pdM X.prog X.w X.K) where
  new := fun H h a hs e => dMO_new ⟨by simpa using Nat.ne_of_gt hs, _, #[], _, e, ⟨rfl, rfl, rfl⟩, rfl, rfl, List.nodup_nil, Nat.zero_le _⟩
  put := fun X' e1 e2 e3 e4 pins σ H s D y z u r Nx E I ry rz h => by
    obtain ⟨b, k, L, rfl, rfl, hb, hD, hL, hl, n1, n2⟩ := h
    cases ry
    cases rz
    rw [← e1, ← e2] at *
    rw [← e3] at hb hL
    have S := dMO_get I hD
    have tup : ∀ p ∈ L, IsM X'.prog X'.w s.heap p.2 p.1 := fun p hp => I.isM (hL p hp)
    have hk : (MK X'.prog X'.w).is s.heap k b := I.isM hb
    refine wpAny_dictSet_heap (knd := MK X'.prog X'.w) (by show X.A.units < cLine; omega) hk (S.dict tup) (fun h' dh sb => ?_) (by show (rowsD L).length ≤ sizeLine; rw [List.length_map]; omega)
    obtain ⟨o, es, ep, g1, g2, g3, g4, g5, g6⟩ := dh
    have main : ∀ L' : List (Addr × List Key), storedH (rowsD L) k b (.bool true) = rowsD L' → L'.length ≤ sizeLine → Inv X' pins σ (upd H D (DMO X'.prog X'.w D L')) { s with heap := h', toks := s.toks + (MK X'.prog X'.w).draws k } := fun L' e hl' => by
      rw [e] at g4 g6
      refine I.write (x := D) (e := D) (by rw [hD]; exact mut_DMO) (.inl rfl) (fun b u z e => by rw [sb.2 b z]; exact e) ⟨_, g1⟩ (dMO_new ⟨S.1, o, es, ep, g1, g2, g3, g4, ?_, hl'⟩)
      rw [List.map_map] at g6
      exact g6
    by_cases m : k ∈ L.map (·.2)
    · exact ⟨_, main L ((stored_rows L).1 m) (Nat.le_of_lt hl), n1 m⟩
    · exact ⟨_, main (L ++ [(b, k)]) ((stored_rows L).2 m) (by rw [List.length_append]; exact hl), n2 m⟩
/-- y in D, y not in D -/
def rInM (P : Program) (w : World) (K : PySem.W.Frag) (neg : Bool) : R2 := fun x y H Q => ∃ (b a : Addr) (k : List Key) (L : List (Addr × List Key)), x = .ref b ∧ y = .ref a ∧ SqT K H b (k.map kV) ∧ H a = some (DMO P w a L) ∧ (∀ p ∈ L, SqT K H p.1 (p.2.map kV)) ∧ ∀ r : Bool, (r = true ↔ k ∈ keysM L) → Q (.bl (if neg = true then !r else r)) H
theorem op_inM (hu : X.A.units + 3 < cLine) : OpR X (compareOp .In) (rInM X.prog X.w X.K false) := by
  intro pins s σ H x y v u Q I rx ry h
  obtain ⟨b, a, k, L, rfl, rfl, hb, ha, hL, q⟩ := h
  cases rx
  cases ry
  have S := dMO_get I ha
  refine wpAny_in_heap (knd := MK X.prog X.w) (by show X.A.units + 1 < cLine; omega) (I.isM hb) S.1 (S.dict fun p hp => I.isM (hL p hp)) ⟨.bl _, H, I.tok _, rfl, q _ (atKey_rows k L)⟩
theorem op_ninM (hu : X.A.units + 3 < cLine) : OpR X (compareOp .NotIn) (rInM X.prog X.w X.K true) := by
  intro pins s σ H x y v u Q I rx ry h
  obtain ⟨b, a, k, L, rfl, rfl, hb, ha, hL, q⟩ := h
  cases rx
  cases ry
  have S := dMO_get I ha
  refine PyProof.Rows.wpAny_notIn_heap (knd := MK X.prog X.w) (by show X.A.units + 1 < cLine; omega) (I.isM hb) S.1 (S.dict fun p hp => I.isM (hL p hp)) ⟨.bl _, H, I.tok _, rfl, q _ (atKey_rows k L)⟩
end
end L2
/-! A generator expression of one for, whose element may do anything that a state told by the caller allows; all(..), any(..) over it. -/
namespace PySem
namespace GA
section
variable {prog : Program} {w : World}
/-- no exception leaves -/
abbrev NoE : Value → Shared → Prop := fun _ _ => False
/-- one turn's parts: pull, store, element; and what is asked of the end -/
structure Turns (prog : Program) (w : World) (A₁ : Around) (it : Value) (tg elt : Expr) (cenv : Env) (n : Nat) (St : Nat → Shared → Prop) (Yl : Nat → Value → Shared → Prop) (Dn : Shared → Prop) (Bk : Value → Shared → Shared → Prop) : Prop where
  turn : ∀ i s, i < n → St i s → wpAny (model prog w) A₁ (pyNext it) (fun r s1 => ∃ v, r = some v ∧ wpAny (model prog w) A₁ (letOwnedTupleGo tg it v) (fun _ s1 => wpAny (model prog w) A₁ (assign tg cenv v) (fun _ s2 => wpAny (model prog w) A₁ (eval elt cenv) (Yl i) NoE s2) NoE s1) NoE s1) NoE s
  done : ∀ s, St n s → wpAny (model prog w) A₁ (pyNext it) (fun r s1 => r = none ∧ Dn s1) NoE s
  back : ∀ i y s s', i < n → Yl i y s → Bk y s s' → St (i + 1) s'
  self : ∀ s, St 0 s → wpAny (model prog w) A₁ (pyIter it) (fun r s1 => r = it ∧ St 0 s1) NoE s
/-- the protocol: an item is out; asleep, the caller may do what Bk tells -/
def proto (n : Nat) (Yl : Nat → Value → Shared → Prop) (Bk : Value → Shared → Shared → Prop) : Protocol := fun m _ v s kap => (∃ i, i + m = n ∧ i < n ∧ Yl i v s) ∧ ∀ s', Bk v s s' → kap (.send .none) s'
def fin (Dn : Shared → Prop) : GenEnd := fun m _ r s => r = .ok .next ∧ (m = 1 ∧ Dn s)
variable {A : Around} {elt iter tg : Expr} {scope : Scope} {pos : Pos} {it : Value} {cenv : Env} {n : Nat} {St : Nat → Shared → Prop} {Yl : Nat → Value → Shared → Prop} {Dn : Shared → Prop} {Bk : Value → Shared → Shared → Prop}
theorem seg_loop (hco : cenv.scope.isCoroutine = false)
    (T : Turns prog w (A.over (.compLoop (.GeneratorExp elt [⟨tg, iter, [], 0⟩] scope pos) 0 it .none cenv) []) it tg elt cenv n St Yl Dn Bk) :
    ∀ (k i : Nat) (s₀ s : Shared), n - i = k → i ≤ n → St i s →
      Seg (model prog w) A (fin Dn) (proto n Yl Bk) (k + 1) s₀ (.compLoop (.GeneratorExp elt [⟨tg, iter, [], 0⟩] scope pos) 0 it .none cenv)
        ((model prog w).den (.compLoop (.GeneratorExp elt [⟨tg, iter, [], 0⟩] scope pos) 0 it .none cenv)) [] s := by
  intro k
  induction k with
  | zero =>
    intro i s₀ s hk hi hst
    obtain rfl : i = n := by omega
    show Seg _ A _ _ _ s₀ _ ((compTurn (.GeneratorExp elt [⟨tg, iter, [], 0⟩] scope pos) 0 it .none cenv).onRaise (leaving cenv)) [] s
    rw [compTurn_gen, Sem.onRaise_eq_wrap]
    refine seg_bind_wrap (wpAny_standAt ?_)
    refine seg_bind_wrap (wpAny_mono (T.done s hst) (fun r s1 h => ?_) fun _ _ e => e.elim)
    obtain ⟨rfl, hd⟩ := h
    exact seg_end (.ok .next) ⟨rfl, rfl, hd⟩
  | succ k ih =>
    intro i s₀ s hk hi hst
    have hlt : i < n := by omega
    show Seg _ A _ _ _ s₀ _ ((compTurn (.GeneratorExp elt [⟨tg, iter, [], 0⟩] scope pos) 0 it .none cenv).onRaise (leaving cenv)) [] s
    rw [compTurn_gen, Sem.onRaise_eq_wrap]
    refine seg_bind_wrap (wpAny_standAt ?_)
    refine seg_bind_wrap (wpAny_mono (T.turn i s hlt hst) (fun r s1 h => ?_) fun _ _ e => e.elim)
    obtain ⟨v, rfl, h⟩ := h
    refine seg_bind_wrap (wpAny_mono h (fun _ s1' h => ?_) fun _ _ e => e.elim)
    refine seg_bind_wrap (wpAny_mono h (fun _ s2 h2 => ?_) fun _ _ e => e.elim)
    have hy : ∀ v, yieldOut cenv v = yieldValue v := fun v => by simp only [yieldOut, hco, Bool.false_eq_true, if_false]
    simp only [hy]
    have rest : Seg (model prog w) A (fin Dn) (proto n Yl Bk) (k + 1 + 1) s₀ (.compLoop (.GeneratorExp elt [⟨tg, iter, [], 0⟩] scope pos) 0 it .none cenv)
        (((do let v ← eval elt cenv; standAt elt.pos; let _ ← yieldValue v : Sem Unit) >>= fun _ => again (.compLoop (.GeneratorExp elt [⟨tg, iter, [], 0⟩] scope pos) 0 it .none cenv)).wrap .pure (fun x => leaving cenv x >>= fun _ => .raise x) id id) [] s2 := by
      rw [Sem.bind_eq_wrap', Sem.bind_eq_wrap', Sem.wrap_wrap, Sem.wrap_wrap]
      refine seg_wrap (wpAny_mono h2 (fun y s4 h4 => ?_) fun _ _ e => e.elim)
      refine seg_at (seg_yield rfl rfl rfl ⟨⟨i, by omega, hlt, h4⟩, fun s' hb => ?_⟩)
      exact seg_again rfl (ih (i + 1) s' s' (by omega) hlt (T.back i y s4 s' hlt h4 hb))
    exact rest
theorem seg_start (hco : cenv.scope.isCoroutine = false)
    (T : Turns prog w (A.over (.compLoop (.GeneratorExp elt [⟨tg, iter, [], 0⟩] scope pos) 0 it .none cenv) []) it tg elt cenv n St Yl Dn Bk)
    (T0 : ∀ s, St 0 s → wpAny (model prog w) (A.over (.compStart (.GeneratorExp elt [⟨tg, iter, [], 0⟩] scope pos) 0 it .none cenv) []) (pyIter it) (fun r s1 => r = it ∧ St 0 s1) NoE s) (s₀ s : Shared) (hst : St 0 s) :
    Seg (model prog w) A (fin Dn) (proto n Yl Bk) (n + 1) s₀ (.compStart (.GeneratorExp elt [⟨tg, iter, [], 0⟩] scope pos) 0 it .none cenv)
      ((model prog w).den (.compStart (.GeneratorExp elt [⟨tg, iter, [], 0⟩] scope pos) 0 it .none cenv)) [] s := by
  have loop := fun s hs => seg_loop (iter := iter) (scope := scope) (pos := pos) hco T n 0 s₀ s (Nat.sub_zero _) (Nat.zero_le _) hs
  show Seg _ A _ _ _ s₀ _ ((compStart (.GeneratorExp elt [⟨tg, iter, [], 0⟩] scope pos) 0 it .none cenv).onRaise (leaving cenv)) [] s
  unfold compStart
  rw [Sem.onRaise_eq_wrap]
  show Seg _ A _ _ _ s₀ _ ((ask >>= _).wrap _ _ _ _) [] s
  refine seg_bind_wrap (wpAny_askSetting ?_)
  split
  · exact seg_again rfl (loop s hst)
  · refine seg_bind_wrap (wpAny_rule ?_)
    show Seg _ A _ _ _ s₀ _ ((standAt iter.pos >>= _).wrap _ _ _ _) [] s
    refine seg_bind_wrap (wpAny_standAt (seg_bind_wrap (wpAny_mono (T0 s hst) (fun r s1 h => ?_) fun _ _ e => e.elim)))
    obtain ⟨rfl, h1⟩ := h
    exact seg_again rfl (loop s1 h1)
/-- the generator g of number gn stands before turn i: the caller may pull -/
def Sleeps (prog : Program) (w : World) (A : Around) (a : Addr) (g n : Nat) (Yl : Nat → Value → Shared → Prop) (Dn : Shared → Prop) (Bk : Value → Shared → Shared → Prop) (i : Nat) (s : Shared) : Prop :=
  s.heap.IsGen a g ∧ s.heap.NoLimit ∧ ∃ gs, s.gens[g]? = some gs ∧ gs.Goes (model prog w) A.in1 (fin Dn) (proto n Yl Bk) (n - i + 1) (.send .none) (s.setGen g .running)
/-- next(g): an item; what stands behind it may be pulled again where g and its states are still there -/
theorem pull {a : Addr} {g i : Nat} {Q : Option Value → Shared → Prop} {E : Value → Shared → Prop} {s : Shared} (hh : A.handled = none) (hroom : A.depth < recursionLimit) (hi : i < n) (h : Sleeps prog w A a g n Yl Dn Bk i s)
    (q : ∀ v s1 gs, Yl i v s1 → gs.bare = true → (∀ s2, Bk v s1 s2 → gs.Goes (model prog w) A.in1 (fin Dn) (proto n Yl Bk) (n - (i + 1) + 1) (.send .none) s2) → Q (some v) (s1.setGen g gs)) :
    wpAny (model prog w) A (pyNext (.ref a)) Q E s := by
  obtain ⟨hg, hl, gs, hgs, hgo⟩ := h
  refine wpAny_pyNext_genexpQ (P := fun m _ s1 => m = 1 ∧ Dn s1) hh hl hroom hg hgs hgo (fun v s1 gs' hb hv => ?_) (fun s1 hp h' hk => ?_)
  · obtain ⟨⟨j, hj, hjn, hy⟩, hk⟩ := hv
    obtain rfl : j = i := by omega
    refine q v s1 gs' hy hb fun s2 b => ?_
    have e : n - (j + 1) + 1 = n - j := by omega
    rw [e]
    exact hk s2 b
  · have z : n - i + 1 = 1 := hp.1
    omega
theorem pull_end {a : Addr} {g : Nat} {Q : Option Value → Shared → Prop} {E : Value → Shared → Prop} {s : Shared} (hh : A.handled = none) (hroom : A.depth < recursionLimit) (h : Sleeps prog w A a g n Yl Dn Bk n s)
    (q : ∀ s1, Dn s1 → ∀ h', (∀ b o, s1.heap.get? b = some o → h'.get? b = some o) → Q none { s1.setGen g .finished with heap := h' }) :
    wpAny (model prog w) A (pyNext (.ref a)) Q E s := by
  obtain ⟨hg, hl, gs, hgs, hgo⟩ := h
  rw [Nat.sub_self] at hgo
  refine wpAny_pyNext_genexpQ (P := fun m _ s1 => m = 1 ∧ Dn s1) hh hl hroom hg hgs hgo (fun v s1 gs' hb hv => ?_) (fun s1 hp h' hk => q s1 hp.2 h' hk)
  obtain ⟨⟨j, hj, hjn, _⟩, _⟩ := hv
  have z : j + 0 = n := hj
  omega
section
open PyProof.Rows
variable {I : Addr} {R : Result → Shared → Prop} {Pl : Nat → Shared → Prop} {E : Value → Shared → Prop} {s : Shared}
/-- what all.loop, any.loop ask of a thing that is pulled: stop is the value that ends it at once -/
structure Pulls (prog : Program) (w : World) (A : Around) (I : Addr) (n : Nat) (stop : Bool) (Pl : Nat → Shared → Prop) (Q : Bool → Shared → Prop) : Prop where
  item : ∀ i s, i < n → Pl i s → wpAny (model prog w) A (pyNext (.ref I)) (fun r s' => ∃ b, r = some (.bool b) ∧ (b = (!stop) → Pl (i + 1) s') ∧ (b = stop → Q stop s')) NoE s
  done : ∀ s, Pl n s → wpAny (model prog w) A (pyNext (.ref I)) (fun r s' => r = none ∧ Q (!stop) s') NoE s
theorem all_loop (P : Pulls prog w A.in1 I n false Pl fun b s => R (.ok (.ret (.bool b))) s) : ∀ (k i : Nat) (s : Shared), n - i = k → i ≤ n → Pl i s → codeAny (model prog w) A (.builtin "all.loop" ⟨[.ref I], []⟩) R s := by
  intro k
  induction k with
  | zero =>
    intro i s hk hi hst
    obtain rfl : i = n := by omega
    refine codeAny_builtin F.entry_all_loop ?_
    rw [Around.under_plainId F.plain_all_loop _]
    show wpAny _ A.in1 (pyNext (.ref I) >>= _) _ _ s
    refine wpAny_bind (wpAny_mono (P.done s hst) (fun r s' h => ?_) fun _ _ e => e.elim)
    obtain ⟨rfl, q⟩ := h
    exact wpAny_bind (wpAny_rule (wpAny_pure q))
  | succ k ih =>
    intro i s hk hi hst
    have hlt : i < n := by omega
    refine codeAny_builtin F.entry_all_loop ?_
    rw [Around.under_plainId F.plain_all_loop _]
    show wpAny _ A.in1 (pyNext (.ref I) >>= _) _ _ s
    refine wpAny_bind (wpAny_mono (P.item i s hlt hst) (fun r s' h => ?_) fun _ _ e => e.elim)
    obtain ⟨b, rfl, h1, h2⟩ := h
    refine wpAny_bind (wpAny_holding (wpAny_truthy_bool ?_))
    refine wpAny_bind (wpAny_letGo ?_)
    cases b with
    | true =>
      simp only [if_true]
      exact wpAny_pure ⟨plainId_quiet F.plain_all_loop _, ih (i + 1) _ (by omega) hlt (h1 rfl)⟩
    | false =>
      simp only [Bool.false_eq_true, if_false]
      exact wpAny_bind (wpAny_rule (wpAny_pure (h2 rfl)))
theorem any_loop (P : Pulls prog w A.in1 I n true Pl fun b s => R (.ok (.ret (.bool b))) s) : ∀ (k i : Nat) (s : Shared), n - i = k → i ≤ n → Pl i s → codeAny (model prog w) A (.builtin "any.loop" ⟨[.ref I], []⟩) R s := by
  intro k
  induction k with
  | zero =>
    intro i s hk hi hst
    obtain rfl : i = n := by omega
    refine codeAny_builtin F.entry_any_loop ?_
    rw [Around.under_plainId F.plain_any_loop _]
    show wpAny _ A.in1 (pyNext (.ref I) >>= _) _ _ s
    refine wpAny_bind (wpAny_mono (P.done s hst) (fun r s' h => ?_) fun _ _ e => e.elim)
    obtain ⟨rfl, q⟩ := h
    exact wpAny_bind (wpAny_rule (wpAny_pure q))
  | succ k ih =>
    intro i s hk hi hst
    have hlt : i < n := by omega
    refine codeAny_builtin F.entry_any_loop ?_
    rw [Around.under_plainId F.plain_any_loop _]
    show wpAny _ A.in1 (pyNext (.ref I) >>= _) _ _ s
    refine wpAny_bind (wpAny_mono (P.item i s hlt hst) (fun r s' h => ?_) fun _ _ e => e.elim)
    obtain ⟨b, rfl, h1, h2⟩ := h
    refine wpAny_bind (wpAny_holding (wpAny_truthy_bool ?_))
    refine wpAny_bind (wpAny_letGo ?_)
    cases b with
    | false =>
      simp only [Bool.false_eq_true, if_false]
      exact wpAny_pure ⟨plainId_quiet F.plain_any_loop _, ih (i + 1) _ (by omega) hlt (h1 rfl)⟩
    | true =>
      simp only [if_true]
      exact wpAny_bind (wpAny_rule (wpAny_pure (h2 rfl)))
/-- all(g), g a generator that sleeps before its first turn -/
theorem call_all {a : Addr} {g : Nat} {Q : Value → Shared → Prop} (hgen : s.heap.IsGen a g) (h0 : Pl 0 s) (P : Pulls prog w A.in1 a n false Pl fun b s => Q (.bool b) s) : wpAny (model prog w) A (call (.builtin "all") [.ref a]) Q E s := by
  refine call_function_tree F.kind_all F.plain_all F.entry_all (F.args_all1 _) ?_
  unfold Builtin.«all»
  refine wpAny_bind (m := oneArg "all" _) (wpAny_pure ?_)
  refine wpAny_bind (wpAny_pyIter_gen hgen ?_)
  exact wpAny_pure ⟨plainId_quiet F.plain_all_loop _, all_loop (A := A) P n 0 s (Nat.sub_zero _) (Nat.zero_le _) h0⟩
theorem call_any {a : Addr} {g : Nat} {Q : Value → Shared → Prop} (hgen : s.heap.IsGen a g) (h0 : Pl 0 s) (P : Pulls prog w A.in1 a n true Pl fun b s => Q (.bool b) s) : wpAny (model prog w) A (call (.builtin "any") [.ref a]) Q E s := by
  refine call_function_tree F.kind_any F.plain_any F.entry_any (F.args_any1 _) ?_
  unfold Builtin.«any»
  refine wpAny_bind (m := oneArg "any" _) (wpAny_pure ?_)
  refine wpAny_bind (wpAny_pyIter_gen hgen ?_)
  exact wpAny_pure ⟨plainId_quiet F.plain_any_loop _, any_loop (A := A) P n 0 s (Nat.sub_zero _) (Nat.zero_le _) h0⟩
end
end
end GA
end PySem
namespace L2
open PySem PySem.Spec PyProof.Rows
/-- the context of a generator expression's frame, in the around A', its iterator's objects at fp -/
abbrev Cx.gen (X : Cx) (A' : Around) (s : Shared) (H : Hp) (cenv : Env) (fp : List Addr) : Cx := { X with A := A', s_0 := s, H_0 := H, env := cenv, outer := X.stack, stack := cenv :: X.stack, ex := fp, fn := fun _ => false, pn := [], xe := fun _ _ => False }
theorem over_genL {A : Around} {elt tg iter : Expr} {ifs : List Expr} {scope : Scope} {pos : Pos} {it acc : Value} {env : Env} : A.over (.compLoop (.GeneratorExp elt [⟨tg, iter, ifs, 0⟩] scope pos) 0 it acc env) [] = A.deeper env := by
  first
    | rfl
    | (obtain ⟨hd, d, fr, gs, u⟩ := A
       simp [Around.over, Around.deeper, marksOver, frameCount, unitsOf, envsOf, guardsOf, pushEnvs, pushGuards, Code.envs, Code.env?, Code.isFrame, Code.guards, Code.isGuard, Code.weight, Code.frames, Code.isCreation, Code.isCaller, Code.cUnits])
theorem over_genS {A : Around} {elt tg iter : Expr} {ifs : List Expr} {scope : Scope} {pos : Pos} {it acc : Value} {env : Env} : A.over (.compStart (.GeneratorExp elt [⟨tg, iter, ifs, 0⟩] scope pos) 0 it acc env) [] = A.deeper env := by
  first
    | rfl
    | (obtain ⟨hd, d, fr, gs, u⟩ := A
       simp [Around.over, Around.deeper, marksOver, frameCount, unitsOf, envsOf, guardsOf, pushEnvs, pushGuards, Code.envs, Code.env?, Code.isFrame, Code.guards, Code.isGuard, Code.weight, Code.frames, Code.isCreation, Code.isCaller, Code.cUnits])
section
variable {X : Cx} {pins : List (Addr × Obj)} {σ : St} {H : Hp} {s : Shared}
theorem gen_start {A' : Around} {scope : Scope} {own : List (Str × Nat)} {fp : List Addr} {C : Addr} {code : Value} {h' : Heap} {g' : Array GenState} {t' : Nat} {d' : Drawn} {m : Str → Option Value}
    (I : Inv X pins σ H s) (ok : BlkOk X.N X.env.scope scope own) (hcell : ∀ y ∈ scope.names, y.2 ≠ .cell) (hN : X.N.Nodup) (hfp : ∀ b ∈ fp, FpOk X pins H b ∧ b < s.heap.objs.size)
    (kp : ∀ b o, s.heap.get? b = some o → h'.get? b = some o) (hC : s.heap.objs.size ≤ C) (hns : h'.Ns C m) (hA : A'.handled = none) (hf : A'.frames = some (genEnv scope (cloFrom X.env.cells scope.names []) C code builtinsNs X.env :: X.stack)) (hg : AllBare g') :
    Inv (X.gen A' s H (genEnv scope (cloFrom X.env.cells scope.names []) C code builtinsNs X.env) fp) [] (wipe σ (own.map (·.2))) H { s with heap := h', gens := g', toks := t', drawn := d' } := by
  have hfree : ∀ y ∈ scope.names, y.2 = .free → ∃ c, X.env.cells.lookup y.1 = some c := fun y hy e => by
    rcases ok.free y hy e with k | k
    · exact I.ok.has _ (.inl k)
    · exact I.ok.has _ (.inr k)
  have cm : ∀ {y c}, (y, c) ∈ cloFrom X.env.cells scope.names [] → X.env.cells.lookup y = some c ∧ c < s.heap.objs.size := fun {y c} hm => by
    rcases cloFrom_mem hm with hm | ⟨h1, rfl⟩
    · cases hm
    · obtain ⟨c, hc⟩ := hfree _ h1 rfl
      rw [hc]
      obtain ⟨w, z⟩ := I.cell _ _ hc
      exact ⟨rfl, z.lt⟩
  have mem : ∀ {y c}, (cloFrom X.env.cells scope.names []).lookup y = some c → X.env.cells.lookup y = some c ∧ c < s.heap.objs.size := fun {y c} e => cm (PySem.mem_of_lookup e)
  have look : ∀ {y}, scope.names.lookup y = some .free → ∃ c, (cloFrom X.env.cells scope.names []).lookup y = some c ∧ X.env.cells.lookup y = some c := fun {y} hl => by
    obtain ⟨c', e'⟩ := mem_lookup (cloFrom_has (cells := X.env.cells) (acc := []) (PySem.mem_of_lookup hl))
    exact ⟨c', e', (mem e').1⟩
  have okB : (X.gen A' s H (genEnv scope (cloFrom X.env.cells scope.names []) C code builtinsNs X.env) fp).Ok := by
    refine ⟨I.ok.mod, ok.kind, I.ok.glob, rfl, hC, fun y z c e1 e2 => ?_, fun y hy => ?_, fun y c z e => ?_, fun _ => hA, hf, .inr ⟨rfl, rfl⟩, fun b hb => ⟨?_, fun y c e z => ?_⟩, I.bs, Nat.le_trans I.ok.bsz I.sz, fun b o e hb => ?_, fun b hb z => ?_, I.stack, I.stkFree⟩
    · exact I.ok.inj y z c (mem e1).1 (mem e2).1
    · rcases hy with hy | hy
      · exact absurd rfl (hcell _ (PySem.mem_of_lookup hy))
      · obtain ⟨c, h1, _⟩ := look hy
        exact ⟨c, h1⟩
    · exact absurd z (by simp)
    · exact Nat.ne_of_lt (Nat.lt_of_lt_of_le (hfp b hb).2 hC)
    · exact (hfp b hb).1.2.2.2.2.1 y c (mem e).1 z
    · rcases (hfp b hb).1.2.2.2.1 with z | z
      · exact I.ok.noex b o e z
      · exact absurd (Nat.lt_of_lt_of_le (Heap.lt_size e) (Nat.le_trans I.ok.bsz z)) (Nat.lt_irrefl _)
    · rcases List.mem_cons.mp (I.stkSub b z) with z | z
      · exact (hfp b hb).1.2.1 z
      · exact (hfp b hb).1.2.2.1 z
  refine ⟨okB, rfl, hg, Un.kept kp, ⟨m, hns, fun i y av e1 e2 e3 => ?_⟩, fun y c e => ?_, ?_, fun y c e => ?_, fun p hp => ?_, I.hok.kept kp, by rw [wipe_length]; exact I.len⟩
  · obtain ⟨e2, hne⟩ := wipe_some e2
    have no : ∀ k, scope.names.lookup y = some k → k = .local ∨ k = .cell → False := fun k e hh => by
      rcases ok.own _ (PySem.mem_of_lookup e) hh with e' | e'
      · obtain ⟨p, hp, hpy⟩ := List.mem_map.mp e'
        have e3 := ok.ix p hp
        have : p.1 = y := hpy
        rw [this] at e3
        exact hne (List.mem_map.mpr ⟨p, hp, nodup_ix hN e3 e1⟩)
      · exact e' (List.mem_of_getElem? e1)
    have hfr : scope.names.lookup y = some .free := by
      rcases e3 with e3 | e3 | e3
      · exact (no _ e3 (.inl rfl)).elim
      · exact (no _ e3 (.inr rfl)).elim
      · exact e3
    obtain ⟨m1, hn, hl⟩ := I.loc
    have hvis : Vis X.env.scope y := (ok.free _ (PySem.mem_of_lookup hfr) rfl).elim (fun k => .inr (.inl k)) (fun k => .inr (.inr k))
    obtain ⟨w, r, q⟩ := hl i y av e1 e2 hvis
    refine ⟨w, r, .inr ⟨.inr hfr, ?_⟩⟩
    obtain ⟨c, h1, h2⟩ := look hfr
    rcases q with ⟨k, _⟩ | ⟨_, c', e', z⟩
    · have k : X.env.scope.names.lookup y = some .local := k
      rcases ok.free _ (PySem.mem_of_lookup hfr) rfl with k' | k' <;> rw [show X.env.scope.names.lookup y = _ from k'] at k <;> cases k
    · rw [h2] at e'; cases e'
      exact ⟨c, h1, z.keeps kp⟩
  · obtain ⟨w, z⟩ := I.cell y c (mem e).1
    exact ⟨w, z.keeps kp⟩
  · exact I.hok.fresh hC
  · exact I.freeC y c (mem e).1
  · exact absurd (show p ∈ ([] : List (Addr × Obj)) ++ [] from hp) (by simp)
end
end L2
namespace L2
open PySem PySem.Spec PyProof.Rows GenW
/-- the around of a generator expression's frame that all(..), any(..) wakes -/
abbrev genA (X : Cx) (cenv : Env) : Around := X.A.in1.in1.deeper cenv
theorem genA_room {X : Cx} {cenv : Env} {k : Nat} (r : Room (k + 1) X.A) : Room k (genA X cenv) :=
  ⟨r.hd, by have := r.dp; show X.A.depth + 1 + 3 * k + 5 < _; omega, by have := r.un; show X.A.units + 1 + 1 + 3 + 16 * k + 200 < _; omega⟩
/-- a turn by turn walk of n items, W what holds before turn i; it ends at once where the element is stop -/
structure GLoop (n : Nat) (stop : Bool) (J : It) (W : Nat → Hp → Prop) (g : TG) (te : TE) (σw : St) (vs : List Nat) (Q : VK) : Prop where
  fin : ∀ H, W n H → J.stop n H ∧ Q (.bl (!stop)) H
  turn : ∀ i H, i < n → W i H → J.go i H ∧ ∀ x H', J.yld i H x H' → g x σw H' fun σ2 H2 => wipe σ2 vs = σw ∧ te σ2 H2 fun y H3 => ∃ b, y = .bl b ∧ (b = (!stop) → W (i + 1) H3) ∧ (b = stop → Q (.bl stop) H3)
theorem Inv.same {X : Cx} {pins : List (Addr × Obj)} {σ : St} {H : Hp} {s s' : Shared} (I : Inv X pins σ H s) (hh : s'.heap = s.heap) (ho : s'.os = s.os) (hb : AllBare s'.gens) : Inv X pins σ H s' := by
  obtain ⟨h, g, d, t, o⟩ := s
  obtain ⟨h', g', d', t', o'⟩ := s'
  dsimp only at hh ho
  subst hh ho
  exact ⟨I.ok, I.os, hb, I.base, I.loc, I.cell, I.free, I.freeC, I.pin, I.hok, I.len⟩
section
variable {X : Cx} {pins : List (Addr × Obj)} {σ : St} {H3 : Hp} {s3 : Shared} {elt tg iter : Expr} {scope : Scope} {own : List (Str × Nat)} {gpos : Pos} {fp : List Addr} {it C a : Addr} {gn n k : Nat} {go : Obj} {code : Value} {stop : Bool} {J : It} {tn : Nat → Heap → Prop} {W : Nat → Hp → Prop} {g : TG} {te : TE} {Q : VK}
abbrev genC (X : Cx) (scope : Scope) (C : Addr) (code : Value) : Env := genEnv scope (cloFrom X.env.cells scope.names []) C code builtinsNs X.env
/-- the caller may do nothing to the heap while the generator sleeps -/
def BkS (stop : Bool) (v : Value) (s s' : Shared) : Prop := v = .bool (!stop) ∧ s'.heap = s.heap ∧ s'.os = s.os ∧ (AllBare s.gens → AllBare s'.gens)
/-- within the generator's frame, before turn i -/
def GSt (X : Cx) (σ : St) (H3 : Hp) (s3 : Shared) (scope : Scope) (own : List (Str × Nat)) (fp : List Addr) (C a : Addr) (go : Obj) (code : Value) (tn : Nat → Heap → Prop) (W : Nat → Hp → Prop) (i : Nat) (s : Shared) : Prop :=
  ∃ H', Inv (X.gen (genA X (genC X scope C code)) s3 H3 (genC X scope C code) fp) [(a, go)] (wipe σ (own.map (·.2))) H' s ∧ tn i s.heap ∧ (∀ b ∈ fp, H' b = none) ∧ W i H'
/-- an element is out -/
def GYl (X : Cx) (σ : St) (H3 : Hp) (s3 : Shared) (scope : Scope) (own : List (Str × Nat)) (fp : List Addr) (C a : Addr) (go : Obj) (code : Value) (tn : Nat → Heap → Prop) (W : Nat → Hp → Prop) (stop : Bool) (Q : VK) (i : Nat) (v : Value) (s : Shared) : Prop :=
  ∃ H' b, v = .bool b ∧ Inv (X.gen (genA X (genC X scope C code)) s3 H3 (genC X scope C code) fp) [(a, go)] (wipe σ (own.map (·.2))) H' s ∧ tn (i + 1) s.heap ∧ (∀ b ∈ fp, H' b = none) ∧ (b = (!stop) → W (i + 1) H') ∧ (b = stop → Q (.bl stop) H')
def GDn (X : Cx) (σ : St) (H3 : Hp) (s3 : Shared) (scope : Scope) (own : List (Str × Nat)) (fp : List Addr) (C a : Addr) (go : Obj) (code : Value) (stop : Bool) (Q : VK) (s : Shared) : Prop :=
  ∃ H', Inv (X.gen (genA X (genC X scope C code)) s3 H3 (genC X scope C code) fp) [(a, go)] (wipe σ (own.map (·.2))) H' s ∧ Q (.bl (!stop)) H'
theorem gen_fpok (ha : ∀ b ∈ fp, b ≠ a) {σ' : St} {H' : Hp} {s' : Shared} (I' : Inv (X.gen (genA X (genC X scope C code)) s3 H3 (genC X scope C code) fp) [(a, go)] σ' H' s') (hn : ∀ b ∈ fp, H' b = none) :
    ∀ b ∈ fp, FpOk (X.gen (genA X (genC X scope C code)) s3 H3 (genC X scope C code) fp) [(a, go)] H' b := fun b hb =>
  ⟨hn b hb, (I'.ok.exf b hb).1, I'.ok.exfs b hb, .inl hb, fun x c e => (I'.ok.exf b hb).2 x c e, fun p hp => by
    have hp' : p ∈ [(a, go)] := hp
    rw [List.mem_singleton] at hp'
    subst hp'
    exact Ne.symm (ha b hb)⟩
/-- what a turn asks, by the parts' own rules -/
theorem gen_turns (hc : X.calm = true) (T : Turn X.prog X.w X.K tg J fp it tn) (ha : ∀ b ∈ fp, b ≠ a) (L : GLoop n stop J W g te (wipe σ (own.map (·.2))) (own.map (·.2)) Q)
    (pg : PG (X.gen (genA X (genC X scope C code)) s3 H3 (genC X scope C code) fp) tg g) (pe : PE (X.gen (genA X (genC X scope C code)) s3 H3 (genC X scope C code) fp) elt te) :
    PySem.GA.Turns X.prog X.w (genA X (genC X scope C code)) (.ref it) tg elt (genC X scope C code) n (GSt X σ H3 s3 scope own fp C a go code tn W) (GYl X σ H3 s3 scope own fp C a go code tn W stop Q) (GDn X σ H3 s3 scope own fp C a go code stop Q) (BkS stop) where
  turn := fun i s hi h => by
    obtain ⟨H5, I5, st5, n5, w5⟩ := h
    obtain ⟨jgo, step⟩ := L.turn i H5 hi w5
    have ti := T.item (X.gen (genA X (genC X scope C code)) s3 H3 (genC X scope C code) fp) rfl rfl rfl hc i _ s _ H5 PySem.GA.NoE I5 (gen_fpok ha I5 n5) st5 jgo
    refine wpAny_mono ti (fun r s6 h6 => ?_) fun _ _ e => e
    obtain ⟨u, rfl, h6⟩ := h6
    refine ⟨u, rfl, wpAny_mono h6 (fun _ s7 h7 => ?_) fun _ _ e => e⟩
    obtain ⟨x, H7, I7, r7, y7, st7, n7⟩ := h7
    have I7' := I7.pinned (gen_fpok ha I7 n7) (T.obj _ _ st7)
    refine wpAny_mono (pg.run _ s7 _ H7 x u _ I7' r7 (step x H7 y7)) (fun _ s8 h8 => ?_) fun _ _ e => e
    obtain ⟨σ8, H8, I8, hw8, q8⟩ := h8
    refine wpAny_mono (pe.run _ s8 σ8 H8 _ I8 q8) (fun z s9 h9 => ?_) fun _ _ e => e
    obtain ⟨yv, H9, I9, r9, b, rfl, k1, k2⟩ := h9
    have pin' : ∀ b ∈ fp, ∀ o, s7.heap.get? b = some o → s9.heap.get? b = some o ∧ H9 b = none := fun b hb o e =>
      let z := I9.pin (b, o) (List.mem_append_right _ (List.mem_append_right _ (mem_pinsAt hb e)))
      ⟨z.1, z.2.1⟩
    have hl : (wipe σ (own.map (·.2))).length = σ8.length := by rw [← hw8, wipe_length]
    refine ⟨H9, b, r9, (I9.unpinned (pins := [(a, go)])).weak hl (fun j v e => ?_), T.keep _ _ _ st7 fun b hb o e => (pin' b hb o e).1, fun b hb => ?_, k1, k2⟩
    · rw [← hw8] at e
      exact (wipe_some e).1
    · obtain ⟨o, e, _⟩ := T.obj _ _ st7 b hb
      exact (pin' b hb o e).2
  done := fun s h => by
    obtain ⟨H5, I5, st5, n5, w5⟩ := h
    obtain ⟨js, q⟩ := L.fin H5 w5
    refine wpAny_mono (T.done (X.gen (genA X (genC X scope C code)) s3 H3 (genC X scope C code) fp) rfl rfl rfl hc n _ s _ H5 PySem.GA.NoE I5 (gen_fpok ha I5 n5) st5 js) (fun r s6 h6 => ?_) fun _ _ e => e
    exact ⟨h6.1, H5, h6.2, q⟩
  back := fun i y s s' hi h hb => by
    obtain ⟨H5, b, rfl, I5, st5, n5, k1, _⟩ := h
    obtain ⟨hv, hh, ho, hg⟩ := hb
    have e : b = (!stop) := by
      injection hv
    refine ⟨H5, I5.same hh ho (hg I5.bare), ?_, n5, k1 e⟩
    rw [hh]
    exact st5
  self := fun s h => by
    obtain ⟨H5, I5, st5, n5, w5⟩ := h
    exact T.self _ 0 s _ _ st5 ⟨rfl, H5, I5, st5, n5, w5⟩
end
end L2
namespace L2
open PySem PySem.Spec PyProof.Rows GenW
section
variable {X : Cx} {pins : List (Addr × Obj)} {σ : St} {H3 : Hp} {s3 : Shared} {elt tg iter : Expr} {scope : Scope} {own : List (Str × Nat)} {gpos : Pos} {fp : List Addr} {it C a : Addr} {gn n k : Nat} {go : Obj} {code : Value} {stop : Bool} {J : It} {tn : Nat → Heap → Prop} {W : Nat → Hp → Prop} {g : TG} {te : TE} {Q : VK}
/-- the object of a generator -/
def GObj (gn : Nat) (go : Obj) : Prop := ∃ nm qn, go.cls = .type "generator" ∧ go.data = .fields #[.int gn 0, nm, qn] ∧ go.slots = #[]
/-- it stands before turn i, for the caller -/
def GPl (X : Cx) (σ : St) (H3 : Hp) (s3 : Shared) (scope : Scope) (own : List (Str × Nat)) (fp : List Addr) (C a : Addr) (gn n : Nat) (go : Obj) (code : Value) (tn : Nat → Heap → Prop) (W : Nat → Hp → Prop) (stop : Bool) (Q : VK) (i : Nat) (s : Shared) : Prop :=
  PySem.GA.Sleeps X.prog X.w X.A.in1 a gn n (GYl X σ H3 s3 scope own fp C a go code tn W stop Q) (GDn X σ H3 s3 scope own fp C a go code stop Q) (BkS stop) i s ∧ gn + 1 ≤ s.gens.size
/-- back in the def's own context -/
theorem gen_back (I3 : Inv X pins σ H3 s3) (f3 : ∀ b ∈ fp, FpOk X pins H3 b) {σ' : St} {pl : List (Addr × Obj)} {H' : Hp} {s s' : Shared} (I' : Inv (X.gen (genA X (genC X scope C code)) s3 H3 (genC X scope C code) fp) pl σ' H' s) (hh : ∀ b u, s.heap.get? b = some u → s'.heap.get? b = some u) (ho : s'.os = s.os) (hb : AllBare s'.gens) :
    Inv X pins σ H' s' := by
  refine I3.call' (ch := fp) (ho.trans I'.os) (I'.base.trans (Un.kept hh)) (I'.hok.kept hh) hb fun b hb => ⟨(f3 b hb).2.2.2.1, (f3 b hb).2.1, (f3 b hb).2.2.2.2.1, (f3 b hb).2.2.2.2.2⟩
theorem gen_pulls (hr : Room (k + 1) X.A) (I3 : Inv X pins σ H3 s3) (f3 : ∀ b ∈ fp, FpOk X pins H3 b) (hgo : GObj gn go) :
    PySem.GA.Pulls X.prog X.w X.A.in1 a n stop (GPl X σ H3 s3 scope own fp C a gn n go code tn W stop Q) (fun b s' => ∃ H', Inv X pins σ H' s' ∧ Q (.bl b) H') where
  item := fun i s hi h => by
    obtain ⟨hs, hz⟩ := h
    refine wpAny_gsz hz (PySem.GA.pull hr.hd (by have := hr.dp; show X.A.depth < _; omega) hi hs fun v s1 gs hy hb hk hz1 => ?_)
    obtain ⟨H', b, rfl, I', st', n', k1, k2⟩ := hy
    have hz2 : gn < s1.gens.size := by
      have e := setGen_size s1 gn gs
      rw [e] at hz1
      exact hz1
    refine ⟨b, rfl, fun e => ⟨⟨?_, I'.nolimit, gs, setGen_at hz2, ?_⟩, hz1⟩, fun e => ⟨H', gen_back I3 f3 I' (fun b u q => q) rfl (allBare_setGen I'.bare hb), ?_⟩⟩
    · obtain ⟨nm, qn, h1, h2, h3⟩ := hgo
      exact ⟨go, nm, qn, (I'.pin (a, go) (List.mem_append_right _ List.mem_cons_self)).1, h1, h2, h3⟩
    · exact hk _ ⟨by rw [e], rfl, rfl, fun hb2 => allBare_setGen (allBare_setGen hb2 hb) rfl⟩
    · subst e
      exact k2 rfl
  done := fun s h => by
    obtain ⟨hs, hz⟩ := h
    refine PySem.GA.pull_end hr.hd (by have := hr.dp; show X.A.depth < _; omega) hs fun s1 hd h' hk => ⟨rfl, ?_⟩
    obtain ⟨H', I', q⟩ := hd
    exact ⟨H', gen_back I3 f3 I' hk rfl (allBare_setGen I'.bare rfl), q⟩
end
end L2
namespace L2
open PySem PySem.Spec PyProof.Rows GenW
/-- all(elt for tg in iter), any(..): the walk by turns; ahead of it the def's table may have grown (stop: the value that ends it) -/
def tGen (stop : Bool) (P : Addr) (wi : TI) (g : TG) (te : TE) (vs : List Nat) : TE := fun σ H Q => wi σ H fun J H1 => GxR.TabG H1 P ∧ ∀ H2, GxR.Tabbed P H1 H2 → ∃ (n : Nat) (W : Nat → Hp → Prop), W 0 H2 ∧ GLoop n stop J W g te (wipe σ vs) vs Q
/-- a generator expression's scope and its names -/
structure GenOk (N : List Str) (sc scope : Scope) (own : List (Str × Nat)) : Prop extends BlkOk N sc scope own where
  co : scope.isCoroutine = false
  cell : ∀ y ∈ scope.names, y.2 ≠ .cell
  dot : scope.names.lookup (".0" : Str) = some NameKind.local
section
variable {X : Cx} {pins : List (Addr × Obj)} {σ : St} {H : Hp} {s : Shared} {elt tg iter : Expr} {scope : Scope} {own : List (Str × Nat)} {gpos : Pos} {c P : Addr} {k : Nat} {stop : Bool} {wi : TI} {g : TG} {te : TE} {Q : VK}
/-- it is ready: the caller may pull -/
def GReady (X : Cx) (pins : List (Addr × Obj)) (σ : St) (stop : Bool) (Q : VK) (u : Value) (s5 : Shared) : Prop :=
  ∃ (a : Addr) (gn n : Nat) (Pl : Nat → Shared → Prop), u = .ref a ∧ s5.heap.IsGen a gn ∧ Pl 0 s5 ∧ PySem.GA.Pulls X.prog X.w X.A.in1 a n stop Pl fun b s' => ∃ H', Inv X pins σ H' s' ∧ Q (.bl b) H'
theorem gen_make (hc : X.calm = true) (hN : X.N.Nodup) (hr : Room (k + 1) X.A) (TB : GxR.TabB X.base X.mg c P) (hcode : X.env.code = .ref c) (ok : GenOk X.N X.env.scope scope own) (hi : PI X tg iter wi)
    (hg : ∀ (s : Shared) (H : Hp) (C : Addr) (code : Value) (fp : List Addr), Room k (genA X (genC X scope C code)) → PG (X.gen (genA X (genC X scope C code)) s H (genC X scope C code) fp) tg g)
    (he : ∀ (s : Shared) (H : Hp) (C : Addr) (code : Value) (fp : List Addr), Room k (genA X (genC X scope C code)) → PE (X.gen (genA X (genC X scope C code)) s H (genC X scope C code) fp) elt te)
    (hs : ∀ v, genFold iter X.env v = pure v) (I : Inv X pins σ H s) (h : tGen stop P wi g te (own.map (·.2)) σ H Q) :
    wpAny (model X.prog X.w) X.A (eval (.GeneratorExp elt [⟨tg, iter, [], 0⟩] scope gpos) X.env) (GReady X pins σ stop Q) X.xe s := by
  have hfree : ∀ y ∈ scope.names, y.2 = .free → ∃ c, X.env.cells.lookup y.1 = some c := fun y hy e => by
    rcases ok.free y hy e with k | k
    · exact I.ok.has _ (.inl k)
    · exact I.ok.has _ (.inr k)
  refine wpAny_GeneratorExp_make ok.co (closure_ok hfree) ok.cell ok.dot ok.kind (by have := hr.dp; omega) ?_ hs
  refine thn (hi.run pins s σ H _ I h) fun xv s1 hx => thn hx fun itv s2 h2 => ?_
  obtain ⟨it, fp, tn, J, H2, rfl, I2, T, st2, f2, ⟨ps, hP, ht⟩, hq⟩ := h2
  refine ⟨I2.nolimit, ?_⟩
  have hPs : s2.heap.get? P = some { cls := .none, data := .fields ps } := I2.hok P _ hP
  have cd : PySem.W.CodeHd s2.heap c P := TB.code.keeps fun b u e => I2.bk b u e
  have nP : ∀ b ∈ fp, b ≠ P := fun b hb e => by
    have z := (f2 b hb).1
    rw [e, hP] at z
    cases z
  have cont : ∀ (code : Value) (h3 : Heap) (tk : Nat) (ps' : Array Value), Heap.ExtBut P s2.heap h3 → s2.heap.objs.size ≤ h3.objs.size → h3.get? P = some { cls := .none, data := .fields ps' } → (∃ more, ps' = ps ++ more) → TriplesOk ps'.toList →
      wpAny (model X.prog X.w) X.A (builtinsFor X.env.globals X.env.builtins) (fun bi s₄ =>
        ∀ h', h'.Ns s₄.heap.objs.size (fun y => if y = ".0" then some (.ref it) else none) → Heap.SameBut s₄.heap.objs.size (s₄.heap.push { cls := .type "frame", data := .dict #[] }) h' →
          GReady X pins σ stop Q (.ref h'.objs.size) { s₄ with
            gens := s₄.gens.push (.fresh (.compStart (.GeneratorExp elt [⟨tg, iter, [], 0⟩] scope gpos) 0 (.ref it) .none (genEnv scope (cloFrom X.env.cells scope.names []) s₄.heap.objs.size code bi X.env))),
            toks := s₄.toks + 1 + 1 + 1,
            heap := h'.push { cls := .type "generator", data := .fields #[.int s₄.gens.size 0, .str "<genexpr>" (s₄.toks + 1), .str (X.env.qual ++ "<genexpr>") (s₄.toks + 1 + 1)] } }) X.xe { s2 with heap := h3, toks := tk } := by
    intro code h3 tk ps' hx hsz hP3 hmore ht3
    obtain ⟨more, rfl⟩ := hmore
    obtain ⟨bm, ob, e1, e2, e3, e4, e5, e6, e7, e8⟩ := TB.bm
    refine wpAny_builtinsFor (m := X.mg) (by rw [I2.ok.glob]; exact (I2.mod.glob.keeps I2.bk).extBut hx TB.gP) e1 e2 (hx _ _ e4 (I2.bk _ _ e5)) e6 e7 e8 ?_
    intro h' hn' hs'
    have I3 : Inv X pins σ (upd H2 P (.tbl (ps ++ more))) { s2 with heap := h3, toks := tk } := GxR.inv_tab (g' := s2.gens) (d' := s2.drawn) (t' := tk) I2 hP (fun b o hb e => hx b o hb e) hP3 I2.bare
    obtain ⟨n, W, w0, L⟩ := hq _ ⟨⟨ps ++ more, upd_same, ht3⟩, fun b hb => upd_ne hb⟩
    generalize hH3 : upd H2 P (.tbl (ps ++ more)) = H3 at I3 w0
    have f3 : ∀ b ∈ fp, FpOk X pins H3 b := fun b hb => ⟨by rw [← hH3, upd_ne (nP b hb)]; exact (f2 b hb).1, (f2 b hb).2⟩
    have st3 : tn 0 h3 := T.keep _ _ _ st2 fun b hb o e => hx b o (nP b hb) e
    generalize hs3 : ({ s2 with heap := h3, toks := tk } : Shared) = s3 at I3 hn' hs' ⊢
    have eh3 : s3.heap = h3 := by rw [← hs3]
    rw [← eh3] at st3
    have f3' : ∀ b ∈ fp, FpOk X pins H3 b ∧ b < s3.heap.objs.size := fun b hb => by
      obtain ⟨o, e, _⟩ := T.obj _ _ st3 b hb
      exact ⟨f3 b hb, Heap.lt_size e⟩
    have hsz' : h'.objs.size = s3.heap.objs.size + 1 := by rw [hs'.1, Heap.size_push]
    have keep' : ∀ b o, s3.heap.get? b = some o → h'.get? b = some o := fun b o e => hs'.extBut b o (Nat.ne_of_lt (Heap.lt_size e)) (Heap.get?_push_of_some _ e)
    have ha : s3.heap.objs.size ≤ h'.objs.size := by rw [hsz']; exact Nat.le_succ _
    generalize hgo : ({ cls := .type "generator", data := .fields #[.int s3.gens.size 0, .str "<genexpr>" (s3.toks + 1), .str (X.env.qual ++ "<genexpr>") (s3.toks + 1 + 1)] } : Obj) = go
    have hgo' : GObj s3.gens.size go := by rw [← hgo]; exact ⟨_, _, rfl, rfl, rfl⟩
    have keep5 : ∀ b o, s3.heap.get? b = some o → (h'.push go).get? b = some o := fun b o e => Heap.get?_push_of_some _ (keep' b o e)
    have getgo : (h'.push go).get? h'.objs.size = some go := Heap.get?_push_size _ (by rw [← hgo]; rfl)
    have hA : (genA X (genC X scope s3.heap.objs.size code)).handled = none := hr.hd
    have hgs : AllBare (s3.gens.push (.fresh (.compStart (.GeneratorExp elt [⟨tg, iter, [], 0⟩] scope gpos) 0 (.ref it) .none (genC X scope s3.heap.objs.size code)))) := I3.bare.push rfl
    have I4 := gen_start (A' := genA X (genC X scope s3.heap.objs.size code)) (code := code) (fp := fp) (t' := s3.toks + 1 + 1 + 1) (d' := s3.drawn) I3 ok.toBlkOk ok.cell hN f3' keep5 (Nat.le_refl _) (hn'.push go) hA (Around.frames_deeper I3.ok.frames) hgs
    have na : ∀ b ∈ fp, b ≠ h'.objs.size := fun b hb => Nat.ne_of_lt (Nat.lt_of_lt_of_le (f3' b hb).2 ha)
    have I5 : Inv (X.gen (genA X (genC X scope s3.heap.objs.size code)) s3 H3 (genC X scope s3.heap.objs.size code) fp) [(h'.objs.size, go)] (wipe σ (own.map (·.2))) H3 _ := I4.pins_of fun p hp => by
      rw [List.mem_singleton] at hp
      subst hp
      refine ⟨getgo, I3.hok.fresh ha, ?_, fun z => ?_, fun v e => ?_⟩
      · show h'.objs.size ≠ s3.heap.objs.size
        rw [hsz']
        exact Nat.succ_ne_self _
      · rcases List.mem_cons.mp (I3.stkSub _ z) with z | z
        · have z' : h'.objs.size = X.env.locals := z
          rw [z'] at ha
          exact Nat.lt_irrefl _ (Nat.lt_of_lt_of_le I3.lt ha)
        · exact I3.nofs ha z
      · obtain ⟨_, _, _, hd, _⟩ := hgo'
        have e' : go.data = .cell v := e
        rw [hd] at e'
        cases e'
    refine ⟨h'.objs.size, s3.gens.size, n, GPl X σ H3 s3 scope own fp s3.heap.objs.size h'.objs.size s3.gens.size n go code tn W stop Q, rfl, ?_, ⟨⟨?_, I5.nolimit, _, Array.getElem?_push_size .., rfl, ?_⟩, by simp⟩, gen_pulls hr I3 f3 hgo'⟩
    · obtain ⟨nm, qn, h1, h2, h3⟩ := hgo'
      exact ⟨go, nm, qn, getgo, h1, h2, h3⟩
    · obtain ⟨nm, qn, h1, h2, h3⟩ := hgo'
      exact ⟨go, nm, qn, getgo, h1, h2, h3⟩
    · have TT := gen_turns (X := X) (σ := σ) (H3 := H3) (s3 := s3) (scope := scope) (own := own) (C := s3.heap.objs.size) (go := go) (code := code) hc T na L (hg _ _ _ _ _ (genA_room hr)) (he _ _ _ _ _ (genA_room hr))
      refine PySem.GA.seg_start (A := X.A.in1.in1) ok.co (by rw [over_genL]; exact TT) (fun s hst => by rw [over_genS]; exact TT.self s hst) _ _ ?_
      refine ⟨H3, I5.same rfl rfl (allBare_setGen I5.bare rfl), T.keep _ _ _ st3 fun b hb o e => keep5 b o e, fun b hb => (f3 b hb).1, w0⟩
  cases hf : codeAmong gpos ps.toList with
  | none =>
    refine wpAny_genexprCodeX hcode (cd.code hPs ht) (cd.tab hPs) hf fun c' h' tk hx hge hlt hco' _ htab' _ => ?_
    obtain ⟨o1, vs, f1, tf, fl, tg, inF, tx, tt, op, _, _, _, _, _, _, _, _, _, htr, _⟩ := hco'
    exact cont _ h' tk _ hx (Nat.le_trans hge (Nat.le_of_lt hlt)) htab'.2 ⟨_, rfl⟩ htr
  | some cv =>
    refine wpAny_genexprCode_hit hcode (cd.code hPs ht) hf ?_
    exact cont cv s2.heap s2.toks ps (Heap.ExtBut.refl _ _) (Nat.le_refl _) hPs ⟨#[], by simp⟩ ht
end
end L2
namespace L2
open PySem PySem.Spec PyProof.Rows GenW
section
variable {X : Cx} {elt tg iter : Expr} {scope : Scope} {own : List (Str × Nat)} {gpos p pos : Pos} {c P : Addr} {k : Nat} {wi : TI} {g : TG} {te : TE}
/-- all(elt for tg in iter) -/
theorem pe_allG (hc : X.calm = true) (hN : X.N.Nodup) (hr : Room (k + 1) X.A) (hgl : Gl X "all") (hm : X.mg "all" = none) (TB : GxR.TabB X.base X.mg c P) (hcode : X.env.code = .ref c) (ok : GenOk X.N X.env.scope scope own) (hi : PI X tg iter wi)
    (hg : ∀ (s : Shared) (H : Hp) (C : Addr) (code : Value) (fp : List Addr), Room k (genA X (genC X scope C code)) → PG (X.gen (genA X (genC X scope C code)) s H (genC X scope C code) fp) tg g)
    (he : ∀ (s : Shared) (H : Hp) (C : Addr) (code : Value) (fp : List Addr), Room k (genA X (genC X scope C code)) → PE (X.gen (genA X (genC X scope C code)) s H (genC X scope C code) fp) elt te)
    (hs : ∀ v, genFold iter X.env v = pure v := by intro _; rfl)
    (h1 : starEach [.GeneratorExp elt [⟨tg, iter, [], 0⟩] scope gpos] X.env = (false, eval (.GeneratorExp elt [⟨tg, iter, [], 0⟩] scope gpos) X.env) :: starEach [] X.env := by rfl) :
    PE X (.Call (.Name "all" p) [.GeneratorExp elt [⟨tg, iter, [], 0⟩] scope gpos] [] pos) (tGen false P wi g te (own.map (·.2))) := by
  refine ⟨fun pins s σ H Q I h => ?_⟩
  refine wpAny_Call_Name_kw (ld_blt I hgl hm (show bootBuiltins "all" = some (.builtin "all") by decide +kernel) ?_)
  refine PyProof.Rows.callWith_builtin1 ?_ h1 (by rfl)
  rw [h1]
  show wpAny _ _ (spliced ((false, eval (.GeneratorExp elt [⟨tg, iter, [], 0⟩] scope gpos) X.env) :: backTo pos (starEach [] X.env))) _ _ s
  refine Calls.spliced_cons (thn (gen_make (gpos := gpos) hc hN hr TB hcode ok hi hg he hs I h) fun u s5 h5 => ?_)
  obtain ⟨a, gn, n, Pl, rfl, hgen, h0, PP⟩ := h5
  refine Calls.spliced_nil ?_
  refine PySem.GA.call_all (n := n) (Pl := Pl) hgen h0 ?_
  refine ⟨fun i s hi hp => wpAny_mono (PP.item i s hi hp) (fun r s' hh => ?_) fun _ _ z => z, fun s hp => wpAny_mono (PP.done s hp) (fun r s' hh => ?_) fun _ _ z => z⟩
  · obtain ⟨b, e, k1, k2⟩ := hh
    refine ⟨b, e, k1, fun e2 => ?_⟩
    obtain ⟨H', I', q⟩ := k2 e2
    exact ⟨.bl _, H', I', rfl, q⟩
  · obtain ⟨e, H', I', q⟩ := hh
    exact ⟨e, .bl _, H', I', rfl, q⟩
/-- any(elt for tg in iter) -/
theorem pe_anyG (hc : X.calm = true) (hN : X.N.Nodup) (hr : Room (k + 1) X.A) (hgl : Gl X "any") (hm : X.mg "any" = none) (TB : GxR.TabB X.base X.mg c P) (hcode : X.env.code = .ref c) (ok : GenOk X.N X.env.scope scope own) (hi : PI X tg iter wi)
    (hg : ∀ (s : Shared) (H : Hp) (C : Addr) (code : Value) (fp : List Addr), Room k (genA X (genC X scope C code)) → PG (X.gen (genA X (genC X scope C code)) s H (genC X scope C code) fp) tg g)
    (he : ∀ (s : Shared) (H : Hp) (C : Addr) (code : Value) (fp : List Addr), Room k (genA X (genC X scope C code)) → PE (X.gen (genA X (genC X scope C code)) s H (genC X scope C code) fp) elt te)
    (hs : ∀ v, genFold iter X.env v = pure v := by intro _; rfl)
    (h1 : starEach [.GeneratorExp elt [⟨tg, iter, [], 0⟩] scope gpos] X.env = (false, eval (.GeneratorExp elt [⟨tg, iter, [], 0⟩] scope gpos) X.env) :: starEach [] X.env := by rfl) :
    PE X (.Call (.Name "any" p) [.GeneratorExp elt [⟨tg, iter, [], 0⟩] scope gpos] [] pos) (tGen true P wi g te (own.map (·.2))) := by
  refine ⟨fun pins s σ H Q I h => ?_⟩
  refine wpAny_Call_Name_kw (ld_blt I hgl hm (show bootBuiltins "any" = some (.builtin "any") by decide +kernel) ?_)
  refine PyProof.Rows.callWith_builtin1 ?_ h1 (by rfl)
  rw [h1]
  show wpAny _ _ (spliced ((false, eval (.GeneratorExp elt [⟨tg, iter, [], 0⟩] scope gpos) X.env) :: backTo pos (starEach [] X.env))) _ _ s
  refine Calls.spliced_cons (thn (gen_make (gpos := gpos) hc hN hr TB hcode ok hi hg he hs I h) fun u s5 h5 => ?_)
  obtain ⟨a, gn, n, Pl, rfl, hgen, h0, PP⟩ := h5
  refine Calls.spliced_nil ?_
  refine PySem.GA.call_any (n := n) (Pl := Pl) hgen h0 ?_
  refine ⟨fun i s hi hp => wpAny_mono (PP.item i s hi hp) (fun r s' hh => ?_) fun _ _ z => z, fun s hp => wpAny_mono (PP.done s hp) (fun r s' hh => ?_) fun _ _ z => z⟩
  · obtain ⟨b, e, k1, k2⟩ := hh
    refine ⟨b, e, k1, fun e2 => ?_⟩
    obtain ⟨H', I', q⟩ := k2 e2
    exact ⟨.bl _, H', I', rfl, q⟩
  · obtain ⟨e, H', I', q⟩ := hh
    exact ⟨e, .bl _, H', I', rfl, q⟩
end
end L2
namespace L2
open PySem PySem.Spec PyProof.Rows
/-- a def of the text whose code object stands at c -/
structure FunC (K : PySem.W.Frag) (x qual : Str) (st : Stmt) (f : Addr) (fd : FuncData) (c : Addr) : Prop where
  ex : ∃ (oc : Value) (od : Option Addr) (kV doc pm : Value) (an : Option Addr) (ct : Value) (osl : Array (Option Value)),
    fd = PySem.W.fnOf x qual (defArgs st) (defBody st) (defScope st) .none kV doc pm an (.ref c) ct ∧ K.lookup f = some ⟨oc, od, .func fd, osl⟩ ∧ PySem.W.codeIn K (.ref c) qual = true
  kp : PySem.W.keepIn K (.ref f) = true
theorem FunC.fun {K : PySem.W.Frag} {x qual : Str} {st : Stmt} {f c : Addr} {fd : FuncData} (F : FunC K x qual st f fd c) : Fun K x qual st f fd := by
  obtain ⟨oc, od, kV, doc, pm, an, ct, osl, h⟩ := F.ex
  exact ⟨⟨oc, od, kV, doc, pm, an, _, ct, osl, h⟩, F.kp⟩
theorem FunC.ok {P : Program} {w : World} {K : PySem.W.Frag} {mg : Str → Option Value} {base : Heap} {x qual : Str} {st : Stmt} {f c : Addr} {fd : FuncData} {N ps : List Str} {k : Nat} {sp : Sp} (F : FunC K x qual st f fd c) (S : FnScope N ps (defScope st)) (len : ∀ vs H Q E, sp vs H Q E → vs.length = ps.length)
    (hbody : ∀ (A : Around) (outer : List Env) (s : Shared) (H : Hp) (vs : List V) (Q : VK) (E : XK), Room k (A.deeper (envOfC qual (defScope st) s.heap.objs.size f (.ref c))) → sp vs H Q E →
      ∃ t, PSs (cxOf CX0 P w K mg base N qual (defScope st) f (.ref c) A outer s H E).nox (defBody st) t ∧ t { nx := fun _ H' => Q .non H', rt := Q } (start N vs) H) : FnOk P w K mg base CX0 (k + 1) f fd ps sp := by
  obtain ⟨oc, od, kV, doc, pm, an, ct, osl, rfl, lk, hcd⟩ := F.ex
  refine fn_of lk hcd S len fun A outer s H vs Q E hr hsp => ?_
  obtain ⟨t, h, q⟩ := hbody A outer s H vs Q E hr hsp
  exact ⟨t, h.nox, q⟩
theorem funC_mk {K : PySem.W.Frag} {x qual : Str} {st : Stmt} {f c : Addr} {oc : Value} {od an : Option Addr} {osl : Array (Option Value)} {kV doc pm ct : Value} (l : K.lookup f = some ⟨oc, od, .func (PySem.W.fnOf x qual (defArgs st) (defBody st) (defScope st) .none kV doc pm an (.ref c) ct), osl⟩)
    (h : PySem.W.codeIn K (.ref c) qual = true) (k : PySem.W.keepIn K (.ref f) = true) : FunC K x qual st f (PySem.W.fnOf x qual (defArgs st) (defBody st) (defScope st) .none kV doc pm an (.ref c) ct) c := ⟨⟨oc, od, kV, doc, pm, an, ct, osl, rfl, l, h⟩, k⟩
/-- what stood stands, but for tables of code objects, which may have grown -/
structure SameG (H H' : Hp) : Prop where
  obj : ∀ b o, H b = some o → (∀ ps, o ≠ .tbl ps) → H' b = some o
  tab : ∀ b, GxR.TabG H b → GxR.TabG H' b
theorem SameG.refl (H : Hp) : SameG H H := ⟨fun _ _ e _ => e, fun _ t => t⟩
theorem SameG.trans {H H1 H2 : Hp} (a : SameG H H1) (b : SameG H1 H2) : SameG H H2 := ⟨fun c o e n => b.obj c o (a.obj c o e n) n, fun c t => b.tab c (a.tab c t)⟩
theorem SameG.of {H H' : Hp} (s : Same H H') : SameG H H' := ⟨fun b o e _ => s b o e, fun b ⟨ps, e, t⟩ => ⟨ps, s b _ e, t⟩⟩
theorem SameG.tabbed {P : Addr} {H H' : Hp} (h : GxR.TabG H P) (t : GxR.Tabbed P H H') : SameG H H' := by
  obtain ⟨t1, t2⟩ := t
  refine ⟨fun b o e n => ?_, fun b hb => ?_⟩
  · by_cases z : b = P
    · obtain ⟨ps, e', _⟩ := h
      rw [z, e'] at e
      exact absurd (Option.some.inj e).symm (n ps)
    · rw [t2 b z]
      exact e
  · by_cases z : b = P
    · rw [z]
      exact t1
    · obtain ⟨ps, e, k⟩ := hb
      exact ⟨ps, by rw [t2 b z]; exact e, k⟩
theorem SameG.rd {H H' : Hp} (s : SameG H H') {a : Addr} {u : HO} (h : Rd H a u) (n : ∀ ps, u ≠ .tbl ps) : Rd H' a u := by
  rcases h with h | ⟨o, h⟩
  · exact .inl (s.obj _ _ h n)
  · exact .inr ⟨o, s.obj _ _ h fun ps e => by cases e⟩
theorem SameG.sqL {K : PySem.W.Frag} {H H' : Hp} (s : SameG H H') {a : Addr} {xs : List V} (h : SqL K H a xs) : SqL K H' a xs := by
  rcases h with h | h
  · exact .inl (s.rd h fun ps e => by cases e)
  · exact .inr h
theorem SameG.sqT {K : PySem.W.Frag} {H H' : Hp} (s : SameG H H') {a : Addr} {xs : List V} (h : SqT K H a xs) : SqT K H' a xs := by
  rcases h with h | h
  · exact .inl (s.rd h fun ps e => by cases e)
  · exact .inr h
/-! ### plain data -/
mutual
/-- a value that stands for plain data; a dict only as such -/
inductive DX (K : PySem.W.Frag) (H : Hp) : V → PyData → Prop
  | non : DX K H .non .none
  | bl (b : Bool) : DX K H (.bl b) (.bool b)
  | int (i : Int) : DX K H (.int i) (.int i)
  | str {x : Str} (h : x.length ≤ sizeLine) : DX K H (.str x) (.str x)
  | lst {a : Addr} {xs : List V} {ds : List PyData} : SqL K H a xs → DXs K H xs ds → DX K H (.ref a) (.list ds)
  | tup {a : Addr} {xs : List V} {ds : List PyData} : SqT K H a xs → DXs K H xs ds → DX K H (.ref a) (.tuple ds)
  | dct {a : Addr} {kvs : List (Key × V)} : H a = some (.dK kvs) → DX K H (.ref a) (.dict [])
inductive DXs (K : PySem.W.Frag) (H : Hp) : List V → List PyData → Prop
  | nil : DXs K H [] []
  | cons {v : V} {vs : List V} {d : PyData} {ds : List PyData} : DX K H v d → DXs K H vs ds → DXs K H (v :: vs) (d :: ds)
end
mutual
theorem DX.same {K : PySem.W.Frag} {H H' : Hp} (s : SameG H H') : ∀ (d : PyData) (v : V), DX K H v d → DX K H' v d
  | .none, _, h => by
    cases h
    exact .non
  | .bool b, _, h => by
    cases h
    exact .bl b
  | .int i, _, h => by
    cases h
    exact .int i
  | .str x, _, h => by
    cases h with
    | str z => exact .str z
  | .list ds, _, h => by
    cases h with
    | lst h1 h2 => exact .lst (s.sqL h1) (DXs.same s ds _ h2)
  | .tuple ds, _, h => by
    cases h with
    | tup h1 h2 => exact .tup (s.sqT h1) (DXs.same s ds _ h2)
  | .dict ps, _, h => by
    cases h with
    | dct e => exact .dct (s.obj _ _ e fun ps z => by cases z)
theorem DXs.same {K : PySem.W.Frag} {H H' : Hp} (s : SameG H H') : ∀ (ds : List PyData) (vs : List V), DXs K H vs ds → DXs K H' vs ds
  | [], _, h => by
    cases h
    exact .nil
  | d :: ds, _, h => by
    cases h with
    | cons h1 h2 => exact .cons (DX.same s d _ h1) (DXs.same s ds _ h2)
end
theorem DXs.length {K : PySem.W.Frag} {H : Hp} {vs : List V} {ds : List PyData} (h : DXs K H vs ds) : vs.length = ds.length := by
  induction ds generalizing vs with
  | nil => cases h; rfl
  | cons d ds ih => cases h with
    | cons h1 h2 => rw [List.length_cons, List.length_cons, ih h2]
theorem DXs.at {K : PySem.W.Frag} {H : Hp} {vs : List V} {ds : List PyData} (h : DXs K H vs ds) {i : Nat} {v : V} (hv : vs[i]? = some v) : ∃ d, ds[i]? = some d ∧ DX K H v d := by
  induction ds generalizing vs i with
  | nil => cases h; simp at hv
  | cons d ds ih => cases h with
    | cons h1 h2 =>
      cases i with
      | zero =>
        simp at hv
        subst hv
        exact ⟨d, rfl, h1⟩
      | succ i =>
        simp at hv
        obtain ⟨d', e, q⟩ := ih h2 hv
        exact ⟨d', by simpa using e, q⟩
/-- the name of its type -/
def tyD : PyData → String
  | .none => "NoneType" | .bool _ => "bool" | .int _ => "int" | .str _ => "str" | .list _ => "list" | .tuple _ => "tuple" | .dict _ => "dict"
theorem DX.ty {K : PySem.W.Frag} {H : Hp} {v : V} {d : PyData} (h : DX K H v d) : TyX K H v (.type (tyD d)) := by
  cases h with
  | non => exact .base .non
  | bl b => exact .base (.bl b)
  | int i => exact .base (.int i)
  | str _ => exact .base (.str _)
  | lst h1 _ =>
    rcases h1 with (h | ⟨o, h⟩) | ⟨o, its, n, h, c, _⟩
    · exact .base (.lst h)
    · exact .base (.frz h)
    · exact .kList h c
  | tup h1 _ =>
    rcases h1 with (h | ⟨o, h⟩) | ⟨o, its, n, h, c, _⟩
    · exact .base (.tup h)
    · exact .fTuple h
    · exact .kTuple h c
  | dct e => exact .base (.dK e)
theorem kit_T {K : PySem.W.Frag} {T c : String} {b : Bool} (h : PySem.W.kitMeta c = true) (m : ((Value.type T == Value.type c) || ((fastBuiltinMro T).map (·.contains (Value.type c)) == some true)) = b) (n : (fastBuiltinMro T).isSome = true) : PySem.W.kitOne K (.type T) (.type c) = some b := by
  unfold PySem.W.kitOne
  split
  · rename_i e
    rw [e] at m
    simp at m
    rw [m]
  · rename_i e
    have e' : (Value.type T == Value.type c) = false := by simpa using e
    rw [e', Bool.false_or] at m
    unfold PySem.W.kitCls
    simp only [h, if_true]
    show (fastBuiltinMro T).map (·.contains (Value.type c)) = some b
    cases z : fastBuiltinMro T with
    | none => rw [z] at n; cases n
    | some l =>
      rw [z] at m
      rw [← m]
      simp
theorem kit_str (K : PySem.W.Frag) (d : PyData) : PySem.W.kitOne K (.type (tyD d)) (.type "str") = some (tyD d == "str") := by
  cases d <;> (dsimp only [tyD]; exact kit_T (by decide +kernel) (by decide +kernel) (by decide +kernel))
theorem kit_tuple (K : PySem.W.Frag) (d : PyData) : PySem.W.kitOne K (.type (tyD d)) (.type "tuple") = some (tyD d == "tuple") := by
  cases d <;> (dsimp only [tyD]; exact kit_T (by decide +kernel) (by decide +kernel) (by decide +kernel))
end L2
namespace L2
open PySem PySem.Spec PyProof.Rows
section
variable {K : PySem.W.Frag} {wi : TI} {J : It} {g : TG} {tt : TT} {te : TE} {vs : List Nat} {σ : St} {H1 : Hp} {D : Addr} {Q : VK}
/-- a list comprehension over n items, W before turn i -/
theorem lc_n (n : Nat) (W : Nat → Hp → Prop) (h0 : W 0 (upd H1 D (.lst []))) (fin : ∀ H, W n H → J.stop n H ∧ Q (.ref D) H)
    (turn : ∀ i H, i < n → W i H → J.go i H ∧ ∀ x H', J.yld i H x H' → g x (wipe σ vs) H' fun σ2 H2 => wipe σ2 vs = wipe σ vs ∧ tt σ2 H2 fun b H3 => if b = true then te σ2 H3 fun y H4 => ∃ acc, H4 D = some (.lst acc) ∧ acc.length < sizeLine ∧ W (i + 1) (upd H4 D (.lst (acc ++ [y]))) else W (i + 1) H3) :
    ∃ W' : Nat → Nat → Hp → Prop, (∃ m, W' 0 m (upd H1 D (.lst []))) ∧ ∀ i m H, W' i m H →
      (J.stop i H ∧ Q (.ref D) H) ∨ (J.go i H ∧ ∃ Nx : Hp → Prop, (∀ H', Nx H' → ∃ m', m' < m ∧ W' (i + 1) m' H') ∧ ∀ x H', J.yld i H x H' → g x (wipe σ vs) H' fun σ2 H2 => wipe σ2 vs = wipe σ vs ∧ tt σ2 H2 fun b H3 =>
        if b = true then te σ2 H3 fun y H4 => ∃ acc, H4 D = some (.lst acc) ∧ acc.length < sizeLine ∧ Nx (upd H4 D (.lst (acc ++ [y]))) else Nx H3) := by
  refine ⟨fun i m H => m = n - i ∧ i ≤ n ∧ W i H, ⟨n, by simp, Nat.zero_le _, h0⟩, ?_⟩
  rintro i m H ⟨rfl, hi, w⟩
  by_cases lt : i < n
  · obtain ⟨go, st⟩ := turn i H lt w
    exact .inr ⟨go, W (i + 1), fun H' w' => ⟨n - (i + 1), by omega, rfl, lt, w'⟩, st⟩
  · obtain rfl : i = n := by omega
    exact .inl (fin H w)
end
/-- a list comprehension turn by turn, D its list -/
structure LcLoop (n : Nat) (J : It) (D : Addr) (W : Nat → Hp → Prop) (g : TG) (tt : TT) (te : TE) (σ : St) (vs : List Nat) (Q : VK) : Prop where
  fin : ∀ H, W n H → J.stop n H ∧ Q (.ref D) H
  turn : ∀ i H, i < n → W i H → J.go i H ∧ ∀ x H', J.yld i H x H' → g x (wipe σ vs) H' fun σ2 H2 => wipe σ2 vs = wipe σ vs ∧ tt σ2 H2 fun b H3 => if b = true then te σ2 H3 fun y H4 => ∃ acc, H4 D = some (.lst acc) ∧ acc.length < sizeLine ∧ W (i + 1) (upd H4 D (.lst (acc ++ [y]))) else W (i + 1) H3
theorem lc_of {wi : TI} {J : It} {g : TG} {tt : TT} {te : TE} {vs : List Nat} {σ : St} {H H1 : Hp} {Q : VK} (h : ∀ R : It → Hp → Prop, R J H1 → wi σ H R)
    (q : ∀ D, H1 D = none → ∃ (n : Nat) (W : Nat → Hp → Prop), W 0 (upd H1 D (.lst [])) ∧ LcLoop n J D W g tt te σ vs Q) : tLc wi g tt te vs σ H Q := by
  refine h _ fun D hD => ?_
  obtain ⟨n, W, w0, L⟩ := q D hD
  exact lc_n n W w0 L.fin L.turn
section
variable {X : Cx}
/-- xs == [] (a list of any items) -/
def rEqNil (K : PySem.W.Frag) : R2 := fun x y H Q => ∃ (a b : Addr) (xs : List V), x = .ref a ∧ y = .ref b ∧ SqL K H a xs ∧ SqL K H b [] ∧ Q (.bl xs.isEmpty) H
theorem op_eqNil (hu : X.A.units < cLine) : OpR X (compareOp .Eq) (rEqNil X.K) := by
  intro pins s σ H x y v u Q I rx ry h
  obtain ⟨a, b, xs, rfl, rfl, ha, hb, q⟩ := h
  cases rx
  cases ry
  obtain ⟨i1, r1, p1, _⟩ := I.list ha
  obtain ⟨i2, r2, p2, _⟩ := I.list hb
  have e2 : i2 = [] := by
    cases r2
    rfl
  subst e2
  cases r1 with
  | nil => exact SeqAt.eq_listAt (e := fun _ => true) p1.isList p2.isList rfl hu (by intro i hi; simp at hi) ⟨.bl true, _, I, rfl, q⟩
  | cons rv rt => exact SeqAt.eq_list_lengthsAt p1.isList p2.isList (by simp) hu ⟨.bl false, _, I, rfl, q⟩
/-- xs != [] -/
def rNeNil (K : PySem.W.Frag) : R2 := fun x y H Q => ∃ (a b : Addr) (xs : List V), x = .ref a ∧ y = .ref b ∧ SqL K H a xs ∧ SqL K H b [] ∧ Q (.bl (!xs.isEmpty)) H
theorem op_neNil (hu : X.A.units < cLine) : OpR X (compareOp .NotEq) (rNeNil X.K) := by
  intro pins s σ H x y v u Q I rx ry h
  obtain ⟨a, b, xs, rfl, rfl, ha, hb, q⟩ := h
  cases rx
  cases ry
  obtain ⟨i1, r1, p1, _⟩ := I.list ha
  obtain ⟨i2, r2, p2, _⟩ := I.list hb
  have e2 : i2 = [] := by
    cases r2
    rfl
  subst e2
  cases r1 with
  | nil => exact SeqAt.RcNeAt.lists (e := fun _ => true) p1.isList p2.isList rfl hu (by intro i hi; simp at hi) _ _ _ _ ⟨.bl false, _, I, rfl, q⟩
  | cons rv rt => exact SeqAt.RcNeAt.lists_lengths p1.isList p2.isList (by simp) hu _ _ _ _ ⟨.bl true, _, I, rfl, q⟩
end
end L2
/-! n turns of a comprehension, of any kind. -/
namespace L2
open PySem PySem.Spec PyProof.Rows
/-- turn by turn, for a set comprehension -/
theorem sc_of {o0 : Addr → HO} {ad : AddR} {wi : TI} {J : It} {g : TG} {tt : TT} {te : TE} {vs : List Nat} {σ : St} {H H1 : Hp} {Q : VK} (h : ∀ R : It → Hp → Prop, R J H1 → wi σ H R)
    (q : ∀ D, H1 D = none → ∃ (n : Nat) (W : Nat → Hp → Prop), W 0 (upd H1 D (o0 D)) ∧ (∀ H, W n H → J.stop n H ∧ Q (.ref D) H) ∧
      ∀ i H, i < n → W i H → J.go i H ∧ ∀ x H', J.yld i H x H' → g x (wipe σ vs) H' fun σ2 H2 => wipe σ2 vs = wipe σ vs ∧ tt σ2 H2 fun b H3 => if b = true then te σ2 H3 fun y H4 => ad D y H4 (W (i + 1)) else W (i + 1) H3) : tScG o0 ad wi g tt te vs σ H Q := by
  refine h _ fun D hD => ?_
  obtain ⟨n, W, w0, fin, turn⟩ := q D hD
  refine ⟨fun i m H => m = n - i ∧ i ≤ n ∧ W i H, ⟨n, by simp, Nat.zero_le _, w0⟩, ?_⟩
  rintro i m H ⟨rfl, hi, w⟩
  by_cases lt : i < n
  · obtain ⟨go, st⟩ := turn i H lt w
    exact .inr ⟨go, W (i + 1), fun H' w' => ⟨n - (i + 1), by omega, rfl, lt, w'⟩, st⟩
  · obtain rfl : i = n := by omega
    exact .inl (fin H w)
theorem dcg_of {o0 : Addr → HO} {ad : PutR} {wi : TI} {J : It} {g : TG} {tt : TT} {tk tv : TE} {vs : List Nat} {σ : St} {H H1 : Hp} {Q : VK} (h : ∀ R : It → Hp → Prop, R J H1 → wi σ H R)
    (q : ∀ D, H1 D = none → ∃ (n : Nat) (W : Nat → Hp → Prop), W 0 (upd H1 D (o0 D)) ∧ (∀ H, W n H → J.stop n H ∧ Q (.ref D) H) ∧
      ∀ i H, i < n → W i H → J.go i H ∧ ∀ x H', J.yld i H x H' → g x (wipe σ vs) H' fun σ2 H2 => wipe σ2 vs = wipe σ vs ∧ tt σ2 H2 fun b H3 => if b = true then tk σ2 H3 fun y H4 => tv σ2 H4 fun z H5 => ad D y z H5 (W (i + 1)) else W (i + 1) H3) : tDcG o0 ad wi g tt tk tv vs σ H Q := by
  refine h _ fun D hD => ?_
  obtain ⟨n, W, w0, fin, turn⟩ := q D hD
  refine ⟨fun i m H => m = n - i ∧ i ≤ n ∧ W i H, ⟨n, by simp, Nat.zero_le _, w0⟩, ?_⟩
  rintro i m H ⟨rfl, hi, w⟩
  by_cases lt : i < n
  · obtain ⟨go, st⟩ := turn i H lt w
    exact .inr ⟨go, W (i + 1), fun H' w' => ⟨n - (i + 1), by omega, rfl, lt, w'⟩, st⟩
  · obtain rfl : i = n := by omega
    exact .inl (fin H w)
theorem dc_of {wi : TI} {J : It} {g : TG} {tt : TT} {tk tv : TE} {vs : List Nat} {σ : St} {H H1 : Hp} {Q : VK} (h : ∀ R : It → Hp → Prop, R J H1 → wi σ H R)
    (q : ∀ D, H1 D = none → ∃ (n : Nat) (W : Nat → Hp → Prop), W 0 (upd H1 D (.dK [])) ∧ (∀ H, W n H → J.stop n H ∧ Q (.ref D) H) ∧
      ∀ i H, i < n → W i H → J.go i H ∧ ∀ x H', J.yld i H x H' → g x (wipe σ vs) H' fun σ2 H2 => wipe σ2 vs = wipe σ vs ∧ tt σ2 H2 fun b H3 => if b = true then tk σ2 H3 fun y H4 => tv σ2 H4 fun z H5 => ∃ kvs k, y = kV k ∧ H5 D = some (.dK kvs) ∧ kvs.length < sizeLine ∧ W (i + 1) (upd H5 D (.dK (putK kvs k z))) else W (i + 1) H3) : tDc wi g tt tk tv vs σ H Q := by
  refine h _ fun D hD => ?_
  obtain ⟨n, W, w0, fin, turn⟩ := q D hD
  refine ⟨fun i m H => m = n - i ∧ i ≤ n ∧ W i H, ⟨n, by simp, Nat.zero_le _, w0⟩, ?_⟩
  rintro i m H ⟨rfl, hi, w⟩
  by_cases lt : i < n
  · obtain ⟨go, st⟩ := turn i H lt w
    exact .inr ⟨go, W (i + 1), fun H' w' => ⟨n - (i + 1), by omega, rfl, lt, w'⟩, st⟩
  · obtain rfl : i = n := by omega
    exact .inl (fin H w)
/-- a for loop of n turns, W before turn i (turn, slots, heap) -/
theorem for_n {J : It} {g : TG} {tb : TS} {D : Ends} {σ : St} {H : Hp} (n : Nat) (W : Nat → St → Hp → Prop) (h0 : W 0 σ H) (fin : ∀ σ H, W n σ H → J.stop n H ∧ D.nx σ H)
    (turn : ∀ i σ H, i < n → W i σ H → J.go i H ∧ ∀ x H', J.yld i H x H' → g x σ H' fun σ2 H2 => tb { nx := W (i + 1), rt := D.rt, bk := D.nx, ct := W (i + 1) } σ2 H2) :
    ∃ W' : Nat → Nat → St → Hp → Prop, (∃ m, W' 0 m σ H) ∧ ∀ i m σ H, W' i m σ H → (J.stop i H ∧ D.nx σ H) ∨ (J.go i H ∧ ∃ N : St → Hp → Prop, (∀ σ' H', N σ' H' → ∃ m', m' < m ∧ W' (i + 1) m' σ' H') ∧ ∀ x H', J.yld i H x H' → g x σ H' fun σ2 H2 => tb { nx := N, rt := D.rt, bk := D.nx, ct := N } σ2 H2) := by
  refine ⟨fun i m σ H => m = n - i ∧ i ≤ n ∧ W i σ H, ⟨n, by simp, Nat.zero_le _, h0⟩, ?_⟩
  rintro i m σ H ⟨rfl, hi, w⟩
  by_cases lt : i < n
  · obtain ⟨go, st⟩ := turn i σ H lt w
    exact .inr ⟨go, W (i + 1), fun σ' H' w' => ⟨n - (i + 1), by omega, rfl, lt, w'⟩, st⟩
  · obtain rfl : i = n := by omega
    exact .inl (fin σ H w)
theorem dcg_tup {K : PySem.W.Frag} {o0 : Addr → HO} {ad : PutR} {a : Addr} {xs : List V} {g : TG} {tt : TT} {tk tv : TE} {vs : List Nat} {σ : St} {H1 : Hp} {D : Addr} {Qd : Hp → Prop} (Pv : Nat → Hp → Prop) (h0 : Pv 0 (upd H1 D (o0 D))) (hs : ∀ i H, i ≤ xs.length → Pv i H → SqT K H a xs)
    (turn : ∀ i x H, xs[i]? = some x → Pv i H → g x (wipe σ vs) H fun σ2 H2 => wipe σ2 vs = wipe σ vs ∧ tt σ2 H2 fun b H3 => if b = true then tk σ2 H3 fun y H4 => tv σ2 H4 fun z H5 => ad D y z H5 (Pv (i + 1)) else Pv (i + 1) H3)
    (fin : ∀ H, Pv xs.length H → Qd H) :
    ∃ W : Nat → Nat → Hp → Prop, (∃ m, W 0 m (upd H1 D (o0 D))) ∧ ∀ i m H, W i m H →
      ((Itt K a).stop i H ∧ Qd H) ∨ ((Itt K a).go i H ∧ ∃ Nx : Hp → Prop, (∀ H', Nx H' → ∃ m', m' < m ∧ W (i + 1) m' H') ∧ ∀ x H', (Itt K a).yld i H x H' → g x (wipe σ vs) H' fun σ2 H2 => wipe σ2 vs = wipe σ vs ∧ tt σ2 H2 fun b H3 => if b = true then tk σ2 H3 fun y H4 => tv σ2 H4 fun z H5 => ad D y z H5 Nx else Nx H3) := by
  refine ⟨fun i m H => m = xs.length - i ∧ i ≤ xs.length ∧ Pv i H, ⟨xs.length, by simp, Nat.zero_le _, h0⟩, ?_⟩
  rintro i m H ⟨rfl, hi, w⟩
  have sq := hs i H hi w
  by_cases lt : i < xs.length
  · have e : xs[i]? = some xs[i] := List.getElem?_eq_getElem lt
    refine .inr ⟨⟨xs, _, sq, e⟩, Pv (i + 1), fun H' w' => ⟨xs.length - (i + 1), by omega, rfl, lt, w'⟩, fun x H' y => ?_⟩
    obtain ⟨rfl, y⟩ := y
    have := y xs sq
    exact turn i x H' this w
  · obtain rfl : i = xs.length := by omega
    exact .inl ⟨⟨xs, sq, Nat.le_refl _⟩, fin H w⟩
theorem sc_tup {K : PySem.W.Frag} {o0 : Addr → HO} {ad : AddR} {a : Addr} {xs : List V} {g : TG} {tt : TT} {te : TE} {vs : List Nat} {σ : St} {H1 : Hp} {D : Addr} {Qd : Hp → Prop} (Pv : Nat → Hp → Prop) (h0 : Pv 0 (upd H1 D (o0 D))) (hs : ∀ i H, i ≤ xs.length → Pv i H → SqT K H a xs)
    (turn : ∀ i x H, xs[i]? = some x → Pv i H → g x (wipe σ vs) H fun σ2 H2 => wipe σ2 vs = wipe σ vs ∧ tt σ2 H2 fun b H3 => if b = true then te σ2 H3 fun y H4 => ad D y H4 (Pv (i + 1)) else Pv (i + 1) H3)
    (fin : ∀ H, Pv xs.length H → Qd H) :
    ∃ W : Nat → Nat → Hp → Prop, (∃ m, W 0 m (upd H1 D (o0 D))) ∧ ∀ i m H, W i m H →
      ((Itt K a).stop i H ∧ Qd H) ∨ ((Itt K a).go i H ∧ ∃ Nx : Hp → Prop, (∀ H', Nx H' → ∃ m', m' < m ∧ W (i + 1) m' H') ∧ ∀ x H', (Itt K a).yld i H x H' → g x (wipe σ vs) H' fun σ2 H2 => wipe σ2 vs = wipe σ vs ∧ tt σ2 H2 fun b H3 => if b = true then te σ2 H3 fun y H4 => ad D y H4 Nx else Nx H3) := by
  refine ⟨fun i m H => m = xs.length - i ∧ i ≤ xs.length ∧ Pv i H, ⟨xs.length, by simp, Nat.zero_le _, h0⟩, ?_⟩
  rintro i m H ⟨rfl, hi, w⟩
  have sq := hs i H hi w
  by_cases lt : i < xs.length
  · have e : xs[i]? = some xs[i] := List.getElem?_eq_getElem lt
    refine .inr ⟨⟨xs, _, sq, e⟩, Pv (i + 1), fun H' w' => ⟨xs.length - (i + 1), by omega, rfl, lt, w'⟩, fun x H' y => ?_⟩
    obtain ⟨rfl, y⟩ := y
    have := y xs sq
    exact turn i x H' this w
  · obtain rfl : i = xs.length := by omega
    exact .inl ⟨⟨xs, sq, Nat.le_refl _⟩, fin H w⟩
/-! ### modes as they lie in the heap -/
/-- rows of keys at a: a tuple of tuples -/
def RowsAt (K : PySem.W.Frag) (H : Hp) (a : Addr) (rows : List (List Key)) : Prop := ∃ ks : List (Addr × List Key), SqT K H a (ks.map fun p => V.ref p.1) ∧ (∀ p ∈ ks, SqT K H p.1 (p.2.map kV)) ∧ keysM ks = rows
structure MT where
  ns : List Str
  al : List (Str × Str)
  js : List (Str × Str × Str)
abbrev kS (x : Str) : Key := Sum.inr x
abbrev row2 (x : Str × Str) : List Key := [kS x.1, kS x.2]
abbrev row3 (x : Str × Str × Str) : List Key := [kS x.1, kS x.2.1, kS x.2.2]
structure MAt (K : PySem.W.Frag) (H : Hp) (m an aa aj : Addr) (t : MT) : Prop where
  top : SqT K H m [.ref an, .ref aa, .ref aj]
  ns : SqT K H an (t.ns.map V.str)
  al : RowsAt K H aa (t.al.map row2)
  js : RowsAt K H aj (t.js.map row3)
def ModesAt (K : PySem.W.Frag) (H : Hp) (m : Addr) (t : MT) : Prop := ∃ an aa aj, MAt K H m an aa aj t
theorem Same.sqT' {K : PySem.W.Frag} {H H' : Hp} (s : Same H H') {a : Addr} {xs : List V} (h : SqT K H a xs) : SqT K H' a xs := (SameG.of s).sqT h
theorem RowsAt.same {K : PySem.W.Frag} {H H' : Hp} {a : Addr} {rows : List (List Key)} (h : RowsAt K H a rows) (s : Same H H') : RowsAt K H' a rows := by
  obtain ⟨ks, h1, h2, h3⟩ := h
  exact ⟨ks, s.sqT' h1, fun p hp => s.sqT' (h2 p hp), h3⟩
theorem MAt.same {K : PySem.W.Frag} {H H' : Hp} {m an aa aj : Addr} {t : MT} (h : MAt K H m an aa aj t) (s : Same H H') : MAt K H' m an aa aj t := ⟨s.sqT' h.top, s.sqT' h.ns, h.al.same s, h.js.same s⟩
theorem ModesAt.same {K : PySem.W.Frag} {H H' : Hp} {m : Addr} {t : MT} (h : ModesAt K H m t) (s : Same H H') : ModesAt K H' m t := by
  obtain ⟨an, aa, aj, h⟩ := h
  exact ⟨an, aa, aj, h.same s⟩
theorem Same.rfl' (H : Hp) : Same H H := fun _ _ e => e
theorem Same.tr {H H1 H2 : Hp} (a : Same H H1) (b : Same H1 H2) : Same H H2 := fun x o e => b x o (a x o e)
/-- what was new stays changeable -/
theorem Same.put {H0 H : Hp} (s : Same H0 H) {D : Addr} {o : HO} (h : H0 D = none) : Same H0 (upd H D o) := fun b o2 e => by
  rw [upd_ne (ne_of_none e h)]
  exact s b o2 e
theorem Same.new {H0 H : Hp} (s : Same H0 H) {D : Addr} {o : HO} (h : H D = none) : Same H0 (upd H D o) := s.put (by
  cases e : H0 D with
  | none => rfl
  | some o2 =>
    rw [s D o2 e] at h
    cases h)
end L2
/-! d.values() and list of it, d a dict of the layer. -/
namespace L2
open PySem PySem.Spec PyProof.Rows
/-- the view at p of d's values -/
def valuesO (p d : Addr) : HO := .ext fun h => h.IsValuesView p d
theorem valuesO_ok {P : Program} {w : World} {H : Hp} {h : Heap} {p d : Addr} (e : h.IsValuesView p d) : ObjOk P w H h p (valuesO p d) := by
  refine ⟨e, ?_, fun h1 h2 S1 k => ?_⟩
  · obtain ⟨o, e, _⟩ := e
    exact ⟨o, e⟩
  · obtain ⟨o, e, q⟩ := S1
    exact ⟨o, k o e, q⟩
section
variable {X : Cx}
def rValues : V → List V → Hp → VK → Prop := fun x xs H Q => ∃ (a : Addr) (kvs : List (Key × V)), x = .ref a ∧ xs = [] ∧ H a = some (.dK kvs) ∧ ∀ p, H p = none → Q (.ref p) (upd H p (valuesO p a))
theorem mt_valuesK : MtR X "dict.values" rValues := by
  intro pins s σ H x xs v us Q I rx rxs h
  obtain ⟨a, kvs, rfl, rfl, ha, q⟩ := h
  cases rx
  cases rxs
  obtain ⟨hz, hsys, vs, kv, hd⟩ := dk_of I.hok ha
  obtain ⟨es, ep, hr, hsz, hen⟩ := hd.raw
  have hT : s.TypeIs (.ref a) "dict" := by
    obtain ⟨o, e, ex, _⟩ := hr
    exact ⟨o, e, ex.1⟩
  refine wpAny_call (codeAny_call_builtin (by decide +kernel) F.entry_dict_values ?_)
  have hk : builtinKind "dict.values" = some .method := by decide +kernel
  have hs : splitId "dict.values" = some ("dict", "values") := by decide +kernel
  have hsub : isSubtype (.type "dict") (.type "dict") = pure true := by rfl
  have chk : ∀ (R : Unit → Shared → Prop) (E' : Value → Shared → Prop), R () s → wpAny (model X.prog X.w) X.A.in1 (checkBuiltinCall "dict.values" { pos := [.ref a] }) R E' s := by
    intro R E' r
    have ha := F.args_dict_values_1 (.ref a)
    unfold argsOk at ha
    unfold checkBuiltinCall
    dsimp only
    rw [hk, hs]
    cases hsig : Manifest.signature? "dict.values" with
    | none =>
      dsimp only
      refine wpAny_bind (wpAny_isInstance hT hsub ?_)
      exact wpAny_pure r
    | some sig =>
      rw [hsig] at ha
      dsimp only at ha ⊢
      rw [ha]
      refine wpAny_bind (wpAny_isInstance hT hsub ?_)
      exact wpAny_pure r
  refine chk _ _ ?_
  refine meets_dict_values_raw (prog := X.prog) (w := X.w) a hsys X.A (fun r s' => match r with | .ok (.ret v) => EP X pins σ Q v s' | .ok _ => False | .error e => X.xe e s') s ⟨⟨es, ep, hr⟩, ?_⟩
  have I2 := I.laid (h' := s.heap.push { cls := .type "dict_values", data := .fields #[.ref a] }) (a := s.heap.objs.size) (o := valuesO s.heap.objs.size a) (t' := s.toks) (fun b u e => Heap.get?_push_of_some _ e) (Nat.le_refl _) (valuesO_ok ⟨_, Heap.get?_push_size _ rfl, rfl, rfl⟩)
  exact ⟨.ref _, _, I2, rfl, q _ (I.hok.fresh (Nat.le_refl _))⟩
def rListVals : List V → Hp → VK → Prop := fun xs H Q => ∃ (p a : Addr) (kvs : List (Key × V)), xs = [.ref p] ∧ H p = some (valuesO p a) ∧ H a = some (.dK kvs) ∧ ∀ q, H q = none → Q (.ref q) (upd H q (.lst (kvs.map (·.2))))
theorem call_listVals (hc : X.calm = true) : CallR X (.type "list") rListVals := by
  intro pins s σ H xs us Q I r h
  obtain ⟨p, a, kvs, rfl, hp, ha, q⟩ := h
  obtain ⟨u, rfl, ru⟩ := vals1 r
  cases ru
  obtain ⟨hz, hsys, vs, kv, hd⟩ := dk_of I.hok ha
  obtain ⟨es, ep, hr, hsz, hen⟩ := hd.raw
  have hv : s.heap.IsValuesView p a := (I.hok p _ hp).1
  have hlen : kvs.length = vs.length := kv.length
  refine PySem.W.kdl_call (KdlSrc.rawValues (d := a) (r := p) (es := es) (ep := ep)) (I.ok.hd hc) ⟨hv, hr⟩ (by rw [hsz, ← hlen]; exact hz) fun h' tk acc c kp hl hit => ?_
  have ev : acc.toList = vs.map (·.2) := by
    obtain ⟨h1, h2⟩ := hit
    apply List.ext_getElem?
    intro i
    rw [Array.getElem?_toList]
    by_cases hi : i < es.size
    · have e1 : acc[i]? = some acc[i] := Array.getElem?_eq_getElem (by omega)
      obtain ⟨_, e2⟩ := h2 i _ e1
      have hv : i < vs.length := by omega
      have e3 : vs[i]? = some (vs[i].1, vs[i].2) := List.getElem?_eq_getElem hv
      rw [e1, e2, (hen i hi _ _ e3).2, List.getElem?_map, List.getElem?_eq_getElem hv]
      rfl
    · rw [Array.getElem?_eq_none (by omega), List.getElem?_eq_none (by rw [List.length_map]; omega)]
  have rv : Vals (kvs.map (·.2)) acc.toList := by
    rw [ev]
    clear ev hit hen hsz hd hlen hz ha q hp
    induction kv with
    | nil => exact .nil
    | cons h t ih => exact .cons h.2 (ih)
  have I2 := I.laid (h' := h') (a := s.heap.objs.size) (o := .lst (kvs.map (·.2))) (t' := tk) kp (Nat.le_refl _) ⟨by rw [List.length_map]; exact hz, acc.toList, c, rv, by rw [hl]⟩
  exact ⟨.ref _, _, I2, rfl, q _ (I.hok.fresh (Nat.le_refl _))⟩
end
end L2
namespace L2
open PySem PySem.Spec PyProof.Rows
section
variable {X : Cx}
/-- all of data -/
def rAllD (K : PySem.W.Frag) (neg : Bool) : List V → Hp → VK → Prop := fun vs H Q => ∃ (a : Addr) (ds : List PyData), vs = [V.ref a] ∧ (Dp K H (.ref a) (.list ds) ∨ Dp K H (.ref a) (.tuple ds)) ∧ PyData.canLayAll0 ds = true ∧ (∀ x ∈ ds, PyData.fits63 x) ∧
  Q (.bl (if neg then ds.any PyData.truthy else ds.all PyData.truthy)) H
theorem plainAll_of : ∀ {ds : List PyData}, PyData.canLayAll0 ds = true → PyData.plainAll ds = true
  | [], _ => by simp [PyData.plainAll]
  | d :: ds, h => by
    have h2 : (PyData.canLay0 d && PyData.canLayAll0 ds) = true := h
    rw [Bool.and_eq_true] at h2
    simp [PyData.plainAll, PyData.plain_of_canLay0 d h2.1, plainAll_of h2.2]
theorem call_allD (hc : X.calm = true) : CallR X (.builtin "all") (rAllD X.K false) := by
  intro pins s σ H vs us Q I r h
  obtain ⟨a, ds, rfl, hd, hp, hf, q⟩ := h
  rw [Vals.ref1 r]
  rcases hd with hd | hd
  · cases hd with
    | lst hs ha =>
      obtain ⟨its, rv, pl, _⟩ := I.list hs
      obtain ⟨as, hr⟩ := Dp.readsAll I ds _ its ha rv
      exact PySem.W.all_list_data (I.ok.hd hc) pl.isList (by simpa using hr) (plainAll_of hp) hf fun h' tk k => ⟨.bl _, H, I.kept k, rfl, q⟩
  · cases hd with
    | tup hs ha =>
      obtain ⟨its, rv, pl, _⟩ := I.tuple hs
      obtain ⟨as, hr⟩ := Dp.readsAll I ds _ its ha rv
      obtain ⟨o, e, c, n, dd⟩ := pl
      exact PySem.W.all_tuple_data (I.ok.hd hc) (show s.heap.IsTuple a its.toArray from ⟨o, e, c, n, dd⟩) (by simpa using hr) (plainAll_of hp) hf fun h' tk k => ⟨.bl _, H, I.kept k, rfl, q⟩
end
end L2
/-! QI: built-ins by values, slices, truth, chains -/
namespace QE
open PySem L2
variable {K : PySem.W.Frag} {m m' m2 : Mp} {H H' H2 : Hp} {h h' : Hq} {E : XK}

theorem SimC.or {r1 r2 : List V → Hp → VK → Prop} {g1 g2 : List U → Hq → Option (U × Hq)} (s1 : SimC K r1 g1) (s2 : SimC K r2 g2) : SimC K (fun xs H Q => r1 xs H Q ∨ r2 xs H Q) (fun xs h => match g1 xs h with | some r => some r | none => g2 xs h) := fun m h H xs vs u h' Q R q e o => by
  simp only [] at e
  split at e
  · rename_i r q2
    cases e
    exact .inl (s1 m h H xs vs u h' Q R q q2 o)
  · exact .inr (s2 m h H xs vs u h' Q R q e o)
theorem one {u : U} {vs : List V} (r : RUs K m H [u] vs) : ∃ v, vs = [v] ∧ RU K m H u v := by
  obtain ⟨v, w, rfl, q1, q2⟩ := r
  exact ⟨v, by rw [show w = [] from q2], q1⟩
theorem two {u w : U} {vs : List V} (r : RUs K m H [u, w] vs) : ∃ v x, vs = [v, x] ∧ RU K m H u v ∧ RU K m H w x := by
  obtain ⟨v, y, rfl, q1, q2⟩ := r
  obtain ⟨x, rfl, q3⟩ := one q2
  exact ⟨v, x, rfl, q1, q3⟩
/-! truth -/
def nilB {α : Type} : List α → Bool | [] => true | _ => false
theorem nilB_eq {α : Type} (xs : List α) : nilB xs = xs.isEmpty := by cases xs <;> rfl
def truU (h : Hq) : U → Option Bool
  | .non => some false
  | .bl b => some b
  | .int i => some (!iEq i 0)
  | .str x => (match szOk x with | true => some (!nilB x) | false => none)
  | .tup us => some (!nilB us)
  | .ref j => (match h.get j with
    | some (.lst us) => some (!nilB us)
    | some (.rol us) => some (!nilB us)
    | some (.dct kvs) => some (!nilB kvs)
    | _ => none)
  | .con _ => none
theorem isEmpty_len {α β : Type} {xs : List α} {ys : List β} (e : xs.length = ys.length) : xs.isEmpty = ys.isEmpty := by
  cases xs <;> cases ys <;> simp at e ⊢
theorem str_tru (x : List Nat) : (((st x).length : Int) != 0) = !nilB x := by
  rw [st_len]
  cases x with
  | nil => rfl
  | cons a r =>
    show (((r.length + 1 : Nat) : Int) != 0) = true
    rw [bne_iff_ne]
    omega
theorem truU_ok (R : RH K m H h) {u : U} {v : V} {b : Bool} (r : RU K m H u v) (e : truU h u = some b) : TruV K v H b := by
  cases u with
  | non => cases r; cases e; rfl
  | bl b => cases r; cases e; rfl
  | int i => cases r; cases e; show _ = (i != 0); rw [iEq_eq]; rfl
  | str x =>
    cases r
    have e' : (match szOk x with | true => some (!nilB x) | false => none) = some b := e
    clear e
    split at e'
    · rename_i q
      cases e'
      exact ⟨by rw [st_len]; exact Nat.le_of_lt (szOk_le q), (str_tru x).symm⟩
    · cases e'
  | tup us =>
    obtain ⟨a, vs, rfl, hs, rr⟩ := r
    cases e
    exact .inr (.inl ⟨vs, hs, by rw [nilB_eq, isEmpty_len rr.len]⟩)
  | ref j =>
    have e' : (match h.get j with
      | some (.lst us) => some (!nilB us)
      | some (.rol us) => some (!nilB us)
      | some (.dct kvs) => some (!nilB kvs)
      | _ => none) = some b := e
    clear e
    split at e'
    · rename_i us q
      cases e'
      obtain ⟨a, ha, rfl, vs, h1, h2⟩ := R.of q r
      exact .inl ⟨vs, .of h1, by rw [nilB_eq, isEmpty_len h2.len]⟩
    · rename_i us q
      cases e'
      obtain ⟨a, ha, rfl, vs, h1, _, h2⟩ := R.of q r
      exact .inl ⟨vs, h1, by rw [nilB_eq, isEmpty_len h2.len]⟩
    · rename_i kvs q
      cases e'
      obtain ⟨a, ha, rfl, vs, h1, h2⟩ := R.of q r
      exact .inr (.inr ⟨vs, h1, by rw [nilB_eq, isEmpty_len h2.len]⟩)
    · cases e'
  | con w => cases e
def eTru (f : MF U) : MF Bool := fun env h => bnd (f env h) fun u h1 => match truU h1 u with | some b => ret b h1 | none => none
theorem sim_tru {t : TE} {f : MF U} (s : Sim K E t f) : SimT K E (fun σ H Q => t σ H fun x H' => ∃ k, TruV K x H' k ∧ Q k H') (eTru f) := fun m h env σ H r Q re R e o => by
  refine s.on re R e o.x fun u h1 m1 H1 v e1 x1 R1 q1 => ?_
  split at e1
  · rename_i b q
    cases e1
    exact ⟨b, truU_ok R1 q1 q, o m1 H1 x1 R1⟩
  · cases e1
def eNotT (f : MF U) : MF U := fun env h => bnd (f env h) fun u h1 => match truU h1 u with | some b => ret (.bl (!b)) h1 | none => none
theorem sim_notT {t : TE} {f : MF U} (s : Sim K E t f) : Sim K E (tNotT K t) (eNotT f) := fun m h env σ H r Q re R e o => by
  refine s.on re R e o.x fun u h1 m1 H1 v e1 x1 R1 q1 => ?_
  split at e1
  · rename_i b q
    cases e1
    exact ⟨b, truU_ok R1 q1 q, o m1 H1 _ x1 R1 rfl⟩
  · cases e1
def eOrT (f g : MF U) : MF U := fun env h => bnd (f env h) fun u h1 => match truU h1 u with | some true => ret u h1 | some false => g env h1 | none => none
def eAndT (f g : MF U) : MF U := fun env h => bnd (f env h) fun u h1 => match truU h1 u with | some false => ret u h1 | some true => g env h1 | none => none
theorem sim_orT {t u : TE} {f g : MF U} (s : Sim K E t f) (s2 : Sim K E u g) : Sim K E (tOrT K t u) (eOrT f g) := fun m h env σ H r Q re R e o => by
  refine s.on re R e o.x fun u h1 m1 H1 v e1 x1 R1 q1 => ?_
  split at e1
  · rename_i q
    cases e1
    exact ⟨true, truU_ok R1 q1 q, iteT (o m1 H1 v x1 R1 q1)⟩
  · rename_i q
    exact ⟨false, truU_ok R1 q1 q, iteF (s2 m1 h1 env σ H1 r Q (re.mono x1) R1 e1 (o.mono x1))⟩
  · cases e1
theorem sim_andT {t u : TE} {f g : MF U} (s : Sim K E t f) (s2 : Sim K E u g) : Sim K E (tAndT K t u) (eAndT f g) := fun m h env σ H r Q re R e o => by
  refine s.on re R e o.x fun u h1 m1 H1 v e1 x1 R1 q1 => ?_
  split at e1
  · rename_i q
    cases e1
    exact ⟨false, truU_ok R1 q1 q, iteF (o m1 H1 v x1 R1 q1)⟩
  · rename_i q
    exact ⟨true, truU_ok R1 q1 q, iteT (s2 m1 h1 env σ H1 r Q (re.mono x1) R1 e1 (o.mono x1))⟩
  · cases e1
theorem sim_test {t : TE} {f : MF U} (s : Sim K E t f) : SimT K E (tTest t) (eB f) := sim_b s
def eChain (g1 g2 : U → U → Hq → Option (U × Hq)) (fa fb fc : MF U) : MF U := fun env h => bnd (fa env h) fun x h1 => bnd (fb env h1) fun y h2 => match g1 x y h2 with
  | some (.bl true, h3) => bnd (fc env h3) fun z h4 => lf (g2 y z h4)
  | some (.bl false, h3) => ret (.bl false) h3
  | _ => none
theorem sim_chain {r r' : R2} {g1 g2 : U → U → Hq → Option (U × Hq)} {ta tb tc : TE} {fa fb fc : MF U} (hr : SimR K r g1) (hr2 : SimR K r' g2) (sa : Sim K E ta fa) (sb : Sim K E tb fb) (sc : Sim K E tc fc) : Sim K E (tChain r r' ta tb tc) (eChain g1 g2 fa fb fc) := fun m h env σ H q Q re R e o => by
  refine sa.on re R e o.x fun x h1 m1 H1 vx e1 x1 R1 q1 => ?_
  refine sb.on (re.mono x1) R1 e1 (o.mono x1).x fun y h2 m2 H2 vy e2 x2 R2 q2 => ?_
  split at e2
  · rename_i h3 e3
    refine hr m2 h2 H2 x y vx vy _ h3 _ R2 (q1.mono x2) q2 e3 fun m3 H3 v x3 R3 q3 => ?_
    cases q3
    have x03 := (x1.trans x2).trans x3
    refine ⟨true, rfl, iteT ?_⟩
    refine sc.on (re.mono x03) R3 e2 (o.mono x03).x fun z h4 m4 H4 vz e4 x4 R4 q4 => ?_
    obtain ⟨u, h5, e5, rfl⟩ := lf_inv e4
    exact hr2 m4 h4 H4 y z vy vz u h5 Q R4 (q2.mono (x3.trans x4)) q4 e5 (o.mono (x03.trans x4))
  · rename_i h3 e3
    cases e2
    refine hr m2 h2 H2 x y vx vy _ h3 _ R2 (q1.mono x2) q2 e3 fun m3 H3 v x3 R3 q3 => ?_
    cases q3
    exact ⟨false, rfl, iteF (o m3 H3 _ ((x1.trans x2).trans x3) R3 rfl)⟩
  · cases e2
/-! slices -/
def SimO (K : PySem.W.Frag) (E : XK) (t : TO) (f : MF (Option Int)) : Prop := ∀ m h env σ H r (Q : Option Int → Hp → Prop), RE K m H env σ → RH K m H h → f env h = some r →
  (match r with | (.ok i, h') => ∀ m' H', Ext K m H m' H' → RH K m' H' h' → Q i H' | (.ex C fs, h') => OutX K m H h' E C fs) → t σ H Q
def eoN : MF (Option Int) := fun _ h => ret none h
def eoI (f : MF U) : MF (Option Int) := fun env h => bnd (f env h) fun u h1 => match u with | .int i => ret (some i) h1 | _ => none
theorem simo_none : SimO K E tNoPart eoN := fun m h env σ H r Q re R e o => by
  cases e
  exact o m H .refl R
theorem simo_some {t : TE} {f : MF U} (s : Sim K E t f) : SimO K E (tPart t) (eoI f) := fun m h env σ H r Q re R e o => by
  rcases bnd_inv e with ⟨u, h1, e1, e2⟩ | ⟨C, fs, h1, e1, rfl⟩
  · split at e2
    · rename_i i
      cases e2
      exact s m h env σ H _ _ re R e1 fun m1 H1 v x1 R1 q1 => ⟨i, q1, o m1 H1 x1 R1⟩
    · cases e2
  · exact s m h env σ H _ _ re R e1 o
def minN (a b : Nat) : Nat := match Nat.ble a b with | true => a | false => b
theorem minN_eq (a b : Nat) : minN a b = min a b := by
  unfold minN
  split
  · rename_i q
    exact (Nat.min_eq_left (Nat.le_of_ble_eq_true q)).symm
  · rename_i q
    have : ¬ a ≤ b := fun z => by rw [Nat.ble_eq_true_of_le z] at q; cases q
    omega
def sxQ (n d : Nat) : Option Int → Nat
  | none => d
  | some (.ofNat k) => minN k n
  | some (.negSucc k) => n - Nat.succ k
theorem sxQ_eq (n d : Nat) (i : Option Int) : sxQ n d i = HT.sIx n d i := by
  cases i with
  | none => rfl
  | some i => cases i with
    | ofNat k =>
      show minN k n = (if Int.ofNat k < 0 then (Int.ofNat k + (n : Int)).toNat else min (Int.ofNat k).toNat n)
      rw [if_neg (show ¬ Int.ofNat k < 0 by show ¬ (k : Int) < 0; omega), minN_eq]
      rfl
    | negSucc k =>
      show n - Nat.succ k = (if Int.negSucc k < 0 then (Int.negSucc k + (n : Int)).toNat else min (Int.negSucc k).toNat n)
      rw [if_pos (show Int.negSucc k < 0 by omega)]
      omega
def cutQ {α : Type} (xs : List α) (lo hi : Option Int) : List α := (xs.drop (sxQ xs.length 0 lo)).take (sxQ xs.length xs.length hi - sxQ xs.length 0 lo)
theorem RUs.drop : ∀ {us : List U} {vs : List V} (n : Nat), RUs K m H us vs → RUs K m H (us.drop n) (vs.drop n)
  | us, vs, 0, r => r
  | [], vs, n + 1, r => by rw [show vs = [] from r]; simp; exact rfl
  | u :: us, vs, n + 1, r => by
    obtain ⟨v, w, rfl, q1, q2⟩ := r
    exact RUs.drop n q2
theorem RUs.take : ∀ {us : List U} {vs : List V} (n : Nat), RUs K m H us vs → RUs K m H (us.take n) (vs.take n)
  | us, vs, 0, r => by
    show RUs K m H [] (vs.take 0)
    rw [List.take_zero]
    exact rfl
  | [], vs, n + 1, r => by rw [show vs = [] from r]; simp; exact rfl
  | u :: us, vs, n + 1, r => by
    obtain ⟨v, w, rfl, q1, q2⟩ := r
    exact ⟨v, w.take n, rfl, q1, RUs.take n q2⟩
theorem RUs.cut {us : List U} {vs : List V} (r : RUs K m H us vs) (lo hi : Option Int) : RUs K m H (cutQ us lo hi) (cutV vs lo hi) := by
  unfold cutQ cutV
  rw [sxQ_eq, sxQ_eq, r.len]
  exact (r.drop _).take _
def gSl : U → Option Int → Option Int → Hq → Option (U × Hq) := fun x lo hi h => match x with
  | .tup us => some (.tup (cutQ us lo hi), h)
  | .str z => (match szOk z with | true => some (.str (cutQ z lo hi), h) | false => none)
  | .ref j => (match getL h j with | some us => mk (.lst (cutQ us lo hi)) h | none => none)
  | _ => none
def rSlQ (K : PySem.W.Frag) : V → Option Int → Option Int → Hp → VK → Prop := fun x lo hi H Q => (rSlL K x lo hi H Q ∨ rSlA K x lo hi H Q) ∨ rSlS x lo hi H Q
theorem sl_Q {X : Cx} : SlR X (rSlQ X.K) := (sl_list.or sl_tupA).or sl_str
theorem cut_all {us : List U} {vs : List V} (r : RUs K m H us vs) {lo hi : Option Int} (c : HT.sIx vs.length 0 lo = 0 ∧ HT.sIx vs.length vs.length hi = vs.length) : cutQ us lo hi = us := by
  unfold cutQ
  rw [sxQ_eq, sxQ_eq, r.len, c.1, c.2, ← r.len]
  simp
theorem cutV_len (vs : List V) (lo hi : Option Int) : (cutV vs lo hi).length ≤ vs.length := cutV_length vs lo hi
theorem simsl {x : U} {vx : V} {lo hi : Option Int} {u : U} {h' : Hq} {Q : VK} (R : RH K m H h) (qx : RU K m H x vx) (e : gSl x lo hi h = some (u, h')) (o : ∀ m' H' v, Ext K m H m' H' → RH K m' H' h' → RU K m' H' u v → Q v H') : rSlQ K vx lo hi H Q := by
  unfold gSl at e
  split at e
  · rename_i us
    cases e
    obtain ⟨a, vs, rfl, hs, r⟩ := qx
    refine .inl (.inr ⟨a, vs, rfl, hs, fun c => ?_, fun c p hp => ?_⟩)
    · exact o m H _ .refl R (by rw [cut_all r c]; exact ⟨a, vs, rfl, hs, r⟩)
    · obtain ⟨e2, R2⟩ := R.fresh (o := .tup (cutV vs lo hi)) hp
      exact o m _ _ e2 R2 ⟨p, _, rfl, .of upd_same, (r.cut lo hi).mono e2⟩
  · split at e
    · rename_i hz
      cases e
      cases qx
      refine .inr ⟨st _, rfl, by rw [st_len]; exact Nat.le_of_lt (szOk_le hz), o m H _ .refl R ?_⟩
      show V.str (cutS (st _) lo hi) = V.str (st (cutQ _ lo hi))
      unfold cutS cutQ
      rw [sxQ_eq, sxQ_eq, st_len]
      rfl
    · cases e
  · split at e
    · rename_i us q
      obtain ⟨a, vs, ha, rfl, hs, r⟩ := R.ofL q qx
      obtain ⟨hn, rfl, rfl⟩ := mk_inv e
      refine .inl (.inl ⟨a, vs, rfl, hs, fun p hp => ?_⟩)
      obtain ⟨e3, R3, u3⟩ := R.laid (o := .lst (cutQ us lo hi)) (ho := .lst (cutV vs lo hi)) hn hp fun m' H' x hp' => ⟨_, hp', (r.cut lo hi).mono x⟩
      exact o _ _ _ e3 R3 u3
    · cases e
  · cases e
def eSl (f : MF U) (fl fh : MF (Option Int)) : MF U := fun env h => bnd (f env h) fun x h1 => bnd (fl env h1) fun lo h2 => bnd (fh env h2) fun hi h3 => lf (gSl x lo hi h3)
theorem sim_sl {te : TE} {tl th : TO} {f : MF U} {fl fh : MF (Option Int)} (s : Sim K E te f) (sl : SimO K E tl fl) (sh : SimO K E th fh) : Sim K E (tSl (rSlQ K) te tl th) (eSl f fl fh) := fun m h env σ H r Q re R e o => by
  refine s.on re R e o.x fun x h1 m1 H1 vx e1 x1 R1 q1 => ?_
  have o1 := o.mono x1
  rcases bnd_inv e1 with ⟨lo, h2, e2, e3⟩ | ⟨C, fs, h2, e2, rfl⟩
  · refine sl m1 h1 env σ H1 _ _ (re.mono x1) R1 e2 fun m2 H2 x2 R2 => ?_
    have o2 := o1.mono x2
    rcases bnd_inv e3 with ⟨hi, h3, e4, e5⟩ | ⟨C, fs, h3, e4, rfl⟩
    · refine sh m2 h2 env σ H2 _ _ (re.mono (x1.trans x2)) R2 e4 fun m3 H3 x3 R3 => ?_
      obtain ⟨u, h4, e6, rfl⟩ := lf_inv e5
      exact simsl R3 (q1.mono (x2.trans x3)) e6 (o2.mono x3)
    · exact sh m2 h2 env σ H2 _ _ (re.mono (x1.trans x2)) R2 e4 o2
  · exact sl m1 h1 env σ H1 _ _ (re.mono x1) R1 e2 o1
/-! len -/
def rLenQ (K : PySem.W.Frag) : List V → Hp → VK → Prop := fun xs H Q => (∃ x n, xs = [x] ∧ LenV K x H n ∧ Q (.int (n : Nat)) H) ∨ (∃ a kvs, xs = [V.ref a] ∧ H a = some (.dK kvs) ∧ Q (.int kvs.length) H)
theorem call_lenQ {X : Cx} : CallR X (.builtin "len") (rLenQ X.K) := call_len.or call_lenD
def gLen : List U → Hq → Option (U × Hq) := fun xs h => match xs with
  | [.tup us] => some (.int (Int.ofNat us.length), h)
  | [.str x] => (match szOk x with | true => some (.int (Int.ofNat x.length), h) | false => none)
  | [.ref j] => (match h.get j with
    | some (.dct kvs) => some (.int (Int.ofNat kvs.length), h)
    | _ => (match getL h j with | some us => some (.int (Int.ofNat us.length), h) | none => none))
  | _ => none
theorem simc_len : SimC K (rLenQ K) gLen := fun m h H xs vs u h' Q R q e o => by
  unfold gLen at e
  split at e
  · cases e
    obtain ⟨v, rfl, a, ws, rfl, hs, r⟩ := one q
    exact .inl ⟨_, ws.length, rfl, .inr ⟨ws, hs, rfl⟩, o m H _ .refl R (by rw [← r.len]; exact rfl)⟩
  · split at e
    · rename_i hz
      cases e
      obtain ⟨v, rfl, q1⟩ := one q
      cases (show v = _ from q1)
      exact .inl ⟨_, _, rfl, ⟨by rw [st_len]; exact Nat.le_of_lt (szOk_le hz), (st_len _).symm⟩, o m H _ .refl R rfl⟩
    · cases e
  · obtain ⟨v, rfl, q1⟩ := one q
    split at e
    · rename_i kvs q2
      cases e
      obtain ⟨a, ha, rfl, ws, h1, h2⟩ := R.of q2 q1
      exact .inr ⟨a, ws, rfl, h1, o m H _ .refl R (by rw [← h2.len]; exact rfl)⟩
    · split at e
      · rename_i us q2
        cases e
        obtain ⟨a, ws, ha, rfl, hs, r⟩ := R.ofL q2 q1
        exact .inl ⟨_, ws.length, rfl, .inl ⟨ws, hs, rfl⟩, o m H _ .refl R (by rw [← r.len]; exact rfl)⟩
      · cases e
  · cases e
/-! all -/
def fitU : U → Bool
  | .str x => szOk x
  | .tup us => szOk us
  | .ref _ => false
  | _ => true
def truD : U → Bool
  | .non => false
  | .bl b => b
  | .int i => !iEq i 0
  | .str x => !nilB x
  | .tup us => !nilB us
  | _ => false
theorem truD_eq {n : Nat} {u : U} (e : okD h (n + 1) u = true) (f : fitU u = true) : PyData.truthy (toD h (n + 1) u) = truD u ∧ PyData.fits63 (toD h (n + 1) u) := by
  cases u with
  | non => exact ⟨rfl, trivial⟩
  | bl b => exact ⟨rfl, trivial⟩
  | int i => exact ⟨by show (i != 0) = _; rw [show truD (.int i) = !iEq i 0 from rfl, iEq_eq]; rfl, trivial⟩
  | str x =>
    refine ⟨str_tru x, ?_⟩
    show (((st x).length : Nat) : Int) < 2 ^ 63
    rw [st_len]
    have := szOk_le (show szOk x = true from f)
    have := line63
    omega
  | tup us =>
    refine ⟨?_, ?_⟩
    · show (!(us.map (toD h n)).isEmpty) = !nilB us
      rw [nilB_eq]
      cases us <;> rfl
    · show (((us.map (toD h n)).length : Nat) : Int) < 2 ^ 63
      rw [List.length_map]
      have := szOk_le (show szOk us = true from f)
      have := line63
      omega
  | ref j => cases f
  | con w => cases e
def gAll : List U → Hq → Option (U × Hq) := fun xs h => match xs with
  | [x] => (match x with
    | .tup us => (match okD h dp60 x, allB fitU us with | true, true => some (.bl (allB truD us), h) | _, _ => none)
    | .ref j => (match getL h j with | some us => (match okD h dp60 x, allB fitU us with | true, true => some (.bl (allB truD us), h) | _, _ => none) | none => none)
    | _ => none)
  | _ => none
theorem all_map {n : Nat} : ∀ {us : List U}, allB (okD h (n + 1)) us = true → allB fitU us = true → (us.map (toD h (n + 1))).all PyData.truthy = allB truD us ∧ ∀ x ∈ us.map (toD h (n + 1)), PyData.fits63 x
  | [], _, _ => ⟨rfl, fun _ hx => nomatch hx⟩
  | u :: us, h1, h2 => by
    have a1 := allB_all h1 u (List.mem_cons_self ..)
    have a2 := allB_all h2 u (List.mem_cons_self ..)
    have h1' : allB (okD h (n + 1)) us = true := by unfold allB at h1; rw [a1] at h1; exact h1
    have h2' : allB fitU us = true := by unfold allB at h2; rw [a2] at h2; exact h2
    obtain ⟨b1, b2⟩ := all_map h1' h2'
    obtain ⟨c1, c2⟩ := truD_eq a1 a2
    refine ⟨?_, fun x hx => ?_⟩
    · rw [List.map_cons, List.all_cons, c1, b1]
      show _ = (match truD u with | true => allB truD us | false => false)
      cases truD u <;> rfl
    · rw [List.map_cons] at hx
      rcases List.mem_cons.mp hx with rfl | hx
      · exact c2
      · exact b2 x hx
theorem simc_all : SimC K (rAllD K false) gAll := fun m h H xs vs u h' Q R q e o => by
  unfold gAll at e
  split at e
  · obtain ⟨v, rfl, q1⟩ := one q
    split at e
    · split at e
      · rename_i h1 h2
        cases e
        obtain ⟨d1, d2, _⟩ := dp_of R dp60 _ v h1 q1
        obtain ⟨a, ws, rfl, hs, r⟩ := q1
        obtain ⟨b1, b2⟩ := all_map (n := 38) h1 h2
        refine ⟨a, _, rfl, .inr d1, d2, b2, ?_⟩
        refine o m H _ .refl R ?_
        show V.bl _ = V.bl _
        rw [← b1]
        rfl
      · cases e
    · split at e
      · rename_i us q2
        split at e
        · rename_i h1 h2
          cases e
          obtain ⟨d1, d2, _⟩ := dp_of R dp60 _ v h1 q1
          obtain ⟨a, ws, ha, rfl, hs, r⟩ := R.ofL q2 q1
          obtain ⟨a1, a2⟩ := getL_dp q2 h1
          rw [a2] at d1 d2
          obtain ⟨b1, b2⟩ := all_map (n := 38) a1 h2
          refine ⟨a, us.map (toD h 39), rfl, .inl d1, d2, b2, ?_⟩
          refine o m H _ .refl R ?_
          show V.bl _ = V.bl _
          rw [← b1]
          rfl
        · cases e
      · cases e
    · cases e
  · cases e
/-! isinstance -/
inductive Ty where | non | bl | int | str | tup | lst | dct
def Ty.nm : Ty → String
  | .non => "NoneType" | .bl => "bool" | .int => "int" | .str => "str" | .tup => "tuple" | .lst => "list" | .dct => "dict"
def tyU (h : Hq) : U → Option Ty
  | .non => some .non
  | .bl _ => some .bl
  | .int _ => some .int
  | .str _ => some .str
  | .tup _ => some .tup
  | .ref j => (match h.get j with | some (.lst _) => some .lst | some (.dct _) => some .dct | _ => none)
  | .con _ => none
def isTy : Ty → Ty → Bool
  | .non, .non => true | .bl, .bl => true | .bl, .int => true | .int, .int => true | .str, .str => true | .tup, .tup => true | .lst, .lst => true | .dct, .dct => true
  | _, _ => false
theorem kit_all (K : PySem.W.Frag) (a b : Ty) (hb : b ≠ .non) : PySem.W.kitOne K (.type a.nm) (.type b.nm) = some (isTy a b) := by
  refine kit_ty ?_
  cases a <;> cases b <;> first | exact absurd rfl hb | decide +kernel
theorem sqT_tyX {a : Addr} {vs : List V} (t : SqT K H a vs) : TyX K H (.ref a) (.type "tuple") := by
  rcases t with (h | ⟨o, h⟩) | ⟨o, its, n, h, c, _⟩
  · exact .base (.tup h)
  · exact .fTuple h
  · exact .kTuple h c
theorem tyU_ok (R : RH K m H h) {u : U} {v : V} {t : Ty} (r : RU K m H u v) (e : tyU h u = some t) : TyX K H v (.type t.nm) := by
  cases u with
  | non => cases r; cases e; exact .base .non
  | bl b => cases r; cases e; exact .base (.bl b)
  | int i => cases r; cases e; exact .base (.int i)
  | str x => cases r; cases e; exact .base (.str _)
  | tup us =>
    obtain ⟨a, vs, rfl, hs, rr⟩ := r
    cases e
    exact sqT_tyX hs
  | ref j =>
    have e' : (match h.get j with | some (.lst _) => some Ty.lst | some (.dct _) => some Ty.dct | _ => none) = some t := e
    clear e
    split at e'
    · rename_i us q
      cases e'
      obtain ⟨a, ha, rfl, vs, h1, h2⟩ := R.of q r
      exact .base (.lst h1)
    · rename_i us q
      cases e'
      obtain ⟨a, ha, rfl, vs, h1, h2⟩ := R.of q r
      exact .base (.dK h1)
    · cases e'
  | con w => cases e
def tyOf : String → Option Ty
  | "str" => some .str | "tuple" => some .tup | "int" => some .int | "bool" => some .bl | "list" => some .lst | "dict" => some .dct
  | _ => none
/-- isinstance(x, T), T written in the program -/
def eIsi (b : Ty) (f : MF U) : MF U := fun env h => bnd (f env h) fun x h1 => match tyU h1 x with | some a => ret (.bl (isTy a b)) h1 | none => none
theorem sim_isi {b : Ty} (hb : b ≠ .non) {t : TE} {f : MF U} (s : Sim K E t f) : Sim K E (tCB (rIsi K) (tCons t (tCons (tC (.ty b.nm)) tNil))) (eIsi b f) := fun m h env σ H r Q re R e o => by
  refine s.on re R e o.x fun u h1 m1 H1 v e1 x1 R1 q1 => ?_
  split at e1
  · rename_i a q
    cases e1
    exact ⟨v, _, _, _, _, rfl, .ty _, tyU_ok R1 q1 q, kit_all K a b hb, o m1 H1 _ x1 R1 rfl⟩
  · cases e1
end QE
namespace L2
open PySem PySem.Spec PyProof.Rows
section
variable {X : Cx}
/-- the number of different ones -/
def dedI (ns : List Int) : List Int := ns.foldl (fun σ k => if σ.any (· == k) then σ else σ ++ [k]) []
theorem firstMet_all (ns : List Int) : firstMet (fun i => ns.getD i 0) ns.length = dedI ns := by
  unfold firstMet dedI
  have e : (List.range ns.length).map (fun i => ns.getD i 0) = ns := PySem.W.getD_map 0 ns
  rw [e]
  rfl
def tLenSetQ (K : PySem.W.Frag) (ta : TE) : TE := fun σ H Q => ta σ H fun x H1 => ∃ (l : Addr) (ns : List Int), x = .ref l ∧ SqL K H1 l (ns.map V.int) ∧ ns.length ≤ 1000 ∧ Q (.int ((dedI ns).length : Nat)) H1
theorem firstMet_le (ns : List Int) : (dedI ns).length ≤ ns.length := by
  rw [← firstMet_all]
  exact firstMet_length_le _ _
theorem pe_lenSetQ {X : Cx} {a : Expr} {ta : TE} {p p2 q pos : Pos} (hg : Gl X "len") (hm : X.mg "len" = none) (hg2 : Gl X "set") (hm2 : X.mg "set" = none) (ha : PE X a ta) (hc : X.calm = true := by rfl)
    (na : starEach [a] X.env = (false, eval a X.env) :: starEach [] X.env := by rfl) : PE X (.Call (.Name "len" p) [.Call (.Name "set" p2) [a] [] q] [] pos) (tLenSetQ X.K ta) := by
  refine ⟨fun pins s σ H Q I h => ?_⟩
  refine Call_ (ld_blt I hg hm boot_len ?_)
  refine PyProof.Rows.callWith_builtin1 (PyProof.Rows.args_cons ?_ rfl) rfl rfl
  refine Call_ (ld_blt I hg2 hm2 boot_set ?_)
  refine PyProof.Rows.callWith_type1 (PyProof.Rows.args_cons (thn (ha.run pins s σ H _ I h) fun v s1 ⟨x, H1, I1, r1, q1⟩ => PyProof.Rows.args_nil ?_) na) na rfl
  obtain ⟨l, ns, rfl, hq, hl, q1⟩ := q1
  cases r1
  obtain ⟨its, r, pl, hz⟩ := I1.list hq
  have hlen : its.toArray.size = ns.length := by rw [List.size_toArray, ← r.length, List.length_map]
  refine call_set_list (I1.ok.hd hc) pl.isList (by simpa using RZ.intsAre_vals r) (by rw [hlen]; unfold scanBound; omega) fun h' tk hS hk => ?_
  refine PyProof.Rows.args_nil ?_
  rw [hlen, firstMet_all] at hS
  obtain ⟨o, es, ep, t, ho, hex, hd, _, _, _, hf, hn⟩ := hS
  have I2 : Inv X pins σ H1 { s1 with heap := h', toks := tk } := I1.kept fun b o e => hk b o (Heap.lt_size e) e
  have := firstMet_le ns
  exact call_len_set ho hex hd hf (by rw [hn] <;> omega) ⟨.int (dedI ns).length, H1, I2.tok _, ⟨_, by rw [hn]⟩, q1⟩
end
/-- list of a list, a tuple, a dict -/
def rListQ (K : PySem.W.Frag) : List V → Hp → VK → Prop := fun xs H Q => (∃ p ys, xs = [.ref p] ∧ (SqL K H p ys ∨ SqT K H p ys) ∧ ∀ l, H l = none → Q (.ref l) (upd H l (.lst ys))) ∨ rListD xs H Q
theorem call_listQ {X : Cx} (hc : X.calm = true) : CallR X (.type "list") (rListQ X.K) := call_list_of.or (call_list_dK hc)
end L2

namespace QE
open PySem L2
variable {K : PySem.W.Frag} {m m' m2 : Mp} {H H' H2 : Hp} {h h' : Hq} {E : XK}

/-! the number of different keys of a tuple -/
instance keyMem (k : Key) (ks : List Key) : Decidable (k ∈ ks) := @List.instDecidableMemOfLawfulBEq Key instBEqOfDecidableEq inferInstance k ks
def memQ (x : U) : List U → Bool
  | [] => false
  | y :: r => match kEq y x with | true => true | false => memQ x r
def cntQ : List U → List U → Nat
  | _, [] => 0
  | seen, y :: r => match memQ y seen with | true => cntQ (y :: seen) r | false => Nat.succ (cntQ (y :: seen) r)
def keysQ : List U → Bool
  | [] => true
  | u :: r => match isKey u with | true => keysQ r | false => false
theorem keysQ_ok : ∀ {us : List U}, keysQ us = true → ∃ ks, uKeys us = some ks
  | [], _ => ⟨[], rfl⟩
  | u :: r, h => by
    unfold keysQ at h
    split at h
    · rename_i q
      obtain ⟨k, hk⟩ := isKey_ok q
      obtain ⟨ks, hks⟩ := keysQ_ok h
      exact ⟨k :: ks, by unfold uKeys; rw [hk, hks]⟩
    · cases h
theorem uKeys_cons {u : U} {us : List U} {ks : List Key} (e : uKeys (u :: us) = some ks) : ∃ k r, ks = k :: r ∧ uKey u = some k ∧ uKeys us = some r := by
  unfold uKeys at e
  split at e
  · rename_i k r q1 q2
    cases e
    exact ⟨k, r, rfl, q1, q2⟩
  · cases e
theorem ru_keys : ∀ {us : List U} {vs : List V} {ks : List Key}, RUs K m H us vs → uKeys us = some ks → vs = ks.map kV
  | [], vs, ks, r, e => by cases e; exact r
  | u :: us, vs, ks, r, e => by
    obtain ⟨k, r', rfl, e1, e2⟩ := uKeys_cons e
    obtain ⟨v, w, rfl, q1, q2⟩ := r
    rw [ru_key q1 e1, ru_keys q2 e2]
    rfl
theorem memQ_ok {x : U} {k : Key} (hx : uKey x = some k) : ∀ {us : List U} {ks : List Key}, uKeys us = some ks → memQ x us = decide (k ∈ ks)
  | [], ks, e => by cases e; simp [memQ]
  | u :: us, ks, e => by
    obtain ⟨q, r, rfl, e1, e2⟩ := uKeys_cons e
    unfold memQ
    rw [kEq_eq e1 hx, memQ_ok hx e2]
    by_cases z : q = k
    · subst z; simp
    · have z2 : ¬ k = q := fun w => z w.symm
      simp [z, z2]
theorem cntQ_ok : ∀ {us seen : List U} {ks sk : List Key}, uKeys us = some ks → uKeys seen = some sk → cntD (sk.reverse ++ ks) (sk.length + ks.length) = cntD (sk.reverse ++ ks) sk.length + cntQ seen us
  | [], seen, ks, sk, e1, e2 => by cases e1; simp [cntQ]
  | u :: us, seen, ks, sk, e1, e2 => by
    obtain ⟨k, r, rfl, a1, a2⟩ := uKeys_cons e1
    have e3 : uKeys (u :: seen) = some (k :: sk) := by unfold uKeys; rw [a1, e2]
    have ih := cntQ_ok (us := us) (seen := u :: seen) a2 e3
    have l1 : (k :: sk).reverse ++ r = sk.reverse ++ k :: r := by simp
    rw [l1] at ih
    have l2 : sk.length + (k :: r).length = (k :: sk).length + r.length := by simp; omega
    rw [l2, ih]
    have step : cntD (sk.reverse ++ k :: r) (k :: sk).length = if k ∈ sk then cntD (sk.reverse ++ k :: r) sk.length else cntD (sk.reverse ++ k :: r) sk.length + 1 := by
      show cntD (sk.reverse ++ k :: r) (sk.length + 1) = _
      have g : (sk.reverse ++ k :: r)[sk.length]? = some k := by
        rw [List.getElem?_append_right (by simp)]
        simp
      have t : (sk.reverse ++ k :: r).take sk.length = sk.reverse := by
        rw [List.take_append_of_le_length (by simp)]
        have : sk.length = sk.reverse.length := by simp
        rw [this, List.take_length]
      rw [cntD, g]
      simp only [t, List.mem_reverse]
    rw [step]
    show _ = _ + (match memQ u seen with | true => cntQ (u :: seen) us | false => Nat.succ (cntQ (u :: seen) us))
    rw [memQ_ok a1 e2]
    by_cases z : k ∈ sk
    · rw [if_pos z, decide_eq_true z]
    · rw [if_neg z, decide_eq_false z]
      show _ = _ + Nat.succ (cntQ (u :: seen) us)
      omega
theorem cntQ_all {us : List U} {ks : List Key} (e : uKeys us = some ks) : cntD ks ks.length = cntQ [] us := by
  have := cntQ_ok (seen := []) (sk := []) e rfl
  simpa [cntD] using this
theorem uKeys_len : ∀ {us : List U} {ks : List Key}, uKeys us = some ks → us.length = ks.length
  | [], ks, e => by cases e; rfl
  | u :: us, ks, e => by
    obtain ⟨k, r, rfl, _, e2⟩ := uKeys_cons e
    simp [uKeys_len e2]
def lenSmall (us : List U) : Bool := lenOk 1000 us
def eLenSetT (f : MF U) : MF U := fun env h => bnd (f env h) fun u h1 => match u with
  | .tup us => (match keysQ us, lenSmall us with | true, true => ret (.int (Int.ofNat (cntQ [] us))) h1 | _, _ => none)
  | _ => none
theorem sim_lenSetT {P : Program} {w : World} {t : TE} {f : MF U} (s : Sim K E t f) : Sim K E (tCB (rLenK P w) (tCons (tCB (rSetTK K P w) (tCons t tNil)) tNil)) (eLenSetT f) := fun m h env σ H r Q re R e o => by
  refine s.on re R e o.x fun u h1 m1 H1 v e1 x1 R1 q1 => ?_
  split at e1
  · split at e1
    · rename_i hk hl
      cases e1
      obtain ⟨ks, hks⟩ := keysQ_ok hk
      obtain ⟨a, vs, rfl, hs, r⟩ := q1
      have ev := ru_keys r hks
      subst ev
      have hlen := lenOk_le hl
      rw [uKeys_len hks] at hlen
      refine ⟨a, ks, rfl, hs, by show ks.length + 1 < 4096; omega, fun p hp => ⟨p, _, _, rfl, upd_same, ?_⟩⟩
      rw [cntQ_all hks]
      obtain ⟨e2, R2⟩ := R1.fresh (o := SetK P w p (memD ks) (cntQ [] _)) hp
      exact o m1 _ _ (x1.trans e2) R2 rfl
    · cases e1
  · cases e1
/-! the number of different ints of a list -/
def intsQ : List U → Option (List Int)
  | [] => some []
  | .int i :: r => (match intsQ r with | some is => some (i :: is) | none => none)
  | _ => none
theorem intsQ_ok : ∀ {us : List U} {vs : List V} {is : List Int}, intsQ us = some is → RUs K m H us vs → vs = is.map V.int
  | [], vs, is, e, r => by cases e; exact r
  | u :: us, vs, is, e, r => by
    obtain ⟨v, w, rfl, q1, q2⟩ := r
    unfold intsQ at e
    split at e
    · rename_i z; cases z
    · rename_i i r' z
      cases z
      split at e
      · rename_i js q
        cases e
        cases q1
        rw [intsQ_ok q q2]
        rfl
      · cases e
    · cases e
def memI (k : Int) : List Int → Bool
  | [] => false
  | a :: r => match iEq a k with | true => true | false => memI k r
def dedQ : List Int → List Int → List Int
  | acc, [] => acc
  | acc, k :: r => match memI k acc with | true => dedQ acc r | false => dedQ (acc ++ [k]) r
theorem memI_eq (k : Int) : ∀ acc, memI k acc = acc.any (· == k)
  | [] => rfl
  | a :: r => by
    unfold memI
    rw [iEq_eq, List.any_cons, memI_eq k r]
    cases (a == k) <;> rfl
theorem dedQ_eq : ∀ (ns acc : List Int), dedQ acc ns = ns.foldl (fun σ k => if σ.any (· == k) then σ else σ ++ [k]) acc
  | [], acc => rfl
  | k :: r, acc => by
    unfold dedQ
    rw [memI_eq, List.foldl_cons]
    cases z : acc.any (· == k) with
    | true => simp only [if_true]; exact dedQ_eq r acc
    | false => simp only [Bool.false_eq_true, if_false]; exact dedQ_eq r (acc ++ [k])
def eLenSetI (f : MF U) : MF U := fun env h => bnd (f env h) fun u h1 => match u with
  | .ref j => (match getL h1 j with
    | some us => (match intsQ us, lenSmall us with | some ns, true => ret (.int (Int.ofNat (dedQ [] ns).length)) h1 | _, _ => none)
    | none => none)
  | _ => none
theorem intsQ_len : ∀ {us : List U} {is : List Int}, intsQ us = some is → us.length = is.length
  | [], is, e => by cases e; rfl
  | u :: us, is, e => by
    unfold intsQ at e
    split at e
    · rename_i z; cases z
    · rename_i i r' z
      cases z
      split at e
      · rename_i js q
        cases e
        simp [intsQ_len q]
      · cases e
    · cases e
theorem sim_lenSetI {t : TE} {f : MF U} (s : Sim K E t f) : Sim K E (tLenSetQ K t) (eLenSetI f) := fun m h env σ H r Q re R e o => by
  refine s.on re R e o.x fun u h1 m1 H1 v e1 x1 R1 q1 => ?_
  split at e1
  · split at e1
    · rename_i us q2
      split at e1
      · rename_i ns hn hl
        cases e1
        obtain ⟨a, vs, ha, rfl, hs, r⟩ := R1.ofL q2 q1
        have ev := intsQ_ok hn r
        subst ev
        have hlen := lenOk_le hl
        rw [intsQ_len hn] at hlen
        refine ⟨a, ns, rfl, hs, hlen, ?_⟩
        have : dedI ns = dedQ [] ns := (dedQ_eq ns []).symm
        rw [this]
        exact o m1 H1 _ x1 R1 rfl
      · cases e1
    · cases e1
  · cases e1
/-! list(..) -/
def keysOf : List (U × U) → List U
  | [] => []
  | (k, _) :: r => k :: keysOf r
def valsOf : List (U × U) → List U
  | [] => []
  | (_, u) :: r => u :: valsOf r
theorem ru_keysOf : ∀ {kvs : List (U × U)} {vs : List (Key × V)}, RKv K m H kvs vs → RUs K m H (keysOf kvs) (vs.map fun kv => kV kv.1)
  | [], vs, r => by rw [show vs = [] from r]; exact rfl
  | (k, u) :: kvs, vs, r => by
    obtain ⟨q, v, ws, rfl, hk, h1, h2⟩ := r
    exact ⟨kV q, _, rfl, ru_kV hk, ru_keysOf h2⟩
theorem ru_valsOf : ∀ {kvs : List (U × U)} {vs : List (Key × V)}, RKv K m H kvs vs → RUs K m H (valsOf kvs) (vs.map (·.2))
  | [], vs, r => by rw [show vs = [] from r]; exact rfl
  | (k, u) :: kvs, vs, r => by
    obtain ⟨q, v, ws, rfl, hk, h1, h2⟩ := r
    exact ⟨v, _, rfl, h1, ru_valsOf h2⟩
def gList : List U → Hq → Option (U × Hq) := fun xs h => match xs with
  | [.tup us] => mk (.lst us) h
  | [.ref j] => (match h.get j with
    | some (.dct kvs) => mk (.lst (keysOf kvs)) h
    | _ => (match getL h j with | some us => mk (.lst us) h | none => none))
  | _ => none
theorem simc_list : SimC K (rListQ K) gList := fun m h H xs vs u h' Q R q e o => by
  unfold gList at e
  split at e
  · obtain ⟨hn, rfl, rfl⟩ := mk_inv e
    obtain ⟨v, rfl, a, ws, rfl, hs, r⟩ := one q
    refine .inl ⟨a, ws, rfl, .inr hs, fun p hp => ?_⟩
    obtain ⟨e3, R3, u3⟩ := R.laid (o := .lst _) (ho := .lst ws) hn hp fun m' H' x hp' => ⟨_, hp', r.mono x⟩
    exact o _ _ _ e3 R3 u3
  · obtain ⟨v, rfl, q1⟩ := one q
    split at e
    · rename_i kvs q2
      obtain ⟨hn, rfl, rfl⟩ := mk_inv e
      obtain ⟨a, ha, rfl, ws, h1, h2⟩ := R.of q2 q1
      refine .inr ⟨a, ws, rfl, h1, fun p hp => ?_⟩
      obtain ⟨e3, R3, u3⟩ := R.laid (o := .lst (keysOf kvs)) (ho := .lst (ws.map fun kv => kV kv.1)) hn hp fun m' H' x hp' => ⟨_, hp', ru_keysOf (h2.mono x)⟩
      exact o _ _ _ e3 R3 u3
    · split at e
      · rename_i us q2
        obtain ⟨hn, rfl, rfl⟩ := mk_inv e
        obtain ⟨a, ws, ha, rfl, hs, r⟩ := R.ofL q2 q1
        refine .inl ⟨a, ws, rfl, .inl hs, fun p hp => ?_⟩
        obtain ⟨e3, R3, u3⟩ := R.laid (o := .lst _) (ho := .lst ws) hn hp fun m' H' x hp' => ⟨_, hp', r.mono x⟩
        exact o _ _ _ e3 R3 u3
      · cases e
  · cases e
/-- list(d.values()) -/
def eListVals (f : MF U) : MF U := fun env h => bnd (f env h) fun u h1 => match u with
  | .ref j => (match h1.get j with | some (.dct kvs) => lf (mk (.lst (valsOf kvs)) h1) | _ => none)
  | _ => none
theorem mut_dK {kvs : List (Key × V)} : Mut (some (.dK kvs)) := trivial
theorem sim_listVals {t : TE} {f : MF U} (s : Sim K E t f) : Sim K E (tCB rListVals (tCons (tBM0 K "dict" rValues t) tNil)) (eListVals f) := fun m h env σ H r Q re R e o => by
  refine s.on re R e o.x fun u h1 m1 H1 v e1 x1 R1 q1 => ?_
  split at e1
  · split at e1
    · rename_i kvs q2
      obtain ⟨u, h2, e2, rfl⟩ := lf_inv e1
      obtain ⟨hn, rfl, rfl⟩ := mk_inv e2
      obtain ⟨a, ha, rfl, ws, hw, hr⟩ := R1.of q2 q1
      refine ⟨.inr (.inr (.inl ⟨rfl, .inl ⟨ws, hw⟩⟩)), a, ws, rfl, rfl, hw, fun p hp => ?_⟩
      obtain ⟨x2, R2⟩ := R1.fresh (o := valuesO p a) hp
      have hpa : a ≠ p := ne_of_none hw hp
      refine ⟨p, a, ws, rfl, upd_same, by rw [upd_ne hpa]; exact hw, fun q hq => ?_⟩
      obtain ⟨e3, R3, u3⟩ := R2.laid (o := .lst (valsOf kvs)) (ho := .lst (ws.map (·.2))) hn hq fun m' H' x hp' => ⟨_, hp', ru_valsOf (hr.mono (x2.trans x))⟩
      exact o _ _ _ ((x1.trans x2).trans e3) R3 u3
    · cases e1
  · cases e1
/-! methods of texts -/
def strsQ : List U → Option (List (List Nat))
  | [] => some []
  | .str x :: r => (match strsQ r with | some xs => some (x :: xs) | none => none)
  | _ => none
theorem strsQ_ok : ∀ {us : List U} {vs : List V} {xs : List (List Nat)}, strsQ us = some xs → RUs K m H us vs → vs = (xs.map st).map V.str
  | [], vs, xs, e, r => by cases e; exact r
  | u :: us, vs, xs, e, r => by
    obtain ⟨v, w, rfl, q1, q2⟩ := r
    unfold strsQ at e
    split at e
    · rename_i z; cases z
    · rename_i i r' z
      cases z
      split at e
      · rename_i js q
        cases e
        cases q1
        rw [strsQ_ok q q2]
        rfl
      · cases e
    · cases e
def catQ : List (List Nat) → List Nat
  | [] => []
  | x :: r => x ++ catQ r
def sumQ : List (List Nat) → Nat
  | [] => 0
  | x :: r => x.length + sumQ r
theorem tl_st (x : List Nat) : TL.tl (st x) = x := rfl
theorem joinL_nil : ∀ xs : List (List Nat), TL.joinL [] xs = catQ xs
  | [] => rfl
  | [p] => by simp [TL.joinL, catQ]
  | p :: q :: r => by
    show p ++ ([] ++ TL.joinL [] (q :: r)) = p ++ catQ (q :: r)
    rw [joinL_nil (q :: r), List.nil_append]
theorem join_nil (xs : List (List Nat)) : Txt.join (st []) (xs.map st) = st (catQ xs) := by
  rw [TL.join_eq]
  have e := TL.tl_join (st []) (xs.map st)
  rw [List.map_map, tl_st, joinL_nil] at e
  have e2 : TL.tl (Str.join (st []) (xs.map st)) = catQ xs := by
    rw [e]
    congr 1
    exact (List.map_congr_left fun x _ => rfl).trans (List.map_id _)
  have : ∀ z : Str, st (TL.tl z) = z := by
    intro z
    unfold st
    show (⟨z.cps.toList.toArray⟩ : Str) = z
    simp
  rw [← this (Str.join (st []) (xs.map st)), e2]
end QE
/-! QK: methods of texts, dict comprehensions, bits -/
namespace QE
open PySem L2
variable {K : PySem.W.Frag} {m m' m2 : Mp} {H H' H2 : Hp} {h h' : Hq} {E : XK}

/-- ''.join(xs) -/
def rJoin (K : PySem.W.Frag) : V → List V → Hp → VK → Prop := fun x xs H Q => ∃ a p, ∃ ys : List Str, x = .str a ∧ xs = [.ref p] ∧ (SqL K H p (ys.map V.str) ∨ SqT K H p (ys.map V.str)) ∧ (ys.map (·.length)).sum + ys.length * a.length ≤ 16777216 ∧ Q (.str (Txt.join a ys)) H
theorem sum_len : ∀ xs : List (List Nat), ((xs.map st).map (·.length)).sum = sumQ xs
  | [] => rfl
  | x :: r => by
    show (st x).length + ((r.map st).map (·.length)).sum = x.length + sumQ r
    rw [st_len, sum_len r]
def joinU (us : List U) (h : Hq) : Option (List Nat) := match us with
  | [.tup ys] => (match strsQ ys with | some xs => (match Nat.ble (sumQ xs) 16777216 with | true => some (catQ xs) | false => none) | none => none)
  | [.ref j] => (match getL h j with
    | some ys => (match strsQ ys with | some xs => (match Nat.ble (sumQ xs) 16777216 with | true => some (catQ xs) | false => none) | none => none)
    | none => none)
  | _ => none
def eJoin (fx : MF U) (f : MF (List U)) : MF U := fun env h => bnd (fx env h) fun s h1 => match s with
  | .str [] => (match f env h1 with
    | some (.ok us, h2) => (match joinU us h2 with | some x => ret (.str x) h2 | none => none)
    | _ => none)
  | _ => none
theorem sim_join {to : TE} {t : TA} {fx : MF U} {f : MF (List U)} (sx : Sim K E to fx) (s : SimA K E t f) : Sim K E (tBM K "str" (rJoin K) to t) (eJoin fx f) := fun m h env σ H r Q re R e o => by
  refine sx.on re R e o.x fun x h1 m1 H1 vx e1 x1 R1 q1 => ?_
  have o1 := o.mono x1
  split at e1
  · cases q1
    split at e1
    · rename_i us h2 e2
      split at e1
      · rename_i z hz
        cases e1
        refine ⟨rfl, s m1 h1 env σ H1 _ _ (re.mono x1) R1 e2 fun m2 H2 vs x2 R2 q2 => ?_⟩
        unfold joinU at hz
        split at hz
        · split at hz
          · rename_i xs q
            split at hz
            · rename_i hl
              cases hz
              obtain ⟨v, rfl, a, ws, rfl, hs, r⟩ := one q2
              have ev := strsQ_ok q r
              subst ev
              refine ⟨_, a, xs.map st, rfl, rfl, .inr hs, ?_, ?_⟩
              · rw [sum_len]
                have := Nat.le_of_ble_eq_true hl
                show sumQ xs + (xs.map st).length * 0 ≤ _
                omega
              · rw [join_nil]
                exact o1 m2 H2 _ x2 R2 rfl
            · cases hz
          · cases hz
        · split at hz
          · rename_i ys q0
            split at hz
            · rename_i xs q
              split at hz
              · rename_i hl
                cases hz
                obtain ⟨v, rfl, q3⟩ := one q2
                obtain ⟨a, ws, ha, rfl, hs, r⟩ := R2.ofL q0 q3
                have ev := strsQ_ok q r
                subst ev
                refine ⟨_, a, xs.map st, rfl, rfl, .inl hs, ?_, ?_⟩
                · rw [sum_len]
                  have := Nat.le_of_ble_eq_true hl
                  show sumQ xs + (xs.map st).length * 0 ≤ _
                  omega
                · rw [join_nil]
                  exact o1 m2 H2 _ x2 R2 rfl
              · cases hz
            · cases hz
          · cases hz
        · cases hz
      · cases e1
    · cases e1
  · cases e1
/-- x.isascii() and its like -/
def rStr0 (g : Str → Bool) : V → List V → Hp → VK → Prop := fun x xs H Q => ∃ a, x = .str a ∧ xs = [] ∧ True ∧ Q (.bl (g a)) H
def eStr0 (g : List Nat → Bool) (f : MF U) : MF U := fun env h => bnd (f env h) fun u h1 => match u with | .str x => ret (.bl (g x)) h1 | _ => none
theorem sim_str0 {g : Str → Bool} {g' : List Nat → Bool} (hg : ∀ x, g (st x) = g' x) {t : TE} {f : MF U} (s : Sim K E t f) : Sim K E (tBM0 K "str" (rStr0 g) t) (eStr0 g' f) := fun m h env σ H r Q re R e o => by
  refine s.on re R e o.x fun u h1 m1 H1 v e1 x1 R1 q1 => ?_
  split at e1
  · rename_i x
    cases e1
    cases q1
    exact ⟨rfl, st x, rfl, rfl, trivial, by rw [hg]; exact o m1 H1 _ x1 R1 rfl⟩
  · cases e1
/-! dict comprehensions, the keys ints and texts -/
def dcL (nx : NX) (g : GF) (t : MF Bool) (fk fv : MF U) (n : Nat) (env : Env) : Nat → Nat → Hq → Option Hq
  | 0, _, _ => none
  | k + 1, i, h => match nx i h with
    | none => none
    | some none => some h
    | some (some u) => match g u env h with
      | some (.ok env1, h1) => (match t env1 h1 with
        | some (.ok true, h2) => (match fk env1 h2 with
          | some (.ok y, h3) => (match fv env1 h3 with
            | some (.ok z, h4) => (match h4.get n with
              | some (.dct kvs) => (match isKey y, kNd kvs, szOk kvs with | true, true, true => dcL nx g t fk fv n env k (Nat.succ i) (h4.set n (.dct (dput kvs y z))) | _, _, _ => none)
              | _ => none)
            | _ => none)
          | _ => none)
        | some (.ok false, h2) => dcL nx g t fk fv n env k (Nat.succ i) h2
        | _ => none)
      | _ => none
def eDc (fi : MF NX) (g : GF) (t : MF Bool) (fk fv : MF U) (vs : List Nat) : MF U := fun env h => bnd (fi env h) fun nx h1 => match mk (.dct []) h1 with
  | some (u, h2) => (match dcL nx g t fk fv h1.n (wipeE env vs) fuel 0 h2 with | some h3 => ret u h3 | none => none)
  | none => none
theorem sim_dc {wi : TI} {g : TG} {tt : TT} {tk tv : TE} {vs : List Nat} {fi : MF NX} {gf : GF} {t : MF Bool} {fk fv : MF U} (si : SimI K E wi fi) (sg : SimG K E0 g gf) (go : GO vs g) (stt : SimT K E0 tt t) (sk : Sim K E0 tk fk) (sv : Sim K E0 tv fv) : Sim K E (tDc wi g tt tk tv vs) (eDc fi gf t fk fv vs) := fun m h env σ H r Q re R e o => by
  rcases bnd_inv e with ⟨nx, h1, e1, e2⟩ | ⟨C, fs, h1, e1, rfl⟩
  · refine si m h env σ H _ _ re R e1 fun m1 H1 J x1 R1 ij D hD => ?_
    split at e2
    · rename_i u h2 q2
      split at e2
      · rename_i h3 q3
        cases e2
        obtain ⟨hn, rfl, rfl⟩ := mk_inv q2
        obtain ⟨x2, R2, u2⟩ := R1.laid (o := .dct []) (ho := .dK []) hn hD fun m' H' x hp' => ⟨[], hp', rfl⟩
        refine ⟨fun i k H' => ∃ m' h', Ext K (madd m1 h1.n D) (upd H1 D (.dK [])) m' H' ∧ RH K m' H' h' ∧ dcL nx gf t fk fv h1.n (wipeE env vs) k i h' = some h3, ⟨fuel, _, _, .refl, R2, q3⟩, ?_⟩
        rintro i k H' ⟨m', h', x3, R3, e3⟩
        have x13 := x2.trans x3
        have x03 := x1.trans x13
        cases k with
        | zero => cases e3
        | succ k =>
          unfold dcL at e3
          split at e3
          · cases e3
          · rename_i q
            cases e3
            exact .inl ⟨ij.stop i m' H' _ x13 R3 q, o m' H' _ x03 R3 ⟨D, x3.mm _ _ madd_same, rfl⟩⟩
          · rename_i w q
            obtain ⟨hg, hy⟩ := ij.go i m' H' h' w x13 R3 q
            refine .inr ⟨hg, fun H2 => ∃ m2 h2, Ext K (madd m1 h1.n D) (upd H1 D (.dK [])) m2 H2 ∧ RH K m2 H2 h2 ∧ dcL nx gf t fk fv h1.n (wipeE env vs) k (i + 1) h2 = some h3, fun H2 z => ⟨k, Nat.lt_succ_self k, z⟩, fun y H4 hyy => ?_⟩
            obtain ⟨x4, R4, u4⟩ := hy y H4 hyy
            split at e3
            · rename_i env1 h5 q5
              have re4 := (re.mono (x03.trans x4)).wipe vs
              refine go.m _ _ _ _ _ (fun s5 H5 z => ⟨z.1.trans wipe_wipe, z.2⟩) (go.o y (L2.wipe σ vs) H4 _ (sg m' h' _ _ H4 w y _ _ re4 R4 u4 q5 fun m5 H5 σ5 x5 R5 re5 => ?_))
              have x35 := (x3.trans x4).trans x5
              split at e3
              · rename_i h6 q6
                refine stt m5 h5 env1 σ5 H5 _ _ re5 R5 q6 fun m6 H6 x6 R6 => iteT ?_
                split at e3
                · rename_i z h7 q7
                  refine sk m6 h6 env1 σ5 H6 _ _ (re5.mono x6) R6 q7 fun m7 H7 vz x7 R7 u7 => ?_
                  split at e3
                  · rename_i w9 h9 q9
                    refine sv m7 h7 env1 σ5 H7 _ _ (re5.mono (x6.trans x7)) R7 q9 fun m9 H9 vw x9 R9 u9 => ?_
                    split at e3
                    · rename_i kvs q8
                      split at e3
                      · rename_i hk hnd hz
                        have x39 := ((x35.trans x6).trans x7).trans x9
                        obtain ⟨key, hkey⟩ := isKey_ok hk
                        obtain ⟨a, ha, ea, va, hv1, hv2⟩ := R9.of q8 (v := .ref D) ⟨D, x39.mm _ _ madd_same, rfl⟩
                        cases ea
                        obtain ⟨x8, R8⟩ := R9.put (o := .dct (dput kvs z w9)) (ho := .dK (putK va key vw)) ha hv1 trivial ⟨_, upd_same, (dput_ok hkey u9 hv2 (kNd_ok hv2 hnd)).mono (Ext.upd ha ⟨_, hv1, trivial⟩)⟩
                        exact ⟨va, key, ru_key u7 hkey, hv1, by rw [← hv2.len]; exact szOk_le hz, m9, _, x39.trans x8, R8, e3⟩
                      · cases e3
                    · cases e3
                  · cases e3
                · cases e3
              · rename_i h6 q6
                refine stt m5 h5 env1 σ5 H5 _ _ re5 R5 q6 fun m6 H6 x6 R6 => iteF ?_
                exact ⟨m6, h6, x35.trans x6, R6, e3⟩
              · cases e3
            · cases e3
      · cases e2
    · cases e2
  · exact si m h env σ H _ _ re R e1 o
/-! bits -/
def cShl (i j : Int) : Bool := match i, j with
  | .ofNat a, .ofNat b => (match Nat.blt a 18446744073709551616 with | true => Nat.ble b 1000000 | false => false)
  | _, _ => false
theorem cShl_ok : ∀ i j, cShl i j = true → CPow i j := fun i j e => by
  cases i with
  | ofNat a => cases j with
    | ofNat b =>
      have e' : (match Nat.blt a 18446744073709551616 with | true => Nat.ble b 1000000 | false => false) = true := e
      split at e'
      · rename_i q
        have h1 := Nat.le_of_ble_eq_true q
        have h2 := Nat.le_of_ble_eq_true e'
        refine ⟨Int.natCast_nonneg b, ?_, ?_⟩
        · show (b : Int) ≤ 1000000
          omega
        · show a < 2 ^ 64
          omega
      · cases e'
    | negSucc b => cases e
  | negSucc a => cases e
def fShl (i j : Int) : Int := match i, j with
  | .ofNat a, .ofNat b => .ofNat (a * 2 ^ b)
  | i, j => i * 2 ^ j.toNat
theorem simr_IC2 {C : Int → Int → Prop} {c : Int → Int → Bool} {f g : Int → Int → Int} (hc : ∀ i j, c i j = true → C i j) (hf : ∀ i j, c i j = true → f i j = g i j) : SimR K (rI C fun i j => .int (f i j)) (gIC c g) := fun m h H x y vx vy u h' Q R qx qy e o => by
  unfold gIC at e
  split at e
  · split at e
    · rename_i q
      cases e
      cases qx
      cases qy
      exact ⟨_, _, rfl, rfl, hc _ _ q, o m H _ .refl R (congrArg V.int (hf _ _ q))⟩
    · cases e
  · cases e
theorem simr_shl : SimR K (rI CPow fun i j => .int (i * 2 ^ j.toNat)) (gIC cShl fShl) := simr_IC2 cShl_ok fun i j e => by
  cases i with
  | ofNat a => cases j with
    | ofNat b =>
      show (a : Int) * 2 ^ b = ((a * 2 ^ b : Nat) : Int)
      simp
    | negSucc b => cases e
  | negSucc a => cases e
def cMul (i j : Int) : Bool := match i, j with
  | .ofNat a, .ofNat b => (match Nat.blt a 18446744073709551616 with | true => true | false => Nat.blt b 18446744073709551616)
  | _, _ => false
theorem simr_mul : SimR K (rI CMul fun i j => .int (i * j)) (gIC cMul (· * ·)) := simr_IC _ fun i j e => by
  cases i with
  | ofNat a => cases j with
    | ofNat b =>
      have e' : (match Nat.blt a 18446744073709551616 with | true => true | false => Nat.blt b 18446744073709551616) = true := e
      split at e'
      · rename_i q
        have h1 := Nat.le_of_ble_eq_true q
        left
        constructor
        · show _ < (a : Int); omega
        · show (a : Int) < _; omega
      · have h1 := Nat.le_of_ble_eq_true e'
        right
        constructor
        · show _ < (b : Int); omega
        · show (b : Int) < _; omega
    | negSucc b => cases e
  | negSucc a => cases e
def cDiv (_ j : Int) : Bool := match j with
  | .ofNat b => (match Nat.blt 0 b with | true => Nat.blt b 1073741824 | false => false)
  | _ => false
theorem cDiv_ok : ∀ i j, cDiv i j = true → CDiv i j := fun i j e => by
  cases j with
  | ofNat b =>
    have e' : (match Nat.blt 0 b with | true => Nat.blt b 1073741824 | false => false) = true := e
    split at e'
    · rename_i q
      have h1 := Nat.le_of_ble_eq_true q
      have h2 := Nat.le_of_ble_eq_true e'
      constructor
      · show (0 : Int) < (b : Int); omega
      · show (b : Int) < _; omega
    · cases e'
  | negSucc b => cases e
theorem simr_fdiv : SimR K (rI CDiv fun i j => .int (i / j)) (gIC cDiv (· / ·)) := simr_IC _ cDiv_ok
def cPos (_ j : Int) : Bool := match j with | .ofNat b => Nat.blt 0 b | _ => false
theorem simr_mod : SimR K (rI (fun _ j => 0 < j) fun i j => .int (i % j)) (gIC cPos (· % ·)) := simr_IC _ fun i j e => by
  cases j with
  | ofNat b =>
    have := Nat.le_of_ble_eq_true (show Nat.blt 0 b = true from e)
    show (0 : Int) < (b : Int)
    omega
  | negSucc b => cases e
theorem simr_and : SimR K (rI0 fun i j => .int (Builtin.bitAnd i j)) (gI Builtin.bitAnd) := simr_I _
theorem simr_or : SimR K (rI0 fun i j => .int (Builtin.bitOr i j)) (gI Builtin.bitOr) := simr_I _
theorem simr_xor : SimR K (rI0 fun i j => .int (Builtin.bitXor i j)) (gI Builtin.bitXor) := simr_I _
end QE
/-! QL: what never runs; a def's promise with all that a call of it needs -/
namespace QE
open PySem L2
variable {K : PySem.W.Frag} {m m' m2 : Mp} {H H' H2 : Hp} {h h' : Hq} {E : XK}
def eNever : MF U := fun _ _ => none
theorem sim_never {t : TE} : Sim K E t eNever := fun m h env σ H r Q re R e o => by cases e
def eNeverT : MF Bool := fun _ _ => none
theorem sim_neverT {t : TT} : SimT K E t eNeverT := fun m h env σ H r Q re R e o => by cases e
/-- letters from a to z -/
def lowAll : List Nat → Bool
  | [] => true
  | c :: r => match Nat.ble 97 c with
    | true => (match Nat.ble c 122 with | true => lowAll r | false => false)
    | false => false
theorem lowAll_ok : ∀ {x : List Nat}, lowAll x = true → ∀ c ∈ x, 97 ≤ c ∧ c ≤ 122
  | [], _, c, h => by cases h
  | d :: r, e, c, h => by
    unfold lowAll at e
    split at e
    · rename_i q1
      split at e
      · rename_i q2
        rcases List.mem_cons.mp h with rfl | h
        · exact ⟨Nat.le_of_ble_eq_true q1, Nat.le_of_ble_eq_true q2⟩
        · exact lowAll_ok e c h
      · cases e
    · cases e
theorem low_facts : ∀ k, k < 26 → Unicode.isAlpha (97 + k) = true ∧ Unicode.isLower (97 + k) = true ∧ Unicode.isUpper (97 + k) = false ∧ Unicode.isTitle (97 + k) = false := by decide +kernel
theorem low_at {c : Nat} (h : 97 ≤ c ∧ c ≤ 122) : Unicode.isAlpha c = true ∧ Unicode.isLower c = true ∧ Unicode.isUpper c = false ∧ Unicode.isTitle c = false := by
  have := low_facts (c - 97) (by omega)
  rw [show 97 + (c - 97) = c by omega] at this
  exact this
def neB : List Nat → Bool
  | [] => false
  | _ => true
theorem low_ascii {x : List Nat} (h : lowAll x = true) : Txt.isascii (st x) = true := by
  show (x.toArray).all (· < 128) = true
  rw [List.all_toArray, List.all_eq_true]
  intro c hc
  have := lowAll_ok h c hc
  exact decide_eq_true (by omega)
theorem low_alpha {x : List Nat} (h : lowAll x = true) : Txt.isalpha (st x) = neB x := by
  cases x with
  | nil => rfl
  | cons a r =>
    show (decide ((st (a :: r)).length > 0) && ((a :: r).toArray).all Unicode.isAlpha) = true
    have e : ((a :: r).toArray).all Unicode.isAlpha = true := by
      rw [List.all_toArray, List.all_eq_true]
      exact fun c hc => (low_at (lowAll_ok h c hc)).1
    rw [e]
    have : (st (a :: r)).length > 0 := by
      show ((a :: r).toArray).size > 0
      simp
    rw [decide_eq_true this]
    rfl
theorem low_lower {x : List Nat} (h : lowAll x = true) : Txt.islower (st x) = neB x := by
  cases x with
  | nil => decide +kernel
  | cons a r =>
    show (((a :: r).toArray).any Unicode.isLower && !((a :: r).toArray).any fun c => Unicode.isUpper c || Unicode.isTitle c) = true
    have e1 : ((a :: r).toArray).any Unicode.isLower = true := by
      rw [List.any_toArray, List.any_eq_true]
      exact ⟨a, List.mem_cons_self .., (low_at (lowAll_ok h a (List.mem_cons_self ..))).2.1⟩
    have e2 : (((a :: r).toArray).any fun c => Unicode.isUpper c || Unicode.isTitle c) = false := by
      rw [List.any_toArray, List.any_eq_false]
      intro c hc
      obtain ⟨_, _, h3, h4⟩ := low_at (lowAll_ok h c hc)
      rw [h3, h4]
      simp
    rw [e1, e2]
    rfl
def q_isascii (x : List Nat) : Bool := match lowAll x with | true => true | false => Txt.isascii (st x)
def q_isalpha (x : List Nat) : Bool := match lowAll x with | true => neB x | false => Txt.isalpha (st x)
def q_islower (x : List Nat) : Bool := match lowAll x with | true => neB x | false => Txt.islower (st x)
theorem q_isascii_ok (x : List Nat) : Txt.isascii (st x) = q_isascii x := by
  unfold q_isascii
  split
  · rename_i h; exact low_ascii h
  · rfl
theorem q_isalpha_ok (x : List Nat) : Txt.isalpha (st x) = q_isalpha x := by
  unfold q_isalpha
  split
  · rename_i h; exact low_alpha h
  · rfl
theorem q_islower_ok (x : List Nat) : Txt.islower (st x) = q_islower x := by
  unfold q_islower
  split
  · rename_i h; exact low_lower h
  · rfl
/-- a def stands in the text and does what is promised -/
def Pr (P : Program) (w : World) (K : PySem.W.Frag) (mg : Str → Option Value) (base : Heap) (x : Str) (k : Nat) (ps : List Str) (sp : Sp) : Prop :=
  ∃ (f : Addr) (fd : FuncData), mg x = some (.ref f) ∧ PySem.W.keepIn K (.ref f) = true ∧ Binds K fd ps [] ∧ FnOk P w K mg base (L2.CX P w) k f fd ps sp
/-- data of the text's own, by its rows -/
theorem ru_tup {us : List U} {a : Addr} {vs : List V} (hs : SqT K H a vs) (r : RUs K m H us vs) : RU K m H (.tup us) (.ref a) := ⟨a, vs, rfl, hs, r⟩
theorem rus_nil : RUs K m H [] [] := rfl
theorem rus_cons {u : U} {us : List U} {v : V} {vs : List V} (h1 : RU K m H u v) (h2 : RUs K m H us vs) : RUs K m H (u :: us) (v :: vs) := ⟨v, vs, rfl, h1, h2⟩
theorem ru_str {x : Str} {y : List Nat} (e : x = st y) : RU K m H (.str y) (.str x) := by rw [e]; exact rfl
end QE
/-! QM: plain tuples as objects; dict of one; lists that grow -/
namespace L2
open PySem PySem.Spec PyProof.Rows
section
variable {X : Cx}
/-- tuple(x) of a list, a plain one -/
def kTupF (K : PySem.W.Frag) (x : V) (H : Hp) (Q : VK) : Prop := ∃ p xs, x = .ref p ∧ SqL K H p xs ∧ ∀ (q : Addr) (o : Obj), H q = none → o.dict = none → Q (.ref q) (upd H q (.frz o (.tup xs)))
theorem rl_tupleF (pins : List (Addr × Obj)) (s : Shared) (σ : St) (H : Hp) (x : V) (v : Value) (Q : VK) (I : Inv X pins σ H s) (r : RelV x v) (h : kTupF X.K x H Q) :
    wpAny (model X.prog X.w) X.A (call (.type "tuple") [v]) (EP X pins σ Q) X.xe s := by
  obtain ⟨p, xs, rfl, hs, q⟩ := h
  obtain rfl : v = .ref p := r
  obtain ⟨its, rv, pl, hz⟩ := I.list hs
  refine call_tuple_list pl.isList (fun h' hk => ?_) (by rw [List.size_toArray, ← rv.length]; exact hz)
  have I1 : Inv X pins σ H { s with heap := h' } := I.kept (t' := s.toks) hk
  have I2 : Inv X pins σ (upd H h'.objs.size (.frz { cls := .type "tuple", data := .seq its.toArray } (.tup xs))) { s with heap := h'.push { cls := .type "tuple", data := .seq its.toArray } } :=
    I1.laid (t' := s.toks) (fun b o e => Heap.get?_push_of_some _ e) (Nat.le_refl _) (show ObjOk X.prog X.w _ _ _ (.frz _ (.tup xs)) from ⟨Heap.get?_push_size _ rfl, hz, its, rv, IsTup.new _ _⟩)
  exact ⟨.ref h'.objs.size, _, I2, rfl, q _ _ (I1.hok.fresh (Nat.le_refl _)) rfl⟩
theorem pe_tupleOfF {a : Expr} {ta : TE} {p pos : Pos} (hg : Gl X "tuple") (hm : X.mg "tuple" = none) (ha : PE X a ta) (na : starEach [a] X.env = (false, eval a X.env) :: starEach [] X.env := by rfl) :
    PE X (.Call (.Name "tuple" p) [a] [] pos) (tThen ta (kTupF X.K)) := by
  refine ⟨fun pins s σ H Q I h => ?_⟩
  exact Call_ (ld_blt I hg hm boot_tuple (PyProof.Rows.callWith_type1 (one_arg ha I h (fun v s2 x H2 I2 r q => rl_tupleF pins s2 σ H2 x v Q I2 r q) na) na))
/-- dict(t) of a plain tuple of pairs -/
def rDictPT (K : PySem.W.Frag) : List V → Hp → VK → Prop := fun xs H Q => ∃ (a : Addr) (o : Obj) (ps : List Addr) (kvs : List (Key × V)), xs = [.ref a] ∧ H a = some (.frz o (.tup (ps.map V.ref))) ∧ o.dict = none ∧ Paired (fun p kv => SqT K H p [kV kv.1, kv.2]) ps kvs ∧
    ∀ p, H p = none → Q (.ref p) (upd H p (.dK (mergeK [] kvs)))
theorem call_dictPT (hcalm : X.calm = true) : CallR X (.type "dict") (rDictPT X.K) := by
  intro pins s σ H xs us Q I r q
  obtain ⟨a, ob, ps, kvs, ex, hq, hd, hp, q⟩ := q
  subst ex
  obtain ⟨u, eu, rx⟩ := vals1 r
  subst eu
  cases rx
  obtain ⟨ho, hz, its, rv, o2, ho2, hc, n, hdat⟩ := (show ObjOk X.prog X.w H s.heap a (.frz ob (.tup (ps.map V.ref))) from I.hok a _ hq)
  rw [ho] at ho2
  cases ho2
  have ei := refs_at rv
  subst ei
  rw [List.length_map] at hz
  obtain ⟨prs, rel, hl, hpr⟩ := pairs_of I hp
  have hkv : ∀ (ps : List Addr) (prs : List (Key × Value)), prs.length = ps.length → (∀ (j : Nat) (q : Key × Value), prs[j]? = some q → ∃ (b : Addr) (u : Value), ps[j]? = some b ∧ IsTup s.heap b #[u, q.2] ∧ keyIs q.1 u = true) →
      ∃ qs : List (Value × Value), qs.length = prs.length ∧ ∀ (j : Nat) (k v : Value), qs[j]? = some (k, v) → ∃ q : Key × Value, prs[j]? = some q ∧ q.2 = v ∧ keyIs q.1 k = true ∧ ∃ b, ps[j]? = some b ∧ IsTup s.heap b #[k, v] := by
    intro ps prs
    induction prs generalizing ps with
    | nil => intro _ _; exact ⟨[], rfl, fun j k v e => by simp at e⟩
    | cons x prs ih =>
      intro hl h
      cases ps with
      | nil => simp at hl
      | cons p ps =>
        obtain ⟨qs, h1, h2⟩ := ih ps (by simpa using hl) fun j q e => h (j + 1) q (by simpa using e)
        obtain ⟨b, u, e1, e2, e3⟩ := h 0 x rfl
        refine ⟨(u, x.2) :: qs, by simp [h1], fun j k v e => ?_⟩
        cases j with
        | zero =>
          simp at e
          obtain ⟨rfl, rfl⟩ := e
          exact ⟨x, rfl, rfl, e3, b, e1, e2⟩
        | succ j => exact h2 j k v (by simpa using e)
  obtain ⟨qs, q1, q2⟩ := hkv ps prs hl hpr
  have P := PairArg.tuple (prog := X.prog) (w := X.w) a (ps.map Value.ref).toArray (fun j => ps.getD j 0) qs
  refine PySem.call_dict_pairs (knd := mixKind X.prog X.w) (kvs := prs) P (I.ok.hd hcalm) ⟨⟨ob, n, ho, hc, hd, hdat⟩, by rw [List.size_toArray, List.length_map, q1, hl], fun j k v e => ?_⟩ ⟨by rw [q1], fun i key v e => ?_⟩ (by rw [q1, hl]; exact hz) fun h' tk hd' k => ?_
  · obtain ⟨q0, e1, e2, e3, b, e4, e5⟩ := q2 j k v e
    have eD : ps.getD j 0 = b := by rw [List.getD_eq_getElem?_getD, e4]; rfl
    refine ⟨?_, .inl ?_⟩
    · show (ps.map Value.ref).toArray[j]? = some (Value.ref (ps.getD j 0))
      rw [eD]
      simp [e4]
    · show s.heap.IsTuple (ps.getD j 0) #[k, v]
      rw [eD]
      exact e5
  · obtain ⟨q0, e1, e2, e3, _⟩ := q2 i key v e
    exact ⟨q0.1, by rw [e1, ← e2], e3⟩
  · have hm : (s.heap.objs.size == sysModules) = false := beq_eq_false_iff_ne.mpr (Nat.ne_of_gt I.big)
    have hlen : (mergeK [] kvs).length ≤ sizeLine := by
      refine Nat.le_trans (length_mergeK kvs []) ?_
      rw [List.length_nil, Nat.zero_add, rel.length, hl]
      exact hz
    exact ⟨.ref s.heap.objs.size, upd H s.heap.objs.size (.dK (mergeK [] kvs)), I.laid (t' := tk) (fun b o e => k b o (by simp) e) (Nat.le_refl _) (show ObjOk X.prog X.w _ _ _ (.dK (mergeK [] kvs)) from ⟨hlen, hm, merged [] prs, KV.merge rel .nil, hd'⟩), rfl, q _ (I.hok.fresh (Nat.le_refl _))⟩
theorem list_extend_tup (l : Addr) (items : Array Value) (n : Nat) (b : Addr) (o : Obj) (items2 : Array Value) (n2 : Nat) (hs0 : ¬(!items.isEmpty && Builtin.List.listTooLong (items.size + items2.size)) = true) (hs1 : items.size ≤ sizeLine) (hs2 : items.size + items2.size ≤ sizeLine + 1) :
    Meets (Builtin.«list.extend» ⟨[.ref l, .ref b], []⟩) (fun _ R s => s.heap.get? l = some { cls := .type "list", dict := none, data := .seq items n, slots := #[] } ∧ s.heap.get? b = some o ∧ o.cls = .type "tuple" ∧ o.data = .seq items2 n2 ∧ R (.ok (.ret Value.none)) { s with heap := s.heap.update l (Obj.mapSeq fun x => x ++ items2), toks := s.toks }) :=
  .of_wp fun prog w A R s h => by
    obtain ⟨hp, g, d, tk, os⟩ := s; obtain ⟨hl, hb, hc, hd, h⟩ := h; have f1 := AutoSeq1.idx_int; have f2 := AutoSeq1.sub_tuple_tuple; have f3 := AutoSeq1.sub_list_list; have f4 := AutoSeq1.sub_tuple_list; have f5 := AutoSeq1.sub_list_tuple;
    have hz' : (items ++ items2).size ≤ sizeLine + 1 := by rw [Array.size_append]; exact hs2
    obtain ⟨cls, dict, data, slots⟩ := o
    simp only [] at hc hd
    subst hc hd
    wp_walk using (wpAny_updateSeq hl rfl (hz := hs1) (_hz' := hz')), AutoSeq1.wpAny_loadPart' hl, AutoSeq1.wpAny_loadPart' hb; exact ⟨_, rfl, h⟩
/-- xs.extend(t), t a tuple -/
def rExtendT (K : PySem.W.Frag) : V → List V → Hp → VK → Prop := fun x vs H Q => ∃ l b xs zs, x = .ref l ∧ vs = [.ref b] ∧ H l = some (.lst xs) ∧ SqT K H b zs ∧ xs.length + zs.length ≤ sizeLine ∧ Q .non (upd H l (.lst (xs ++ zs)))
theorem mt_extendT : MtM X "list.extend" (rExtendT X.K) := by
  intro pins s σ H x vs v us Q I rx rv h
  obtain ⟨l, b, xs, zs, rfl, rfl, hH, hB, hz, q⟩ := h
  cases rx
  obtain ⟨u, rfl, ru⟩ := rv.one
  cases ru
  obtain ⟨z, its, n, r, hl, e⟩ := I.lstM hH
  obtain ⟨its2, r2, ⟨o2, e2, hc2, n2, hd2⟩, hl2⟩ := I.tuple hB
  have hsz : its.toArray.size + its2.toArray.size ≤ sizeLine := by rw [List.size_toArray, List.size_toArray, ← r2.length, ← r.length]; exact hz
  have hlong : ¬ (!its.toArray.isEmpty && Builtin.List.listTooLong (its.toArray.size + its2.toArray.size)) = true := by
    rw [notLongL hsz, Bool.and_false]
    exact Bool.false_ne_true
  refine call_meets F.slot_list_extend ⟨_, e, rfl⟩ F.entry_list_extend (F.args_list_extend_2 _ _)
    (list_extend_tup l its.toArray n b o2 its2.toArray n2 hlong (by omega) (by omega)) ⟨e, e2, hc2, hd2, ?_⟩
  refine ⟨.non, _, I.lset (its' := its ++ its2) hH e (by simp) (r.append r2) ?_, rfl, q⟩
  rw [List.length_append]
  exact hz
end
end L2
namespace L2
open PySem PySem.Spec PyProof.Rows
section
variable {P : Program} {w : World} {A : Around} {E : Value → Shared → Prop} {s : Shared} {κ : Type} [DecidableEq κ] {knd : KeyKind P w κ}
theorem call_setL {l : Addr} {items : Array Value} (ks : List κ) {Q : Value → Shared → Prop} (hh : A.handled = none) (hl : s.heap.IsList l items) (hn : items.size = ks.length) (room : ks.length + 1 < scanBound)
    (val : ∀ (i : Nat) (v : Value), items[i]? = some v → ∃ k, ks[i]? = some k ∧ knd.is k v = true ∧ v.scannable = true)
    (q : ∀ (h' : Heap) (tk : Nat), h'.SetOf knd s.heap.objs.size (fun j => decide (j ∈ ks)) (cntD ks ks.length) → (∀ b o, s.heap.get? b = some o → h'.get? b = some o) → Q (.ref s.heap.objs.size) { s with heap := h', toks := tk }) :
    wpAny (model P w) A (call (.type "set") [.ref l]) Q E s := by
  obtain ⟨c, tl, hmro⟩ := F.called_set.mro
  have hmade := F.called_set.made
  have hsub := F.called_set.sub
  refine wpAny_call (codeAny_of_tree ?_)
  show wpAny _ _ (callAny (.type "set") _) _ _ _
  refine wpAny_pure ⟨Code.quiet_builtin _ (by decide +kernel), codeAny_builtin F.entry_type_call ?_⟩
  rw [Around.under_plain (weight_type_call_type "set" [.ref l] []) rfl]
  have h1 := F.called_set.notType
  have h2 := F.called_set.canCreate
  have hct := F.typeCall_set_1 (.ref l)
  repeat (any_goals (first | assumption | wp_step))
  refine codeAny_mono (code_set_led1 (.ref l) (E := E) (Q₁ := fun u s₁ => u = .ref s.heap.objs.size ∧ s₁ = { s with heap := s.heap.push (set0 w) }) ⟨rfl, rfl⟩) fun r s₁ hr => ?_
  match r, hr with
  | .error e, hr => exact hr
  | .ok (.ret u), hr =>
    obtain ⟨rfl, rfl⟩ := hr
    have hS : (s.heap.push (set0 w)).get? s.heap.objs.size = some (set0 w) := Heap.get?_push_size _ rfl
    have hT : Shared.TypeIs { s with heap := s.heap.push (set0 w) } (.ref s.heap.objs.size) "set" := ⟨_, hS, rfl⟩
    have hli := F.called_set.init.lookup
    have hbi := F.called_set.init.bind (.ref s.heap.objs.size)
    repeat (any_goals (first | assumption | wp_step))
    refine codeAny_mono (codeAny_call_builtin (R := wants (fun r s₂ => r = .none ∧ ∃ h' tk, s₂ = { s with heap := h', toks := tk } ∧ h'.SetOf knd s.heap.objs.size (fun j => decide (j ∈ ks)) (cntD ks ks.length) ∧ (∀ b o, s.heap.get? b = some o → h'.get? b = some o)) E)
      F.called_set.init.plain F.entry_set_init (check_set_init_1 hT ?_)) fun r₂ s₂ hr₂ => ?_
    · obtain ⟨ol, hol, hcl, nl, hdl⟩ := hl
      obtain ⟨ocls, odict, odata, oslots⟩ := ol
      simp only at hcl hdl
      subst hcl hdl
      have hol' : (s.heap.push (set0 w)).get? l = some { cls := .type "list", dict := odict, data := .seq items nl, slots := oslots } := Heap.get?_push_of_some _ hol
      have hsls := F.sub_list_set
      have hslf := F.sub_list_frozenset
      have hne : (Value.type "list" == Value.type "dict") = false := by decide
      have hl1 : (s.heap.push (set0 w)).IsList l items := ⟨_, hol', rfl, nl, rfl⟩
      unfold Builtin.«set.__init__» noKeywords Builtin.Frozenset.updateFrom
      generalize hPI : pyIter = PI
      wp_walk
      subst hPI
      refine wpAny_pyIter_list hl1 (wpAny_bind (wpAny_runValue ?_))
      have hlS : l < s.heap.objs.size := Heap.lt_size hol
      have h3 : A.in1.in1.in1.handled = none := hh
      have z1 : (s.heap.push (set0 w)).objs.size = s.heap.objs.size + 1 := Heap.size_push ..
      have n1 : l ≠ (s.heap.push (set0 w)).objs.size := by rw [z1]; exact Nat.ne_of_lt (Nat.lt_succ_of_lt hlS)
      have n2 : s.heap.objs.size ∉ [(s.heap.push (set0 w)).objs.size, l] := by
        rw [z1]
        simp only [List.mem_cons, List.not_mem_nil, or_false, not_or]
        exact ⟨Nat.ne_of_lt (Nat.lt_succ_self _), Nat.ne_of_gt hlS⟩
      refine set_fill (knd := knd) ((Walks.list h3 _ l n1 items).toS) s.heap.objs.size n2 ks hn room val (items.size - 0) 0 _ (by omega) (Nat.zero_le _) ⟨⟨_, Heap.get?_push_size _ rfl, rfl, rfl⟩, hl1.push _⟩ ?_ fun s' mv hS' => ?_
      · have e : (fun j => decide (j ∈ ks.take 0)) = fun _ : κ => false := by funext j; simp
        rw [e]
        exact setOf_new (Heap.get?_push_of_some _ hS)
      · obtain ⟨h', g2, d', tk', os'⟩ := s'
        have eg : g2 = s.gens := mv.gens
        have ed : d' = s.drawn := mv.drawn
        have eo : os' = s.os := mv.os
        subst eg ed eo
        show wpAny _ _ _ _ _ _
        refine wpAny_pure ?_
        show wpAny _ _ (ret Value.none) _ _ _
        rw [hn] at hS'
        refine wpAny_pure ⟨rfl, h', tk', rfl, hS', fun b o e => ?_⟩
        have b0 : b < s.heap.objs.size := Heap.lt_size e
        refine mv.heap b o ?_ (Heap.get?_push_of_some _ (Heap.get?_push_of_some _ e))
        simp only [List.mem_cons, List.not_mem_nil, or_false, not_or]
        exact ⟨Nat.ne_of_lt b0, by rw [z1]; exact Nat.ne_of_lt (Nat.lt_succ_of_lt b0)⟩
    · match r₂, hr₂ with
      | .error e, hr₂ => exact hr₂
      | .ok (.ret r), hr₂ =>
        obtain ⟨rfl, h', tk, rfl, hS', hk'⟩ := hr₂
        repeat (any_goals (first | assumption | wp_step))
        exact q _ _ hS' hk'
      | .ok .next, hr₂ => exact hr₂.elim
      | .ok .brk, hr₂ => exact hr₂.elim
      | .ok .cont, hr₂ => exact hr₂.elim
  | .ok .next, hr => exact hr.elim
  | .ok .brk, hr => exact hr.elim
  | .ok .cont, hr => exact hr.elim
end
section
variable {X : Cx}
/-- set(t), t a list of texts and ints -/
def rSetLK (K : PySem.W.Frag) (P : Program) (w : World) : List V → Hp → VK → Prop := fun xs H Q => ∃ (a : Addr) (ks : List Key), xs = [.ref a] ∧ SqL K H a (ks.map kV) ∧ ks.length + 1 < scanBound ∧ ∀ p, H p = none → Q (.ref p) (upd H p (SetK P w p (memD ks) (cntD ks ks.length)))
theorem call_setLK (hc : X.calm = true) : CallR X (.type "set") (rSetLK X.K X.prog X.w) := by
  intro pins s σ H xs us Q I r h
  obtain ⟨a, ks, rfl, hs, room, q⟩ := h
  obtain ⟨u, rfl, ru⟩ := vals1 r
  cases ru
  obtain ⟨its, rv, ht, hz⟩ := I.list hs
  have hlen : its.toArray.size = ks.length := by rw [List.size_toArray, ← rv.length, List.length_map]
  refine call_setL (knd := mixKind X.prog X.w) ks (I.ok.hd hc) ht.isList hlen room (fun i v hv => ?_) fun h' tk hS kp => ?_
  · have hv2 : its[i]? = some v := by simpa using hv
    have hi : i < ks.length := by rw [← hlen, List.size_toArray]; exact (List.getElem?_eq_some_iff.mp hv2).1
    have e : (ks.map kV)[i]? = some (kV ks[i]) := by simp [hi]
    obtain ⟨u, hu, ru⟩ := rv.get e
    rw [hv2] at hu
    cases hu
    exact ⟨ks[i], List.getElem?_eq_getElem hi, kV_is ru, key_scan ru⟩
  · exact ⟨.ref _, _, I.laid (a := s.heap.objs.size) (t' := tk) kp (Nat.le_refl _) (setK_new hS), rfl, q _ (I.hok.fresh (Nat.le_refl _))⟩
end
end L2
/-! QN: stars of dicts, sets of lists, and what they are in a run -/
namespace L2
open PySem PySem.Spec PyProof.Rows
section
variable {prog : Program} {w : World} {A : Around} {E : Value → Shared → Prop} {s : Shared} {T : String} {r d : Addr} {n : Nat} {P : Nat → Value → Prop} {OK : Heap → Prop}
theorem code_collect {R : Result → Shared → Prop} (K : PySem.W.KdlSrc prog w T r d n P OK) (hh : A.handled = none) (hok : OK s.heap) (hn : n ≤ sizeLine)
    (hR : ∀ h' tk acc' c', (∀ b o, s.heap.get? b = some o → h'.get? b = some o) → h'.get? s.heap.objs.size = some { cls := .type "list", dict := none, data := .seq acc' c', slots := #[] } → ItemsOf P acc' n → R (.ok (.ret (.ref s.heap.objs.size))) { s with heap := h', toks := tk }) :
    codeAny (model prog w) A (.builtin "proto.collect" ⟨[.ref r], []⟩) R s := by
  refine codeAny_builtin F.entry_proto_collect ?_
  rw [Around.under_plainId F.plain_proto_collect _]
  show wpAny _ A.in1 (newList [] >>= fun l => again (.builtin "list.__iadd__" ⟨[l, .ref r], []⟩)) _ _ s
  refine wpAny_bind (wpAny_newObj_type ?_)
  refine wpAny_pure ⟨plainId_quiet F.plain_list_iadd _, codeAny_builtin F.entry_list_iadd ?_⟩
  rw [Around.under_plainId F.plain_list_iadd _]
  show wpAny _ A.in1 (Builtin.List.listExtendWith (.ref s.heap.objs.size) (.ref r) (.ref s.heap.objs.size)) _ _ _
  have hlt := K.there _ hok
  have hS : (s.heap.push { cls := .type "list", data := .seq ([] : List Value).toArray }).get? s.heap.objs.size = some { cls := .type "list", data := .seq ([] : List Value).toArray } := Heap.get?_push_size _ rfl
  exact PySem.W.kdl_extend (R := R) (s := { s with heap := s.heap.push { cls := .type "list", data := .seq ([] : List Value).toArray } }) K hh (K.keep s.heap _ hok fun b _ o e => Heap.get?_push_of_some _ e) _ (Nat.ne_of_gt hlt.1) (Nat.ne_of_gt hlt.2) _ 0 hS
    (fun h' tk acc' c' hk hS' hacc => hR h' tk acc' c' (fun b o e => hk b o (Nat.ne_of_lt (Heap.lt_size e)) (Heap.get?_push_of_some _ e)) hS' hacc) hn
theorem collect_kdl {Q : List Value → Shared → Prop} (K : PySem.W.KdlSrc prog w T r d n P OK) (hh : A.handled = none) (hok : OK s.heap) (hn : n ≤ sizeLine)
    (hQ : ∀ h' tk acc', (∀ b o, s.heap.get? b = some o → h'.get? b = some o) → ItemsOf P acc' n → Q acc'.toList { s with heap := h', toks := tk }) : wpAny (model prog w) A (collect (.ref r)) Q E s := by
  unfold collect
  refine wpAny_bind (wpAny_runValue (code_collect K hh hok hn fun h' tk acc' c' hk hS' hacc => ?_))
  show wpAny _ A (load s.heap.objs.size >>= _) _ _ _
  refine wpAny_bind (wpAny_load hS' ?_)
  exact wpAny_pure (hQ h' tk acc' hk hacc)
end
section
variable {X : Cx} {pins : List (Addr × Obj)} {σ : L2.St} {H : Hp} {s : Shared}
theorem star_dk {a : Addr} {kvs : List (Key × V)} {E : Value → Shared → Prop} {Q : List Value → Shared → Prop} (hc : X.calm = true) (I : Inv X pins σ H s) (h : H a = some (.dK kvs)) (hQ : ∀ us s', Inv X pins σ H s' → Vals (kvs.map fun kv => kV kv.1) us → Q us s') : PySem.W.StarOf (model X.prog X.w) X.A E (.ref a) Q s := by
  obtain ⟨z, lo, vs, rk, hd⟩ := (show ObjOk X.prog X.w H s.heap a (.dK kvs) from I.hok a _ h)
  obtain ⟨ep, hat⟩ := hd.dictAt
  have hl : kvs.length = vs.length := Paired.length rk
  have zz : wpAny (model X.prog X.w) X.A (collect (.ref a)) Q E s := by
    refine collect_kdl (PySem.W.kdl_dict (knd := mixKind X.prog X.w) (kvs := vs) (ep := ep) lo) (I.ok.hd hc) hat (by rw [← hl]; exact z) fun h' tk acc' hkeep hacc => ?_
    refine hQ _ _ (I.kept (t' := tk) hkeep) ?_
    have el : acc'.toList.length = acc'.size := by simp
    refine vals_of_at (by rw [List.length_map, el, hacc.1, hl]) fun j x w h1 h2 => ?_
    obtain ⟨k, y, hky, hi⟩ := hacc.2 j w (by rw [← Array.getElem?_toList]; exact h2)
    have e1 : (kvs.map (·.1))[j]? = some k := by
      rw [KV.keys rk, List.getElem?_map, hky] <;> rfl
    have e2 : (kvs.map fun kv => kV kv.1)[j]? = some (kV k) := by
      have e3 : (kvs.map fun kv => kV kv.1) = (kvs.map (·.1)).map kV := by rw [List.map_map] <;> rfl
      rw [e3, List.getElem?_map, e1] <;> rfl
    rw [e2] at h1
    cases h1
    exact keyIs_rel hi
  unfold PySem.W.StarOf notIterableAtAll
  exact wpAny_bind (wpAny_specialOf hd.typeIs PySem.F.slot_dict_iter.lookup (wpAny_pure ⟨rfl, zz⟩))
/-- *e in an argument list, a display: a tuple, a list, a dict's keys -/
def tStarQ (K : PySem.W.Frag) (te : TE) (t : TA) : TA := fun σ H Q => te σ H fun x H1 => ∃ p xs, x = V.ref p ∧ ((SqT K H1 p xs ∨ SqL K H1 p xs) ∨ ∃ kvs, H1 p = some (.dK kvs) ∧ xs = kvs.map fun kv => kV kv.1) ∧ t σ H1 fun ys H2 => Q (xs ++ ys) H2
theorem pa_starQ {e : Expr} {es : List Expr} {te : TE} {t : TA} {p : Pos} (hc : X.calm = true) (he : PE X e te) (hr : PA X es t) (hs : starEach (.Starred e p :: es) X.env = (true, eval e X.env) :: starEach es X.env := by rfl) : PA X (.Starred e p :: es) (tStarQ X.K te t) := by
  refine ⟨fun pos pins s σ H Q I h => ?_⟩
  refine PySem.W.items_star (thn (he.run pins s σ H _ I h) fun v s1 ⟨y, H1, I1, ry, a, xs, ey, hx, q⟩ => ?_) hs
  subst ey
  obtain rfl : v = Value.ref a := ry
  have fin : ∀ us s2, Inv X pins σ H1 s2 → Vals xs us → wpAny (model X.prog X.w) X.A (spliced (backTo pos (starEach es X.env))) (fun vs s3 => AP X pins σ Q (us ++ vs) s3) X.xe s2 := fun us s2 I2 rv =>
    thn (hr.run pos pins s2 σ H1 _ I2 q) fun ws s3 ⟨vs, H3, I3, r3, q3⟩ => ⟨xs ++ vs, H3, I3, rv.append r3, q3⟩
  rcases hx with hx | ⟨kvs, hk, rfl⟩
  · exact StX.star_any I1 hx fun us s2 I2 rv => fin us s2 I2 rv
  · exact star_dk hc I1 hk fun us s2 I2 rv => fin us s2 I2 rv
end
end L2
namespace QE
open PySem L2
variable {K : PySem.W.Frag} {m m' m2 : Mp} {H H' H2 : Hp} {h h' : Hq} {E : XK}
/-- the items of a starred one -/
def starU (u : U) (h : Hq) : Option (List U) := match u with
  | .tup us => some us
  | .ref j => (match h.get j with
    | some (.lst us) => some us
    | some (.rol us) => some us
    | some (.ptp us) => some us
    | some (.dct kvs) => some (keysOf kvs)
    | _ => none)
  | _ => none
def eStar (fa : MF U) (fr : MF (List U)) : MF (List U) := fun env h => bnd (fa env h) fun u h1 => match starU u h1 with | some us => bnd (fr env h1) fun ws h2 => ret (us ++ ws) h2 | none => none
theorem RH.ofP (R : RH K m H h) {i : Nat} {us : List U} {v : V} (e : h.get i = some (.ptp us)) (r : RU K m H (.ref i) v) : ∃ a o vs, m i = some a ∧ v = .ref a ∧ H a = some (.frz o (.tup vs)) ∧ o.dict = none ∧ RUs K m H us vs := by
  obtain ⟨a, ha, rfl, o, vs, h1, h2, h3⟩ := R.of e r
  exact ⟨a, o, vs, ha, rfl, h1, h2, h3⟩
theorem starU_ok (R : RH K m H h) {u : U} {v : V} {us : List U} (e : starU u h = some us) (q : RU K m H u v) : ∃ p xs, v = V.ref p ∧ ((SqT K H p xs ∨ SqL K H p xs) ∨ ∃ kvs, H p = some (.dK kvs) ∧ xs = kvs.map fun kv => kV kv.1) ∧ RUs K m H us xs := by
  unfold starU at e
  split at e
  · cases e
    obtain ⟨a, vs, rfl, hs, r⟩ := q
    exact ⟨a, vs, rfl, .inl (.inl hs), r⟩
  · split at e
    · rename_i us q2
      cases e
      obtain ⟨a, ha, rfl, vs, h1, h2⟩ := R.of q2 q
      exact ⟨a, vs, rfl, .inl (.inr (.of h1)), h2⟩
    · rename_i us q2
      cases e
      obtain ⟨a, ha, rfl, vs, h1, _, h2⟩ := R.of q2 q
      exact ⟨a, vs, rfl, .inl (.inr h1), h2⟩
    · rename_i us q2
      cases e
      obtain ⟨a, o, vs, ha, rfl, h1, h2, h3⟩ := R.ofP q2 q
      exact ⟨a, vs, rfl, .inl (.inl (.inl (.inr ⟨o, h1⟩))), h3⟩
    · rename_i kvs q2
      cases e
      obtain ⟨a, ha, rfl, vs, h1, h2⟩ := R.of q2 q
      exact ⟨a, _, rfl, .inr ⟨vs, h1, rfl⟩, ru_keysOf h2⟩
    · cases e
  · cases e
theorem sim_star {ta : TE} {tr : TA} {fa : MF U} {fr : MF (List U)} (sa : Sim K E ta fa) (sr : SimA K E tr fr) : SimA K E (tStarQ K ta tr) (eStar fa fr) := fun m h env σ H r Q re R e o => by
  refine sa.on re R e o.x fun u h1 m1 H1 v e1 x1 R1 q1 => ?_
  split at e1
  · rename_i us hs
    obtain ⟨p, xs, rfl, hx, rx⟩ := starU_ok R1 hs q1
    refine ⟨p, xs, rfl, hx, ?_⟩
    refine sr.on (re.mono x1) R1 e1 (o.mono x1).x fun ws h2 m2 H2 vs e2 x2 R2 q2 => ?_
    cases e2
    exact o m2 H2 (xs ++ vs) (x1.trans x2) R2 ((rx.mono x2).app q2)
  · cases e1
/-- len(set(xs)), xs a list of texts and ints -/
def eLenSetL (f : MF U) : MF U := fun env h => bnd (f env h) fun u h1 => match u with
  | .ref j => (match getL h1 j with
    | some us => (match keysQ us, lenSmall us with | true, true => ret (.int (Int.ofNat (cntQ [] us))) h1 | _, _ => none)
    | none => none)
  | _ => none
theorem sim_lenSetL {P : Program} {w : World} {t : TE} {f : MF U} (s : Sim K E t f) : Sim K E (tCB (rLenK P w) (tCons (tCB (rSetLK K P w) (tCons t tNil)) tNil)) (eLenSetL f) := fun m h env σ H r Q re R e o => by
  refine s.on re R e o.x fun u h1 m1 H1 v e1 x1 R1 q1 => ?_
  split at e1
  · split at e1
    · rename_i us q2
      split at e1
      · rename_i hk hl
        cases e1
        obtain ⟨ks, hks⟩ := keysQ_ok hk
        obtain ⟨a, vs, ha, rfl, hs, r⟩ := R1.ofL q2 q1
        have ev := ru_keys r hks
        subst ev
        have hlen := lenOk_le hl
        rw [uKeys_len hks] at hlen
        refine ⟨a, ks, rfl, hs, by show ks.length + 1 < 4096; omega, fun p hp => ⟨p, _, _, rfl, upd_same, ?_⟩⟩
        rw [cntQ_all hks]
        obtain ⟨e2, R2⟩ := R1.fresh (o := SetK P w p (memD ks) (cntQ [] _)) hp
        exact o m1 _ _ (x1.trans e2) R2 rfl
      · cases e1
    · cases e1
  · cases e1
end QE
/-! tuples that are known to have no dict of their own: their methods. -/
namespace L2
open PySem PySem.Spec PyProof.Rows
/-- a plain tuple: locked as a plain object, or written -/
def PlT (K : PySem.W.Frag) (H : Hp) (a : Addr) (xs : List V) : Prop := (∃ o, H a = some (.frz o (.tup xs)) ∧ o.dict = none) ∨ ∃ o its n, K.lookup a = some o ∧ o.cls = .type "tuple" ∧ o.dict = none ∧ o.data = .seq its n ∧ its.size ≤ sizeLine ∧ Vals xs its.toList
theorem PlT.sqT {K : PySem.W.Frag} {H : Hp} {a : Addr} {xs : List V} (h : PlT K H a xs) : SqT K H a xs := by
  rcases h with ⟨o, h, _⟩ | ⟨o, its, n, h1, h2, _, h3, h4, h5⟩
  · exact .inl (.inr ⟨o, h⟩)
  · exact .inr ⟨o, its, n, h1, h2, h3, h4, h5⟩
theorem PlT.same {K : PySem.W.Frag} {H H' : Hp} {a : Addr} {xs : List V} (h : PlT K H a xs) (s : Same H H') : PlT K H' a xs := by
  rcases h with ⟨o, h, d⟩ | h
  · exact .inl ⟨o, s _ _ h, d⟩
  · exact .inr h
section
variable {X : Cx}
def tTupF (t : TA) : TE := fun σ H Q => t σ H fun xs H1 => xs.length ≤ sizeLine ∧ ∀ (p : Addr) (o : Obj), H1 p = none → o.dict = none → Q (.ref p) (upd H1 p (.frz o (.tup xs)))
theorem pe_tupF {es : List Expr} {t : TA} {pos : Pos} {x1 : Nat} (ha : PA X es t) : PE X (.Tuple es x1 pos) (tTupF t) where
  run := fun pins s σ H Q I h => by
    rw [arm_eval_Tuple]
    refine wpAny_bind (wpAny_standAt ?_)
    refine wpAny_bind (wpAny_mono (ha.run pos pins s σ H _ I h) (fun us s1 h1 => ?_) fun _ _ e => e)
    obtain ⟨xs, H1, I1, rv, hl, q⟩ := h1
    refine wpAny_newTuple ?_ (by rw [← rv.length]; exact hl)
    have I2 := I1.laid (h' := s1.heap.push { cls := .type "tuple", data := .seq us.toArray }) (a := s1.heap.objs.size) (o := .frz { cls := .type "tuple", data := .seq us.toArray } (.tup xs)) (t' := s1.toks) (fun b u e => Heap.get?_push_of_some _ e) (Nat.le_refl _) ⟨Heap.get?_push_size _ rfl, hl, us, rv, ⟨_, Heap.get?_push_size _ rfl, rfl, _, rfl⟩⟩
    exact ⟨.ref _, _, I2, rfl, q _ _ (I1.hok.fresh (Nat.le_refl _)) rfl⟩
theorem plT_is {pins : List (Addr × Obj)} {σ : St} {H : Hp} {s : Shared} {p : Addr} {xs : List V} (I : Inv X pins σ H s) (h : PlT X.K H p xs) : s.TypeIs (.ref p) "tuple" ∧ ∀ a, Value.ref p = .ref a → ∃ ob, s.heap.get? a = some ob ∧ ob.dict = none := by
  rcases h with ⟨o, h, d⟩ | ⟨o, its, n, h1, h2, d, h3, h4, h5⟩
  · obtain ⟨e, hl, us, rv, ⟨o2, e2, c2, r2⟩⟩ := I.hok p _ h
    refine ⟨⟨o2, e2, c2⟩, fun a e3 => ?_⟩
    cases e3
    exact ⟨o, e, d⟩
  · exact tyV_is (x := .ref p) I rfl (.inr (.inl ⟨rfl, o, h1, h2, d⟩))
def tBMT (K : PySem.W.Frag) (r : V → List V → Hp → VK → Prop) (to : TE) (t : TA) : TE := fun σ H Q => to σ H fun x H1 => (∃ p xs, x = .ref p ∧ PlT K H1 p xs) ∧ t σ H1 fun xs H2 => r x xs H2 Q
theorem pe_bmT {o e : Expr} {es : List Expr} {to : TE} {t : TA} {name : Str} {apos cpos : Pos} {id : String} {r : V → List V → Hp → VK → Prop} (pa : PlainAttrs "tuple") (slot : Slot "tuple" name id) (hty : typeOf (.builtin id) = pure (.type "method_descriptor")) (hm : MtR X id r) (ho : PE X o to) (ha : PA X (e :: es) t)
    (h1 : attributeBase o name X.env (eval o X.env) = eval o X.env := by rfl)
    (h2 : ((((backTo cpos (starEach (e :: es) X.env)).all fun x => !x.1) && (backToKw cpos (keywordEach [] X.env)).all fun x => x.1.isSome) && decide ((e :: es).length + ([] : List Keyword).length + (if ([] : List Keyword).isEmpty = true then 0 else 1) < 30)) = true := by rfl)
    (h3 : (apos.endLine == cpos.line) = true := by rfl) (h4 : starEach (e :: es) X.env = (false, eval e X.env) :: starEach es X.env := by rfl) (h5 : ((backTo cpos (starEach es X.env)).any fun x => x.1) = false := by rfl) :
    PE X (.Call (.Attribute o name apos) (e :: es) [] cpos) (tBMT X.K r to t) where
  run := fun pins s σ H Q I h => by
    refine wpAny_Call_method h1 h2 h3 pa slot hty (wpAny_mono (ho.run pins s σ H _ I h) (fun u s1 hh => ?_) fun _ _ e => e)
    obtain ⟨v, H1, I1, rv, ⟨p, xs, rfl, hp⟩, q⟩ := hh
    cases rv
    obtain ⟨a1, a2⟩ := plT_is I1 hp
    refine ⟨a1, a2, PyProof.Rows.callWith_method1 (wpAny_mono (ha.run cpos pins s1 σ H1 _ I1 q) (fun us s2 hh => ?_) fun _ _ e => e) h4 h5⟩
    obtain ⟨ys, H2, I2, rys, q2⟩ := hh
    exact hm pins s2 σ H2 (.ref p) ys (.ref p) us Q I2 rfl rys q2
end
end L2
/-! QO: lists that grow, tuples of lists, dicts of pairs, plain tuples read -/
namespace L2
open PySem
section
variable {X : Cx}
def rExtendQ (K : PySem.W.Frag) : V → List V → Hp → VK → Prop := fun x vs H Q => rExtend x vs H Q ∨ rExtendT K x vs H Q
theorem mt_extendQ : MtM X "list.extend" (rExtendQ X.K) := by
  intro pins s σ H x vs v us Q I rx rv h
  rcases h with h | h
  · exact mt_extend pins s σ H x vs v us Q I rx rv h
  · exact mt_extendT pins s σ H x vs v us Q I rx rv h
end
end L2
namespace QE
open PySem L2
variable {K : PySem.W.Frag} {m m' m2 : Mp} {H H' H2 : Hp} {h h' : Hq} {E : XK}
def eAppend (fx : MF U) (fa : MF (List U)) : MF U := fun env h => bnd (fx env h) fun x h1 => match x with
  | .ref j => (match h1.get j with
    | some (.lst _) => bnd (fa env h1) fun ys h2 => (match ys, h2.get j with
      | [y], some (.lst xs) => (match szOk xs with | true => ret .non (h2.set j (.lst (xs ++ [y]))) | false => none)
      | _, _ => none)
    | _ => none)
  | _ => none
theorem sim_append {to : TE} {t : TA} {fx : MF U} {fa : MF (List U)} (sx : Sim K E to fx) (sa : SimA K E t fa) : Sim K E (tBM K "list" rAppend to t) (eAppend fx fa) := fun m h env σ H r Q re R e o => by
  refine sx.on re R e o.x fun x h1 m1 H1 vx e1 x1 R1 q1 => ?_
  split at e1
  · rename_i j
    split at e1
    · rename_i xs0 q0
      obtain ⟨a, ha, rfl, vs0, g1, g2⟩ := R1.of q0 q1
      refine ⟨.inl ⟨rfl, _, SqL.of g1⟩, ?_⟩
      refine sa.on (re.mono x1) R1 e1 (o.mono x1).x fun ys h2 m2 H2 vs e2 x2 R2 q2 => ?_
      split at e2
      · rename_i y xs qq
        split at e2
        · rename_i hz
          cases e2
          have ha2 := x2.mm _ _ ha
          obtain ⟨b, hb, eb, ws, w1, w2⟩ := R2.of qq (v := .ref a) ⟨a, ha2, rfl⟩
          cases eb
          obtain ⟨v, rfl, qy⟩ := one q2
          obtain ⟨x3, R3⟩ := R2.put (o := .lst (xs ++ [y])) (ho := .lst (ws ++ [v])) ha2 w1 trivial ⟨ws ++ [v], upd_same, (w2.app (show RUs K m2 H2 [y] [v] from ⟨v, [], rfl, qy, rfl⟩)).mono (Ext.upd ha2 ⟨_, w1, trivial⟩)⟩
          exact ⟨a, ws, v, rfl, rfl, w1, by rw [← w2.len]; exact szOk_le hz, o _ _ _ ((x1.trans x2).trans x3) R3 rfl⟩
        · cases e2
      · cases e2
    · cases e1
  · cases e1
/-- the items of what a list is grown by -/
def extU (u : U) (h : Hq) : Option (List U) := match u with
  | .tup us => some us
  | .ref j => (match h.get j with | some (.lst us) => some us | some (.ptp us) => some us | _ => none)
  | _ => none
def eExtend (fx : MF U) (fa : MF (List U)) : MF U := fun env h => bnd (fx env h) fun x h1 => match x with
  | .ref j => (match h1.get j with
    | some (.lst _) => bnd (fa env h1) fun ys h2 => (match ys, h2.get j with
      | [y], some (.lst xs) => (match extU y h2 with
        | some zs => (match szOk (xs ++ zs) with | true => ret .non (h2.set j (.lst (xs ++ zs))) | false => none)
        | none => none)
      | _, _ => none)
    | _ => none)
  | _ => none
theorem sim_extend {to : TE} {t : TA} {fx : MF U} {fa : MF (List U)} (sx : Sim K E to fx) (sa : SimA K E t fa) : Sim K E (tBM K "list" (rExtendQ K) to t) (eExtend fx fa) := fun m h env σ H r Q re R e o => by
  refine sx.on re R e o.x fun x h1 m1 H1 vx e1 x1 R1 q1 => ?_
  split at e1
  · rename_i j
    split at e1
    · rename_i xs0 q0
      obtain ⟨a, ha, rfl, vs0, g1, g2⟩ := R1.of q0 q1
      refine ⟨.inl ⟨rfl, _, SqL.of g1⟩, ?_⟩
      refine sa.on (re.mono x1) R1 e1 (o.mono x1).x fun ys h2 m2 H2 vs e2 x2 R2 q2 => ?_
      split at e2
      · rename_i y xs qq
        split at e2
        · rename_i zs hzs
          split at e2
          · rename_i hz
            cases e2
            have ha2 := x2.mm _ _ ha
            obtain ⟨b, hb, eb, ws, w1, w2⟩ := R2.of qq (v := .ref a) ⟨a, ha2, rfl⟩
            cases eb
            obtain ⟨v, rfl, qy⟩ := one q2
            have fin : ∀ vz, RUs K m2 H2 zs vz → ws.length + vz.length ≤ sizeLine ∧ Q .non (upd H2 a (.lst (ws ++ vz))) := fun vz rz => by
              obtain ⟨x3, R3⟩ := R2.put (o := .lst (xs ++ zs)) (ho := .lst (ws ++ vz)) ha2 w1 trivial ⟨ws ++ vz, upd_same, (w2.app rz).mono (Ext.upd ha2 ⟨_, w1, trivial⟩)⟩
              refine ⟨?_, o _ _ _ ((x1.trans x2).trans x3) R3 rfl⟩
              have := szOk_le hz
              rw [List.length_append] at this
              rw [← w2.len, ← rz.len]
              exact Nat.le_of_lt this
            unfold extU at hzs
            split at hzs
            · cases hzs
              obtain ⟨c, vz, rfl, sc, rz⟩ := qy
              obtain ⟨f1, f2⟩ := fin vz rz
              exact .inr ⟨a, c, ws, vz, rfl, rfl, w1, sc, f1, f2⟩
            · split at hzs
              · rename_i q5
                cases hzs
                obtain ⟨c, hc, rfl, vz, k1, rz⟩ := R2.of q5 qy
                obtain ⟨f1, f2⟩ := fin vz rz
                exact .inl ⟨a, c, ws, vz, rfl, rfl, w1, k1, f1, f2⟩
              · rename_i q5
                cases hzs
                obtain ⟨c, ob, vz, hc, rfl, k1, k2, rz⟩ := R2.ofP q5 qy
                obtain ⟨f1, f2⟩ := fin vz rz
                exact .inr ⟨a, c, ws, vz, rfl, rfl, w1, .inl (.inr ⟨ob, k1⟩), f1, f2⟩
              · cases hzs
            · cases hzs
          · cases e2
        · cases e2
      · cases e2
    · cases e1
  · cases e1
/-- tuple(x) -/
def eTupOf (f : MF U) : MF U := fun env h => bnd (f env h) fun u h1 => match u with
  | .tup us => ret (.tup us) h1
  | .ref j => (match getL h1 j with | some us => ret (.tup us) h1 | none => none)
  | _ => none
theorem sim_tupOf {t : TE} {f : MF U} (s : Sim K E t f) : Sim K E (tThen t (kTup K)) (eTupOf f) := fun m h env σ H r Q re R e o => by
  refine s.on re R e o.x fun u h1 m1 H1 v e1 x1 R1 q1 => ?_
  split at e1
  · cases e1
    obtain ⟨a, vs, rfl, hs, rr⟩ := q1
    exact .inr ⟨a, vs, rfl, hs, o m1 H1 _ x1 R1 ⟨a, vs, rfl, hs, rr⟩⟩
  · split at e1
    · rename_i us q
      cases e1
      obtain ⟨a, vs, ha, rfl, hs, rr⟩ := R1.ofL q q1
      refine .inl ⟨a, vs, rfl, hs, fun p hp => ?_⟩
      obtain ⟨e2, R2⟩ := R1.fresh (o := .tup vs) hp
      exact o m1 _ _ (x1.trans e2) R2 ⟨p, vs, rfl, .of upd_same, rr.mono e2⟩
    · cases e1
  · cases e1
/-- tuple(x), a plain one of ours -/
def eTupOfF (f : MF U) : MF U := fun env h => bnd (f env h) fun u h1 => match u with
  | .ref j => (match getL h1 j with | some us => lf (mk (.ptp us) h1) | none => none)
  | _ => none
theorem sim_tupOfF {t : TE} {f : MF U} (s : Sim K E t f) : Sim K E (tThen t (kTupF K)) (eTupOfF f) := fun m h env σ H r Q re R e o => by
  refine s.on re R e o.x fun u h1 m1 H1 v e1 x1 R1 q1 => ?_
  split at e1
  · split at e1
    · rename_i us q
      obtain ⟨u2, h2, e2, rfl⟩ := lf_inv e1
      obtain ⟨hn, rfl, rfl⟩ := mk_inv e2
      obtain ⟨a, vs, ha, rfl, hs, rr⟩ := R1.ofL q q1
      refine ⟨a, vs, rfl, hs, fun p ob hp hd => ?_⟩
      obtain ⟨e3, R3, u3⟩ := R1.laid (o := .ptp us) (ho := .frz ob (.tup vs)) hn hp fun m' H' x hp' => ⟨ob, vs, hp', hd, rr.mono x⟩
      exact o _ _ _ (x1.trans e3) R3 u3
    · cases e1
  · cases e1
/-- (a, b), a plain one of ours -/
def eTupF (fa : MF (List U)) : MF U := fun env h => bnd (fa env h) fun us h1 => match szOk us with | true => lf (mk (.ptp us) h1) | false => none
theorem sim_tupF {t : TA} {f : MF (List U)} (s : SimA K E t f) : Sim K E (tTupF t) (eTupF f) := fun m h env σ H r Q re R e o => by
  refine s.on re R e o.x fun us h1 m1 H1 vs e1 x1 R1 q1 => ?_
  split at e1
  · rename_i hz
    obtain ⟨u, h2, e2, rfl⟩ := lf_inv e1
    obtain ⟨hn, rfl, rfl⟩ := mk_inv e2
    refine ⟨by rw [← q1.len]; exact Nat.le_of_lt (szOk_le hz), fun p ob hp hd => ?_⟩
    obtain ⟨e3, R3, u3⟩ := R1.laid (o := .ptp us) (ho := .frz ob (.tup vs)) hn hp fun m' H' x hp' => ⟨ob, vs, hp', hd, q1.mono x⟩
    exact o _ _ _ (x1.trans e3) R3 u3
  · cases e1
/-- dict(t), t a plain tuple of pairs -/
def mergeU : List (U × U) → List U → Option (List (U × U))
  | acc, [] => some acc
  | acc, .tup [k, v] :: r => (match isKey k, kNd acc with | true, true => mergeU (dput acc k v) r | _, _ => none)
  | _, _ => none
theorem mergeU_ok : ∀ {us : List U} {acc kvs : List (U × U)} {vs : List V} {vacc : List (Key × V)}, mergeU acc us = some kvs → RUs K m H us vs → RKv K m H acc vacc → ∃ (ps : List Addr) (ks : List (Key × V)), vs = ps.map V.ref ∧ Paired (fun p kv => SqT K H p [kV kv.1, kv.2]) ps ks ∧ RKv K m H kvs (mergeK vacc ks)
  | [], acc, kvs, vs, vacc, e, r, ra => by
    cases e
    exact ⟨[], [], r, .nil, ra⟩
  | u :: us, acc, kvs, vs, vacc, e, r, ra => by
    obtain ⟨v, w, rfl, q1, q2⟩ := r
    unfold mergeU at e
    split at e
    · rename_i z; cases z
    · rename_i acc' k x r' z
      cases z
      split at e
      · rename_i hk hn
        obtain ⟨a, ws, rfl, hs, r3⟩ := q1
        obtain ⟨vk, vx, rfl, rk, rx⟩ := two r3
        obtain ⟨key, hkey⟩ := isKey_ok hk
        have ek := ru_key rk hkey
        subst ek
        obtain ⟨ps, ks, rfl, hp, hr⟩ := mergeU_ok e q2 (dput_ok hkey rx ra (kNd_ok ra hn))
        exact ⟨a :: ps, (key, vx) :: ks, rfl, .cons hs hp, hr⟩
      · cases e
    · cases e
def gDictP : List U → Hq → Option (U × Hq) := fun xs h => match xs with
  | [.ref j] => (match h.get j with
    | some (.ptp us) => (match mergeU [] us with | some kvs => mk (.dct kvs) h | none => none)
    | _ => none)
  | _ => none
theorem simc_dictP : SimC K (rDictPT K) gDictP := fun m h H xs vs u h' Q R q e o => by
  unfold gDictP at e
  split at e
  · split at e
    · rename_i us q2
      split at e
      · rename_i kvs hm
        obtain ⟨hn, rfl, rfl⟩ := mk_inv e
        obtain ⟨v, rfl, q1⟩ := one q
        obtain ⟨a, ob, ws, ha, rfl, k1, k2, rr⟩ := R.ofP q2 q1
        obtain ⟨ps, ks, rfl, hp, hr⟩ := mergeU_ok hm rr (vacc := []) rfl
        refine ⟨a, ob, ps, ks, rfl, k1, k2, hp, fun p hpn => ?_⟩
        obtain ⟨e3, R3, u3⟩ := R.laid (o := .dct kvs) (ho := .dK (mergeK [] ks)) hn hpn fun m' H' x hp' => ⟨_, hp', hr.mono x⟩
        exact o _ _ _ e3 R3 u3
      · cases e
    · cases e
  · cases e
/-! plain tuples where tuples are read -/
def gLenP : List U → Hq → Option (U × Hq) := fun xs h => match xs with
  | [.ref j] => (match h.get j with | some (.ptp us) => some (.int (Int.ofNat us.length), h) | _ => gLen xs h)
  | _ => gLen xs h
theorem simc_lenP : SimC K (rLenQ K) gLenP := fun m h H xs vs u h' Q R q e o => by
  unfold gLenP at e
  split at e
  · split at e
    · rename_i us q2
      cases e
      obtain ⟨v, rfl, q1⟩ := one q
      obtain ⟨a, ob, ws, ha, rfl, k1, k2, rr⟩ := R.ofP q2 q1
      exact .inl ⟨_, ws.length, rfl, .inr ⟨ws, .inl (.inr ⟨ob, k1⟩), rfl⟩, o m H _ .refl R (by rw [← rr.len]; exact rfl)⟩
    · exact simc_len m h H _ vs u h' Q R q e o
  · exact simc_len m h H _ vs u h' Q R q e o
def gIxP : U → U → Hq → Option (U × Hq) := fun x y h => match x with
  | .ref j => (match h.get j with
    | some (.ptp us) => (match y with | .int i => (match ixQ us i with | some u => some (u, h) | none => none) | _ => none)
    | _ => gIx x y h)
  | _ => gIx x y h
theorem simr_ixP : SimR K (rIxQ K) gIxP := fun m h H x y vx vy u h' Q R qx qy e o => by
  unfold gIxP at e
  split at e
  · split at e
    · rename_i us q2
      split at e
      · split at e
        · rename_i w hw
          cases e
          cases qy
          obtain ⟨a, ob, ws, ha, rfl, k1, k2, rr⟩ := R.ofP q2 qx
          obtain ⟨v, h1, h2⟩ := rr.atI hw
          exact .inl (.inl (.inr ⟨a, ws, _, v, rfl, rfl, .inl (.inr ⟨ob, k1⟩), h1, o m H v .refl R h2⟩))
        · cases e
      · cases e
    · exact simr_ix m h H _ y vx vy u h' Q R qx qy e o
  · exact simr_ix m h H _ y vx vy u h' Q R qx qy e o
def uSeqP (u : U) (h : Hq) : Option NX := match u with
  | .ref j => (match h.get j with | some (.ptp us) => some (nxT us) | _ => uSeq u h)
  | _ => uSeq u h
def eSeqP (f : MF U) : MF NX := fun env h => bnd (f env h) fun u h1 => match u with
  | .ref j => (match h1.get j with
    | some (.ptp us) => ret (nxT us) h1
    | _ => (match uSeq u h1 with | some nx => ret nx h1 | none => none))
  | _ => (match uSeq u h1 with | some nx => ret nx h1 | none => none)
theorem simi_seqP {te : TE} {f : MF U} (s : Sim K E te f) : SimI K E (iSeq K te) (eSeqP f) := fun m h env σ H r Q re R e o => by
  rcases bnd_inv e with ⟨u, h1, e1, e2⟩ | ⟨C, fs, h1, e1, rfl⟩
  · have old : ∀ e2 : (match uSeq u h1 with | some nx => ret nx h1 | none => none) = some r, iSeq K te σ H Q := fun e2 => by
      refine simi_seq s m h env σ H r Q re R ?_ o
      unfold eSeq
      rw [e1]
      exact e2
    split at e2
    · split at e2
      · rename_i us q2
        cases e2
        refine .inr (s m h env σ H _ _ re R e1 fun m1 H1 v x1 R1 q1 => ?_)
        obtain ⟨a, ob, ws, ha, rfl, k1, k2, rr⟩ := R1.ofP q2 q1
        have hs : SqT K H1 a ws := .inl (.inr ⟨ob, k1⟩)
        exact ⟨a, rfl, ⟨ws, hs⟩, o m1 H1 _ x1 R1 (itr_tup hs rr)⟩
      · exact old e2
    · exact old e2
  · exact .inr (s m h env σ H _ _ re R e1 o)
def tyUP (h : Hq) (u : U) : Option Ty := match u with
  | .ref j => (match h.get j with | some (.ptp _) => some .tup | _ => tyU h u)
  | _ => tyU h u
def eIsiP (b : Ty) (f : MF U) : MF U := fun env h => bnd (f env h) fun x h1 => match tyUP h1 x with | some a => ret (.bl (isTy a b)) h1 | none => none
theorem tyUP_ok (R : RH K m H h) {u : U} {v : V} {t : Ty} (r : RU K m H u v) (e : tyUP h u = some t) : TyX K H v (.type t.nm) := by
  unfold tyUP at e
  split at e
  · split at e
    · rename_i us q2
      cases e
      obtain ⟨a, ob, ws, ha, rfl, k1, k2, rr⟩ := R.ofP q2 r
      exact sqT_tyX (.inl (.inr ⟨ob, k1⟩))
    · exact tyU_ok R r e
  · exact tyU_ok R r e
theorem sim_isiP {b : Ty} (hb : b ≠ .non) {t : TE} {f : MF U} (s : Sim K E t f) : Sim K E (tCB (rIsi K) (tCons t (tCons (tC (.ty b.nm)) tNil))) (eIsiP b f) := fun m h env σ H r Q re R e o => by
  refine s.on re R e o.x fun u h1 m1 H1 v e1 x1 R1 q1 => ?_
  split at e1
  · rename_i a q
    cases e1
    exact ⟨v, _, _, _, _, rfl, .ty _, tyUP_ok R1 q1 q, kit_all K a b hb, o m1 H1 _ x1 R1 rfl⟩
  · cases e1
end QE
/-! QP: instances: made, their fields, their methods; a class is told by its name in the text -/
namespace QE
open PySem L2
variable {K : PySem.W.Frag} {m m' m2 : Mp} {H H' H2 : Hp} {h h' : Hq} {E : XK}
def lookF : List (Nm × U) → Nm → Option U
  | [], _ => none
  | (x, u) :: r, f => match nmEq x f with | true => some u | false => lookF r f
def putQ (f : Nm) (u : U) : List (Nm × U) → List (Nm × U)
  | [] => [(f, u)]
  | (x, w) :: r => match nmEq x f with | true => (x, u) :: r | false => (x, w) :: putQ f u r
theorem nmEq_dec (x y : Nm) : nmEq x y = decide (x = y) := by
  by_cases e : x = y
  · rw [decide_eq_true e]; exact (nmEq_iff x y).mpr e
  · rw [decide_eq_false e]
    cases z : nmEq x y with
    | false => rfl
    | true => exact absurd ((nmEq_iff x y).mp z) e
theorem lookF_ok {f : Nm} : ∀ {fs : List (Nm × U)} {vs : List (Str × V)}, RF K m H fs vs → (∀ u, lookF fs f = some u → ∃ v, vs.lookup (st f) = some v ∧ RU K m H u v) ∧ (lookF fs f = none → vs.lookup (st f) = none)
  | [], vs, r => by
    rw [show vs = [] from r]
    exact ⟨fun u e => (nomatch e), fun _ => rfl⟩
  | (x, u) :: fs, vs, r => by
    obtain ⟨v, w, rfl, h1, h2⟩ := r
    have ih := lookF_ok (f := f) h2
    by_cases e : x = f
    · subst e
      have e1 : List.lookup (st x) ((st x, v) :: w) = some v := by rw [List.lookup_cons]; simp
      have e2 : lookF ((x, u) :: fs) x = some u := by unfold lookF; rw [nmEq_dec, decide_eq_true rfl]
      rw [e1, e2]
      exact ⟨fun u' z => by cases z; exact ⟨v, rfl, h1⟩, fun z => by cases z⟩
    · have e1 : List.lookup (st f) ((st x, v) :: w) = List.lookup (st f) w := by
        rw [List.lookup_cons]
        have : (st f == st x) = false := beq_eq_false_iff_ne.mpr fun z => e (st_inj.mp z).symm
        rw [this]
      have e2 : lookF ((x, u) :: fs) f = lookF fs f := by rw [lookF, nmEq_dec, decide_eq_false e]
      rw [e1, e2]
      exact ih
theorem putQ_ok {f : Nm} {u : U} {v : V} (hv : RU K m H u v) : ∀ {fs : List (Nm × U)} {vs : List (Str × V)}, RF K m H fs vs → RF K m H (putQ f u fs) (putF (st f) v vs)
  | [], vs, r => by
    rw [show vs = [] from r]
    exact ⟨v, [], rfl, hv, rfl⟩
  | (x, w) :: fs, vs, r => by
    obtain ⟨vx, r', rfl, h1, h2⟩ := r
    by_cases e : x = f
    · have e1 : putF (st f) v ((st x, vx) :: r') = (st x, v) :: r' := by unfold putF; rw [if_pos (st_inj.mpr e)]
      have e2 : putQ f u ((x, w) :: fs) = (x, u) :: fs := by rw [putQ, nmEq_dec, decide_eq_true e]
      rw [e1, e2]
      exact ⟨v, r', rfl, hv, h2⟩
    · have e1 : putF (st f) v ((st x, vx) :: r') = (st x, vx) :: putF (st f) v r' := by rw [putF, if_neg fun z => e (st_inj.mp z)]
      have e2 : putQ f u ((x, w) :: fs) = (x, w) :: putQ f u fs := by rw [putQ, nmEq_dec, decide_eq_false e]
      rw [e1, e2]
      exact ⟨vx, _, rfl, h1, putQ_ok hv h2⟩
theorem RF.len : ∀ {us : List (Nm × U)} {vs : List (Str × V)}, RF K m H us vs → us.length = vs.length
  | [], vs, r => by rw [show vs = [] from r]; rfl
  | (x, u) :: us, vs, r => by
    obtain ⟨v, w, rfl, _, h2⟩ := r
    simp [RF.len h2]
def inNms (x : Nm) : List Nm → Bool
  | [] => false
  | y :: r => match nmEq y x with | true => true | false => inNms x r
theorem inNms_ok {x : Nm} : ∀ {cs : List Nm}, inNms x cs = true → x ∈ cs
  | [], e => by cases e
  | y :: r, e => by
    unfold inNms at e
    split at e
    · rename_i q
      rw [(nmEq_iff y x).mp q]
      exact List.mem_cons_self ..
    · exact List.mem_cons_of_mem _ (inNms_ok e)
/-- a class of the text is a plain one, and has no attribute f -/
def FldOk (K : PySem.W.Frag) (cs : List Nm) (f : Nm) : Prop := ∀ C ∈ cs, ∀ A, PySem.W.nsIn K mainGlobals (st C) = some (some (.ref A)) → Cls K A ∧ NoAttr K A (st f)
theorem RH.ofI (R : RH K m H h) {i : Nat} {C : Nm} {fs : List (Nm × U)} {v : V} (e : h.get i = some (.ins C fs)) (r : RU K m H (.ref i) v) : ∃ a A dx vs, m i = some a ∧ v = .ref a ∧ PySem.W.nsIn K mainGlobals (st C) = some (some (.ref A)) ∧ H a = some (.ins A dx vs) ∧ RF K m H fs vs := by
  obtain ⟨a, ha, rfl, A, dx, vs, h0, h1, h2⟩ := R.of e r
  exact ⟨a, A, dx, vs, ha, rfl, h0, h1, h2⟩
def eFld (cs : List Nm) (f : Nm) (fo : MF U) : MF U := fun env h => bnd (fo env h) fun x h1 => match x with
  | .ref j => (match h1.get j with
    | some (.ins C fs) => (match inNms C cs, lookF fs f with | true, some u => ret u h1 | _, _ => none)
    | _ => none)
  | _ => none
theorem sim_fld {cs : List Nm} {f : Nm} {fs' : Str} {t : TE} {fo : MF U} (hf : fs' = st f) (hc : FldOk K cs f) (s : Sim K E t fo) : Sim K E (tFld K t fs') (eFld cs f fo) := fun m h env σ H r Q re R e o => by
  refine s.on re R e o.x fun u h1 m1 H1 v e1 x1 R1 q1 => ?_
  split at e1
  · split at e1
    · rename_i C fs q2
      split at e1
      · rename_i u hin hl
        cases e1
        obtain ⟨a, A, dx, vs, ha, rfl, h0, k1, rr⟩ := R1.ofI q2 q1
        obtain ⟨c1, c2⟩ := hc C (inNms_ok hin) A h0
        obtain ⟨w, l1, l2⟩ := (lookF_ok rr).1 u hl
        subst hf
        exact ⟨a, A, dx, vs, w, rfl, k1, c1, c2, l1, o m1 H1 w x1 R1 l2⟩
      · cases e1
    · cases e1
  · cases e1
def sFldQ (cs : List Nm) (f : Nm) (fo fe : MF U) : SF := fun env h => bnS env (fe env h) fun y h1 => bnS env (fo env h1) fun x h2 => match x with
  | .ref j => (match h2.get j with
    | some (.ins C fs) => (match inNms C cs, lenOk 999 fs with | true, true => some (.nx, env, h2.set j (.ins C (putQ f y fs))) | _, _ => none)
    | _ => none)
  | _ => none
theorem sims_fld {cs : List Nm} {f : Nm} {fs' : Str} {ta tv : TE} {fo fe : MF U} (hf : fs' = st f) (hc : FldOk K cs f) (sa : Sim K E ta fo) (sv : Sim K E tv fe) : SimS K E (sFld K ta tv fs') (sFldQ cs f fo fe) := fun m h env σ H r D re R e o => by
  refine sv.onS re R e o.x fun y h1 m1 H1 vy e1 x1 R1 q1 => ?_
  refine sa.onS (re.mono x1) R1 e1 (o.mono x1).x fun x h2 m2 H2 vx e2 x2 R2 q2 => ?_
  split at e2
  · split at e2
    · rename_i j C fs q3
      split at e2
      · rename_i hin hl
        cases e2
        obtain ⟨a, A, dx, vs, ha, rfl, h0, k1, rr⟩ := R2.ofI q3 q2
        obtain ⟨c1, c2⟩ := hc C (inNms_ok hin) A h0
        subst hf
        have hy := q1.mono x2
        obtain ⟨x3, R3⟩ := R2.put (o := .ins C (putQ f y fs)) (ho := .ins A dx (putF (st f) vy vs)) ha k1 trivial ⟨A, dx, _, h0, upd_same, (putQ_ok hy rr).mono (Ext.upd ha ⟨_, k1, trivial⟩)⟩
        refine ⟨a, A, dx, vs, rfl, k1, c1, c2, ?_, ?_⟩
        · rw [← rr.len]
          have := lenOk_le hl
          omega
        · exact o _ _ σ ((x1.trans x2).trans x3) R3 ((re.mono (x1.trans x2)).mono x3)
      · cases e2
    · cases e2
  · cases e2
def eMeth (C mn : Nm) (f : FF) (fo : MF U) (fa : MF (List U)) : MF U := fun env h => bnd (fo env h) fun x h1 => match x with
  | .ref j => (match h1.get j with
    | some (.ins D fs) => (match nmEq D C, lookF fs mn with
      | true, none => bnd (fa env h1) fun us h2 => f (x :: us) h2
      | _, _ => none)
    | _ => none)
  | _ => none
theorem sim_meth {C mn : Nm} {A : Addr} {ms : Str} {n : Nat} {f : FF} {ta : TE} {t : TA} {fo : MF U} {fa : MF (List U)} (hm : ms = st mn) (hA : PySem.W.nsIn K mainGlobals (st C) = some (some (.ref A))) (so : Sim K E ta fo) (sa : SimA K E t fa) :
    Sim K E (tMeth A ms (spQ K n (fn n f)) [] E ta t) (eMeth C mn (fn n f) fo fa) := fun m h env σ H r Q re R e o => by
  refine so.on re R e o.x fun x h1 m1 H1 vx e1 x1 R1 q1 => ?_
  split at e1
  · rename_i j
    split at e1
    · rename_i D fs q2
      split at e1
      · rename_i hD hl
        have eD := (nmEq_iff D C).mp hD
        subst eD
        obtain ⟨a, A', dx, vs, ha, rfl, h0, k1, rr⟩ := R1.ofI q2 q1
        rw [hA] at h0
        cases h0
        subst hm
        refine ⟨a, dx, vs, rfl, k1, (lookF_ok rr).2 hl, ?_⟩
        refine sa.on (re.mono x1) R1 e1 (o.mono x1).x fun us h2 m2 H2 ws e2 x2 R2 q3 => ?_
        rw [List.append_nil]
        have qq : RUs K m2 H2 (.ref j :: us) (.ref a :: ws) := ⟨.ref a, ws, rfl, ⟨a, x2.mm _ _ ha, rfl⟩, q3⟩
        exact ⟨by rw [← qq.len]; exact (fn_inv e2).1, m2, h2, _, r, qq, R2, e2, o.mono (x1.trans x2)⟩
      · cases e1
    · cases e1
  · cases e1
def eMake (C : Nm) (f : FF) (fa : MF (List U)) : MF U := fun env h => bnd (fa env h) fun us h1 => match mk (.ins C []) h1 with
  | some (x, h2) => (match f (x :: us) h2 with
    | some (.ok .non, h3) => some (.ok x, h3)
    | some (.ex D fs, h3) => some (.ex D fs, h3)
    | _ => none)
  | none => none
theorem sim_make {C : Nm} {A : Addr} {n : Nat} {f : FF} {t : TA} {fa : MF (List U)} (hA : PySem.W.nsIn K mainGlobals (st C) = some (some (.ref A))) (sa : SimA K E t fa) :
    Sim K E (tMake A (spQ K n (fn n f)) [] E t) (eMake C (fn n f) fa) := fun m h env σ H r Q re R e o => by
  refine sa.on re R e o.x fun us h1 m1 H1 ws e1 x1 R1 q1 => ?_
  split at e1
  · rename_i x h2 q2
    obtain ⟨hn, rfl, rfl⟩ := mk_inv q2
    intro x dx hx hdx hne
    obtain ⟨x2, R2⟩ := R1.fresh (o := .own x) hdx
    obtain ⟨x3, R3, u3⟩ := R2.laid (o := .ins C []) (ho := .ins A dx []) hn (show upd H1 dx (.own x) x = none by rw [upd_ne (Ne.symm hne)]; exact hx) fun m' H' _ hp' => ⟨A, dx, [], hA, hp', rfl⟩
    rw [List.append_nil]
    have x23 := x2.trans x3
    have qq : RUs K _ _ (.ref h1.n :: us) (.ref x :: ws) := ⟨.ref x, ws, rfl, u3, q1.mono x23⟩
    split at e1
    · rename_i h3 e3
      cases e1
      refine ⟨by rw [← qq.len]; exact (fn_inv e3).1, _, _, _, _, qq, R3, e3, fun m4 H4 v x4 R4 q4 => ?_⟩
      exact ⟨q4, o m4 H4 (.ref x) ((x1.trans x23).trans x4) R4 (u3.mono x4)⟩
    · rename_i D fs h3 e3
      cases e1
      exact ⟨by rw [← qq.len]; exact (fn_inv e3).1, _, _, _, _, qq, R3, e3, OutX.mono (x1.trans x23) o⟩
    · cases e1
  · cases e1
end QE
/-! QS: promises of __init__ and methods -/
namespace QE
open PySem L2
def PrI (P : Program) (w : World) (K : PySem.W.Frag) (mg : Str → Option Value) (base : Heap) (x : Str) (C : Nm) (k : Nat) (ps : List Str) (sp : Sp) : Prop :=
  ∃ (A f : Addr) (fd : FuncData), PySem.W.nsIn K mainGlobals (st C) = some (some (.ref A)) ∧ mg x = some (.ref A) ∧ Mk K A f ∧ Binds K fd ps [] ∧ FnOk P w K mg base (L2.CX P w) k f fd ps sp
def PrM (P : Program) (w : World) (K : PySem.W.Frag) (mg : Str → Option Value) (base : Heap) (C : Nm) (m : Str) (k : Nat) (ps : List Str) (sp : Sp) : Prop :=
  ∃ (A f : Addr) (fd : FuncData), PySem.W.nsIn K mainGlobals (st C) = some (some (.ref A)) ∧ Cls K A ∧ Meth K A m f ∧ Binds K fd ps [] ∧ FnOk P w K mg base (L2.CX P w) k f fd ps sp
end QE
namespace PySem
namespace XE
open PySem.W PySem.Calls PyProof.Rows PySem.HandSPX

section
variable {prog : Program} {w : World} {A : Around} {E : Value → Shared → Prop} {R : Result → Shared → Prop} {H : Heap} {gs : Array GenState} {dr : Drawn} {tk : Nat} {os : OsState}
  {nm qn : Str} {C N : Addr} {bs bm sub : List Value} {sn : List Str} {ab : Bool} {col : Option Bool} {dd : Option Addr} {k0 k1 k2 k3 k5 : Option Value} {as : List Value} {kw : List (Str × Value)} {fI : Addr}
/-- an own class over ValueError is made, whatever the keywords: the check of __new__'s call -/
theorem kwCheck {M : Model} (hv : refsVE bm = true) {Q : Unit → Shared → Prop} (hC : H.get? C = some (excClassObj nm qn C N bs bm true sn sub ab col dd k0 k1 k2 k3 k5 "ValueError.__new__")) (hQ : Q () ⟨H, gs, dr, tk, os⟩) :
    wpAny M A (checkBuiltinCall "ValueError.__new__" ⟨.ref C :: as, kw⟩) Q E ⟨H, gs, dr, tk, os⟩ := by
  have FV := F.excBase_ValueError
  have sV : (Value.ref C :: bm).contains (.type "ValueError") = true := by
    rw [List.contains_cons, refsVE_contains _ _ hv]; rfl
  have st := FV.noStar
  simp only [checkBuiltinCall, FV.newKind, FV.newSplit, FV.newRow]
  repeat (first
    | with_reducible refine wpAny_loadPart_at hC ?_
    | (with_reducible refine wpAny_isSubtype_exc hC ?_
       rw [sV])
    | with_reducible refine wpAny_madeBy_exc hC ?_
    | with_reducible refine wpAny_staticBase_exc hC ?_
    | simp only [bne_self_eq_false, Bool.false_eq_true, if_false]
    | wp_step)
  exact hQ
/-- .. and the object itself is laid -/
theorem kwNew (hv : refsVE bm = true) (hz : as.length ≤ sizeLine) (hC : H.get? C = some (excClassObj nm qn C N bs bm true sn sub ab col dd k0 k1 k2 k3 k5 "ValueError.__new__"))
    (hR : R (.ok (.ret (.ref (H.objs.size + 1)))) ⟨(H.push (kdv_tup as)).push (excO C H.objs.size), gs, dr, tk, os⟩) :
    codeAny (model prog w) A (.builtin "ValueError.__new__" ⟨.ref C :: as, kw⟩) R ⟨H, gs, dr, tk, os⟩ := by
  have FV := F.excBase_ValueError
  have en := FV.ends
  have has : ∀ X : String, (Value.ref C :: bm).contains (.type X) = veTail.contains (.type X) := fun X => by
    rw [List.contains_cons, refsVE_contains _ _ hv]; rfl
  have sV : (Value.ref C :: bm).contains (.type "ValueError") = true := (has _).trans (by decide +kernel)
  have sA : (Value.ref C :: bm).contains (.type "AttributeError") = false := (has _).trans (by decide +kernel)
  have sN : (Value.ref C :: bm).contains (.type "NameError") = false := (has _).trans (by decide +kernel)
  refine codeAny_builtinAt FV.entry ?_
  unfold Builtin.«BaseException.__new__»
  refine wpAt_bind (show wpAt _ _ _ (stack >>= _) _ _ _ from wpAt_bind (wpAt_stack fun _ _ => wpAt_of_wpAny ?_))
  wp_walk
  refine wpAt_of_wpAny ?_
  rw [FV.owner]
  repeat (first
    | with_reducible refine wpAny_madeHere_exc FV.canon hC ?_
    | with_reducible refine wpAny_loadPart_at hC ?_
    | (with_reducible refine wpAny_isSubtype_exc hC ?_
       first | rw [sV] | rw [sA] | rw [sN])
    | wp_step)
  show R _ _
  rw [Heap.size_push]
  exact hR
/-- C(..) with keywords: the object, then the class's own __init__ -/
theorem kwCall (hv : refsVE bm = true) (hz : as.length ≤ sizeLine) (hC : H.get? C = some (excClassObj nm qn C N bs bm true sn sub ab col dd k0 k1 k2 k3 k5 "ValueError.__new__"))
    (hi : Looks (model prog w) H (typeLookup (.ref C) "__init__") (some (.ref fI))) (hb : ∀ o, Looks (model prog w) H (bindSpecial (.ref fI) o) (.ref fI, [o]))
    (hR : codeAny (model prog w) (A.under (.builtin "type.__call__" ⟨.ref C :: as, kw⟩)) (.call (.ref fI) ⟨.ref (H.objs.size + 1) :: as, kw⟩) (InitBack (H.objs.size + 1) R)
      ⟨(H.push (kdv_tup as)).push (excO C H.objs.size), gs, dr, tk, os⟩) :
    codeAny (model prog w) A (.call (.ref C) ⟨as, kw⟩) R ⟨H, gs, dr, tk, os⟩ := by
  have FV := F.excBase_ValueError
  have a1 := tc_lookup
  have a2 := tc_bind (.ref C)
  have a3 : (⟨H, gs, dr, tk, os⟩ : Shared).TypeIs (.ref C) "type" := ⟨_, hC, rfl⟩
  have up : ∀ b o, H.get? b = some o → ((H.push (kdv_tup as)).push (excO C H.objs.size)).get? b = some o := fun b o e => Heap.get?_push_of_some _ (Heap.get?_push_of_some _ e)
  have at1 : ((H.push (kdv_tup as)).push (excO C H.objs.size)).get? (H.objs.size + 1) = some (excO C H.objs.size) := by heap_get
  have C1 := up _ _ hC
  have sC : (Value.ref C :: bm).contains (.ref C) = true := by simp
  have mid : ∀ {A' : Around} {Q : Fin → Shared → Prop} {E : Value → Shared → Prop}, codeAny (model prog w) A' (.call (.ref fI) ⟨.ref (H.objs.size + 1) :: as, kw⟩)
      (fun r s' => match r with | .ok (.ret v) => v = .none ∧ Q (.done (.ret (.ref (H.objs.size + 1)))) s' | .ok _ => False | .error e => E e s')
      ⟨(H.push (kdv_tup as)).push (excO C H.objs.size), gs, dr, tk, os⟩ → wpAny (model prog w) A' (Builtin.«type.__call__» ⟨.ref C :: as, kw⟩) Q E ⟨H, gs, dr, tk, os⟩ := by
    intro A' Q E hq
    repeat (first
      | with_reducible refine wpAny_madeBy_exc hC ?_
      | with_reducible refine wpAny_loadPart_at hC ?_
      | wp_step)
    refine codeAny_call_builtin_code (Code.quiet_builtin _ FV.quiet) (kwCheck hv hC (kwNew hv hz hC ?_))
    show wpAny _ _ _ _ _ _
    unfold isInstance
    repeat (first
      | (with_reducible refine wpAny_isSubtype_exc C1 ?_
         rw [sC])
      | with_reducible refine wpAny_loadPart_at at1 ?_
      | wp_step)
    refine (hi.keeps up).at ?_
    refine wpAny_holding (wpAny_bind (((hb (.ref (H.objs.size + 1))).keeps up).at ?_))
    refine wpAny_bind (wpAny_call (codeAny_mono hq fun r s' z => ?_))
    cases r with
    | error e => exact z
    | ok f =>
      cases f with
      | ret v =>
        obtain ⟨z1, z2⟩ := z
        subst z1
        first
          | exact wpAny_pure (wpAny_pure z2)
          | (wp_walk
             exact z2)
      | next => exact z.elim
      | brk => exact z.elim
      | cont => exact z.elim
  refine codeAny_of_tree (show wpAny _ _ (callAny (.ref C) _) _ _ _ from ?_)
  repeat (any_goals (first | assumption | with_reducible refine wpAny_loadPart_at hC ?_ | wp_step))
  refine ⟨rfl, codeAny_call_builtin_at (Code.quiet_builtin _ (by decide +kernel)) entry_typeCall (wpAny_check_type_call_sub hC (mid ?_))⟩
  refine codeAny_mono hR fun r s' z => ?_
  rcases r with e | (v | _ | _ | _) <;> exact z
end
end XE
end PySem
namespace PySem
namespace XE
open PySem.W PySem.Calls PyProof.Rows PySem.HandSPX
/-- the parameters of an own __init__: self and the fields -/
def iArg (p : Pos) (f : Str) : Arg := { arg := f, annotation := none, pos := p }
def iArgs (p : Pos) (l : List (Pos × Str)) : Arguments := { posonlyargs := [], args := iArg p "self" :: l.map fun q => iArg q.1 q.2, vararg := none, kwonlyargs := [], kw_defaults := [], kwarg := none, defaults := [] }
/-- super().__init__('..') -/
def iSup (m : Str) (j : Nat) (p1 p2 p3 p4 p5 p6 : Pos) : Stmt := .Expr (.Call (.Attribute (.Call (.Name "super" p1) [] [] p2) "__init__" p3) [.Constant (.str m) j p4] [] p5) p6
/-- self.f = f -/
def iSet (f : Str) (q1 q2 q3 q4 : Pos) : Stmt := .Assign [.Attribute (.Name "self" q1) f q2] (.Name f q3) q4
/-- the facts of an own error class at C whose own __init__ stands at fI -/
structure XT (K : Frag) (mg : Str → Option Value) (x : Str) (C : Addr) : Prop where
  gC : mg x = some (.ref C)
  kC : keepIn K (.ref C) = true
  cls : ∃ nm q N bs bm sn sub ab col dd k0 k1 k2 k3 k5, K.lookup C = some (excClassObj nm q C N bs bm true sn sub ab col dd k0 k1 k2 k3 k5 "ValueError.__new__") ∧ refsVE bm = true ∧ alongIn K "__init__" bm = some (some (.builtin "ValueError.__init__"))
  sa : findIn K (.ref C) "__setattr__" = some (some (.builtin "object.__setattr__"))
  ga : findIn K (.ref C) "__getattribute__" = some (some (.builtin "BaseException.__getattribute__"))
  gg : findIn K (.ref C) "__getattr__" = some none
  hsB : subIn K (.ref C) (.type "BaseException") = some true
  hsV : subIn K (.ref C) (.type "ValueError") = some true
  tyC : typeIn K (.ref C) = some (.type "type")
  hd : hasDictIn K C = true
  ha : findIn K (.ref C) "__class__" = some (some (.builtin "object.__class__"))
  hm : mroIn K C (.type "object") = some true
  hself : mroIn K C (.ref C) = some true
/-- what all of them share -/
structure XG0 (K : Frag) : Prop where
  hn : specialIn K (.builtin "object.__class__") "__get__" = some (some (.builtin "getset_descriptor.__get__"))
  ht : takesIn K (.builtin "object.__class__") = some true
structure XG (prog : Program) (K : Frag) : Prop extends XG0 K where
  op : nsIn K cStatics "thirdparty.any" = some none
  sup : nsIn K mainGlobals "super" = some none
  top : (prog.main.scope.names.lookup ("super" : Str)).isSome = false
/-- its __init__, at fI: the fields fl in order; body behind super().__init__ -/
structure XI (prog : Program) (K : Frag) (C fI : Addr) (fl : List Str) (rest : List Stmt) : Prop where
  fi : findIn K (.ref C) "__init__" = some (some (.ref fI))
  ti : typeIn K (.ref fI) = some (.type "function")
  fn : ∃ (oc : Value) (od : Option Addr) (q : Str) (kV doc pm ct : Value) (an : Option Addr) (cda : Addr) (osl : Array (Option Value)) (l : List (Pos × Str)) (p p1 p2 p3 p4 p5 p6 : Pos) (m : Str) (j : Nat) (scope : Scope) (cc : Addr)
      (ccl cl : Value) (cdd cld : Option Addr) (vs : Array Value) (ccs csl : Array (Option Value)) (file : Str) (tf : Tok),
    K.lookup fI = some ⟨oc, od, .func (fnX "__init__" q (iArgs p l) (iSup m j p1 p2 p3 p4 p5 p6 :: rest) scope [("__class__", cc)] .none kV doc pm an (.ref cda) ct), osl⟩ ∧ codeIn K (.ref cda) q = true ∧ l.map (·.2) = fl ∧
    K.lookup cda = some ⟨ccl, cdd, .fields vs, ccs⟩ ∧ vs[2]? = some (.str file tf) ∧ ((prog.main.file : Str) == file) = true ∧ K.lookup cc = some ⟨cl, cld, .cell (some (.ref C)), csl⟩ ∧
    (p3.endLine == p5.line) = true ∧ scope.kind = .function ∧ scope.isCoroutine = false ∧ scope.isGenerator = false ∧ (∀ x ∈ scope.names, x.2 ≠ .cell) ∧ scope.names.lookup ("super" : Str) = some .globalImplicit ∧ scope.names.lookup ("__class__" : Str) = some .free ∧
    scope.names.lookup ("self" : Str) = some .local ∧ ∀ f ∈ fl, scope.names.lookup f = some .local
section
variable {prog : Program} {w : World} {A : Around} {E : Value → Shared → Prop} {R : Result → Shared → Prop} {s : Shared} {K : Frag} {mg mb : Str → Option Value} {x : Str} {C fI : Addr} {fl : List Str} {rest : List Stmt}
theorem lookup_rev {α : Type} {n : Str} {v : α} : ∀ {l : List (Str × α)}, (l.map (·.1)).Nodup → (n, v) ∈ l → l.reverse.lookup n = some v := by
  have key : ∀ (l : List (Str × α)), (l.map (·.1)).Nodup → (n, v) ∈ l → l.lookup n = some v := by
    intro l
    induction l with
    | nil => intro _ h; cases h
    | cons p l ih =>
      intro hn h
      obtain ⟨a, b⟩ := p
      simp only [List.map_cons, List.nodup_cons] at hn
      rcases List.mem_cons.mp h with e | h
      · cases e
        simp [List.lookup]
      · have ne : n ≠ a := fun e => hn.1 (List.mem_map.mpr ⟨_, h, e⟩)
        have e : (n == a) = false := by simpa using ne
        simp only [List.lookup, e]
        exact ih hn.2 h
  intro l hn h
  refine key _ ?_ (List.mem_reverse.mpr h)
  rw [List.map_reverse]
  exact List.pairwise_reverse.mpr (hn.imp fun h => Ne.symm h)
theorem sup_eq {m : Str} {j : Nat} {p1 p2 p3 p4 p5 : Pos} {env : Env} (hp : (p3.endLine == p5.line) = true) :
    ∃ pl : Sem Bool, eval (.Call (.Attribute (.Call (.Name "super" p1) [] [] p2) "__init__" p3) [.Constant (.str m) j p4] [] p5) env = (do
      let ov ← attributeBase (.Call (.Name "super" p1) [] [] p2) "__init__" env (eval (.Call (.Name "super" p1) [] [] p2) env)
      standAt p3.atName
      let (f, first) ← holding [ov] (getMethod ov "__init__" pl)
      callWith p5 f first (backTo p5 (starEach [.Constant (.str m) j p4] env)) []) := by
  refine ⟨(do return (← importBound (.Call (.Name "super" p1) [] [] p2) env).getD true), ?_⟩
  have e : methodCallPos true (.Call (.Name "super" p1) [] [] p2) env p3 p5 = pure p5 := by
    unfold methodCallPos
    rw [hp]
    rfl
  show (attributeBase _ _ env _ >>= fun ov => standAt _ >>= fun _ => methodCall _ _ p3 p5 env ov 1 (backTo p5 (starEach [.Constant (.str m) j p4] env)) []) = _
  unfold methodCall
  have hf : methodCallForm 1 (backTo p5 (starEach [.Constant (.str m) j p4] env)) [] = true := rfl
  rw [hf, e]
  rfl
/-- the instance e at the fields' stores: the frame at L holds self and the fields -/
theorem init_enter (T : XT K mg x C) (G : XG prog K) (I : XI prog K C fI fl rest) {e t0 : Addr} {us : List Value} {args : Args} (X : K.In s.heap) (hlim : s.heap.NoLimit) (hg : s.heap.Ns mainGlobals mg) (hmg : mg "super" = none)
    (hb : s.heap.Ns builtinsNs mb) (hbv : mb "super" = some (.type "super"))
    (he : s.heap.get? e = some (excO C t0)) (hroom : A.depth < recursionLimit) (hlen : us.length = fl.length) (hnd : ("self" :: fl : List Str).Nodup)
    (hbind : ∀ fd, (∃ oc od osl, K.lookup fI = some ⟨oc, od, .func fd, osl⟩) → BindsTo s fd args (("self", .ref e) :: fl.zip us))
    (h : ∀ (env : Env) (h₁ : Heap) (t1 : Addr) (tk : Nat), env.scope.kind = .function → env.kindOf "self" = some .local → (∀ f ∈ fl, env.kindOf f = some .local) → h₁.Ns env.locals (fun y => ((("self", Value.ref e) :: fl.zip us : List (Str × Value)).reverse).lookup y) → s.heap.objs.size ≤ env.locals → env.locals ≠ e →
      (∀ b o, b ≠ e → s.heap.get? b = some o → h₁.get? b = some o) → h₁.get? e = some (excO C t1) →
      wpAny (model prog w) (A.deeper env) (execs rest env) (fun f s' => R (.ok (.ret (match f with | .ret v => v | _ => .none))) s')
        (fun e s' => wpAny (model prog w) (A.deeper env) (leaving env e) (fun _ s'' => R (.error e) s'') (fun e' s'' => R (.error e') s'') s') { s with heap := h₁, toks := tk }) :
    codeAny (model prog w) A (.call (.ref fI) args) R s := by
  obtain ⟨oc, od, q, kV, doc, pm, ct, an, cda, osl, l, p, p1, p2, p3, p4, p5, p6, m, j, scope, cc, ccl, cl, cdd, cld, vs, ccs, csl, file, tf, lk, hcd, hfl, lkc, hvs, hfile, lkcc, hpp, hk, hco, hgen, hcell, hks, hkc, hself, hloc⟩ := I.fn
  obtain ⟨nm, qq, N, bs, bm, sn, sub, ab, col, dd, k0, k1, k2, k3, k5, hC, hbm, hal⟩ := T.cls
  have hcl : clsIn K C = some { name := nm, bases := bs, mro := .ref C :: bm, ns := N, qualname := qq, hasDict := true, slotNames := sn, subclasses := sub, abstract := ab, collection := col, hasDel := false } := by unfold clsIn; rw [hC] <;> rfl
  have hloc2 : ∀ y ∈ (("self", .ref e) :: fl.zip us : List (Str × Value)), scope.names.lookup y.1 = some .local := by
    intro y hy
    rcases List.mem_cons.mp hy with rfl | hy
    · exact hself
    · exact hloc _ (List.of_mem_zip hy).1
  refine ks_codeAny_call_defAt (fd := fnX "__init__" q (iArgs p l) (iSup m j p1 p2 p3 p4 p5 p6 :: rest) scope [("__class__", cc)] .none kV doc pm an (.ref cda) ct) (body := iSup m j p1 p2 p3 p4 p5 p6 :: rest) (binds := ("self", .ref e) :: fl.zip us)
    hroom (X _ _ lk) rfl hlim (codeRec_of X hcd) rfl (hbind _ ⟨_, _, _, lk⟩) hcell hloc2 (fun h₁ hns hk₁ => ?_) hco hgen hk
  have X1 : K.In h₁ := X.keeps hk₁
  obtain ⟨pl, heq⟩ := sup_eq (m := m) (j := j) (p1 := p1) (p2 := p2) (p4 := p4) (env := callEnv (fnX "__init__" q (iArgs p l) (iSup m j p1 p2 p3 p4 p5 p6 :: rest) scope [("__class__", cc)] .none kV doc pm an (.ref cda) ct) s.heap.objs.size fI) hpp
  refine ks_wpAt_execs_cons (ks_wpAt_Expr_any (ks_wpAt_MethodCall (pl := pl) ?_ heq) (by simp [interactive, callEnv, newEnv, hk]))
  have hvself : (("self", .ref e) :: fl.zip us : List (Str × Value)).reverse.lookup ("self" : Str) = some (.ref e) := by
    refine lookup_rev ?_ List.mem_cons_self
    have : (("self", Value.ref e) :: fl.zip us : List (Str × Value)).map (·.1) = ("self" : Str) :: fl := by
      rw [List.map_cons]
      congr 1
      rw [List.map_fst_zip]
      omega
    rw [this]
    exact hnd
  have hsub : mroIn K C (.ref C) = some true := T.hself
  have he1 : h₁.get? e = some (excO C t0) := hk₁ _ _ he
  have hC1 := X1 _ _ hC
  refine ks_wpAt_super_base (f := fI) (cc := cda) (ar := iArg p "self") hks hkc (by decide) rfl (X1 _ _ lk) rfl rfl rfl (X1 _ _ lkc) rfl hvs hfile G.top ?_
  refine ks_loadName_global hk hks (loadGlobal_builtin (hg.keeps hk₁) hmg (hb.keeps hk₁) hbv ⟨rfl, ?_⟩)
  refine wpAny_loadName_free hk hkc rfl ⟨_, X1 _ _ lkcc, rfl⟩ ?_
  refine wpAny_loadName_local hk hself hns hvself ?_
  refine ks_wpAny_isType_cls hC1 rfl ⟨rfl, ?_⟩
  refine ks_wpAny_call_super hC1 rfl he1 rfl (fun c z => nomatch z) (looks_mroIn X1 hsub) (fun h₂ hso k2 => ?_)
  have X2 : K.In h₂ := X1.keeps k2
  have he2 := k2 _ _ he1
  have hxC : e ≠ C := fun z => by
    rw [z, hC1] at he1
    cases he1
  have Ie : InstAt h₂ e (excO C t0) C none := ⟨he2, rfl, rfl, trivial⟩
  have hI : Looks (model prog w) h₂ (isInstance (.ref e) (.type "ValueError")) true := Ie.type.andThen (looks_subIn X2 T.hsV)
  refine kxs_getMethod kxs_ValueError (x := e) (C := C) (D := C) (K := K) (l₀ := .ref C :: bm) (l := bm) hso (looks_opaque X2 G.op) (fun A Q E s k q => wpAny_bind ((looks_clsIn X2 hcl) A _ E s k (wpAny_pure q))) (by simp [List.dropWhile_cons]) X2 hal hI hxC (by decide) ?_
  have hup : ∀ b o, h₂.get? b = some o → (h₂.push (kxs_mw "ValueError.__init__" e)).get? b = some o := fun b o z => Heap.get?_push_of_some _ z
  have hu : (h₂.push (kxs_mw "ValueError.__init__" e)).get? h₂.objs.size = some (kxs_mw "ValueError.__init__" e) := Heap.get?_push_at rfl rfl
  have X3 : K.In (h₂.push (kxs_mw "ValueError.__init__" e)) := X2.keeps hup
  have he3 := hup _ _ he2
  have hC3 := X3 _ _ hC
  generalize henv : callEnv (fnX "__init__" q (iArgs p l) (iSup m j p1 p2 p3 p4 p5 p6 :: rest) scope [("__class__", cc)] .none kV doc pm an (.ref cda) ct) s.heap.objs.size fI = env at *
  show wpAny _ _ (callWith p5 (.ref h₂.objs.size) [] (backTo p5 (starEach [.Constant (.str m) j p4] env)) []) _ _ _
  refine kxs_callWith (i := "ValueError.__init__") (x := e) rfl (evalArgs_plain ?_)
  show wpAny _ _ (spliced ((false, eval (.Constant (.str m) j p4) env) :: backTo p5 (starEach [] env))) _ _ _
  refine Calls.spliced_cons (Calls.Constant_str ?_)
  refine Calls.spliced_nil ⟨hu, ?_⟩
  show wpAny _ _ (call (.ref h₂.objs.size) [Value.str m _]) _ _ _
  refine wpAny_call (codeAny_of_tree ?_)
  show wpAny _ (A.deeper env).in1 (callAny (.ref h₂.objs.size) ⟨[Value.str m _], []⟩) _ _ _
  simp only [callAny]
  refine wpAny_bind (wpAny_load hu ?_)
  simp only [kxs_mw, show (Value.type "method-wrapper" == Value.type "method" || Value.type "method-wrapper" == Value.type "builtin_function_or_method" || Value.type "method-wrapper" == Value.type "method-wrapper") = true by decide, if_true]
  refine KFB.if_so (by decide) ?_
  refine wpAny_bind (check_bound_init F.excBase_ValueError.toExcCallFacts hC3 he3 rfl ?_)
  refine wpAny_bind (wpAny_pure (wpAny_pure ?_))
  refine ⟨plainId_quiet F.excBase_ValueError.init.plain _, codeAny_builtin F.excBase_ValueError.initEntry ?_⟩
  refine exc_init_tree (cls := .ref C) (t0 := t0) (dv := none) (c2 := .none) (c3 := .none) (b4 := .bool false) he3 (by show 1 ≤ sizeLine; rw [sizeLine_eq]; omega) (fun h4 k4 he4 _ => ?_)
  have kAll : ∀ b o, b ≠ e → s.heap.get? b = some o → h4.get? b = some o := fun b o hb z => k4 b o hb (hup b o (k2 b o (hk₁ b o z)))
  have hL : env.locals = s.heap.objs.size := by rw [← henv]; rfl
  have heL : env.locals ≠ e := by
    rw [hL]
    exact Nat.ne_of_gt (Heap.lt_size he)
  have hns4 : h4.Ns env.locals (fun y => ((("self", Value.ref e) :: fl.zip us : List (Str × Value)).reverse).lookup y) := by
    have hns' : h₁.Ns env.locals (fun y => ((("self", Value.ref e) :: fl.zip us : List (Str × Value)).reverse).lookup y) := by
      rw [hL]
      exact hns
    obtain ⟨oL, es, ep, hoL, r⟩ := hns'
    exact ⟨oL, es, ep, k4 _ _ heL (hup _ _ (k2 _ _ hoL)), r⟩
  show wpAt _ _ _ (execs rest env) _ _ _
  refine wpAt_of_wpAny ?_
  exact h env h4 _ _ (by rw [← henv]; exact hk) (by rw [← henv]; exact hself) (fun f hf => by rw [← henv]; exact hloc f hf) hns4 (Nat.le_of_eq hL.symm) heL kAll he4
end
end XE
end PySem
namespace PySem
namespace XE
open PySem.W PySem.Calls PyProof.Rows PySem.HandSPX
/-- behind __init__: the error at e has its own dict at dx, which holds the fields -/
structure InitE (h h' : Heap) (e C dx t1 : Addr) (fvs : List (Str × Value)) : Prop where
  keep : ∀ b o, b ≠ e → h.get? b = some o → h'.get? b = some o
  obj : h'.get? e = some { cls := .ref C, dict := some dx, data := .fields #[.ref t1, .none, .none, .none, .bool false, .none] }
  dbig : h.objs.size ≤ dx
  dne : dx ≠ e
  ns : ∃ mA, h'.Ns1 dx mA ∧ ∀ y, mA y = fvs.lookup y
/-- the fields that a class stores, each by self.f = f -/
def setsOf : List (Str × Pos × Pos × Pos × Pos) → List Stmt
  | [] => []
  | (f, q1, q2, q3, q4) :: l => iSet f q1 q2 q3 q4 :: setsOf l
section
variable {prog : Program} {w : World} {A : Around} {E : Value → Shared → Prop} {R : Result → Shared → Prop} {s : Shared} {K : Frag} {mg mb : Str → Option Value} {x : Str} {C fI : Addr} {fl : List Str} {rest : List Stmt}
theorem lookup_if {α : Type} (f y : Str) (v : α) (l : List (Str × α)) : ((f, v) :: l).lookup y = if y = f then some v else l.lookup y := by
  by_cases h : y = f
  · subst h
    simp [List.lookup]
  · have e : (y == f) = false := by simpa using h
    rw [if_neg h]
    simp [List.lookup, e]
/-- one store: self.f = f, the name f holding v -/
theorem set_one {env : Env} {m : Str → Option Value} {e : Addr} {f : Str} {v : Value} {q1 q2 q3 q4 : Pos} {Q : Flow → Shared → Prop} (hk : env.scope.kind = .function) (hs : env.kindOf "self" = some .local) (hf : env.kindOf f = some .local) (hn : s.heap.Ns env.locals m)
    (ms : m "self" = some (.ref e)) (mf : m f = some v) (h : wpAny (model prog w) A (setAttr (.ref e) f v) (fun _ => Q .next) E s)
    (hd : (f == ("__debug__" : Str)) = false) : wpAny (model prog w) A (exec (iSet f q1 q2 q3 q4) env) Q E s := by
  refine plainObj_wpAny_Assign_Attribute ?_ rfl
  exact wpAny_Name (wpAny_loadName_local hk hf hn mf (wpAny_Name (wpAny_loadName_local hk hs hn ms h) (by decide))) hd
/-- the stores one after another, from an error that has some of its fields already -/
theorem sets_run (T : XT K mg x C) {env : Env} {e t1 : Addr} (hk : env.scope.kind = .function) (hs : env.kindOf "self" = some .local) (heL : env.locals ≠ e) :
    ∀ (l : List (Str × Pos × Pos × Pos × Pos)) (us : List Value) (m : Str → Option Value) (s : Shared) (dx : Addr) (fvs : List (Str × Value)) {Q : Flow → Shared → Prop} {E : Value → Shared → Prop}, K.In s.heap → s.heap.Ns env.locals m → m "self" = some (.ref e) →
      (∀ p ∈ (l.map (·.1)).zip us, m p.1 = some p.2) → us.length = l.length → (∀ p ∈ l, findIn K (.ref C) p.1 = some none ∧ env.kindOf p.1 = some .local ∧ (p.1 == ("__debug__" : Str)) = false) → env.locals ≠ dx → dx ≠ e → K.lookup dx = none → K.lookup e = none → fvs.length + l.length ≤ 100 →
      s.heap.get? e = some { cls := .ref C, dict := some dx, data := .fields #[.ref t1, .none, .none, .none, .bool false, .none] } → (∃ mA, s.heap.Ns1 dx mA ∧ ∀ y, mA y = fvs.lookup y) →
      (∀ h' tk, (∀ b o, b ≠ dx → s.heap.get? b = some o → h'.get? b = some o) → (∃ mA, h'.Ns1 dx mA ∧ ∀ y, mA y = ((((l.map (·.1)).zip us).reverse) ++ fvs).lookup y) → Q .next { s with heap := h', toks := tk }) →
      wpAny (model prog w) A (execs (setsOf l) env) Q E s := by
  obtain ⟨nm, qq, N, bs, bm, sn, sub, ab, col, dd, k0, k1, k2, k3, k5, hC, hbm, hal⟩ := T.cls
  have hcl : clsIn K C = some { name := nm, bases := bs, mro := .ref C :: bm, ns := N, qualname := qq, hasDict := true, slotNames := sn, subclasses := sub, abstract := ab, collection := col, hasDel := false } := by unfold clsIn; rw [hC] <;> rfl
  intro l
  induction l with
  | nil =>
    intro us m s dx fvs Q E X hn ms hz hlen hfs hLd hde hKd hKe hsz he hns hQ
    have : us = [] := List.length_eq_zero_iff.mp hlen
    subst this
    exact wpAny_execs_nil (hQ s.heap s.toks (fun _ _ _ z => z) hns)
  | cons p l ih =>
    intro us m s dx fvs Q E X hn ms hz hlen hfs hLd hde hKd hKe hsz he hns hQ
    obtain ⟨f, q1, q2, q3, q4⟩ := p
    cases us with
    | nil => simp at hlen
    | cons v us =>
      obtain ⟨hno, hkf, hdb⟩ := hfs _ List.mem_cons_self
      have mf : m f = some v := hz (f, v) (by simp)
      obtain ⟨mA, hns1, hmA⟩ := hns
      obtain ⟨oD, _, _, hoD, _, _⟩ := hns1.count (ns := fvs.map (·.1)) (by
        intro y hy
        rw [hmA y] at hy
        have key : ∀ (L : List (Str × Value)), L.lookup y ≠ none → y ∈ L.map (·.1) := by
          intro L
          induction L with
          | nil => intro z; exact absurd rfl z
          | cons a L ih2 =>
            intro z
            obtain ⟨a1, a2⟩ := a
            rw [lookup_if] at z
            by_cases ey : y = a1
            · rw [ey]; exact List.mem_cons_self
            · rw [if_neg ey] at z
              exact List.mem_cons_of_mem _ (ih2 z)
        exact key fvs hy)
      have hw : Within mA (fvs.map (·.1)) := by
        intro y hy
        rw [hmA y] at hy
        have key : ∀ (L : List (Str × Value)), L.lookup y ≠ none → y ∈ L.map (·.1) := by
          intro L
          induction L with
          | nil => intro z; exact absurd rfl z
          | cons a L ih2 =>
            intro z
            obtain ⟨a1, a2⟩ := a
            rw [lookup_if] at z
            by_cases ey : y = a1
            · rw [ey]; exact List.mem_cons_self
            · rw [if_neg ey] at z
              exact List.mem_cons_of_mem _ (ih2 z)
        exact key fvs hy
      show wpAny _ _ (execs (iSet f q1 q2 q3 q4 :: setsOf l) env) _ _ _
      refine wpAny_execs_cons (set_one hk hs hkf hn ms mf ?_ hdb)
      obtain ⟨hp, g, d, t, os⟩ := s
      refine set_plain X (ox := { cls := .ref C, dict := some dx, data := .fields #[.ref t1, .none, .none, .none, .bool false, .none] }) (od := some oD) ⟨he, rfl, rfl, hoD⟩ T.sa ?_
      refine PySem.OEX.osa_old X he hns1 hw (by rw [List.length_map]; simp only [List.length_cons] at hsz; omega) hcl (show refsVE (.ref C :: bm) = true from hbm) rfl hno (fun h₂ tk₂ k₂ hn₂ => ?_)
      have X2 : K.In h₂ := fun a o z => k₂ a o (fun e2 => by rw [e2, hKd] at z; cases z) (X a o z)
      have hnF : h₂.Ns env.locals m := by
        obtain ⟨oL, es, ep, hoL, r⟩ := hn
        exact ⟨oL, es, ep, k₂ _ _ hLd hoL, r⟩
      show wpAny _ _ (execs (setsOf l) env) _ _ _
      refine ih us m ⟨h₂, g, d, tk₂, os⟩ dx ((f, v) :: fvs) X2 hnF ms (fun p hp => hz p (by simp only [List.map_cons, List.zip_cons_cons]; exact List.mem_cons_of_mem _ hp)) (by simpa using hlen) (fun p hp => hfs p (List.mem_cons_of_mem _ hp)) hLd hde hKd hKe (by simp only [List.length_cons] at hsz ⊢; omega) (k₂ _ _ (Ne.symm hde) he)
        ⟨_, hn₂, fun y => by rw [lookup_if, hmA y]⟩ ?_
      intro h' tk k' hns'
      refine hQ h' tk (fun b o hb z => k' b o hb (k₂ b o hb z)) ?_
      obtain ⟨mB, hB, hmB⟩ := hns'
      refine ⟨mB, hB, fun y => ?_⟩
      rw [hmB y]
      simp only [List.map_cons, List.zip_cons_cons, List.reverse_cons, List.append_assoc, List.singleton_append]
end
end XE
end PySem
namespace PySem
namespace XE
open PySem.W PySem.Calls PyProof.Rows PySem.HandSPX
section
variable {prog : Program} {w : World} {A : Around} {E : Value → Shared → Prop} {R : Result → Shared → Prop} {s : Shared} {K : Frag} {mg mb : Str → Option Value} {x : Str} {C fI : Addr}
theorem not_in {h : Heap} {a : Addr} (X : K.In h) (ha : h.objs.size ≤ a) : K.lookup a = none := by
  cases e : K.lookup a with
  | none => rfl
  | some o => exact absurd (Heap.lt_size (X _ _ e)) (Nat.not_lt.mpr ha)
theorem zip_fst {α : Type} : ∀ {l : List Str} {us : List α}, us.length = l.length → (l.zip us).map (·.1) = l
  | [], [], _ => rfl
  | a :: l, b :: us, h => by
    simp only [List.zip_cons_cons, List.map_cons]
    rw [zip_fst (by simpa using h)]
/-- an own __init__ over a fresh error at e -/
theorem init_run (T : XT K mg x C) (G : XG prog K) {l : List (Str × Pos × Pos × Pos × Pos)} (I : XI prog K C fI (l.map (·.1)) (setsOf l)) (hl : l ≠ []) (hl9 : l.length ≤ 9) {e t0 : Addr} {us : List Value} {args : Args}
    (X : K.In s.heap) (hlim : s.heap.NoLimit) (hg : s.heap.Ns mainGlobals mg) (hmg : mg "super" = none) (hb : s.heap.Ns builtinsNs mb) (hbv : mb "super" = some (.type "super"))
    (he : s.heap.get? e = some (excO C t0)) (hKe : K.lookup e = none) (hroom : A.depth < recursionLimit) (hlen : us.length = l.length) (hnd : ("self" :: l.map (·.1) : List Str).Nodup)
    (hno : ∀ p ∈ l, findIn K (.ref C) p.1 = some none ∧ (p.1 == ("__debug__" : Str)) = false)
    (hbind : ∀ fd, (∃ oc od osl, K.lookup fI = some ⟨oc, od, .func fd, osl⟩) → BindsTo s fd args (("self", .ref e) :: (l.map (·.1)).zip us))
    (hq : ∀ h' tk dx t1, InitE s.heap h' e C dx t1 (((l.map (·.1)).zip us).reverse) → R (.ok (.ret .none)) { s with heap := h', toks := tk }) :
    codeAny (model prog w) A (.call (.ref fI) args) R s := by
  refine init_enter T G I (us := us) (t0 := t0) X hlim hg hmg hb hbv he hroom (by simpa using hlen) hnd hbind ?_
  intro env h₁ t1 tk hk hs hfl hns hLs hLe k1 he1
  obtain ⟨nm, qq, N, bs, bm, sn, sub, ab, col, dd, k0, k1', k2', k3, k5, hC, hbm, hal⟩ := T.cls
  have hcl : clsIn K C = some { name := nm, bases := bs, mro := .ref C :: bm, ns := N, qualname := qq, hasDict := true, slotNames := sn, subclasses := sub, abstract := ab, collection := col, hasDel := false } := by unfold clsIn; rw [hC] <;> rfl
  have X1 : K.In h₁ := fun a o z => k1 a o (fun e2 => by rw [e2, hKe] at z; cases z) (X a o z)
  have hzn : ((("self", Value.ref e) :: (l.map (·.1)).zip us : List (Str × Value)).map (·.1)).Nodup := by
    rw [List.map_cons, zip_fst (by simpa using hlen)]
    exact hnd
  have m0 : (("self", Value.ref e) :: (l.map (·.1)).zip us : List (Str × Value)).reverse.lookup ("self" : Str) = some (.ref e) := lookup_rev hzn List.mem_cons_self
  have mz : ∀ p ∈ (l.map (·.1)).zip us, (("self", Value.ref e) :: (l.map (·.1)).zip us : List (Str × Value)).reverse.lookup p.1 = some p.2 := fun p hp => lookup_rev hzn (List.mem_cons_of_mem _ hp)
  cases l with
  | nil => exact absurd rfl hl
  | cons p l =>
    obtain ⟨f, q1, q2, q3, q4⟩ := p
    cases us with
    | nil => simp at hlen
    | cons v us =>
      have hkf : env.kindOf f = some .local := hfl f (by simp)
      obtain ⟨hnf, hdb⟩ := hno _ List.mem_cons_self
      have mf := mz (f, v) (by simp)
      show wpAny _ _ (execs (iSet f q1 q2 q3 q4 :: setsOf l) env) _ _ _
      refine wpAny_execs_cons (set_one hk hs hkf hns m0 mf ?_ hdb)
      obtain ⟨hp, g, d, t, os⟩ := s
      refine set_plain X1 (ox := excO C t1) (od := none) ⟨he1, rfl, rfl, trivial⟩ T.sa ?_
      refine exc_osa X1 he1 hcl (show refsVE (.ref C :: bm) = true from hbm) rfl hnf (fun h₂ tk₂ dx k₂ hdb2 hde he2 hn2 => ?_)
      have X2 : K.In h₂ := fun a o z => k₂ a o (fun e2 => by rw [e2, hKe] at z; cases z) (X1 a o z)
      have hKd : K.lookup dx = none := not_in X1 hdb2
      have hnF : h₂.Ns env.locals (fun y => (("self", Value.ref e) :: (((f, q1, q2, q3, q4) :: l : List (Str × Pos × Pos × Pos × Pos)).map (·.1)).zip (v :: us) : List (Str × Value)).reverse.lookup y) := by
        obtain ⟨oL, es, ep, hoL, r⟩ := hns
        exact ⟨oL, es, ep, k₂ _ _ hLe hoL, r⟩
      have hLd : env.locals ≠ dx := by
        obtain ⟨oL, es, ep, hoL, r⟩ := hns
        exact Nat.ne_of_lt (Nat.lt_of_lt_of_le (Heap.lt_size hoL) hdb2)
      show wpAny _ _ (execs (setsOf l) env) _ _ _
      have hsz : hp.objs.size ≤ h₁.objs.size := by
        have : env.locals < h₁.objs.size := hns.lt
        have h3 : hp.objs.size ≤ env.locals := hLs
        exact Nat.le_of_lt (Nat.lt_of_le_of_lt h3 this)
      refine sets_run T hk hs hLe l us _ ⟨h₂, g, d, tk₂, os⟩ dx [(f, v)] X2 hnF m0 (fun p hp => mz p (by simp only [List.map_cons, List.zip_cons_cons]; exact List.mem_cons_of_mem _ hp)) (by simpa using hlen)
        (fun p hp => ⟨(hno p (List.mem_cons_of_mem _ hp)).1, hfl p.1 (by simp only [List.map_cons]; exact List.mem_cons_of_mem _ (List.mem_map_of_mem hp)), (hno p (List.mem_cons_of_mem _ hp)).2⟩) hLd hde hKd hKe
        (by simp only [List.length_cons, List.length_nil] at hl9 ⊢; omega) he2 ⟨_, hn2, fun y => by rw [lookup_if]; rfl⟩ ?_
      intro h' tk' k' hns'
      refine hq h' tk' dx t1 ⟨fun b o hbe z => ?_, ?_, Nat.le_trans hsz hdb2, hde, ?_⟩
      · have z1 := k1 b o hbe z
        refine k' b o ?_ (k₂ b o hbe z1)
        exact Nat.ne_of_lt (Nat.lt_of_lt_of_le (Heap.lt_size z1) hdb2)
      · exact k' _ _ (Ne.symm hde) he2
      · obtain ⟨mB, hB, hmB⟩ := hns'
        refine ⟨mB, hB, fun y => ?_⟩
        rw [hmB y]
        simp only [List.map_cons, List.zip_cons_cons, List.reverse_cons]
end
end XE
end PySem
namespace PySem
namespace XE
open PySem.W PySem.Calls PyProof.Rows PySem.HandSPX
/-- how a call C(..) binds: us by place, ws by the keywords ks; g puts them in the order of the fields -/
structure XB (K : Frag) (fI : Addr) (fl ks : List Str) (n : Nat) (g : {α : Type} → List α → List α → List α) : Prop where
  to : ∀ (s : Shared) (e : Addr) (us ws : List Value) (fd : FuncData), (∃ oc od osl, K.lookup fI = some ⟨oc, od, .func fd, osl⟩) → us.length = n → ws.length = ks.length →
    (g us ws).length = fl.length ∧ BindsTo s fd ⟨.ref e :: us, ks.zip ws⟩ (("self", .ref e) :: fl.zip (g us ws))
theorem XI.binds {prog : Program} {K : Frag} {C fI : Addr} {fl ks : List Str} {n : Nat} {rest : List Stmt} {g : {α : Type} → List α → List α → List α} (I : XI prog K C fI fl rest)
    (h : ∀ (q : Str) (kV doc pm ct cdv : Value) (an : Option Addr) (l : List (Pos × Str)) (p : Pos) (scope : Scope) (cc e : Addr) (body : List Stmt) (us ws : List Value), l.map (·.2) = fl → us.length = n → ws.length = ks.length →
      (g us ws).length = fl.length ∧ bindArgs (fnX "__init__" q (iArgs p l) body scope [("__class__", cc)] .none kV doc pm an cdv ct) ⟨.ref e :: us, ks.zip ws⟩ = pure ((("self", Value.ref e) :: fl.zip (g us ws) : List (Str × Value)))) : XB K fI fl ks n g := by
  refine ⟨fun s e us ws fd hfd l1 l2 => ?_⟩
  obtain ⟨oc, od, q, kV, doc, pm, ct, an, cda, osl, l, p, p1, p2, p3, p4, p5, p6, m, j, scope, cc, ccl, cl, cdd, cld, vs, ccs, csl, file, tf, lk, hcd, hfl, _⟩ := I.fn
  obtain ⟨oc', od', osl', lk'⟩ := hfd
  rw [lk] at lk'
  simp only [Option.some.injEq, Obj.mk.injEq, Data.func.injEq] at lk'
  obtain ⟨_, _, hfe, _⟩ := lk'
  subst hfe
  obtain ⟨h1, h2⟩ := h q kV doc pm ct (.ref cda) an l p scope cc e _ us ws hfl l1 l2
  exact ⟨h1, BindsTo.of_eq h2⟩
/-- a made error: all that stood stands -/
structure MadeE (h h' : Heap) (e C dx t1 : Addr) (fvs : List (Str × Value)) : Prop where
  keep : ∀ b o, h.get? b = some o → h'.get? b = some o
  new : h.objs.size ≤ e
  obj : h'.get? e = some { cls := .ref C, dict := some dx, data := .fields #[.ref t1, .none, .none, .none, .bool false, .none] }
  dbig : h.objs.size ≤ dx
  dne : dx ≠ e
  ns : ∃ mA, h'.Ns1 dx mA ∧ ∀ y, mA y = fvs.lookup y
section
variable {prog : Program} {w : World} {A : Around} {E : Value → Shared → Prop} {R : Result → Shared → Prop} {s : Shared} {K : Frag} {mg mb : Str → Option Value} {x : Str} {C fI : Addr}
theorem made_run (T : XT K mg x C) (G : XG prog K) {l : List (Str × Pos × Pos × Pos × Pos)} {ks : List Str} {n : Nat} {g : {α : Type} → List α → List α → List α} (I : XI prog K C fI (l.map (·.1)) (setsOf l)) (B : XB K fI (l.map (·.1)) ks n g) (hl : l ≠ []) (hl9 : l.length ≤ 9) {us ws : List Value}
    (X : K.In s.heap) (hlim : s.heap.NoLimit) (hg : s.heap.Ns mainGlobals mg) (hmg : mg "super" = none) (hb : s.heap.Ns builtinsNs mb) (hbv : mb "super" = some (.type "super"))
    (hroom : A.depth + 1 < recursionLimit) (l1 : us.length = n) (l2 : ws.length = ks.length) (hz : us.length ≤ 1000) (hnd : ("self" :: l.map (·.1) : List Str).Nodup)
    (hno : ∀ p ∈ l, findIn K (.ref C) p.1 = some none ∧ (p.1 == ("__debug__" : Str)) = false)
    (hq : ∀ h' tk e dx t1, MadeE s.heap h' e C dx t1 (((l.map (·.1)).zip (g us ws)).reverse) → R (.ok (.ret (.ref e))) { s with heap := h', toks := tk }) :
    codeAny (model prog w) A (.call (.ref C) ⟨us, ks.zip ws⟩) R s := by
  obtain ⟨nm, qq, N, bs, bm, sn, sub, ab, col, dd, k0, k1', k2', k3, k5, hC, hbm, hal⟩ := T.cls
  obtain ⟨hp, gs, dr, tk, os⟩ := s
  have up : ∀ b o, hp.get? b = some o → ((hp.push (kdv_tup us)).push (excO C hp.objs.size)).get? b = some o := fun b o e => Heap.get?_push_of_some _ (Heap.get?_push_of_some _ e)
  have at1 : ((hp.push (kdv_tup us)).push (excO C hp.objs.size)).get? (hp.objs.size + 1) = some (excO C hp.objs.size) := by heap_get
  refine kwCall hbm (Nat.le_trans hz (by rw [sizeLine_eq]; omega)) (X _ _ hC) (looks_findIn X I.fi) (fun o => bind_fn X o I.ti) ?_
  have hbi := fun fd hfd => B.to ⟨(hp.push (kdv_tup us)).push (excO C hp.objs.size), gs, dr, tk, os⟩ (hp.objs.size + 1) us ws fd hfd l1 l2
  have hlg : (g us ws).length = l.length := by
    obtain ⟨oc, od, q, kV, doc, pm, ct, an, cda, osl, l', p, p1, p2, p3, p4, p5, p6, m, j, scope, cc, ccl, cl, cdd, cld, vs, ccs, csl, file, tf, lk, _⟩ := I.fn
    have := (hbi _ ⟨_, _, _, lk⟩).1
    simpa using this
  refine init_run (s := ⟨(hp.push (kdv_tup us)).push (excO C hp.objs.size), gs, dr, tk, os⟩) (us := g us ws) (t0 := hp.objs.size) T G I hl hl9 (X.keeps up) (hlim.keeps up) (hg.keeps up) hmg (hb.keeps up) hbv at1 (not_in X (Nat.le_succ _)) (by show A.depth + 1 < recursionLimit; exact hroom) hlg hnd hno (fun fd hfd => (hbi fd hfd).2) ?_
  intro h' tk' dx t1 P
  refine ⟨rfl, hq h' tk' (hp.objs.size + 1) dx t1 ⟨fun b o z => P.keep b o (Nat.ne_of_lt (Nat.lt_succ_of_lt (Heap.lt_size z))) (up b o z), Nat.le_succ _, P.obj, ?_, P.dne, P.ns⟩⟩
  have := P.dbig
  simp only [Heap.size_push] at this
  show hp.objs.size ≤ dx
  omega
end
end XE
end PySem

namespace L2
open PySem PySem.Spec PyProof.Rows
section
variable {fs ex : List Addr} {H : Hp} {h h' : Heap} {a b : Addr} {o u : HO}
/-- two new objects are laid and tracked -/
theorem Un.laid2 (k : ∀ c v, h.get? c = some v → h'.get? c = some v) (ha : h.objs.size ≤ a) (hb : h.objs.size ≤ b) (na : H a = none) (nb : H b = none) : Un fs ex H (upd (upd H a o) b u) h h' where
  keep := fun c v q _ _ _ => k c v q
  slot := fun c v q _ _ _ => ⟨v.slots, k c v q⟩
  free := fun c v q n _ => by
    rw [upd_ne (Nat.ne_of_lt (Nat.lt_of_lt_of_le (Heap.lt_size q) hb)), upd_ne (Nat.ne_of_lt (Nat.lt_of_lt_of_le (Heap.lt_size q) ha))]
    exact n
  there := fun c v q _ => ⟨v, k c v q⟩
  tups := fun c xs q => by
    rw [upd_ne (ne_of_none q nb), upd_ne (ne_of_none q na)]
    exact q
  frzs := fun c v xs q => by
    rw [upd_ne (ne_of_none q nb), upd_ne (ne_of_none q na)]
    exact q
  tbls := fun c ps q => ⟨#[], by
    rw [upd_ne (ne_of_none q nb), upd_ne (ne_of_none q na), q]
    simp⟩
end
/-- C(..): a new error whose own dict d holds the fields -/
def tMkX (C : Addr) (fl : List Str) (n m : Nat) (g : {α : Type} → List α → List α → List α) (t tk : TA) : TE := fun σ H Q => t σ H fun vs H1 => tk σ H1 fun zs H2 => vs.length = n ∧ zs.length = m ∧
  ∀ d e : Addr, H2 d = none → H2 e = none → d ≠ e → Q (.ref e) (upd (upd H2 d (exd d ((fl.zip (g vs zs)).reverse))) e (exo e C (some d)))
section
variable {X : Cx} {pins : List (Addr × Obj)} {σ : St} {H : Hp} {s : Shared} {C fI : Addr} {x : Str} {l : List (Str × Pos × Pos × Pos × Pos)} {ks : List Str} {n k : Nat} {g : {α : Type} → List α → List α → List α}
/-- all that a class's call wants to know -/
structure XM (X : Cx) (x : Str) (C fI : Addr) (l : List (Str × Pos × Pos × Pos × Pos)) : Prop where
  T : PySem.XE.XT X.K X.mg x C
  I : PySem.XE.XI X.prog X.K C fI (l.map (·.1)) (PySem.XE.setsOf l)
  G : PySem.XE.XG X.prog X.K
  sup : X.mg "super" = none
  ne : l ≠ []
  few : l.length ≤ 9
  nd : ("self" :: l.map (·.1) : List Str).Nodup
  no : ∀ p ∈ l, PySem.W.findIn X.K (.ref C) p.1 = some none ∧ (p.1 == ("__debug__" : Str)) = false
theorem rel_lookup {us : List Value} {vs : List V} (r : Vals vs us) : ∀ (fl : List Str) (y : Str), RelO ((fl.zip vs).lookup y) ((fl.zip us).lookup y) := by
  induction r with
  | nil => intro fl y; simp [RelO]
  | cons r t ih =>
    intro fl y
    cases fl with
    | nil => simp [RelO]
    | cons f fl =>
      simp only [List.zip_cons_cons]
      rw [PySem.XE.lookup_if, PySem.XE.lookup_if]
      split
      · exact r
      · exact ih fl y
theorem Vals.rev : ∀ {vs : List V} {us : List Value}, Vals vs us → Vals vs.reverse us.reverse := by
  intro vs us r
  induction r with
  | nil => exact .nil
  | cons r t ih =>
    rw [List.reverse_cons, List.reverse_cons]
    exact ih.append (.cons r .nil)
theorem zip_rev {α : Type} : ∀ {l : List Str} {us : List α}, us.length = l.length → (l.zip us).reverse = l.reverse.zip us.reverse
  | [], [], _ => rfl
  | a :: l, b :: us, h => by
    have h' : us.length = l.length := by simpa using h
    rw [List.zip_cons_cons, List.reverse_cons, List.reverse_cons, List.reverse_cons, zip_rev h', List.zip_append (by simpa using h'.symm)]
    rfl
theorem rel_lookup_rev {us : List Value} {vs : List V} (r : Vals vs us) {fl : List Str} (hl : vs.length = fl.length) (y : Str) : RelO (((fl.zip vs).reverse).lookup y) (((fl.zip us).reverse).lookup y) := by
  have e1 : (fl.zip vs).reverse = fl.reverse.zip vs.reverse := zip_rev hl
  have e2 : (fl.zip us).reverse = fl.reverse.zip us.reverse := zip_rev (r.length.symm.trans hl)
  rw [e1, e2]
  exact rel_lookup r.rev _ y
theorem run_mkX (M : XM X x C fI l) (B : PySem.XE.XB X.K fI (l.map (·.1)) ks n g) (hgr : ∀ {vs zs : List V} {us ws : List Value}, Vals vs us → Vals zs ws → Vals (g vs zs) (g us ws)) (hr : Room k X.A) {us ws : List Value} {vs zs : List V} {Q : VK} (I : Inv X pins σ H s) (r : Vals vs us) (rz : Vals zs ws) (l1 : vs.length = n) (l2 : zs.length = ks.length) (hz : n ≤ 1000)
    (h : ∀ d e : Addr, H d = none → H e = none → d ≠ e → Q (.ref e) (upd (upd H d (exd d (((l.map (·.1)).zip (g vs zs)).reverse))) e (exo e C (some d)))) :
    wpAny (model X.prog X.w) X.A (call (.ref C) us (ks.zip ws)) (EP X pins σ Q) X.xe s := by
  obtain ⟨mb, hb1, hb2⟩ := I.mod.blt
  have hglob : s.heap.Ns mainGlobals X.mg := I.mod.glob.keeps I.bk
  have hlen : (g vs zs).length = (l.map (·.1)).length := by
    obtain ⟨oc, od, q, kV, doc, pm, ct, an, cda, osl, l', p, p1, p2, p3, p4, p5, p6, m, j, scope, cc, ccl, cl, cdd, cld, vs', ccs, csl, file, tf, lk, _⟩ := M.I.fn
    have h1 := (B.to s 0 us ws _ ⟨_, _, _, lk⟩ (r.length.symm.trans l1) (rz.length.symm.trans l2)).1
    rw [← h1]
    exact (hgr r rz).length
  refine wpAny_call (PySem.XE.made_run M.T M.G M.I B M.ne M.few I.kIn I.nolimit hglob M.sup (hb1.keeps I.bk) ((hb2 "super" (by decide)).trans (by decide +kernel)) (by have := hr.dp; omega) (r.length.symm.trans l1) (rz.length.symm.trans l2) (by rw [← r.length, l1]; exact hz) M.nd M.no ?_)
  intro h' tk e dx t1 P
  obtain ⟨mA, hns, hmA⟩ := P.ns
  have nd : H dx = none := I.hok.fresh P.dbig
  have ne : H e = none := I.hok.fresh P.new
  have rel : ∀ f, RelO ((((l.map (·.1)).zip (g vs zs)).reverse).lookup f) (mA f) := fun f => by
    rw [hmA f]
    exact rel_lookup_rev (hgr r rz) hlen f
  refine ⟨.ref e, _, I.un (h' := h') (t' := tk) (Un.laid2 (o := exd dx (((l.map (·.1)).zip (g vs zs)).reverse)) (u := exo e C (some dx)) P.keep P.dbig P.new nd ne) ?_, rfl, h dx e nd ne P.dne⟩
  intro b o z
  by_cases hbe : b = e
  · subst hbe
    rw [upd_same] at z
    cases z
    exact exo_ok P.obj
  · rw [upd_ne hbe] at z
    by_cases hbd : b = dx
    · subst hbd
      rw [upd_same] at z
      cases z
      exact exd_ok hns rel
    · rw [upd_ne hbd] at z
      exact (I.hok b o z).stay (fun c v _ q => P.keep c v q) (fun c q => by rw [upd_ne (ne_of_none q ne), upd_ne (ne_of_none q nd)]; exact q) fun c xs q => by rw [upd_ne (ne_of_none q ne), upd_ne (ne_of_none q nd)]; exact q
end
end L2
namespace PySem
namespace XE
open PySem.W PySem.Calls PyProof.Rows PySem.HandSPX
/-- isinstance's first step: e.__class__, e an error with a dict of its own -/
theorem classOf {prog : Program} {w : World} {A : Around} {E : Value → Shared → Prop} {s : Shared} {K : Frag} {mg : Str → Option Value} {x : Str} {e C : Addr} {oe : Obj} {od : Option Obj} {Q : Option Value → Shared → Prop} (T : XT K mg x C) (G : XG0 K)
    (X : K.In s.heap) (I : InstAt s.heap e oe C od) (h : Q (some (.ref C)) { s with toks := s.toks + 1 }) : wpAny (model prog w) A (getAttr? (.ref e) "__class__") Q E s := by
  have hf : findObj K C od "__class__" = some (.bind (.builtin "getset_descriptor.__get__") (.builtin "object.__class__")) := by
    obtain ⟨cd, hc, _⟩ := any_some T.hd
    unfold findObj
    rw [hc, Option.bind_some, T.ha, Option.bind_some]
    simp [G.hn, G.ht]
  obtain ⟨hp, g, d, t, os⟩ := s
  have L0 := I.type (M := model prog w)
  have L1 := looks_findIn (M := model prog w) X T.ga
  have L2 := looks_findIn (M := model prog w) X T.gg
  have L3 := looks_find (M := model prog w) X I hf
  have sub : Looks (model prog w) hp (isInstance (.ref e) (.type "BaseException")) true := L0.andThen (looks_subIn X T.hsB)
  have n2 : (Value.builtin "BaseException.__getattribute__" == Value.builtin "object.__getattribute__") = false := by decide +kernel
  unfold getAttr? getAttrBy? getAttrBy
  refine wpAny_bind (wpAny_mkText (wpAny_bind (wpAny_attempt (wpAny_holding (wpAny_bind (L0.at (wpAny_bind (L1.at ?_))))))))
  show wpAny _ _ (if (onTheHeap (Value.ref C) && Value.builtin "BaseException.__getattribute__" == Value.builtin "object.__getattribute__") = true then _ else _) _ _ _
  rw [if_neg (by rw [n2, Bool.and_false]; decide)]
  unfold getAttrByItsOwn hookBefore
  refine wpAny_bind ?_
  rw [if_pos (show onTheHeap (Value.ref C) = true from rfl)]
  refine L2.at (wpAny_bind (wpAny_attempt (wpAny_holding ?_)))
  unfold callGetattribute
  rw [if_neg (show ¬ (false && onTheHeap (Value.builtin "BaseException.__getattribute__")) = true by decide)]
  unfold boundAndCalled
  rw [PySem.F.excAttr_ValueError.ga.bind (.ref e)]
  refine wpAny_bind (wpAny_pure ?_)
  show wpAny _ _ (call (.builtin "BaseException.__getattribute__") [.ref e, .str "__class__" t]) _ _ _
  refine wpAny_call (codeAny_call_builtin PySem.F.excAttr_ValueError.ga.plain PySem.F.entry_bexc_ga ?_)
  refine @check_slot (model prog w) _ _ ⟨hp, g, d, t + 1, os⟩ "BaseException.__getattribute__" "BaseException" "__getattribute__" (.ref e) [.str "__class__" t] [] _ (by decide +kernel) (by decide +kernel) sub (PySem.F.args_bexc_ga (.ref e) (.str "__class__" t)) ?_
  unfold Builtin.«object.__getattribute__»
  refine wpAny_bind (wpAny_of_eq (a := ((Value.ref e : Value), [Value.str "__class__" t])) (by first | rfl | (simp only [slotArgs]; rfl)) ?_)
  refine wpAny_bind (wpAny_pure (wpAny_bind (L0.at (wpAny_bind (L3.at ?_)))))
  show wpAny _ _ (holding [Value.builtin "object.__class__"] (call (.builtin "getset_descriptor.__get__") [.builtin "object.__class__", .ref e, .ref C]) >>= ret) _ _ _
  refine wpAny_bind (wpAny_holding (wpAny_call (class_get (s := ⟨hp, g, d, t + 1, os⟩) (ox := oe) (od := od) X I T.hm ?_)))
  refine wpAny_pure ?_
  show wpAny _ _ (handedOut (.ref C)) _ _ _
  rw [handedOut_of (v := .ref C) rfl]
  first
    | exact wpAny_pure h
    | exact wpAny_pure (wpAny_pure h)
    | exact wpAny_pure (wpAny_bind (wpAny_pure (wpAny_pure h)))
theorem kitErr {K : Frag} {mg : Str → Option Value} {x : Str} {e C : Addr} (T : XT K mg x C) (G : XG0 K) : KitX K (.ref e) (.ref C) (fun h => ∃ (oe : Obj) (od : Option Obj), InstAt h e oe C od) where
  ty := fun _ _ _ ⟨_, _, I⟩ => I.type
  it := fun _ _ X _ => by
    obtain ⟨nm, q, N, bs, bm, sn, sub, ab, col, dd, k0, k1, k2, k3, k5, hC, _⟩ := T.cls
    intro A' Q' E' s' k q
    unfold isType loadHead
    exact wpAny_bind (wpAny_loadPart (k _ _ (X _ _ hC)) (wpAny_pure q))
  ne := fun h tp dd its n sl X htp => by
    obtain ⟨nm, q, N, bs, bm, sn, sub, ab, col, dd', k0, k1, k2, k3, k5, hC, _⟩ := T.cls
    refine Bool.eq_false_iff.mpr fun q => ?_
    have e' : C = tp := Value.ref.inj (beq_iff_eq.mp q)
    subst e'
    have z := Option.some.inj ((X _ _ hC).symm.trans htp)
    have z2 : Value.type "type" = Value.type "tuple" := congrArg Obj.cls z
    exact absurd z2 (by decide +kernel)
  ca := fun X ⟨_, _, I⟩ k => classOf T G X I k
end XE
end PySem
namespace L2
open PySem PySem.Spec PyProof.Rows
/-- the class at C is an error class of ours -/
def ErrC (K : PySem.W.Frag) (C : Addr) : Prop := ∃ (mg : Str → Option Value) (x : Str), PySem.XE.XT K mg x C
/-- at a stands an error of the class at C whose own dict holds the fields fs -/
def ErrAt (H : Hp) (a C : Addr) (fs : List (Str × V)) : Prop := ∃ d : Addr, H a = some (exo a C (some d)) ∧ H d = some (exd d fs)
def tFldX (K : PySem.W.Frag) (f : Str) (ta : TE) : TE := fun σ H Q => ta σ H fun x H1 => ∃ (a C : Addr) (fs : List (Str × V)) (v : V), x = .ref a ∧ ErrAt H1 a C fs ∧ ErrC K C ∧ PySem.W.findIn K (.ref C) f = some none ∧ fs.lookup f = some v ∧ Q v H1
def rIsiX (K : PySem.W.Frag) : List V → Hp → VK → Prop := fun xs H Q => ∃ (a C : Addr) (fs : List (Str × V)) (c : V) (u : Value) (b : Bool), xs = [.ref a, c] ∧ ErrAt H a C fs ∧ ErrC K C ∧ ClsV c u ∧ PySem.W.kitOne K (.ref C) u = some b ∧ Q (.bl b) H
section
variable {X : Cx} {pins : List (Addr × Obj)} {σ : St} {H : Hp} {s : Shared}
theorem err_inst {a C : Addr} {fs : List (Str × V)} (I : Inv X pins σ H s) (h : ErrAt H a C fs) : ∃ (oe od : Obj) (mA : Str → Option Value), PySem.W.InstAt s.heap a oe C (some od) ∧ (∀ f, RelO (fs.lookup f) (mA f)) ∧ ∀ name, PySem.W.lookIn name od = some (mA name) := by
  obtain ⟨d, h1, h2⟩ := h
  obtain ⟨t1, ho⟩ := exo_at I.hok h1
  obtain ⟨mA, hns, hr⟩ := exd_at I.hok h2
  obtain ⟨od, hod, hl⟩ := lookIn_ns hns
  exact ⟨_, od, mA, ⟨ho, rfl, rfl, hod⟩, hr, hl⟩
theorem pe_fldX {e : Expr} {te : TE} {f : Str} {pos : Pos} (he : PE X e te) (hb : attributeBase e f X.env (eval e X.env) = eval e X.env := by rfl) : PE X (.Attribute e f pos) (tFldX X.K f te) := by
  refine ⟨fun pins s σ H Q I h => ?_⟩
  refine attr_of hb (thn (he.run pins s σ H _ I h) fun u s1 hh => ?_)
  obtain ⟨x, H1, I1, rx, a, C, fs, v, ex, hE, ⟨mg, xn, T⟩, hn, hl, q⟩ := hh
  subst ex
  obtain rfl : u = Value.ref a := rx
  obtain ⟨oe, od, mA, J, hr, hlk⟩ := err_inst I1 hE
  have hrf := hr f
  rw [hl] at hrf
  obtain ⟨u, hu, ru⟩ := RelO.some_of (v := v) (o := mA f) hrf
  exact PySem.HandSPX.exc_get I1.kIn J T.ga T.gg T.hsB (PySem.W.findObj_own T.hd hn rfl (by rw [hlk, hu])) (handed_of ru) ⟨v, H1, I1.tok _, ru, q⟩
theorem call_isiX (G : PySem.XE.XG0 X.K) : CallR X (.builtin "isinstance") (rIsiX X.K) := by
  intro pins s σ H xs us Q I r h
  obtain ⟨a, C, fs, c, u, b, rfl, hE, ⟨mg, xn, T⟩, k, e, q⟩ := h
  obtain ⟨u1, u2, rfl, r1, r2⟩ := vals2 r
  obtain rfl : u1 = Value.ref a := r1
  have e2 := k.eq r2
  subst e2
  obtain ⟨oe, od, mA, J, _, _⟩ := err_inst I hE
  exact PySem.W.kia_one (PySem.XE.kitErr T G) I.kIn ⟨_, _, J⟩ e (fun z => nomatch z) fun tk => ⟨.bl b, H, I.tok tk, rfl, q⟩
variable {C fI : Addr} {x : Str} {l : List (Str × Pos × Pos × Pos × Pos)} {ks : List Str} {n k : Nat} {g : {α : Type} → List α → List α → List α} {e : Expr} {es : List Expr} {kws : List Keyword} {t tk : TA} {p pos : Pos}
/-- C(e, ..) -/
theorem pe_mkX (M : XM X x C fI l) (B : PySem.XE.XB X.K fI (l.map (·.1)) [] n g) (hr : Room k X.A) (hg : Gl X x) (ha : PA X (e :: es) t) (hz : n ≤ 1000 := by decide) (hgr : ∀ {vs zs : List V} {us ws : List Value}, Vals vs us → Vals zs ws → Vals (g vs zs) (g us ws) := by intro _ _ _ _ a b; exact a)
    (hdb : (x == ("__debug__" : Str)) = false := by decide) (he : starEach (e :: es) X.env = (false, eval e X.env) :: starEach es X.env := by rfl) (hpl : (backTo pos (starEach es X.env)).any (·.1) = false := by rfl) :
    PE X (.Call (.Name x p) (e :: es) [] pos) (tMkX C (l.map (·.1)) n 0 g t tNil) := by
  refine ⟨fun pins s σ H Q I h => ?_⟩
  refine wpAny_Call_Name_kw (ld_glob I hg M.T.gC ?_ hdb)
  refine PySem.W.callWith_K (h₀ := X.base) I.ok.mod.kin M.T.kC (thn (ha.run pos pins s σ H _ I h) fun us s1 ⟨vs, H1, I1, r1, l1, _, q⟩ => ⟨I1.kIn, ?_⟩) he hpl
  exact run_mkX (ks := []) (ws := []) (zs := []) M B hgr hr I1 r1 .nil l1 rfl hz q
/-- C(k = v, ..) -/
theorem pe_mkXK (M : XM X x C fI l) (B : PySem.XE.XB X.K fI (l.map (·.1)) ks 0 g) (hr : Room k X.A) (hg : Gl X x) (hkw : PK X kws tk) (hgr : ∀ {vs zs : List V} {us ws : List Value}, Vals vs us → Vals zs ws → Vals (g vs zs) (g us ws) := by intro _ _ _ _ a b; exact b)
    (hall : (backToKw pos (keywordEach kws X.env)).all (·.1.isSome) = true := by rfl) (hks : (backToKw pos (keywordEach kws X.env)).filterMap (·.1) = ks := by rfl)
    (hdb : (x == ("__debug__" : Str)) = false := by decide) (hpl : ((backTo pos (starEach [] X.env)).any (·.1) || (backToKw pos (keywordEach kws X.env)).any (·.1.isNone)) = false := by rfl) :
    PE X (.Call (.Name x p) [] kws pos) (tMkX C (l.map (·.1)) 0 ks.length g tNil tk) := by
  refine ⟨fun pins s σ H Q I h => ?_⟩
  refine wpAny_Call_Name_kw (ld_glob I hg M.T.gC ?_ hdb)
  refine PySem.W.callWith_KW0 (h₀ := X.base) I.ok.mod.kin M.T.kC hall ?_ hpl
  refine thn (hkw.run pos pins s σ H _ I h) fun ws s2 ⟨zs, H2, I2, rz, _, l2, q⟩ => ⟨I2.kIn, ?_⟩
  rw [hks]
  exact run_mkX (us := []) (vs := []) M B hgr hr I2 .nil rz rfl l2 (Nat.zero_le _) q
end
end L2
namespace L2
open PySem PySem.Spec PyProof.Rows
section
variable {X : Cx}
/-- a reading that asks more serves too -/
theorem PE.weak {e : Expr} {t t' : TE} (h : PE X e t) (w : ∀ σ H Q, t' σ H Q → t σ H Q) : PE X e t' := ⟨fun pins s σ H Q I q => h.run pins s σ H Q I (w σ H Q q)⟩
/-- C(..), the heap behind it told by what it keeps -/
def tMkG (C : Addr) (fl : List Str) (n m : Nat) (g : {α : Type} → List α → List α → List α) (t tk : TA) : TE := fun σ H Q => t σ H fun vs H1 => tk σ H1 fun zs H2 => vs.length = n ∧ zs.length = m ∧
  ∀ (e : Addr) (H' : Hp), H2 e = none → Same H2 H' → ErrAt H' e C ((fl.zip (g vs zs)).reverse) → Q (.ref e) H'
theorem mkG_of {C : Addr} {fl : List Str} {n m : Nat} {g : {α : Type} → List α → List α → List α} {t tk : TA} (ht : ∀ σ H (P P' : List V → Hp → Prop), (∀ vs H1, P vs H1 → P' vs H1) → t σ H P → t σ H P') (hk : ∀ σ H (P P' : List V → Hp → Prop), (∀ vs H1, P vs H1 → P' vs H1) → tk σ H P → tk σ H P')
    (σ : St) (H : Hp) (Q : VK) (h : tMkG C fl n m g t tk σ H Q) : tMkX C fl n m g t tk σ H Q := by
  refine ht σ H _ _ (fun vs H1 q => hk σ H1 _ _ (fun zs H2 q => ?_) q) h
  obtain ⟨l1, l2, q⟩ := q
  refine ⟨l1, l2, fun d e nd ne hde => q e _ ne (fun b o z => ?_) ⟨d, upd_same, ?_⟩⟩
  · rw [upd_ne (ne_of_none z ne), upd_ne (ne_of_none z nd)]
    exact z
  · rw [upd_ne hde, upd_same]
theorem CallR.weak {f : Value} {r r' : List V → Hp → VK → Prop} (h : CallR X f r) (w : ∀ xs H Q, r' xs H Q → r xs H Q) : CallR X f r' := fun pins s σ H xs us Q I rs q => h pins s σ H xs us Q I rs (w xs H Q q)
theorem OpR.weak {f : Value → Value → Sem Value} {r r' : R2} (h : OpR X f r) (w : ∀ x y H Q, r' x y H Q → r x y H Q) : OpR X f r' := fun pins s σ H x y v u Q I rx ry q => h pins s σ H x y v u Q I rx ry (w x y H Q q)
/-- int(n), n a whole number -/
def rInt1 : List V → Hp → VK → Prop := fun xs H Q => ∃ i, xs = [.int i] ∧ Q (.int i) H
theorem call_intI : CallR X (.type "int") rInt1 := call_int1.weak fun _ _ _ h => .inl h
def rAbs1 : List V → Hp → VK → Prop := fun xs H Q => ∃ i, xs = [.int i] ∧ Q (.int (if i < 0 then -i else i)) H
theorem call_absI : CallR X (.builtin "abs") rAbs1 := call_abs.weak fun _ _ _ h => h
theorem IxR.weak {r r' : R2} (h : IxR X r) (w : ∀ x y H Q, r' x y H Q → r x y H Q) : IxR X r' := fun value slice pins s σ H x y v u Q I rx ry q hs => h value slice pins s σ H x y v u Q I rx ry (w x y H Q q) hs
/-- xs[i], a tracked list -/
def rIxH : R2 := fun x y H Q => ∃ p, x = .ref p ∧ ∃ i, y = .int i ∧ ∃ xs, H p = some (.lst xs) ∧ ∃ v, atI xs i = some v ∧ Q v H
theorem ix_listH : IxR X rIxH := ix_list.weak fun _ _ _ _ ⟨p, e1, i, e2, xs, h, v, hv, q⟩ => ⟨p, xs, i, v, e1, e2, SqL.of h, hv, q⟩
def rSetH : V → V → V → Hp → (Hp → Prop) → Prop := fun o i v H Q => ∃ p, o = .ref p ∧ ∃ k, i = .int k ∧ ∃ xs, H p = some (.lst xs) ∧ ∃ j, ixN xs.length k = some j ∧ Q (upd H p (.lst (xs.set j v)))
theorem set_listH : PSet X rSetH := fun pins s σ H o i v ov iv u Q I ro ri rv h => by
  obtain ⟨p, e1, k, e2, xs, hp, j, hj, q⟩ := h
  exact set_list pins s σ H o i v ov iv u Q I ro ri rv ⟨p, xs, k, j, e1, e2, hp, hj, q⟩
theorem atI0 {α : Type} (a : α) (l : List α) : atI (a :: l) 0 = some a := atI_nat (j := 0) rfl
theorem atI1 {α : Type} (a b : α) (l : List α) : atI (a :: b :: l) 1 = some b := atI_nat (j := 1) rfl
theorem atI2 {α : Type} (a b c : α) (l : List α) : atI (a :: b :: c :: l) 2 = some c := atI_nat (j := 2) rfl
theorem ixN3_0 : ixN (0 + 1 + 1 + 1) 0 = some 0 := rfl
theorem ixN3_2 : ixN (0 + 1 + 1 + 1) 2 = some 2 := rfl
/-- a power of any size that the model takes -/
def CPowW (i j : Int) : Prop := 0 ≤ j ∧ ((Builtin.Int.intBits i : Nat) : Int) * j ≤ 1000000
theorem op_powW : OpR X (binaryOp .Pow) (rI CPowW fun i j => .int (i ^ j.toNat)) := opI fun i j t u s Q E hc q => by
  refine pow_int hc.1 ?_ q
  have h := hc.2
  refine Int.le_trans h ?_
  decide +kernel
/-- xs.count(b), a list of truth values -/
def rCntB (K : PySem.W.Frag) : V → List V → Hp → VK → Prop := fun x xs H Q => ∃ (p : Addr) (bs : List Bool) (b : Bool), x = .ref p ∧ xs = [.bl b] ∧ SqL K H p (bs.map V.bl) ∧ Q (.int (bs.count b : Nat)) H
theorem reads_bls {hp : Heap} : ∀ bs : List Bool, ∃ as, ReadsAll hp (bs.map Value.bool) (bs.map PyData.bool) as
  | [] => ⟨_, .nil⟩
  | b :: bs => by
    obtain ⟨as, h⟩ := reads_bls (hp := hp) bs
    exact ⟨_, .cons (.bool b) h⟩
theorem countIn_bls (b : Bool) : ∀ bs : List Bool, countIn (.bool b) (bs.map PyData.bool) = ((bs.count b : Nat) : Int)
  | [] => rfl
  | c :: bs => by
    rw [List.map_cons, countIn, countIn_bls b bs, List.count_cons]
    cases b <;> cases c <;> simp [same] <;> omega
theorem mt_countB : MtR X "list.count" (rCntB X.K) := by
  intro pins s σ H x xs v us Q I rx rxs h
  obtain ⟨p, bs, b, rfl, rfl, hs, q⟩ := h
  obtain rfl : v = Value.ref p := rx
  obtain ⟨u, rfl, ru⟩ := rxs.one
  obtain rfl : u = Value.bool b := ru
  obtain ⟨its, rv, hl, hlen⟩ := I.list hs
  have e := rv.bls
  subst e
  obtain ⟨as, ra⟩ := reads_bls (hp := s.heap) bs
  refine count_list_bools (xs := bs.map PyData.bool) (as := as) (hp := s.heap) hl.isList ra (by simp [List.all_map, Shape.has, Function.comp_def]) ?_
  refine ⟨.int (bs.count b : Nat), H, I.tok _, ⟨s.toks, ?_⟩, q⟩
  rw [countIn_bls]
end
end L2
/-! QT: max(map(len, xs)); own errors raised -/
namespace L2
open PySem PySem.Spec PyProof.Rows
section
variable {prog : Program} {w : World} {A : Around} {E : Value → Shared → Prop} {s : Shared}
theorem max_map_list {f : Value} {l : Addr} {its : Array Value} {C : Value → Prop} {R : Value → Value → Prop} {val : Nat → Int} {Q : Value → Shared → Prop} (hh : A.handled = none) (hl : s.heap.IsList l its) (hn : 0 < its.size)
    (hF : MpR.MapF prog w f C R) (hC : ∀ (i : Nat) (u : Value), its[i]? = some u → C u) (hval : ∀ (i : Nat) (u v : Value), its[i]? = some u → R u v → ∃ t, v = .int (val i) t)
    (hq : ∀ h' t' k, (∀ b o, s.heap.get? b = some o → h'.get? b = some o) → Q (.int (val (argBest (fun i j => decide (val i > val j)) (its.size - 1))) t') { s with heap := h', toks := k }) :
    wpAny (model prog w) A (call (.type "map") [f, .ref l]) (fun v s1 => wpAny (model prog w) A (call (.builtin "max") [v]) Q E s1) E s := by
  have hh1 : A.in1.handled = none := hh
  have hh2 : A.in1.in1.handled = none := hh
  have ll : l < s.heap.objs.size := by obtain ⟨o, ho, _⟩ := hl; exact Heap.lt_size ho
  refine MpR.call_map (wpAny_pyIter_list hl ?_)
  intro h' hO hM hsz hk
  have hs1 : (s.heap.push { cls := .type "list_iterator", data := .fields #[.ref l, .int 0 0] }).objs.size = s.heap.objs.size + 1 := Heap.size_push ..
  have hit : h'.IsListIter s.heap.objs.size l 0 := ⟨_, hk _ _ (Heap.get?_push_size _ rfl), rfl, rfl⟩
  have hL : h'.IsList l its := (hl.push _).at fun o e => hk _ o e
  have hmi : (s.heap.push { cls := .type "list_iterator", data := .fields #[.ref l, .int 0 0] }).objs.size + 1 ≠ s.heap.objs.size := by rw [hs1]; exact Nat.ne_of_gt (Nat.lt_succ_of_lt (Nat.lt_succ_self _))
  have hTi : (s.heap.push { cls := .type "list_iterator", data := .fields #[.ref l, .int 0 0] }).objs.size ≠ s.heap.objs.size := by rw [hs1]; exact Nat.succ_ne_self _
  have W := MpR.walks_map (A := A.in1) hh1 (Draws.list hh2 s.heap.objs.size l (Nat.ne_of_lt ll) its) hF hmi hTi (by simp) hC
  refine call_max_walkH (MpR.mp_pyIter hM ?_)
  refine ⟨_, _, _, _, _, _, _, s.heap, _, rfl, W, ⟨hM, hO, hit, hL⟩, fun b hb => ?_, hn, fun b o e => ?_, fun b o e => hk b o (Heap.get?_push_of_some _ e), (?_ : CmpIn prog w A.in1 .Gt s.heap _ fun i j => decide (val i > val j)), fun v s' hv hm => ?_⟩
  · rcases List.mem_cons.mp hb with rfl | hb
    · exact Heap.lt_size hM
    · rcases List.mem_cons.mp hb with rfl | hb
      · exact Heap.lt_size hO
      · rcases List.mem_cons.mp hb with rfl | hb
        · obtain ⟨o, ho, _⟩ := hit
          exact Heap.lt_size ho
        · rw [List.mem_singleton.mp hb]
          obtain ⟨o, ho, _⟩ := hL
          exact Heap.lt_size ho
  · intro hmem
    exact Nat.ne_of_lt (Heap.lt_size e) (List.mem_singleton.mp hmem)
  · intro i j vi vj s2 Q2 E2 hk2 hi hj q
    obtain ⟨u, hu, hr⟩ := hi
    obtain ⟨u2, hu2, hr2⟩ := hj
    obtain ⟨t, rfl⟩ := hval i u vi hu hr
    obtain ⟨t2, rfl⟩ := hval j u2 vj hu2 hr2
    exact gt_int q
  · obtain ⟨u, hu, hr⟩ := hv
    obtain ⟨t, rfl⟩ := hval _ u v hu hr
    rw [Moved.eq_with hm]
    exact hq s'.heap t s'.toks fun b o e => hm.heap b o (fun hmem => Nat.ne_of_lt (Heap.lt_size e) (List.mem_singleton.mp hmem)) (hk b o (Heap.get?_push_of_some _ e))
theorem max_map_tup {f : Value} {l : Addr} {its : Array Value} {C : Value → Prop} {R : Value → Value → Prop} {val : Nat → Int} {Q : Value → Shared → Prop} (hh : A.handled = none) (hl : s.heap.IsTuple l its) (hn : 0 < its.size)
    (hF : MpR.MapF prog w f C R) (hC : ∀ (i : Nat) (u : Value), its[i]? = some u → C u) (hval : ∀ (i : Nat) (u v : Value), its[i]? = some u → R u v → ∃ t, v = .int (val i) t)
    (hq : ∀ h' t' k, (∀ b o, s.heap.get? b = some o → h'.get? b = some o) → Q (.int (val (argBest (fun i j => decide (val i > val j)) (its.size - 1))) t') { s with heap := h', toks := k }) :
    wpAny (model prog w) A (call (.type "map") [f, .ref l]) (fun v s1 => wpAny (model prog w) A (call (.builtin "max") [v]) Q E s1) E s := by
  have hh1 : A.in1.handled = none := hh
  have hh2 : A.in1.in1.handled = none := hh
  have ll : l < s.heap.objs.size := by obtain ⟨o, ho, _⟩ := hl; exact Heap.lt_size ho
  refine MpR.call_map (wpAny_pyIter_tuple hl ?_)
  intro h' hO hM hsz hk
  have hs1 : (s.heap.push { cls := .type "tuple_iterator", data := .fields #[.ref l, .int 0 0] }).objs.size = s.heap.objs.size + 1 := Heap.size_push ..
  have hit : h'.IsTupleIter s.heap.objs.size l 0 := ⟨_, hk _ _ (Heap.get?_push_size _ rfl), rfl, rfl⟩
  have hL : h'.IsTuple l its := (hl.push _).at fun o e => hk _ o e
  have hmi : (s.heap.push { cls := .type "tuple_iterator", data := .fields #[.ref l, .int 0 0] }).objs.size + 1 ≠ s.heap.objs.size := by rw [hs1]; exact Nat.ne_of_gt (Nat.lt_succ_of_lt (Nat.lt_succ_self _))
  have hTi : (s.heap.push { cls := .type "tuple_iterator", data := .fields #[.ref l, .int 0 0] }).objs.size ≠ s.heap.objs.size := by rw [hs1]; exact Nat.succ_ne_self _
  have W := MpR.walks_map (A := A.in1) hh1 (Draws.tuple hh2 s.heap.objs.size l (Nat.ne_of_lt ll) its) hF hmi hTi (by simp) hC
  refine call_max_walkH (MpR.mp_pyIter hM ?_)
  refine ⟨_, _, _, _, _, _, _, s.heap, _, rfl, W, ⟨hM, hO, hit, hL⟩, fun b hb => ?_, hn, fun b o e => ?_, fun b o e => hk b o (Heap.get?_push_of_some _ e), (?_ : CmpIn prog w A.in1 .Gt s.heap _ fun i j => decide (val i > val j)), fun v s' hv hm => ?_⟩
  · rcases List.mem_cons.mp hb with rfl | hb
    · exact Heap.lt_size hM
    · rcases List.mem_cons.mp hb with rfl | hb
      · exact Heap.lt_size hO
      · rcases List.mem_cons.mp hb with rfl | hb
        · obtain ⟨o, ho, _⟩ := hit
          exact Heap.lt_size ho
        · rw [List.mem_singleton.mp hb]
          obtain ⟨o, ho, _⟩ := hL
          exact Heap.lt_size ho
  · intro hmem
    exact Nat.ne_of_lt (Heap.lt_size e) (List.mem_singleton.mp hmem)
  · intro i j vi vj s2 Q2 E2 hk2 hi hj q
    obtain ⟨u, hu, hr⟩ := hi
    obtain ⟨u2, hu2, hr2⟩ := hj
    obtain ⟨t, rfl⟩ := hval i u vi hu hr
    obtain ⟨t2, rfl⟩ := hval j u2 vj hu2 hr2
    exact gt_int q
  · obtain ⟨u, hu, hr⟩ := hv
    obtain ⟨t, rfl⟩ := hval _ u v hu hr
    rw [Moved.eq_with hm]
    exact hq s'.heap t s'.toks fun b o e => hm.heap b o (fun hmem => Nat.ne_of_lt (Heap.lt_size e) (List.mem_singleton.mp hmem)) (hk b o (Heap.get?_push_of_some _ e))
end
/-- the first of the greatest -/
theorem best_max (val : Nat → Int) : ∀ k, (∀ j, j ≤ k → val j ≤ val (argBest (fun i j => decide (val i > val j)) k)) ∧ ∃ j, j ≤ k ∧ argBest (fun i j => decide (val i > val j)) k = j
  | 0 => ⟨fun j hj => by rw [Nat.le_zero.mp hj]; exact Int.le_refl _, 0, Nat.le_refl _, rfl⟩
  | k + 1 => by
    obtain ⟨h1, j, hj, ej⟩ := best_max val k
    unfold argBest
    by_cases c : val (k + 1) > val (argBest (fun i j => decide (val i > val j)) k)
    · rw [if_pos (decide_eq_true c)]
      refine ⟨fun i hi => ?_, k + 1, Nat.le_refl _, rfl⟩
      rcases Nat.lt_or_eq_of_le hi with z | rfl
      · have := h1 i (Nat.le_of_lt_succ z)
        omega
      · exact Int.le_refl _
    · rw [if_neg (by simpa using c)]
      refine ⟨fun i hi => ?_, j, Nat.le_succ_of_le hj, ej⟩
      rcases Nat.lt_or_eq_of_le hi with z | rfl
      · exact h1 i (Nat.le_of_lt_succ z)
      · omega
def IsMaxLen (xs : List Str) (n : Int) : Prop := (∀ x ∈ xs, (x.length : Int) ≤ n) ∧ ∃ x ∈ xs, (x.length : Int) = n
section
variable {X : Cx}
/-- max(map(len, xs)), xs a list, a tuple of texts -/
def tMaxLen (K : PySem.W.Frag) (ta : TA) : TE := fun σ H Q => ta σ H fun vs H2 => ∃ (q : Addr) (xs : List Str), vs = [.ref q] ∧ (SqL K H2 q (xs.map V.str) ∨ SqT K H2 q (xs.map V.str)) ∧ 0 < xs.length ∧ (∀ z ∈ xs, z.length ≤ sizeLine) ∧ ∀ n, IsMaxLen xs n → Q (.int n) H2
theorem pe_maxLen {e : Expr} {ta : TA} {p0 p1 pos p pos2 : Pos} (hc : X.calm = true) (hgs : Gl X "max") (hms : X.mg "max" = none) (hg : Gl X "map") (hm : X.mg "map" = none) (hgl : Gl X "len") (hml : X.mg "len" = none) (ha : PA X [e] ta)
    (hs1 : starEach [.Call (.Name "map" p) [.Name "len" p1, e] [] pos2] X.env = (false, eval (.Call (.Name "map" p) [.Name "len" p1, e] [] pos2) X.env) :: starEach [] X.env := by rfl)
    (hp1 : (backTo pos (starEach [] X.env)).any (·.1) = false := by rfl) (hs : starEach [.Name "len" p1, e] X.env = (false, eval (.Name "len" p1) X.env) :: starEach [e] X.env := by rfl) (hpl : (backTo pos2 (starEach [e] X.env)).any (·.1) = false := by rfl) :
    PE X (.Call (.Name "max" p0) [.Call (.Name "map" p) [.Name "len" p1, e] [] pos2] [] pos) (tMaxLen X.K ta) := by
  have hf : PF X (.Name "len" p1) (.builtin "len") := pf_bltn hgl hml (by decide +kernel)
  have hF := mapV_lenStr (prog := X.prog) (w := X.w)
  refine ⟨fun pins s σ H Q I h => ?_⟩
  refine wpAny_Call_Name_kw (ld_blt I hgs hms (show bootBuiltins "max" = some (.builtin "max") by decide +kernel) ?_)
  refine PyProof.Rows.callWith_builtin1 ?_ hs1 hp1
  rw [hs1]
  show wpAny _ _ (spliced ((false, eval (.Call (.Name "map" p) [.Name "len" p1, e] [] pos2) X.env) :: backTo pos (starEach [] X.env))) _ _ s
  refine Calls.spliced_cons ?_
  refine wpAny_Call_Name_kw (ld_blt I hg hm boot_map ?_)
  refine PyProof.Rows.callWith_type1 ?_ hs hpl
  rw [hs]
  show wpAny _ _ (spliced ((false, eval (.Name "len" p1) X.env) :: backTo pos2 (starEach [e] X.env))) _ _ s
  refine Calls.spliced_cons (hf.run pins s σ H _ I fun s2 I2 => ?_)
  refine thn (ha.run pos2 pins s2 σ H _ I2 h) fun us s3 ⟨vs, H2, I3, r3, q3⟩ => ?_
  obtain ⟨q, xs, rfl, hq, h0, hC, q3⟩ := q3
  cases r3 with
  | cons r rr =>
    cases rr
    cases r
    obtain ⟨its, rv, pl⟩ : ∃ its : List Value, Vals (xs.map V.str) its ∧ (s3.heap.IsList q its.toArray ∨ s3.heap.IsTuple q its.toArray) := by
      rcases hq with hq | hq
      · obtain ⟨its, rv, pl, hsz⟩ := I3.list hq
        exact ⟨its, rv, .inl pl.isList⟩
      · obtain ⟨its, rv, pl, hsz⟩ := I3.tuple hq
        exact ⟨its, rv, .inr pl⟩
    have hlen : its.length = xs.length := by rw [← rv.length, List.length_map]
    have back : ∀ (i : Nat) (u : Value), its.toArray[i]? = some u → ∃ x, xs[i]? = some x ∧ RelV (.str x) u := fun i u hu => by
      have hu' : its[i]? = some u := by simpa using hu
      have hi : i < xs.length := by
        have := (List.getElem?_eq_some_iff.mp hu').1
        omega
      obtain ⟨u2, hu2, rx2⟩ := rv.get (i := i) (x := V.str xs[i]) (by rw [List.getElem?_map, List.getElem?_eq_getElem hi]; rfl)
      have eu : u2 = u := Option.some.inj (hu2.symm.trans hu')
      subst eu
      exact ⟨xs[i], List.getElem?_eq_getElem hi, rx2⟩
    have sz : its.toArray.size = xs.length := by rw [List.size_toArray, hlen]
    have C1 : ∀ (i : Nat) (u : Value), its.toArray[i]? = some u → ∃ x, (∃ a : Str, x = V.str a ∧ a.length ≤ sizeLine) ∧ RelV x u := fun i u hu => by
      obtain ⟨x, hx, rx⟩ := back i u hu
      exact ⟨.str x, ⟨x, rfl, hC x (List.mem_of_getElem? hx)⟩, rx⟩
    have C2 : ∀ (i : Nat) (u v : Value), its.toArray[i]? = some u → (∃ x, (∃ a : Str, x = V.str a ∧ a.length ≤ sizeLine) ∧ RelV x u ∧ RelV (V.int (lenV x)) v) → ∃ t, v = .int ((fun j => ((xs[j]?.map fun x => (x.length : Int)).getD 0)) i) t := fun i u v hu hr => by
      obtain ⟨x, hx, rx⟩ := back i u hu
      obtain ⟨x2, _, rx2, rv2⟩ := hr
      have ex : x2 = V.str x := RelV.inj rx2 rx
      subst ex
      obtain ⟨t, rfl⟩ := rv2
      exact ⟨t, by show Value.int (x.length : Int) t = _; simp only [hx]; rfl⟩
    have C3 : ∀ h' t' k, (∀ b o, s3.heap.get? b = some o → h'.get? b = some o) → EP X pins σ Q (.int ((fun j => ((xs[j]?.map fun x => (x.length : Int)).getD 0)) (argBest (fun i j => decide ((fun j => ((xs[j]?.map fun x => (x.length : Int)).getD 0)) i > (fun j => ((xs[j]?.map fun x => (x.length : Int)).getD 0)) j)) (its.toArray.size - 1))) t') { s3 with heap := h', toks := k } := fun h' t' k hk => by
      refine ⟨.int _, H2, I3.kept (t' := k) hk, ⟨t', rfl⟩, q3 _ ?_⟩
      obtain ⟨m1, j, hj, ej⟩ := best_max (fun j => ((xs[j]?.map fun x => (x.length : Int)).getD 0)) (its.toArray.size - 1)
      refine ⟨fun x hx => ?_, ?_⟩
      · obtain ⟨i, hi, rfl⟩ := List.mem_iff_getElem.mp hx
        have := m1 i (by omega)
        simp only [List.getElem?_eq_getElem hi] at this
        exact this
      · rw [ej]
        have hj2 : j < xs.length := by omega
        exact ⟨xs[j], List.getElem_mem hj2, by simp only [List.getElem?_eq_getElem hj2]; rfl⟩
    rcases pl with pl | pl
    · exact wpAny_mono (max_map_list (val := fun j => ((xs[j]?.map fun x => (x.length : Int)).getD 0)) (Q := EP X pins σ Q) (E := X.xe) (I3.ok.hd hc) pl (by omega) hF C1 C2 C3) (fun v s4 h4 => Calls.spliced_nil h4) fun _ _ z => z
    · exact wpAny_mono (max_map_tup (val := fun j => ((xs[j]?.map fun x => (x.length : Int)).getD 0)) (Q := EP X pins σ Q) (E := X.xe) (I3.ok.hd hc) pl (by omega) hF C1 C2 C3) (fun v s4 h4 => Calls.spliced_nil h4) fun _ _ z => z
end
end L2
namespace QE
open PySem L2
variable {K : PySem.W.Frag} {m m' m2 : Mp} {H H' H2 : Hp} {h h' : Hq} {E : XK}
def maxN (a b : Nat) : Nat := match Nat.ble a b with | true => b | false => a
def maxQ : List (List Nat) → Nat
  | [] => 0
  | x :: r => maxN x.length (maxQ r)
theorem maxN_le (a b : Nat) : a ≤ maxN a b ∧ b ≤ maxN a b ∧ (maxN a b = a ∨ maxN a b = b) := by
  unfold maxN
  split
  · rename_i q
    exact ⟨Nat.le_of_ble_eq_true q, Nat.le_refl _, .inr rfl⟩
  · rename_i q
    have : ¬ a ≤ b := fun z => by rw [Nat.ble_eq_true_of_le z] at q; cases q
    exact ⟨Nat.le_refl _, by omega, .inl rfl⟩
theorem maxQ_ge : ∀ {xs : List (List Nat)} {x : List Nat}, x ∈ xs → x.length ≤ maxQ xs
  | y :: r, x, h => by
    unfold maxQ
    obtain ⟨a, b, _⟩ := maxN_le y.length (maxQ r)
    rcases List.mem_cons.mp h with rfl | h
    · exact a
    · exact Nat.le_trans (maxQ_ge h) b
theorem maxQ_at : ∀ {xs : List (List Nat)}, xs ≠ [] → ∃ x ∈ xs, x.length = maxQ xs
  | [], h => absurd rfl h
  | y :: r, _ => by
    unfold maxQ
    obtain ⟨a, b, c⟩ := maxN_le y.length (maxQ r)
    rcases c with c | c
    · exact ⟨y, List.mem_cons_self .., c.symm⟩
    · cases r with
      | nil =>
        refine ⟨y, List.mem_cons_self .., ?_⟩
        rw [c]
        have : maxQ [] = 0 := rfl
        omega
      | cons z r =>
        obtain ⟨x, hx, e⟩ := maxQ_at (xs := z :: r) (by simp)
        exact ⟨x, List.mem_cons_of_mem _ hx, by rw [c]; exact e⟩
theorem isMax_eq {xs : List (List Nat)} {n : Int} (h : IsMaxLen (xs.map st) n) : n = Int.ofNat (maxQ xs) := by
  obtain ⟨h1, y, hy, e⟩ := h
  obtain ⟨z, hz, rfl⟩ := List.mem_map.mp hy
  rw [st_len] at e
  have a := maxQ_ge hz
  have hne : xs ≠ [] := fun w => by rw [w] at hz; cases hz
  obtain ⟨b, hb, eb⟩ := maxQ_at hne
  have c := h1 (st b) (List.mem_map_of_mem hb)
  rw [st_len] at c
  show n = (maxQ xs : Int)
  omega
def shortAll : List (List Nat) → Bool
  | [] => true
  | x :: r => match szOk x with | true => shortAll r | false => false
theorem shortAll_ok : ∀ {xs : List (List Nat)}, shortAll xs = true → ∀ x ∈ xs.map st, x.length ≤ sizeLine
  | [], _, x, h => by cases h
  | y :: r, e, x, h => by
    unfold shortAll at e
    split at e
    · rename_i q
      rcases List.mem_cons.mp h with rfl | h
      · rw [st_len]
        exact Nat.le_of_lt (szOk_le q)
      · exact shortAll_ok e x h
    · cases e
def strsU (us : List U) (h : Hq) : Option (List (List Nat)) := match us with
  | [.tup ys] => strsQ ys
  | [.ref j] => (match getL h j with | some ys => strsQ ys | none => none)
  | _ => none
theorem strsU_ok (R : RH K m H h) {us : List U} {vs : List V} {xs : List (List Nat)} (e : strsU us h = some xs) (q : RUs K m H us vs) : ∃ a, vs = [.ref a] ∧ (SqL K H a ((xs.map st).map V.str) ∨ SqT K H a ((xs.map st).map V.str)) := by
  unfold strsU at e
  split at e
  · obtain ⟨v, rfl, a, ws, rfl, hs, r⟩ := one q
    have ev := strsQ_ok e r
    subst ev
    exact ⟨a, rfl, .inr hs⟩
  · split at e
    · rename_i ys q0
      obtain ⟨v, rfl, q3⟩ := one q
      obtain ⟨a, ws, ha, rfl, hs, r⟩ := R.ofL q0 q3
      have ev := strsQ_ok e r
      subst ev
      exact ⟨a, rfl, .inl hs⟩
    · cases e
  · cases e
def eMaxLen (fa : MF (List U)) : MF U := fun env h => bnd (fa env h) fun us h1 => match strsU us h1 with
  | some (x :: r) => (match shortAll (x :: r) with | true => ret (.int (Int.ofNat (maxQ (x :: r)))) h1 | false => none)
  | _ => none
theorem sim_maxLen {t : TA} {fa : MF (List U)} (sa : SimA K E t fa) : Sim K E (tMaxLen K t) (eMaxLen fa) := fun m h env σ H r Q re R e o => by
  refine sa.on re R e o.x fun us h1 m1 H1 vs e1 x1 R1 q1 => ?_
  split at e1
  · rename_i x xs hx
    split at e1
    · rename_i hs
      cases e1
      obtain ⟨a, rfl, sq⟩ := strsU_ok R1 hx q1
      refine ⟨a, _, rfl, sq, by simp, shortAll_ok hs, fun n hn => ?_⟩
      rw [isMax_eq hn]
      exact o m1 H1 _ x1 R1 rfl
    · cases e1
  · cases e1
end QE
/-! QV: own errors (their __init__ calls super's) raised -/
namespace L2
open PySem PySem.Spec PyProof.Rows
section
variable {X : Cx} {pins : List (Addr × Obj)} {σ : L2.St} {H : Hp} {s : Shared} {C fI : Addr} {x : Str} {l : List (Str × Pos × Pos × Pos × Pos)} {n k : Nat} {g : {α : Type} → List α → List α → List α} {e : Expr} {es : List Expr} {t : TA} {p pos : Pos}
/-- C(e, ..), to be raised -/
def tMkE (C : Addr) (fl : List Str) (n : Nat) (g : {α : Type} → List α → List α → List α) (t : TA) : L2.St → Hp → XK → Prop := fun σ H Q => t σ H fun vs H1 => vs.length = n ∧ ∀ d, H1 d = none → Q (.ref C) (some d) (upd H1 d (.xd ((fl.zip (g vs [])).reverse)))
theorem pmk_mkX (M : XM X x C fI l) (B : PySem.XE.XB X.K fI (l.map (·.1)) [] n g) (hr : Room k X.A) (hg : Gl X x) (ha : PA X (e :: es) t) (hz : n ≤ 1000 := by decide) (hgr : ∀ {vs zs : List V} {us ws : List Value}, Vals vs us → Vals zs ws → Vals (g vs zs) (g us ws) := by intro _ _ _ _ a b; exact a)
    (hdb : (x == ("__debug__" : Str)) = false := by decide) (he : starEach (e :: es) X.env = (false, eval e X.env) :: starEach es X.env := by rfl) (hpl : (backTo pos (starEach es X.env)).any (·.1) = false := by rfl) :
    PMk X (.Call (.Name x p) (e :: es) [] pos) (tMkE C (l.map (·.1)) n g t) := by
  intro pins s σ H Q I0 h
  refine wpAny_Call_Name_kw (ld_glob I0 hg M.T.gC ?_ hdb)
  refine PySem.W.callWith_K (h₀ := X.base) I0.ok.mod.kin M.T.kC (thn (ha.run pos pins s σ H _ I0 h) fun us s1 ⟨vs, H1, I, r, l1, q⟩ => ⟨I.kIn, ?_⟩) he hpl
  obtain ⟨mb, hb1, hb2⟩ := I.mod.blt
  have hglob : s1.heap.Ns mainGlobals X.mg := I.mod.glob.keeps I.bk
  have hlen : (g vs []).length = (l.map (·.1)).length := by
    obtain ⟨oc, od, q, kV, doc, pm, ct, an, cda, osl, l', p, p1, p2, p3, p4, p5, p6, m, j, scope, cc, ccl, cl, cdd, cld, vs', ccs, csl, file, tf, lk, _⟩ := M.I.fn
    have h1 := (B.to s1 0 us [] _ ⟨_, _, _, lk⟩ (r.length.symm.trans l1) rfl).1
    rw [← h1]
    exact (hgr r .nil).length
  refine wpAny_call (PySem.XE.made_run (ws := []) M.T M.G M.I B M.ne M.few I.kIn I.nolimit hglob M.sup (hb1.keeps I.bk) ((hb2 "super" (by decide)).trans (by decide +kernel)) (by have := hr.dp; omega) (r.length.symm.trans l1) rfl (by show us.length ≤ 1000; rw [← r.length, l1]; exact hz) M.nd M.no ?_)
  intro h' tk e dx t1 P
  obtain ⟨mA, hns, hmA⟩ := P.ns
  have rel : ∀ f, RelO ((((l.map (·.1)).zip (g vs [])).reverse).lookup f) (mA f) := fun f => by
    rw [hmA f]
    exact rel_lookup_rev (hgr r .nil) hlen f
  obtain ⟨hp, gs, dr, tk0, os⟩ := s1
  obtain ⟨G', g1, g2⟩ := restrict h' fun b => decide (b ≠ e)
  have gk : ∀ b, b ≠ e → G'.get? b = h'.get? b := fun b hb => g1 b (decide_eq_true hb)
  have ge : G'.get? e = none := g2 e (by simp)
  have old : ∀ b o, hp.get? b = some o → G'.get? b = some o := fun b o q => (gk b (Nat.ne_of_lt (Nat.lt_of_lt_of_le (Heap.lt_size q) P.new))).trans (P.keep b o q)
  have ob : ObjOk X.prog X.w (upd H1 dx (.xd (((l.map (·.1)).zip (g vs [])).reverse))) G' dx (.xd (((l.map (·.1)).zip (g vs [])).reverse)) :=
    ⟨mA, hns.at (fun o q => (gk dx P.dne).trans q), rel⟩
  have J : Inv X pins σ (upd H1 dx (.xd (((l.map (·.1)).zip (g vs [])).reverse))) ⟨G', gs, dr, tk, os⟩ := I.laid (t' := tk) old P.dbig ob
  refine ⟨e, _, _, ⟨G', gs, dr, tk, os⟩, _, .ref C, some dx, rfl, J, fun b o q => ?_, ge, P.obj, ⟨rfl, rfl⟩, rfl, rfl, ?_, rfl, I.bare, raises_own M.T.hsB M.T.tyC, q dx (I.hok.fresh P.dbig)⟩
  · by_cases hb : b = e
    · have q' : G'.get? b = some o := q
      rw [hb, ge] at q'; cases q'
    · exact (gk b hb).symm.trans q
  · rw [upd_ne (Ne.symm P.dne)]
    exact I.hok.fresh P.new
/-! what is handled in a suite -/
/-- error.f, error what the suite holds -/
def tFldS (K : PySem.W.Frag) (a : Addr) (cls : Value) (d : Option Addr) (f : Str) (te : TE) : TE := fun σ H Q => te σ H fun x H1 => x = .ref a ∧ ∃ (C dd : Addr) (fs : List (Str × V)) (v : V), cls = .ref C ∧ d = some dd ∧ ErrC K C ∧ PySem.W.findIn K (.ref C) f = some none ∧ H1 dd = some (.xd fs) ∧ fs.lookup f = some v ∧ Q v H1
theorem err_suite {a dd : Addr} {oe : Obj} {cls : Value} {d : Option Addr} {pn : List (Addr × Obj)} {fs : List (Str × V)} (hz : Zc cls d oe) (hf : ∃ vs, oe.data = .fields vs) (I1 : Inv (X.suite a ((a, oe) :: pn)) pins σ H s) (ec : cls = .ref C) (ed : d = some dd) (ea : H dd = some (.xd fs)) :
    ∃ (od : Obj) (mA : Str → Option Value), PySem.W.InstAt s.heap a oe C (some od) ∧ (∀ f, RelO (fs.lookup f) (mA f)) ∧ ∀ name, PySem.W.lookIn name od = some (mA name) := by
  subst ec
  subst ed
  obtain ⟨ha, _⟩ := I1.pin (a, oe) (List.mem_append_left _ List.mem_cons_self)
  obtain ⟨vs, hd⟩ := hf
  obtain ⟨mA, hns, hr⟩ := (show ObjOk X.prog X.w H s.heap dd (.xd fs) from I1.hok dd _ ea)
  obtain ⟨od, ho, hl⟩ := lookIn_ns hns
  exact ⟨od, mA, ⟨ha, hz.1, by unfold PySem.W.notCls; rw [hd] <;> rfl, by rw [hz.2]; exact ho⟩, hr, hl⟩
theorem pe_fldS {a : Addr} {oe : Obj} {cls : Value} {d : Option Addr} {pn : List (Addr × Obj)} {e : Expr} {te : TE} {f : Str} {pos : Pos} (hz : Zc cls d oe) (hf : ∃ vs, oe.data = .fields vs) (he : PE (X.suite a ((a, oe) :: pn)) e te)
    (hb : attributeBase e f X.env (eval e X.env) = eval e X.env := by rfl) : PE (X.suite a ((a, oe) :: pn)) (.Attribute e f pos) (tFldS X.K a cls d f te) := by
  refine ⟨fun pins s σ H Q I h => ?_⟩
  refine attr_of hb (thn (he.run pins s σ H _ I h) fun u s1 hh => ?_)
  obtain ⟨x, H1, I1, rx, ex, C, dd, fs, v, ec, ed, ⟨mg, xn, T⟩, hn, ea, hl, q⟩ := hh
  subst ex
  obtain rfl : u = Value.ref a := rx
  obtain ⟨od, mA, J, hr, hlk⟩ := err_suite hz hf I1 ec ed ea
  have hrf := hr f
  rw [hl] at hrf
  obtain ⟨u, hu, ru⟩ := RelO.some_of (v := v) (o := mA f) hrf
  exact PySem.HandSPX.exc_get I1.kIn J T.ga T.gg T.hsB (PySem.W.findObj_own T.hd hn rfl (by rw [hlk, hu])) (handed_of ru) ⟨v, H1, I1.tok _, ru, q⟩
/-- isinstance(error, C) -/
def rIsiS2 (K : PySem.W.Frag) (a : Addr) (cls : Value) (d : Option Addr) : List V → Hp → VK → Prop := fun xs H Q => ∃ (C dd : Addr) (fs : List (Str × V)) (c : V) (u : Value) (b : Bool), xs = [.ref a, c] ∧ cls = .ref C ∧ d = some dd ∧ H dd = some (.xd fs) ∧ ErrC K C ∧ ClsV c u ∧ PySem.W.kitOne K (.ref C) u = some b ∧ Q (.bl b) H
theorem call_isiS {a : Addr} {oe : Obj} {cls : Value} {d : Option Addr} {pn : List (Addr × Obj)} (hz : Zc cls d oe) (hf : ∃ vs, oe.data = .fields vs) (G : PySem.XE.XG0 X.K) : CallR (X.suite a ((a, oe) :: pn)) (.builtin "isinstance") (rIsiS2 X.K a cls d) := by
  intro pins s σ H xs us Q I r h
  obtain ⟨C, dd, fs, c, u, b, rfl, ec, ed, ea, ⟨mg, xn, T⟩, k, e, q⟩ := h
  obtain ⟨u1, u2, rfl, r1, r2⟩ := vals2 r
  obtain rfl : u1 = Value.ref a := r1
  have e2 := k.eq r2
  subst e2
  obtain ⟨od, mA, J, _, _⟩ := err_suite hz hf I ec ed ea
  exact PySem.W.kia_one (PySem.XE.kitErr T G) I.kIn ⟨_, _, J⟩ e (fun z => nomatch z) fun tk => ⟨.bl b, H, I.tok tk, rfl, q⟩
end
end L2
namespace QE
open PySem L2
variable {K : PySem.W.Frag} {m m' m2 : Mp} {H H' H2 : Hp} {h h' : Hq} {E : XK}
def zipF : List Nm → List U → List (Nm × U)
  | f :: fs, u :: us => (f, u) :: zipF fs us
  | _, _ => []
theorem RF.snoc : ∀ {a : List (Nm × U)} {va : List (Str × V)} {x : Nm} {u : U} {v : V}, RF K m H a va → RU K m H u v → RF K m H (a ++ [(x, u)]) (va ++ [(st x, v)])
  | [], va, x, u, v, r, q => by rw [show va = [] from r]; exact ⟨v, [], rfl, q, rfl⟩
  | (y, w) :: a, va, x, u, v, r, q => by
    obtain ⟨vw, r', rfl, h1, h2⟩ := r
    exact ⟨vw, _, rfl, h1, RF.snoc h2 q⟩
theorem rf_zip : ∀ {fl : List Nm} {us : List U} {vs : List V}, RUs K m H us vs → RF K m H (zipF fl us).reverse (((fl.map st).zip vs).reverse)
  | [], us, vs, r => by simp [zipF]; exact rfl
  | f :: fl, [], vs, r => by rw [show vs = [] from r]; simp [zipF]; exact rfl
  | f :: fl, u :: us, vs, r => by
    obtain ⟨v, w, rfl, q1, q2⟩ := r
    simp only [zipF, List.map_cons, List.zip_cons_cons, List.reverse_cons]
    exact RF.snoc (rf_zip q2) q1
/-- raise C(e, ..) -/
def sRaise (C : Nm) (fl : List Nm) (n : Nat) (fa : MF (List U)) : SF := fun env h => bnS env (fa env h) fun us h1 => match chk n us with | true => some (.ex C (zipF fl us).reverse, env, h1) | false => none
theorem sims_raise {C : Nm} {A : Addr} {fl : List Nm} {fl' : List Str} {n : Nat} {ta : TA} {fa : MF (List U)} (hA : PySem.W.nsIn K mainGlobals (st C) = some (some (.ref A))) (hfl : fl' = fl.map st) (sa : SimA K E ta fa) :
    SimS K E (fun _ σ H => tMkE A fl' n (fun vs _ => vs) ta σ H fun cls d H' => E cls d H') (sRaise C fl n fa) := fun m h env σ H r D re R e o => by
  subst hfl
  have on : ∀ (Q : List V → Hp → Prop), (∀ us h1 m1 H1 vs, (match chk n us with | true => some (Fl.ex C (zipF fl us).reverse, env, h1) | false => none) = some r → Ext K m H m1 H1 → RH K m1 H1 h1 → RUs K m1 H1 us vs → Q vs H1) → ta σ H Q := fun Q k => by
    rcases bnS_inv e with ⟨u, h1, e1, e2⟩ | ⟨C, fs, h1, e1, e2⟩
    · exact sa m h env σ H _ Q re R e1 fun m1 H1 v x1 R1 q1 => k u h1 m1 H1 v e2 x1 R1 q1
    · exact sa m h env σ H _ Q re R e1 (o.x C fs env h1 e2)
  refine on _ fun us h1 m1 H1 vs e1 x1 R1 q1 => ?_
  split at e1
  · rename_i hc
    cases e1
    refine ⟨by rw [← q1.len]; exact chk_len hc, fun d hd => ?_⟩
    obtain ⟨x2, R2⟩ := R1.fresh (o := .xd (((fl.map st).zip vs).reverse)) hd
    exact (show OutX K m H h1 E C _ from o) m1 _ d _ A (x1.trans x2) R2 upd_same (rf_zip (q1.mono x2)) hA
  · cases e1
/-- what a class of errors wants to know, whatever the context -/
structure XMK (P : Program) (K : PySem.W.Frag) (mg : Str → Option Value) (x : Str) (C fI : Addr) (l : List (Str × Pos × Pos × Pos × Pos)) : Prop where
  T : PySem.XE.XT K mg x C
  I : PySem.XE.XI P K C fI (l.map (·.1)) (PySem.XE.setsOf l)
  G : PySem.XE.XG P K
  sup : mg "super" = none
  ne : l ≠ []
  few : l.length ≤ 9
  nd : ("self" :: l.map (·.1) : List Str).Nodup
  no : ∀ p ∈ l, PySem.W.findIn K (.ref C) p.1 = some none ∧ (p.1 == ("__debug__" : Str)) = false
def PrE (P : Program) (K : PySem.W.Frag) (mg : Str → Option Value) (x : Str) (C : Nm) (fl : List Nm) (n : Nat) : Prop :=
  ∃ (A fI : Addr) (l : List (Str × Pos × Pos × Pos × Pos)), PySem.W.nsIn K mainGlobals (st C) = some (some (.ref A)) ∧ l.map (·.1) = fl.map st ∧ XMK P K mg x A fI l ∧ PySem.XE.XB K fI (l.map (·.1)) [] n (fun vs _ => vs)
/-- - e -/
def eNeg (f : MF U) : MF U := fun env h => bnd (f env h) fun u h1 => match u with | .int i => ret (.int (-i)) h1 | _ => none
theorem sim_neg {t : TE} {f : MF U} (s : Sim K E t f) : Sim K E (tUn (rU fun i => .int (-i)) t) (eNeg f) := fun m h env σ H r Q re R e o => by
  refine s.on re R e o.x fun u h1 m1 H1 v e1 x1 R1 q1 => ?_
  split at e1
  · cases e1
    cases q1
    exact ⟨_, rfl, o m1 H1 _ x1 R1 rfl⟩
  · cases e1
end QE
namespace K15
open PySem L2 QE
def topS (i : Nat) : Stmt := PySem.Challenge.pw_stuckrows_k15_greatest_systems.main.body.getD i (.Pass ⟨0, 0, 0, 0⟩)
structure Blt (mg : Str → Option Value) : Prop where
  all : mg "all" = none
  dict : mg "dict" = none
  enum : mg "enumerate" = none
  isi : mg "isinstance" = none
  len : mg "len" = none
  list : mg "list" = none
  map : mg "map" = none
  max : mg "max" = none
  range : mg "range" = none
  set : mg "set" = none
  str : mg "str" = none
  tuple : mg "tuple" = none
def u_USUAL_NAMES : U := .tup [.str [105, 115], .str [105, 120], .str [115], .str [117], .str [115, 105, 120], .str [120]]
def u_USUAL_ALLOWED : U := .tup [.tup [.str [105, 115], .str [105, 115]], .tup [.str [105, 115], .str [105, 120]], .tup [.str [105, 115], .str [115]], .tup [.str [105, 115], .str [117]], .tup [.str [105, 115], .str [115, 105, 120]], .tup [.str [105, 120], .str [105, 115]], .tup [.str [105, 120], .str [105, 120]], .tup [.str [115], .str [105, 115]], .tup [.str [115], .str [115]], .tup [.str [115], .str [117]], .tup [.str [117], .str [105, 115]], .tup [.str [117], .str [115]], .tup [.str [115, 105, 120], .str [105, 115]]]
def u_USUAL_JOINS : U := .tup [.tup [.str [105, 115], .str [105, 120], .str [105, 120]], .tup [.str [105, 115], .str [115], .str [115]], .tup [.str [105, 115], .str [117], .str [117]], .tup [.str [105, 115], .str [115, 105, 120], .str [115, 105, 120]], .tup [.str [105, 115], .str [120], .str [120]], .tup [.str [105, 120], .str [115], .str [115, 105, 120]], .tup [.str [105, 120], .str [117], .str [115, 105, 120]], .tup [.str [105, 120], .str [115, 105, 120], .str [115, 105, 120]], .tup [.str [105, 120], .str [120], .str [120]], .tup [.str [115], .str [117], .str [117]], .tup [.str [115], .str [115, 105, 120], .str [115, 105, 120]], .tup [.str [115], .str [120], .str [120]], .tup [.str [117], .str [115, 105, 120], .str [115, 105, 120]], .tup [.str [117], .str [120], .str [120]], .tup [.str [115, 105, 120], .str [120], .str [120]]]
structure Glo (K : PySem.W.Frag) (mg : Str → Option Value) : Prop where
  g_LONGEST_NAME : ∃ t, mg "LONGEST_NAME" = some (.int 12 t)
  g_MOST_FIXED : ∃ t, mg "MOST_FIXED" = some (.int 4 t)
  g_MOST_MODES : ∃ t, mg "MOST_MODES" = some (.int 6 t)
  g_MOST_PARAMS : ∃ t, mg "MOST_PARAMS" = some (.int 4 t)
  g_MOST_STEPS : ∃ t, mg "MOST_STEPS" = some (.int 8 t)
  g_MOST_TEMPLATES : ∃ t, mg "MOST_TEMPLATES" = some (.int 6 t)
  g_USUAL_ALLOWED : ∃ a, mg "USUAL_ALLOWED" = some (.ref a) ∧ ∀ m H, RU K m H u_USUAL_ALLOWED (.ref a)
  g_USUAL_JOINS : ∃ a, mg "USUAL_JOINS" = some (.ref a) ∧ ∀ m H, RU K m H u_USUAL_JOINS (.ref a)
  g_USUAL_NAMES : ∃ a, mg "USUAL_NAMES" = some (.ref a) ∧ ∀ m H, RU K m H u_USUAL_NAMES (.ref a)
structure Flds (K : PySem.W.Frag) : Prop where
  f_rows : FldOk K [[74, 111, 105, 110, 115]] [114, 111, 119, 115]
section
variable {P : Program} {w : World} {K : PySem.W.Frag} {mg : Str → Option Value} {base : Heap}
abbrev Pr_InvalidModes (P : Program) (w : World) (K : PySem.W.Frag) (mg : Str → Option Value) (base : Heap) : Prop := PrE P K mg "InvalidModes" [73, 110, 118, 97, 108, 105, 100, 77, 111, 100, 101, 115] [[112, 97, 114, 116]] 1
abbrev Pr_InvalidSystem (P : Program) (w : World) (K : PySem.W.Frag) (mg : Str → Option Value) (base : Heap) : Prop := PrE P K mg "InvalidSystem" [73, 110, 118, 97, 108, 105, 100, 83, 121, 115, 116, 101, 109] [[112, 97, 114, 116]] 1
abbrev Pr_InvalidTemplate (P : Program) (w : World) (K : PySem.W.Frag) (mg : Str → Option Value) (base : Heap) : Prop := PrE P K mg "InvalidTemplate" [73, 110, 118, 97, 108, 105, 100, 84, 101, 109, 112, 108, 97, 116, 101] [[116, 101, 109, 112, 108, 97, 116, 101], [115, 116, 101, 112]] 2
abbrev s_are_strings : Stmt := topS 7
abbrev nl_are_strings : List Str := ["values", "value"]
theorem sc_are_strings : FnScope nl_are_strings ["values"] (defScope s_are_strings) := ⟨rfl, rfl, rfl, by decide +kernel, rfl, by decide +kernel, by decide +kernel⟩
def r_are_strings : SF := (sSeq (sFor (eSeqP (eVar 0)) (gfName 1) (sIf (eNot (eTru (eIsiP .str (eVar 1)))) (sRet (eC (.bl false))) sNext)) (sRet (eC (.bl true))))
def f_are_strings : FF := body 2 r_are_strings
abbrev Pr_are_strings (P : Program) (w : World) (K : PySem.W.Frag) (mg : Str → Option Value) (base : Heap) : Prop := Pr P w K mg base "are_strings" 1 ["values"] (spQ K 1 (fn 1 f_are_strings))
theorem ok_are_strings {f : Addr} {fd : FuncData} (F : Fun K "are_strings" "are_strings" s_are_strings f fd) (B : Blt mg) (D : Glo K mg) (FL : Flds K)  : FnOk P w K mg base (L2.CX P w) 1 f fd ["values"] (spQ K 1 (fn 1 f_are_strings)) := by
  have nd := sc_are_strings.nd
  refine fun_ok F sc_are_strings rfl rfl fun cdv A outer s H E hr => ?_
  refine ⟨_, (pss_cons (ps_for (passes_of rfl) rfl (pi_seq (pv 0)) (pg_name (i := 1) nd rfl (.inl rfl)) (pss_one (ps_if (pt_not (pt_truth (pe_callB (call_isi) (by rfl) B.isi (by decide +kernel) (pa_cons (pv 1) (pa_cons (pe_bltn (v := .ty "str") (by rfl) B.str (by decide +kernel) rfl) pa_nil))) (by intro _; rfl))) (pss_one (ps_ret pe_bl)) pss_nil))) (pss_one (ps_ret pe_bl))), ?_⟩
  exact (sims_seq (sims_for (simi_seqP (sim_var 0)) (simg_name 1) (sims_if (sim_not (sim_tru (sim_isiP (b := .str) (by intro z; cases z) (sim_var 1)))) (sims_ret sim_bl) sims_next)) (sims_ret sim_bl))
abbrev s_are_letters : Stmt := topS 8
abbrev nl_are_letters : List Str := ["words", "letters"]
theorem sc_are_letters : FnScope nl_are_letters ["words"] (defScope s_are_letters) := ⟨rfl, rfl, rfl, by decide +kernel, rfl, by decide +kernel, by decide +kernel⟩
def r_are_letters : SF := (sSeq (sAsg (eJoin (eC (.str [])) (eCons (eVar 0) eNil)) (gfName 1)) (sSeq (sIf (eOr (eNot (eTru (eCB gAll (eCons (eVar 0) eNil)))) (eAnd (eB (eOp (gB fun i j => iLe j i) (eCB gLenP (eCons (eVar 1) eNil)) (eOp gAdd (eCB gLenP (eCons (eVar 0) eNil)) (eC (.int 12))))) (eB (eOp (gB fun i j => iLt j i) (eMaxLen (eCons (eVar 0) eNil)) (eC (.int 12)))))) (sRet (eC (.bl false))) sNext) (sRet (eOrT (eNotT (eVar 1)) (eAndT (eStr0 q_isascii (eVar 1)) (eAndT (eStr0 q_isalpha (eVar 1)) (eStr0 q_islower (eVar 1))))))))
def f_are_letters : FF := body 2 r_are_letters
abbrev Pr_are_letters (P : Program) (w : World) (K : PySem.W.Frag) (mg : Str → Option Value) (base : Heap) : Prop := Pr P w K mg base "are_letters" 1 ["words"] (spQ K 1 (fn 1 f_are_letters))
theorem ok_are_letters {f : Addr} {fd : FuncData} (F : Fun K "are_letters" "are_letters" s_are_letters f fd) (B : Blt mg) (D : Glo K mg) (FL : Flds K)  : FnOk P w K mg base (L2.CX P w) 1 f fd ["words"] (spQ K 1 (fn 1 f_are_letters)) := by
  obtain ⟨t_LONGEST_NAME, D_LONGEST_NAME⟩ := D.g_LONGEST_NAME
  have nd := sc_are_letters.nd
  refine fun_ok F sc_are_letters rfl rfl fun cdv A outer s H E hr => ?_
  refine ⟨_, (pss_cons (ps_set (i := 1) nd rfl (.inl rfl) (pe_bm PySem.F.plainAttrs_str PySem.F.slot_str_join PySem.F.type_str_join mt_join pe_str (pa_cons (pv 0) pa_nil))) (pss_cons (ps_if (PW.pt (pw_or (pt_not (pt_truth (pe_callB (call_allD rfl) (by rfl) B.all (by decide +kernel) (pa_cons (pv 0) pa_nil)) (by intro _; rfl))) (pw_or1 (PW.pt (pw_and (pt_cmpR op_ge (pe_callB (call_lenQ) (by rfl) B.len (by decide +kernel) (pa_cons (pv 1) pa_nil)) (pe_op op_addQ (pe_callB (call_lenQ) (by rfl) B.len (by decide +kernel) (pa_cons (pv 0) pa_nil)) (pe_glob (v := .int 12) (by rfl) D_LONGEST_NAME ⟨_, rfl⟩)) (by first | rfl | exact nomark _)) (pw_and1 (pt_cmpR op_gt (pe_maxLen rfl (by rfl) B.max (by rfl) B.map (by rfl) B.len (pa_cons (pv 0) pa_nil)) (pe_glob (v := .int 12) (by rfl) D_LONGEST_NAME ⟨_, rfl⟩) (by first | rfl | exact nomark _)))))))) (pss_one (ps_ret pe_bl)) pss_nil) (pss_one (ps_ret (pe_orT (pe_notT (pv 1)) (pe_one (pe_andT (pe_bm0 PySem.F.plainAttrs_str PySem.F.slot_str_isascii PySem.F.type_str_isascii mt_isascii (pv 1)) (pe_andT (pe_bm0 PySem.F.plainAttrs_str PySem.F.slot_str_isalpha PySem.F.type_str_isalpha mt_isalpha (pv 1)) (pe_one (pe_bm0 PySem.F.plainAttrs_str PySem.F.slot_str_islower PySem.F.type_str_islower mt_islower (pv 1))))))))))), ?_⟩
  exact (sims_seq (sims_asg (sim_join (sim_str (by decide +kernel)) (sim_cons (sim_var 0) sim_nil)) (simg_name 1)) (sims_seq (sims_if (sim_or (sim_not (sim_tru (sim_cb simc_all (sim_cons (sim_var 0) sim_nil)))) (sim_and (sim_test (sim_op simr_ge (sim_cb simc_lenP (sim_cons (sim_var 1) sim_nil)) (sim_op simr_add (sim_cb simc_lenP (sim_cons (sim_var 0) sim_nil)) sim_int))) (sim_test (sim_op simr_gt (sim_maxLen (sim_cons (sim_var 0) sim_nil)) sim_int)))) (sims_ret sim_bl) sims_next) (sims_ret (sim_orT (sim_notT (sim_var 1)) (sim_andT (sim_str0 q_isascii_ok (sim_var 1)) (sim_andT (sim_str0 q_isalpha_ok (sim_var 1)) (sim_str0 q_islower_ok (sim_var 1))))))))
abbrev s_are_names : Stmt := topS 9
abbrev nl_are_names : List Str := ["values"]
theorem sc_are_names : FnScope nl_are_names ["values"] (defScope s_are_names) := ⟨rfl, rfl, rfl, by decide +kernel, rfl, by decide +kernel, by decide +kernel⟩
def r_are_names : SF := (sRet (eAndT (eCall (fn 1 f_are_strings) (eCons (eVar 0) eNil)) (eCall (fn 1 f_are_letters) (eCons (eVar 0) eNil))))
def f_are_names : FF := body 1 r_are_names
abbrev Pr_are_names (P : Program) (w : World) (K : PySem.W.Frag) (mg : Str → Option Value) (base : Heap) : Prop := Pr P w K mg base "are_names" 2 ["values"] (spQ K 1 (fn 1 f_are_names))
theorem ok_are_names {f : Addr} {fd : FuncData} (F : Fun K "are_names" "are_names" s_are_names f fd) (B : Blt mg) (D : Glo K mg) (FL : Flds K) (P_are_strings : Pr_are_strings P w K mg base) (P_are_letters : Pr_are_letters P w K mg base) : FnOk P w K mg base (L2.CX P w) 2 f fd ["values"] (spQ K 1 (fn 1 f_are_names)) := by
  obtain ⟨a_are_strings, d_are_strings, m_are_strings, k_are_strings, b_are_strings, G_are_strings⟩ := P_are_strings
  obtain ⟨a_are_letters, d_are_letters, m_are_letters, k_are_letters, b_are_letters, G_are_letters⟩ := P_are_letters
  have nd := sc_are_names.nd
  refine fun_ok F sc_are_names rfl rfl fun cdv A outer s H E hr => ?_
  refine ⟨_, (pss_one (ps_ret (pe_andT (pe_call G_are_strings (hr.mono (by decide)) (by rfl) m_are_strings k_are_strings b_are_strings .nil (passes_call (takes_of rfl rfl rfl rfl) (fun _ _ _ _ h => h)) (pa_cons (pv 0) pa_nil)) (pe_one (pe_call G_are_letters (hr.mono (by decide)) (by rfl) m_are_letters k_are_letters b_are_letters .nil (passes_call (takes_of rfl rfl rfl rfl) (fun _ _ _ _ h => h)) (pa_cons (pv 0) pa_nil)))))), ?_⟩
  exact (sims_ret (sim_andT (sim_call (sim_cons (sim_var 0) sim_nil)) (sim_call (sim_cons (sim_var 0) sim_nil))))
abbrev s_are_different_names : Stmt := topS 10
abbrev nl_are_different_names : List Str := ["value", "least", "most"]
theorem sc_are_different_names : FnScope nl_are_different_names ["value", "least", "most"] (defScope s_are_different_names) := ⟨rfl, rfl, rfl, by decide +kernel, rfl, by decide +kernel, by decide +kernel⟩
def r_are_different_names : SF := (sSeq (sIf (eOr (eNot (eTru (eIsiP .tup (eVar 0)))) (eNot (eB (eChain (gB iLe) (gB iLe) (eVar 1) (eCB gLenP (eCons (eVar 0) eNil)) (eVar 2))))) (sRet (eC (.bl false))) sNext) (sRet (eAndT (eCall (fn 1 f_are_names) (eCons (eVar 0) eNil)) (eOrT (eOp (gB iLt) (eCB gLenP (eCons (eVar 0) eNil)) (eC (.int 2))) (eOp gEq (eLenSetT (eVar 0)) (eCB gLenP (eCons (eVar 0) eNil)))))))
def f_are_different_names : FF := body 3 r_are_different_names
abbrev Pr_are_different_names (P : Program) (w : World) (K : PySem.W.Frag) (mg : Str → Option Value) (base : Heap) : Prop := Pr P w K mg base "are_different_names" 3 ["value", "least", "most"] (spQ K 3 (fn 3 f_are_different_names))
theorem ok_are_different_names {f : Addr} {fd : FuncData} (F : Fun K "are_different_names" "are_different_names" s_are_different_names f fd) (B : Blt mg) (D : Glo K mg) (FL : Flds K) (P_are_names : Pr_are_names P w K mg base) : FnOk P w K mg base (L2.CX P w) 3 f fd ["value", "least", "most"] (spQ K 3 (fn 3 f_are_different_names)) := by
  obtain ⟨a_are_names, d_are_names, m_are_names, k_are_names, b_are_names, G_are_names⟩ := P_are_names
  have nd := sc_are_different_names.nd
  refine fun_ok F sc_are_different_names rfl rfl fun cdv A outer s H E hr => ?_
  have hu64 : (A.deeper (PyProof.Rows.envOfC "are_different_names" (defScope s_are_different_names) s.heap.objs.size f cdv)).units + 64 < cLine := by have := hr.un; omega
  refine ⟨_, (pss_cons (ps_if (PW.pt (pw_or (pt_not (pt_truth (pe_callB (call_isi) (by rfl) B.isi (by decide +kernel) (pa_cons (pv 0) (pa_cons (pe_bltn (v := .ty "tuple") (by rfl) B.tuple (by decide +kernel) rfl) pa_nil))) (by intro _; rfl))) (pw_or1 (pt_not (pt_chain op_le op_le (pv 1) (pe_callB (call_lenQ) (by rfl) B.len (by decide +kernel) (pa_cons (pv 0) pa_nil)) (pv 2)))))) (pss_one (ps_ret pe_bl)) pss_nil) (pss_one (ps_ret (pe_andT (pe_call G_are_names (hr.mono (by decide)) (by rfl) m_are_names k_are_names b_are_names .nil (passes_call (takes_of rfl rfl rfl rfl) (fun _ _ _ _ h => h)) (pa_cons (pv 0) pa_nil)) (pe_one (pe_orT (pe_cmpR op_lt (pe_callB (call_lenQ) (by rfl) B.len (by decide +kernel) (pa_cons (pv 0) pa_nil)) pe_int (by first | rfl | exact nomark _)) (pe_one (pe_cmpR (op_eqD hu64) (pe_callB call_lenK (by rfl) B.len (by decide +kernel) (pa_cons (pe_callTy (call_setTK rfl) (by rfl) B.set (by decide +kernel) (pa_cons (pv 0) pa_nil)) pa_nil)) (pe_callB (call_lenQ) (by rfl) B.len (by decide +kernel) (pa_cons (pv 0) pa_nil)) (by first | rfl | exact nomark _))))))))), ?_⟩
  exact (sims_seq (sims_if (sim_or (sim_not (sim_tru (sim_isiP (b := .tup) (by intro z; cases z) (sim_var 0)))) (sim_not (sim_test (sim_chain simr_le simr_le (sim_var 1) (sim_cb simc_lenP (sim_cons (sim_var 0) sim_nil)) (sim_var 2))))) (sims_ret sim_bl) sims_next) (sims_ret (sim_andT (sim_call (sim_cons (sim_var 0) sim_nil)) (sim_orT (sim_op simr_lt (sim_cb simc_lenP (sim_cons (sim_var 0) sim_nil)) sim_int) (sim_op simr_eq (sim_lenSetT (sim_var 0)) (sim_cb simc_lenP (sim_cons (sim_var 0) sim_nil)))))))
abbrev s_Joins_init : Stmt := inClass (topS 17) 0
abbrev nl_Joins_init : List Str := ["self", "modes"]
theorem sc_Joins_init : FnScope nl_Joins_init ["self", "modes"] (defScope s_Joins_init) := ⟨rfl, rfl, rfl, by decide +kernel, rfl, by decide +kernel, by decide +kernel⟩
def r_Joins_init : SF := (sFldQ [[74, 111, 105, 110, 115]] [114, 111, 119, 115] (eVar 0) (eOp gIxP (eVar 1) (eC (.int 2))))
def f_Joins_init : FF := body 2 r_Joins_init
abbrev Pr_Joins_init (P : Program) (w : World) (K : PySem.W.Frag) (mg : Str → Option Value) (base : Heap) : Prop := PrI P w K mg base "Joins" [74, 111, 105, 110, 115] 1 ["self", "modes"] (spQ K 2 (fn 2 f_Joins_init))
theorem ok_Joins_init {f : Addr} {fd : FuncData} (F : Fun K "__init__" "Joins.__init__" s_Joins_init f fd) (B : Blt mg) (D : Glo K mg) (FL : Flds K)  : FnOk P w K mg base (L2.CX P w) 1 f fd ["self", "modes"] (spQ K 2 (fn 2 f_Joins_init)) := by
  have h_fld_rows := FL.f_rows
  have nd := sc_Joins_init.nd
  refine fun_ok F sc_Joins_init rfl rfl fun cdv A outer s H E hr => ?_
  have hu1 : (A.deeper (PyProof.Rows.envOfC "Joins.__init__" (defScope s_Joins_init) s.heap.objs.size f cdv)).units + 1 < cLine := by have := hr.un; omega
  refine ⟨_, (pss_one (ps_fld (pv 0) (pe_ix (ix_Q hu1) (pv 1) pe_int (fun _ _ => rfl)) rfl)), ?_⟩
  exact (sims_fld (by decide +kernel) h_fld_rows (sim_var 0) (sim_op simr_ixP (sim_var 1) sim_int))
abbrev s_has_faces : Stmt := topS 18
abbrev nl_has_faces : List Str := ["bit", "face", "allowed", "names", "row", "held", "asked"]
theorem sc_has_faces : FnScope nl_has_faces ["bit", "face", "allowed"] (defScope s_has_faces) := ⟨rfl, rfl, rfl, by decide +kernel, rfl, by decide +kernel, by decide +kernel⟩
def r_has_faces : SF := (sSeq (sIf (eNot (eTru (eIsiP .tup (eVar 2)))) (sRet (eC (.bl false))) sNext) (sSeq (sAsg (eCB gList (eCons (eVar 0) eNil)) (gfName 3)) (sSeq (sFor (eSeqP (eVar 2)) (gfName 4) (sSeq (sIf (eOr (eNot (eTru (eIsiP .tup (eVar 4)))) (eB (eOp gNe (eCB gLenP (eCons (eVar 4) eNil)) (eC (.int 2))))) (sRet (eC (.bl false))) sNext) (sSeq (sAsg (eVar 4) (gfTup 2 (gfCons (gfName 5) (gfCons (gfName 6) gfNil)))) (sSeq (sIf (eOr (eB (eOp (gIn' true) (eVar 5) (eVar 3))) (eOr (eB (eOp (gIn' true) (eVar 6) (eVar 3))) (eTru (eOp (gI Builtin.bitAnd) (eOp gIxP (eVar 1) (eVar 5)) (eOp gIxP (eVar 0) (eVar 6)))))) (sRet (eC (.bl false))) sNext) (sSeq (sAugS gDget (gI Builtin.bitOr) gSet (eVar 1) (eVar 5) (eOp gIxP (eVar 0) (eVar 6))) (sAugS gDget (gI Builtin.bitOr) gSet (eVar 1) (eVar 6) (eOp (gIC cShl fShl) (eOp gIxP (eVar 0) (eVar 5)) (eC (.int 6))))))))) (sRet (eC (.bl true))))))
def f_has_faces : FF := body 7 r_has_faces
abbrev Pr_has_faces (P : Program) (w : World) (K : PySem.W.Frag) (mg : Str → Option Value) (base : Heap) : Prop := Pr P w K mg base "has_faces" 1 ["bit", "face", "allowed"] (spQ K 3 (fn 3 f_has_faces))
theorem ok_has_faces {f : Addr} {fd : FuncData} (F : Fun K "has_faces" "has_faces" s_has_faces f fd) (B : Blt mg) (D : Glo K mg) (FL : Flds K)  : FnOk P w K mg base (L2.CX P w) 1 f fd ["bit", "face", "allowed"] (spQ K 3 (fn 3 f_has_faces)) := by
  obtain ⟨t_MOST_MODES, D_MOST_MODES⟩ := D.g_MOST_MODES
  have nd := sc_has_faces.nd
  refine fun_ok F sc_has_faces rfl rfl fun cdv A outer s H E hr => ?_
  have hu1 : (A.deeper (PyProof.Rows.envOfC "has_faces" (defScope s_has_faces) s.heap.objs.size f cdv)).units + 1 < cLine := by have := hr.un; omega
  have hu64 : (A.deeper (PyProof.Rows.envOfC "has_faces" (defScope s_has_faces) s.heap.objs.size f cdv)).units + 64 < cLine := by have := hr.un; omega
  have hu65 : (A.deeper (PyProof.Rows.envOfC "has_faces" (defScope s_has_faces) s.heap.objs.size f cdv)).units + 65 < cLine := by have := hr.un; omega
  refine ⟨_, (pss_cons (ps_if (pt_not (pt_truth (pe_callB (call_isi) (by rfl) B.isi (by decide +kernel) (pa_cons (pv 2) (pa_cons (pe_bltn (v := .ty "tuple") (by rfl) B.tuple (by decide +kernel) rfl) pa_nil))) (by intro _; rfl))) (pss_one (ps_ret pe_bl)) pss_nil) (pss_cons (ps_set (i := 3) nd rfl (.inl rfl) (pe_callTy (call_listQ rfl) (by rfl) B.list (by decide +kernel) (pa_cons (pv 0) pa_nil))) (pss_cons (ps_for (passes_of rfl) rfl (pi_seq (pv 2)) (pg_name (i := 4) nd rfl (.inl rfl)) (pss_cons (ps_if (PW.pt (pw_or (pt_not (pt_truth (pe_callB (call_isi) (by rfl) B.isi (by decide +kernel) (pa_cons (pv 4) (pa_cons (pe_bltn (v := .ty "tuple") (by rfl) B.tuple (by decide +kernel) rfl) pa_nil))) (by intro _; rfl))) (pw_or1 (pt_cmpR (op_neD hu64) (pe_callB (call_lenQ) (by rfl) B.len (by decide +kernel) (pa_cons (pv 4) pa_nil)) pe_int (by first | rfl | exact nomark _))))) (pss_one (ps_ret pe_bl)) pss_nil) (pss_cons (ps_asg (pv 4) (pg_tup rfl (pgs_cons (pg_name (i := 5) nd rfl (.inl rfl)) (pgs_cons (pg_name (i := 6) nd rfl (.inl rfl)) pgs_nil)))) (pss_cons (ps_if (PW.pt (pw_or (pt_cmpR (op_notInQ hu65) (pv 5) (pv 3) (by first | rfl | exact nomark _)) (pw_or (pt_cmpR (op_notInQ hu65) (pv 6) (pv 3) (by first | rfl | exact nomark _)) (pw_or1 (pt_truth (pe_op op_and (pe_ix (ix_Q hu1) (pv 1) (pv 5) (fun _ _ => rfl)) (pe_ix (ix_Q hu1) (pv 0) (pv 6) (fun _ _ => rfl))) (by intro _; rfl)))))) (pss_one (ps_ret pe_bl)) pss_nil) (pss_cons (ps_augS (pv 1) (pv 5) (get_dct hu1) (pe_ix (ix_Q hu1) (pv 0) (pv 6) (fun _ _ => rfl)) (pip_of iop_or) (set_Q hu1)) (pss_one (ps_augS (pv 1) (pv 6) (get_dct hu1) (pe_op op_shl (pe_ix (ix_Q hu1) (pv 0) (pv 5) (fun _ _ => rfl)) (pe_glob (v := .int 6) (by rfl) D_MOST_MODES ⟨_, rfl⟩)) (pip_of iop_or) (set_Q hu1)))))))) (pss_one (ps_ret pe_bl))))), ?_⟩
  exact (sims_seq (sims_if (sim_not (sim_tru (sim_isiP (b := .tup) (by intro z; cases z) (sim_var 2)))) (sims_ret sim_bl) sims_next) (sims_seq (sims_asg (sim_cb simc_list (sim_cons (sim_var 0) sim_nil)) (simg_name 3)) (sims_seq (sims_for (simi_seqP (sim_var 2)) (simg_name 4) (sims_seq (sims_if (sim_or (sim_not (sim_tru (sim_isiP (b := .tup) (by intro z; cases z) (sim_var 4)))) (sim_test (sim_op simr_ne (sim_cb simc_lenP (sim_cons (sim_var 4) sim_nil)) sim_int))) (sims_ret sim_bl) sims_next) (sims_seq (sims_asg (sim_var 4) (simg_tup (simg_cons (simg_name 5) (simg_cons (simg_name 6) simg_nil)))) (sims_seq (sims_if (sim_or (sim_test (sim_op simr_notIn (sim_var 5) (sim_var 3))) (sim_or (sim_test (sim_op simr_notIn (sim_var 6) (sim_var 3))) (sim_tru (sim_op simr_and (sim_op simr_ixP (sim_var 1) (sim_var 5)) (sim_op simr_ixP (sim_var 0) (sim_var 6)))))) (sims_ret sim_bl) sims_next) (sims_seq (sims_augS (sim_var 1) (sim_var 5) simr_dget (sim_op simr_ixP (sim_var 0) (sim_var 6)) simr_or simset) (sims_augS (sim_var 1) (sim_var 6) simr_dget (sim_op simr_shl (sim_op simr_ixP (sim_var 0) (sim_var 5)) sim_int) simr_or simset)))))) (sims_ret sim_bl))))
abbrev s_wrong_joins : Stmt := topS 19
abbrev nl_wrong_joins : List Str := ["bit", "joins", "face", "names", "pairs", "wrong", "row", "first", "second", "both", "pair"]
theorem sc_wrong_joins : FnScope nl_wrong_joins ["bit", "joins", "face"] (defScope s_wrong_joins) := ⟨rfl, rfl, rfl, by decide +kernel, rfl, by decide +kernel, by decide +kernel⟩
def r_wrong_joins : SF := (sSeq (sAsg (eCB gList (eCons (eVar 0) eNil)) (gfName 3)) (sSeq (sIf (eOr (eNot (eTru (eIsiP .tup (eVar 1)))) (eB (eOp gNe (eCB gLenP (eCons (eVar 1) eNil)) (eOp (gIC cDiv (· / ·)) (eOp (gIC cMul (· * ·)) (eCB gLenP (eCons (eVar 3) eNil)) (eOp (gI (· - ·)) (eCB gLenP (eCons (eVar 3) eNil)) (eC (.int 1)))) (eC (.int 2)))))) (sRet (eC (.str [106, 111, 105, 110, 115]))) sNext) (sSeq (sAsg (eC (.int 0)) (gfName 4)) (sSeq (sAsg (eC .non) (gfName 5)) (sSeq (sFor (eSeqP (eVar 1)) (gfName 6) (sSeq (sIf (eOr (eNot (eTru (eIsiP .tup (eVar 6)))) (eB (eOp gNe (eCB gLenP (eCons (eVar 6) eNil)) (eC (.int 3))))) (sRet (eC (.str [106, 111, 105, 110, 115]))) sNext) (sSeq (sAsg (eVar 6) (gfTup 3 (gfCons (gfName 7) (gfCons (gfName 8) (gfCons (gfName 9) gfNil))))) (sSeq (sIf (eOr (eB (eOp (gIn' true) (eVar 7) (eVar 3))) (eOr (eB (eOp (gIn' true) (eVar 8) (eVar 3))) (eOr (eB (eOp (gIn' true) (eVar 9) (eVar 3))) (eB (eOp (gB fun i j => iLe j i) (eOp gIxP (eVar 0) (eVar 7)) (eOp gIxP (eVar 0) (eVar 8))))))) (sRet (eC (.str [106, 111, 105, 110, 115]))) sNext) (sSeq (sAsg (eOp (gIC cShl fShl) (eC (.int 1)) (eOp gAdd (eOp gIxP (eVar 0) (eVar 7)) (eOp gIxP (eVar 0) (eVar 8)))) (gfName 10)) (sSeq (sIf (eTru (eOp (gI Builtin.bitAnd) (eVar 4) (eVar 10))) (sRet (eC (.str [106, 111, 105, 110, 115]))) sNext) (sSeq (sAug 4 (gI Builtin.bitOr) (eVar 10)) (sIf (eB (eOp gNe (eOp gIxP (eVar 2) (eVar 9)) (eOp (gI Builtin.bitAnd) (eOp gIxP (eVar 2) (eVar 7)) (eOp gIxP (eVar 2) (eVar 8))))) (sAsg (eC (.str [101, 120, 97, 99, 116])) (gfName 5)) sNext)))))))) (sRet (eVar 5)))))))
def f_wrong_joins : FF := body 11 r_wrong_joins
abbrev Pr_wrong_joins (P : Program) (w : World) (K : PySem.W.Frag) (mg : Str → Option Value) (base : Heap) : Prop := Pr P w K mg base "wrong_joins" 1 ["bit", "joins", "face"] (spQ K 3 (fn 3 f_wrong_joins))
theorem ok_wrong_joins {f : Addr} {fd : FuncData} (F : Fun K "wrong_joins" "wrong_joins" s_wrong_joins f fd) (B : Blt mg) (D : Glo K mg) (FL : Flds K)  : FnOk P w K mg base (L2.CX P w) 1 f fd ["bit", "joins", "face"] (spQ K 3 (fn 3 f_wrong_joins)) := by
  have nd := sc_wrong_joins.nd
  refine fun_ok F sc_wrong_joins rfl rfl fun cdv A outer s H E hr => ?_
  have hu1 : (A.deeper (PyProof.Rows.envOfC "wrong_joins" (defScope s_wrong_joins) s.heap.objs.size f cdv)).units + 1 < cLine := by have := hr.un; omega
  have hu64 : (A.deeper (PyProof.Rows.envOfC "wrong_joins" (defScope s_wrong_joins) s.heap.objs.size f cdv)).units + 64 < cLine := by have := hr.un; omega
  have hu65 : (A.deeper (PyProof.Rows.envOfC "wrong_joins" (defScope s_wrong_joins) s.heap.objs.size f cdv)).units + 65 < cLine := by have := hr.un; omega
  refine ⟨_, (pss_cons (ps_set (i := 3) nd rfl (.inl rfl) (pe_callTy (call_listQ rfl) (by rfl) B.list (by decide +kernel) (pa_cons (pv 0) pa_nil))) (pss_cons (ps_if (PW.pt (pw_or (pt_not (pt_truth (pe_callB (call_isi) (by rfl) B.isi (by decide +kernel) (pa_cons (pv 1) (pa_cons (pe_bltn (v := .ty "tuple") (by rfl) B.tuple (by decide +kernel) rfl) pa_nil))) (by intro _; rfl))) (pw_or1 (pt_cmpR (op_neD hu64) (pe_callB (call_lenQ) (by rfl) B.len (by decide +kernel) (pa_cons (pv 1) pa_nil)) (pe_op op_fdiv (pe_op op_mul (pe_callB (call_lenQ) (by rfl) B.len (by decide +kernel) (pa_cons (pv 3) pa_nil)) (pe_op op_sub (pe_callB (call_lenQ) (by rfl) B.len (by decide +kernel) (pa_cons (pv 3) pa_nil)) pe_int)) pe_int) (by first | rfl | exact nomark _))))) (pss_one (ps_ret pe_str)) pss_nil) (pss_cons (ps_set (i := 4) nd rfl (.inl rfl) pe_int) (pss_cons (ps_set (i := 5) nd rfl (.inl rfl) pe_non) (pss_cons (ps_for (passes_of rfl) rfl (pi_seq (pv 1)) (pg_name (i := 6) nd rfl (.inl rfl)) (pss_cons (ps_if (PW.pt (pw_or (pt_not (pt_truth (pe_callB (call_isi) (by rfl) B.isi (by decide +kernel) (pa_cons (pv 6) (pa_cons (pe_bltn (v := .ty "tuple") (by rfl) B.tuple (by decide +kernel) rfl) pa_nil))) (by intro _; rfl))) (pw_or1 (pt_cmpR (op_neD hu64) (pe_callB (call_lenQ) (by rfl) B.len (by decide +kernel) (pa_cons (pv 6) pa_nil)) pe_int (by first | rfl | exact nomark _))))) (pss_one (ps_ret pe_str)) pss_nil) (pss_cons (ps_asg (pv 6) (pg_tup rfl (pgs_cons (pg_name (i := 7) nd rfl (.inl rfl)) (pgs_cons (pg_name (i := 8) nd rfl (.inl rfl)) (pgs_cons (pg_name (i := 9) nd rfl (.inl rfl)) pgs_nil))))) (pss_cons (ps_if (PW.pt (pw_or (pt_cmpR (op_notInQ hu65) (pv 7) (pv 3) (by first | rfl | exact nomark _)) (pw_or (pt_cmpR (op_notInQ hu65) (pv 8) (pv 3) (by first | rfl | exact nomark _)) (pw_or (pt_cmpR (op_notInQ hu65) (pv 9) (pv 3) (by first | rfl | exact nomark _)) (pw_or1 (pt_cmpR op_ge (pe_ix (ix_Q hu1) (pv 0) (pv 7) (fun _ _ => rfl)) (pe_ix (ix_Q hu1) (pv 0) (pv 8) (fun _ _ => rfl)) (by first | rfl | exact nomark _))))))) (pss_one (ps_ret pe_str)) pss_nil) (pss_cons (ps_set (i := 10) nd rfl (.inl rfl) (pe_op op_shl pe_int (pe_op op_addQ (pe_ix (ix_Q hu1) (pv 0) (pv 7) (fun _ _ => rfl)) (pe_ix (ix_Q hu1) (pv 0) (pv 8) (fun _ _ => rfl))))) (pss_cons (ps_if (pt_truth (pe_op op_and (pv 4) (pv 10)) (by intro _; rfl)) (pss_one (ps_ret pe_str)) pss_nil) (pss_cons (ps_aug (i := 4) nd rfl (.inl rfl) (pv 10) (pip_of iop_or)) (pss_one (ps_if (pt_cmpR (op_neD hu64) (pe_ix (ix_Q hu1) (pv 2) (pv 9) (fun _ _ => rfl)) (pe_op op_and (pe_ix (ix_Q hu1) (pv 2) (pv 7) (fun _ _ => rfl)) (pe_ix (ix_Q hu1) (pv 2) (pv 8) (fun _ _ => rfl))) (by first | rfl | exact nomark _)) (pss_one (ps_set (i := 5) nd rfl (.inl rfl) pe_str)) pss_nil))))))))) (pss_one (ps_ret (pv 5)))))))), ?_⟩
  exact (sims_seq (sims_asg (sim_cb simc_list (sim_cons (sim_var 0) sim_nil)) (simg_name 3)) (sims_seq (sims_if (sim_or (sim_not (sim_tru (sim_isiP (b := .tup) (by intro z; cases z) (sim_var 1)))) (sim_test (sim_op simr_ne (sim_cb simc_lenP (sim_cons (sim_var 1) sim_nil)) (sim_op simr_fdiv (sim_op simr_mul (sim_cb simc_lenP (sim_cons (sim_var 3) sim_nil)) (sim_op simr_sub (sim_cb simc_lenP (sim_cons (sim_var 3) sim_nil)) sim_int)) sim_int)))) (sims_ret (sim_str (by decide +kernel))) sims_next) (sims_seq (sims_asg sim_int (simg_name 4)) (sims_seq (sims_asg sim_non (simg_name 5)) (sims_seq (sims_for (simi_seqP (sim_var 1)) (simg_name 6) (sims_seq (sims_if (sim_or (sim_not (sim_tru (sim_isiP (b := .tup) (by intro z; cases z) (sim_var 6)))) (sim_test (sim_op simr_ne (sim_cb simc_lenP (sim_cons (sim_var 6) sim_nil)) sim_int))) (sims_ret (sim_str (by decide +kernel))) sims_next) (sims_seq (sims_asg (sim_var 6) (simg_tup (simg_cons (simg_name 7) (simg_cons (simg_name 8) (simg_cons (simg_name 9) simg_nil))))) (sims_seq (sims_if (sim_or (sim_test (sim_op simr_notIn (sim_var 7) (sim_var 3))) (sim_or (sim_test (sim_op simr_notIn (sim_var 8) (sim_var 3))) (sim_or (sim_test (sim_op simr_notIn (sim_var 9) (sim_var 3))) (sim_test (sim_op simr_ge (sim_op simr_ixP (sim_var 0) (sim_var 7)) (sim_op simr_ixP (sim_var 0) (sim_var 8))))))) (sims_ret (sim_str (by decide +kernel))) sims_next) (sims_seq (sims_asg (sim_op simr_shl sim_int (sim_op simr_add (sim_op simr_ixP (sim_var 0) (sim_var 7)) (sim_op simr_ixP (sim_var 0) (sim_var 8)))) (simg_name 10)) (sims_seq (sims_if (sim_tru (sim_op simr_and (sim_var 4) (sim_var 10))) (sims_ret (sim_str (by decide +kernel))) sims_next) (sims_seq (sims_aug (sim_var 10) simr_or) (sims_if (sim_test (sim_op simr_ne (sim_op simr_ixP (sim_var 2) (sim_var 9)) (sim_op simr_and (sim_op simr_ixP (sim_var 2) (sim_var 7)) (sim_op simr_ixP (sim_var 2) (sim_var 8))))) (sims_asg (sim_str (by decide +kernel)) (simg_name 5)) sims_next)))))))) (sims_ret (sim_var 5)))))))
abbrev s_are_standard : Stmt := topS 21
abbrev nl_are_standard : List Str := ["modes"]
theorem sc_are_standard : FnScope nl_are_standard ["modes"] (defScope s_are_standard) := ⟨rfl, rfl, rfl, by decide +kernel, rfl, by decide +kernel, by decide +kernel⟩
def r_are_standard : SF := (sRet (eOp gEq (eVar 0) (eTup (eCons (eC u_USUAL_NAMES) (eCons (eC u_USUAL_ALLOWED) (eCons (eC u_USUAL_JOINS) eNil))))))
def f_are_standard : FF := body 1 r_are_standard
abbrev Pr_are_standard (P : Program) (w : World) (K : PySem.W.Frag) (mg : Str → Option Value) (base : Heap) : Prop := Pr P w K mg base "are_standard" 1 ["modes"] (spQ K 1 (fn 1 f_are_standard))
theorem ok_are_standard {f : Addr} {fd : FuncData} (F : Fun K "are_standard" "are_standard" s_are_standard f fd) (B : Blt mg) (D : Glo K mg) (FL : Flds K)  : FnOk P w K mg base (L2.CX P w) 1 f fd ["modes"] (spQ K 1 (fn 1 f_are_standard)) := by
  obtain ⟨a_USUAL_ALLOWED, D_USUAL_ALLOWED, h_USUAL_ALLOWED⟩ := D.g_USUAL_ALLOWED
  obtain ⟨a_USUAL_JOINS, D_USUAL_JOINS, h_USUAL_JOINS⟩ := D.g_USUAL_JOINS
  obtain ⟨a_USUAL_NAMES, D_USUAL_NAMES, h_USUAL_NAMES⟩ := D.g_USUAL_NAMES
  have nd := sc_are_standard.nd
  refine fun_ok F sc_are_standard rfl rfl fun cdv A outer s H E hr => ?_
  have hu64 : (A.deeper (PyProof.Rows.envOfC "are_standard" (defScope s_are_standard) s.heap.objs.size f cdv)).units + 64 < cLine := by have := hr.un; omega
  refine ⟨_, (pss_one (ps_ret (pe_cmpR (op_eqD hu64) (pv 0) (pe_tup (pa_cons (pe_glob (v := .ref a_USUAL_NAMES) (by rfl) D_USUAL_NAMES rfl) (pa_cons (pe_glob (v := .ref a_USUAL_ALLOWED) (by rfl) D_USUAL_ALLOWED rfl) (pa_cons (pe_glob (v := .ref a_USUAL_JOINS) (by rfl) D_USUAL_JOINS rfl) pa_nil)))) (by first | rfl | exact nomark _)))), ?_⟩
  exact (sims_ret (sim_op simr_eq (sim_var 0) (sim_tup (sim_cons (sim_c h_USUAL_NAMES) (sim_cons (sim_c h_USUAL_ALLOWED) (sim_cons (sim_c h_USUAL_JOINS) sim_nil))))))
abbrev s_read_and_write : Stmt := topS 22
abbrev nl_read_and_write : List Str := ["modes", "names", "allowed", "joins", "weak", "strong"]
theorem sc_read_and_write : FnScope nl_read_and_write ["modes"] (defScope s_read_and_write) := ⟨rfl, rfl, rfl, by decide +kernel, rfl, by decide +kernel, by decide +kernel⟩
def r_read_and_write : SF := (sSeq (sAsg (eVar 0) (gfTup 3 (gfCons (gfName 1) (gfCons (gfName 2) (gfCons (gfName 3) gfNil))))) (sSeq (sIf (eB (eOp gNe (eCB gLenP (eCons (eVar 1) eNil)) (eC (.int 2)))) (sRet (eC (.bl false))) sNext) (sSeq (sAsg (eVar 1) (gfTup 2 (gfCons (gfName 4) (gfCons (gfName 5) gfNil)))) (sRet (eAndT (eOp gEq (eVar 2) (eTup (eCons (eTup (eCons (eVar 4) (eCons (eVar 4) eNil))) eNil))) (eOp gEq (eVar 3) (eTup (eCons (eTup (eCons (eVar 4) (eCons (eVar 5) (eCons (eVar 5) eNil)))) eNil))))))))
def f_read_and_write : FF := body 6 r_read_and_write
abbrev Pr_read_and_write (P : Program) (w : World) (K : PySem.W.Frag) (mg : Str → Option Value) (base : Heap) : Prop := Pr P w K mg base "read_and_write" 1 ["modes"] (spQ K 1 (fn 1 f_read_and_write))
theorem ok_read_and_write {f : Addr} {fd : FuncData} (F : Fun K "read_and_write" "read_and_write" s_read_and_write f fd) (B : Blt mg) (D : Glo K mg) (FL : Flds K)  : FnOk P w K mg base (L2.CX P w) 1 f fd ["modes"] (spQ K 1 (fn 1 f_read_and_write)) := by
  have nd := sc_read_and_write.nd
  refine fun_ok F sc_read_and_write rfl rfl fun cdv A outer s H E hr => ?_
  have hu64 : (A.deeper (PyProof.Rows.envOfC "read_and_write" (defScope s_read_and_write) s.heap.objs.size f cdv)).units + 64 < cLine := by have := hr.un; omega
  refine ⟨_, (pss_cons (ps_asg (pv 0) (pg_tup rfl (pgs_cons (pg_name (i := 1) nd rfl (.inl rfl)) (pgs_cons (pg_name (i := 2) nd rfl (.inl rfl)) (pgs_cons (pg_name (i := 3) nd rfl (.inl rfl)) pgs_nil))))) (pss_cons (ps_if (pt_cmpR (op_neD hu64) (pe_callB (call_lenQ) (by rfl) B.len (by decide +kernel) (pa_cons (pv 1) pa_nil)) pe_int (by first | rfl | exact nomark _)) (pss_one (ps_ret pe_bl)) pss_nil) (pss_cons (ps_asg (pv 1) (pg_tup rfl (pgs_cons (pg_name (i := 4) nd rfl (.inl rfl)) (pgs_cons (pg_name (i := 5) nd rfl (.inl rfl)) pgs_nil)))) (pss_one (ps_ret (pe_andT (pe_cmpR (op_eqD hu64) (pv 2) (pe_tup (pa_cons (pe_tup (pa_cons (pv 4) (pa_cons (pv 4) pa_nil))) pa_nil)) (by first | rfl | exact nomark _)) (pe_one (pe_cmpR (op_eqD hu64) (pv 3) (pe_tup (pa_cons (pe_tup (pa_cons (pv 4) (pa_cons (pv 5) (pa_cons (pv 5) pa_nil)))) pa_nil)) (by first | rfl | exact nomark _))))))))), ?_⟩
  exact (sims_seq (sims_asg (sim_var 0) (simg_tup (simg_cons (simg_name 1) (simg_cons (simg_name 2) (simg_cons (simg_name 3) simg_nil))))) (sims_seq (sims_if (sim_test (sim_op simr_ne (sim_cb simc_lenP (sim_cons (sim_var 1) sim_nil)) sim_int)) (sims_ret sim_bl) sims_next) (sims_seq (sims_asg (sim_var 1) (simg_tup (simg_cons (simg_name 4) (simg_cons (simg_name 5) simg_nil)))) (sims_ret (sim_andT (sim_op simr_eq (sim_var 2) (sim_tup (sim_cons (sim_tup (sim_cons (sim_var 4) (sim_cons (sim_var 4) sim_nil))) sim_nil))) (sim_op simr_eq (sim_var 3) (sim_tup (sim_cons (sim_tup (sim_cons (sim_var 4) (sim_cons (sim_var 5) (sim_cons (sim_var 5) sim_nil)))) sim_nil))))))))
abbrev s_wrong_part : Stmt := topS 24
abbrev nl_wrong_part : List Str := ["modes", "names", "allowed", "joins", "bit", "face", "part", "place", "name"]
theorem sc_wrong_part : FnScope nl_wrong_part ["modes"] (defScope s_wrong_part) := ⟨rfl, rfl, rfl, by decide +kernel, rfl, by decide +kernel, by decide +kernel⟩
def r_wrong_part : SF := (sSeq (sAsg (eVar 0) (gfTup 3 (gfCons (gfName 1) (gfCons (gfName 2) (gfCons (gfName 3) gfNil))))) (sSeq (sIf (eB (eOp (gB iLt) (eLenSetT (eVar 1)) (eCB gLenP (eCons (eVar 1) eNil)))) (sRet (eC (.str [110, 97, 109, 101, 115]))) sNext) (sSeq (sIf (eOr (eTru (eCall (fn 1 f_read_and_write) (eCons (eVar 0) eNil))) (eTru (eCall (fn 1 f_are_standard) (eCons (eVar 0) eNil)))) (sRet (eC .non)) sNext) (sSeq (sAsg (eDc (eEn (eCons (eVar 1) eNil)) (gfTup 2 (gfCons (gfName 7) (gfCons (gfName 8) gfNil))) eYes (eVar 8) (eOp (gIC cShl fShl) (eC (.int 1)) (eVar 7)) [8, 7]) (gfName 4)) (sSeq (sAsg (eDc (eSeqP (eVar 1)) (gfName 8) eYes (eVar 8) (eC (.int 0)) [8]) (gfName 5)) (sSeq (sIf (eNot (eTru (eCall (fn 3 f_has_faces) (eCons (eVar 4) (eCons (eVar 5) (eCons (eVar 2) eNil)))))) (sRet (eC (.str [97, 108, 108, 111, 119, 101, 100]))) sNext) (sSeq (sAsg (eCall (fn 3 f_wrong_joins) (eCons (eVar 4) (eCons (eVar 3) (eCons (eVar 5) eNil)))) (gfName 6)) (sSeq (sIf (eOr (eB (eOp gNotN' (eVar 6) (eC .non))) (eOr (eB (eOp (gB iLt) (eCB gLenP (eCons (eVar 1) eNil)) (eC (.int 3)))) (eOr (eB (eOp gEq (eLenSetI (eListVals (eVar 5))) (eCB gLenP (eCons (eVar 1) eNil)))) eNeverT))) (sRet (eVar 6)) sNext) (sRet (eC (.str [101, 120, 97, 99, 116])))))))))))
def f_wrong_part : FF := body 9 r_wrong_part
abbrev Pr_wrong_part (P : Program) (w : World) (K : PySem.W.Frag) (mg : Str → Option Value) (base : Heap) : Prop := Pr P w K mg base "wrong_part" 2 ["modes"] (spQ K 1 (fn 1 f_wrong_part))
theorem ok_wrong_part {f : Addr} {fd : FuncData} (F : Fun K "wrong_part" "wrong_part" s_wrong_part f fd) (B : Blt mg) (D : Glo K mg) (FL : Flds K) (P_read_and_write : Pr_read_and_write P w K mg base) (P_are_standard : Pr_are_standard P w K mg base) (P_has_faces : Pr_has_faces P w K mg base) (P_wrong_joins : Pr_wrong_joins P w K mg base) : FnOk P w K mg base (L2.CX P w) 2 f fd ["modes"] (spQ K 1 (fn 1 f_wrong_part)) := by
  obtain ⟨a_read_and_write, d_read_and_write, m_read_and_write, k_read_and_write, b_read_and_write, G_read_and_write⟩ := P_read_and_write
  obtain ⟨a_are_standard, d_are_standard, m_are_standard, k_are_standard, b_are_standard, G_are_standard⟩ := P_are_standard
  obtain ⟨a_has_faces, d_has_faces, m_has_faces, k_has_faces, b_has_faces, G_has_faces⟩ := P_has_faces
  obtain ⟨a_wrong_joins, d_wrong_joins, m_wrong_joins, k_wrong_joins, b_wrong_joins, G_wrong_joins⟩ := P_wrong_joins
  have nd := sc_wrong_part.nd
  refine fun_ok F sc_wrong_part rfl rfl fun cdv A outer s H E hr => ?_
  have hu64 : (A.deeper (PyProof.Rows.envOfC "wrong_part" (defScope s_wrong_part) s.heap.objs.size f cdv)).units + 64 < cLine := by have := hr.un; omega
  refine ⟨_, (pss_cons (ps_asg (pv 0) (pg_tup rfl (pgs_cons (pg_name (i := 1) nd rfl (.inl rfl)) (pgs_cons (pg_name (i := 2) nd rfl (.inl rfl)) (pgs_cons (pg_name (i := 3) nd rfl (.inl rfl)) pgs_nil))))) (pss_cons (ps_if (pt_cmpR op_lt (pe_callB call_lenK (by rfl) B.len (by decide +kernel) (pa_cons (pe_callTy (call_setTK rfl) (by rfl) B.set (by decide +kernel) (pa_cons (pv 1) pa_nil)) pa_nil)) (pe_callB (call_lenQ) (by rfl) B.len (by decide +kernel) (pa_cons (pv 1) pa_nil)) (by first | rfl | exact nomark _)) (pss_one (ps_ret pe_str)) pss_nil) (pss_cons (ps_if (PW.pt (pw_or (pt_truth (pe_call G_read_and_write (hr.mono (by decide)) (by rfl) m_read_and_write k_read_and_write b_read_and_write .nil (passes_call (takes_of rfl rfl rfl rfl) (fun _ _ _ _ h => h)) (pa_cons (pv 0) pa_nil)) (by intro _; rfl)) (pw_or1 (pt_truth (pe_call G_are_standard (hr.mono (by decide)) (by rfl) m_are_standard k_are_standard b_are_standard .nil (passes_call (takes_of rfl rfl rfl rfl) (fun _ _ _ _ h => h)) (pa_cons (pv 0) pa_nil)) (by intro _; rfl))))) (pss_one (ps_ret pe_non)) pss_nil) (pss_cons (ps_setDc (i := 4) (own := [("name", 8), ("place", 7)]) (g := (gTup K 2 (gCons (gName 7) (gCons (gName 8) gNil)))) (tt := tYes) rfl nd rfl rfl (sw_dict rfl rfl rfl (by decide +kernel)) (pi_en (by rfl) B.enum (pa_cons (pv 1) pa_nil)) (blkOk_by (N := nl_wrong_part) (sc := defScope s_wrong_part) (own := [("name", 8), ("place", 7)]) (by decide +kernel)) (fun _ _ _ _ _ => (pg_tup rfl (pgs_cons (pg_name (i := 7) nd rfl (.inl rfl)) (pgs_cons (pg_name (i := 8) nd rfl (.inl rfl)) pgs_nil)))) (fun _ _ _ _ _ => pts_nil) (fun _ _ _ _ _ => (pv 8)) (fun _ _ _ _ _ => (pe_op op_shl pe_int (pv 7)))) (pss_cons (ps_setDc (i := 5) (own := [("name", 8)]) (g := (gName 8)) (tt := tYes) rfl nd rfl rfl (sw_dict rfl rfl rfl (by decide +kernel)) (pi_seq (pv 1)) (blkOk_by (N := nl_wrong_part) (sc := defScope s_wrong_part) (own := [("name", 8)]) (by decide +kernel)) (fun _ _ _ _ _ => (pg_name (i := 8) nd rfl (.inl rfl))) (fun _ _ _ _ _ => pts_nil) (fun _ _ _ _ _ => (pv 8)) (fun _ _ _ _ _ => pe_int)) (pss_cons (ps_if (pt_not (pt_truth (pe_call G_has_faces (hr.mono (by decide)) (by rfl) m_has_faces k_has_faces b_has_faces .nil (passes_call (takes_of rfl rfl rfl rfl) (fun _ _ _ _ h => h)) (pa_cons (pv 4) (pa_cons (pv 5) (pa_cons (pv 2) pa_nil)))) (by intro _; rfl))) (pss_one (ps_ret pe_str)) pss_nil) (pss_cons (ps_set (i := 6) nd rfl (.inl rfl) (pe_call G_wrong_joins (hr.mono (by decide)) (by rfl) m_wrong_joins k_wrong_joins b_wrong_joins .nil (passes_call (takes_of rfl rfl rfl rfl) (fun _ _ _ _ h => h)) (pa_cons (pv 4) (pa_cons (pv 3) (pa_cons (pv 5) pa_nil))))) (pss_cons (ps_if (PW.pt (pw_or (pt_cmpR op_notN (pv 6) pe_non (by first | rfl | exact nomark _)) (pw_or (pt_cmpR op_lt (pe_callB (call_lenQ) (by rfl) B.len (by decide +kernel) (pa_cons (pv 1) pa_nil)) pe_int (by first | rfl | exact nomark _)) (pw_or (pt_cmpR (op_eqD hu64) (pe_lenSetQ (by rfl) B.len (by rfl) B.set (pe_callTy (call_listVals rfl) (by rfl) B.list (by decide +kernel) (pa_cons (pe_bm0 PySem.F.plainAttrs_dict PySem.F.slot_dict_values PySem.F.type_dict_values mt_valuesK (pv 5)) pa_nil))) (pe_callB (call_lenQ) (by rfl) B.len (by decide +kernel) (pa_cons (pv 1) pa_nil)) (by first | rfl | exact nomark _)) (pw_or1 pt_false))))) (pss_one (ps_ret (pv 6))) pss_nil) (pss_one (ps_ret pe_str)))))))))), ?_⟩
  exact (sims_seq (sims_asg (sim_var 0) (simg_tup (simg_cons (simg_name 1) (simg_cons (simg_name 2) (simg_cons (simg_name 3) simg_nil))))) (sims_seq (sims_if (sim_test (sim_op simr_lt (sim_lenSetT (sim_var 1)) (sim_cb simc_lenP (sim_cons (sim_var 1) sim_nil)))) (sims_ret (sim_str (by decide +kernel))) sims_next) (sims_seq (sims_if (sim_or (sim_tru (sim_call (sim_cons (sim_var 0) sim_nil))) (sim_tru (sim_call (sim_cons (sim_var 0) sim_nil)))) (sims_ret sim_non) sims_next) (sims_seq (sims_asg (sim_dc (simi_en (sim_cons (sim_var 1) sim_nil)) (simg_tup (simg_cons (simg_name 7) (simg_cons (simg_name 8) simg_nil))) (go_tup (go_cons go_name (go_cons go_name go_nil))) sim_yes (sim_var 8) (sim_op simr_shl sim_int (sim_var 7))) (simg_name 4)) (sims_seq (sims_asg (sim_dc (simi_seqP (sim_var 1)) (simg_name 8) go_name sim_yes (sim_var 8) sim_int) (simg_name 5)) (sims_seq (sims_if (sim_not (sim_tru (sim_call (sim_cons (sim_var 4) (sim_cons (sim_var 5) (sim_cons (sim_var 2) sim_nil)))))) (sims_ret (sim_str (by decide +kernel))) sims_next) (sims_seq (sims_asg (sim_call (sim_cons (sim_var 4) (sim_cons (sim_var 3) (sim_cons (sim_var 5) sim_nil)))) (simg_name 6)) (sims_seq (sims_if (sim_or (sim_test (sim_op simr_notN (sim_var 6) sim_non)) (sim_or (sim_test (sim_op simr_lt (sim_cb simc_lenP (sim_cons (sim_var 1) sim_nil)) sim_int)) (sim_or (sim_test (sim_op simr_eq (sim_lenSetI (sim_listVals (sim_var 5))) (sim_cb simc_lenP (sim_cons (sim_var 1) sim_nil)))) sim_neverT))) (sims_ret (sim_var 6)) sims_next) (sims_ret (sim_str (by decide +kernel)))))))))))
abbrev s_check_modes : Stmt := topS 23
abbrev nl_check_modes : List Str := ["modes", "names"]
theorem sc_check_modes : FnScope nl_check_modes ["modes"] (defScope s_check_modes) := ⟨rfl, rfl, rfl, by decide +kernel, rfl, by decide +kernel, by decide +kernel⟩
def r_check_modes : SF := (sSeq (sIf (eOr (eNot (eTru (eIsiP .tup (eVar 0)))) (eB (eOp gNe (eCB gLenP (eCons (eVar 0) eNil)) (eC (.int 3))))) (sRet (eC (.str [102, 111, 114, 109]))) sNext) (sSeq (sAsg (eOp gIxP (eVar 0) (eC (.int 0))) (gfName 1)) (sSeq (sIf (eOr (eNot (eTru (eIsiP .tup (eVar 1)))) (eOr (eNot (eB (eChain (gB iLe) (gB iLe) (eC (.int 1)) (eCB gLenP (eCons (eVar 1) eNil)) (eC (.int 6))))) (eNot (eTru (eCall (fn 1 f_are_names) (eCons (eVar 1) eNil)))))) (sRet (eC (.str [110, 97, 109, 101, 115]))) sNext) (sRet (eCall (fn 1 f_wrong_part) (eCons (eVar 0) eNil))))))
def f_check_modes : FF := body 2 r_check_modes
abbrev Pr_check_modes (P : Program) (w : World) (K : PySem.W.Frag) (mg : Str → Option Value) (base : Heap) : Prop := Pr P w K mg base "check_modes" 3 ["modes"] (spQ K 1 (fn 1 f_check_modes))
theorem ok_check_modes {f : Addr} {fd : FuncData} (F : Fun K "check_modes" "check_modes" s_check_modes f fd) (B : Blt mg) (D : Glo K mg) (FL : Flds K) (P_are_names : Pr_are_names P w K mg base) (P_wrong_part : Pr_wrong_part P w K mg base) : FnOk P w K mg base (L2.CX P w) 3 f fd ["modes"] (spQ K 1 (fn 1 f_check_modes)) := by
  obtain ⟨a_are_names, d_are_names, m_are_names, k_are_names, b_are_names, G_are_names⟩ := P_are_names
  obtain ⟨a_wrong_part, d_wrong_part, m_wrong_part, k_wrong_part, b_wrong_part, G_wrong_part⟩ := P_wrong_part
  obtain ⟨t_MOST_MODES, D_MOST_MODES⟩ := D.g_MOST_MODES
  have nd := sc_check_modes.nd
  refine fun_ok F sc_check_modes rfl rfl fun cdv A outer s H E hr => ?_
  have hu1 : (A.deeper (PyProof.Rows.envOfC "check_modes" (defScope s_check_modes) s.heap.objs.size f cdv)).units + 1 < cLine := by have := hr.un; omega
  have hu64 : (A.deeper (PyProof.Rows.envOfC "check_modes" (defScope s_check_modes) s.heap.objs.size f cdv)).units + 64 < cLine := by have := hr.un; omega
  refine ⟨_, (pss_cons (ps_if (PW.pt (pw_or (pt_not (pt_truth (pe_callB (call_isi) (by rfl) B.isi (by decide +kernel) (pa_cons (pv 0) (pa_cons (pe_bltn (v := .ty "tuple") (by rfl) B.tuple (by decide +kernel) rfl) pa_nil))) (by intro _; rfl))) (pw_or1 (pt_cmpR (op_neD hu64) (pe_callB (call_lenQ) (by rfl) B.len (by decide +kernel) (pa_cons (pv 0) pa_nil)) pe_int (by first | rfl | exact nomark _))))) (pss_one (ps_ret pe_str)) pss_nil) (pss_cons (ps_set (i := 1) nd rfl (.inl rfl) (pe_ix (ix_Q hu1) (pv 0) pe_int (fun _ _ => rfl))) (pss_cons (ps_if (PW.pt (pw_or (pt_not (pt_truth (pe_callB (call_isi) (by rfl) B.isi (by decide +kernel) (pa_cons (pv 1) (pa_cons (pe_bltn (v := .ty "tuple") (by rfl) B.tuple (by decide +kernel) rfl) pa_nil))) (by intro _; rfl))) (pw_or (pt_not (pt_chain op_le op_le pe_int (pe_callB (call_lenQ) (by rfl) B.len (by decide +kernel) (pa_cons (pv 1) pa_nil)) (pe_glob (v := .int 6) (by rfl) D_MOST_MODES ⟨_, rfl⟩))) (pw_or1 (pt_not (pt_truth (pe_call G_are_names (hr.mono (by decide)) (by rfl) m_are_names k_are_names b_are_names .nil (passes_call (takes_of rfl rfl rfl rfl) (fun _ _ _ _ h => h)) (pa_cons (pv 1) pa_nil)) (by intro _; rfl))))))) (pss_one (ps_ret pe_str)) pss_nil) (pss_one (ps_ret (pe_call G_wrong_part (hr.mono (by decide)) (by rfl) m_wrong_part k_wrong_part b_wrong_part .nil (passes_call (takes_of rfl rfl rfl rfl) (fun _ _ _ _ h => h)) (pa_cons (pv 0) pa_nil))))))), ?_⟩
  exact (sims_seq (sims_if (sim_or (sim_not (sim_tru (sim_isiP (b := .tup) (by intro z; cases z) (sim_var 0)))) (sim_test (sim_op simr_ne (sim_cb simc_lenP (sim_cons (sim_var 0) sim_nil)) sim_int))) (sims_ret (sim_str (by decide +kernel))) sims_next) (sims_seq (sims_asg (sim_op simr_ixP (sim_var 0) sim_int) (simg_name 1)) (sims_seq (sims_if (sim_or (sim_not (sim_tru (sim_isiP (b := .tup) (by intro z; cases z) (sim_var 1)))) (sim_or (sim_not (sim_test (sim_chain simr_le simr_le sim_int (sim_cb simc_lenP (sim_cons (sim_var 1) sim_nil)) sim_int))) (sim_not (sim_tru (sim_call (sim_cons (sim_var 1) sim_nil)))))) (sims_ret (sim_str (by decide +kernel))) sims_next) (sims_ret (sim_call (sim_cons (sim_var 0) sim_nil))))))
abbrev s_require_modes : Stmt := topS 25
abbrev nl_require_modes : List Str := ["modes", "part"]
theorem sc_require_modes : FnScope nl_require_modes ["modes"] (defScope s_require_modes) := ⟨rfl, rfl, rfl, by decide +kernel, rfl, by decide +kernel, by decide +kernel⟩
def r_require_modes : SF := (sSeq (sAsg (eCall (fn 1 f_check_modes) (eCons (eVar 0) eNil)) (gfName 1)) (sIf (eB (eOp gNotN' (eVar 1) (eC .non))) sNever sNext))
def f_require_modes : FF := body 2 r_require_modes
abbrev Pr_require_modes (P : Program) (w : World) (K : PySem.W.Frag) (mg : Str → Option Value) (base : Heap) : Prop := Pr P w K mg base "require_modes" 4 ["modes"] (spQ K 1 (fn 1 f_require_modes))
theorem ok_require_modes {f : Addr} {fd : FuncData} (F : Fun K "require_modes" "require_modes" s_require_modes f fd) (B : Blt mg) (D : Glo K mg) (FL : Flds K) (P_check_modes : Pr_check_modes P w K mg base) : FnOk P w K mg base (L2.CX P w) 4 f fd ["modes"] (spQ K 1 (fn 1 f_require_modes)) := by
  obtain ⟨a_check_modes, d_check_modes, m_check_modes, k_check_modes, b_check_modes, G_check_modes⟩ := P_check_modes
  have nd := sc_require_modes.nd
  refine fun_ok F sc_require_modes rfl rfl fun cdv A outer s H E hr => ?_
  refine ⟨_, (pss_cons (ps_set (i := 1) nd rfl (.inl rfl) (pe_call G_check_modes (hr.mono (by decide)) (by rfl) m_check_modes k_check_modes b_check_modes .nil (passes_call (takes_of rfl rfl rfl rfl) (fun _ _ _ _ h => h)) (pa_cons (pv 0) pa_nil))) (pss_one (ps_if (pt_cmpR op_notN (pv 1) pe_non (by first | rfl | exact nomark _)) (pss_one ps_never) pss_nil))), ?_⟩
  exact (sims_seq (sims_asg (sim_call (sim_cons (sim_var 0) sim_nil)) (simg_name 1)) (sims_if (sim_test (sim_op simr_notN (sim_var 1) sim_non)) sims_never sims_next))
abbrev s_can_be_fulfilled : Stmt := topS 27
abbrev nl_can_be_fulfilled : List Str := ["orders", "left", "highs", "others", "_", "high", "pair"]
theorem sc_can_be_fulfilled : FnScope nl_can_be_fulfilled ["orders"] (defScope s_can_be_fulfilled) := ⟨rfl, rfl, rfl, by decide +kernel, rfl, by decide +kernel, by decide +kernel⟩
def r_can_be_fulfilled : SF := (sSeq (sAsg (eCB gList (eCons (eVar 0) eNil)) (gfName 1)) (sSeq (sWhile (eTru (eVar 1)) (sSeq (sAsg (eDc (eSeqP (eVar 1)) (gfTup 2 (gfCons (gfName 4) (gfCons (gfName 5) gfNil))) eYes (eVar 5) (eC (.bl true)) [4, 5]) (gfName 2)) (sSeq (sAsg (eLc (eSeqP (eVar 1)) (gfName 6) (eB (eOp (gIn' false) (eOp gIxP (eVar 6) (eC (.int 0))) (eVar 2))) (eVar 6) [6]) (gfName 3)) (sSeq (sIf (eB (eOp gEq (eCB gLenP (eCons (eVar 3) eNil)) (eCB gLenP (eCons (eVar 1) eNil)))) (sRet (eC (.bl false))) sNext) (sAsg (eVar 3) (gfName 1)))))) (sRet (eC (.bl true)))))
def f_can_be_fulfilled : FF := body 7 r_can_be_fulfilled
abbrev Pr_can_be_fulfilled (P : Program) (w : World) (K : PySem.W.Frag) (mg : Str → Option Value) (base : Heap) : Prop := Pr P w K mg base "can_be_fulfilled" 1 ["orders"] (spQ K 1 (fn 1 f_can_be_fulfilled))
theorem ok_can_be_fulfilled {f : Addr} {fd : FuncData} (F : Fun K "can_be_fulfilled" "can_be_fulfilled" s_can_be_fulfilled f fd) (B : Blt mg) (D : Glo K mg) (FL : Flds K)  : FnOk P w K mg base (L2.CX P w) 1 f fd ["orders"] (spQ K 1 (fn 1 f_can_be_fulfilled)) := by
  have nd := sc_can_be_fulfilled.nd
  refine fun_ok F sc_can_be_fulfilled rfl rfl fun cdv A outer s H E hr => ?_
  have hu1 : (A.deeper (PyProof.Rows.envOfC "can_be_fulfilled" (defScope s_can_be_fulfilled) s.heap.objs.size f cdv)).units + 1 < cLine := by have := hr.un; omega
  have hu64 : (A.deeper (PyProof.Rows.envOfC "can_be_fulfilled" (defScope s_can_be_fulfilled) s.heap.objs.size f cdv)).units + 64 < cLine := by have := hr.un; omega
  have hu65 : (A.deeper (PyProof.Rows.envOfC "can_be_fulfilled" (defScope s_can_be_fulfilled) s.heap.objs.size f cdv)).units + 65 < cLine := by have := hr.un; omega
  refine ⟨_, (pss_cons (ps_set (i := 1) nd rfl (.inl rfl) (pe_callTy (call_listQ rfl) (by rfl) B.list (by decide +kernel) (pa_cons (pv 0) pa_nil))) (pss_cons (ps_while (passes_of rfl) (pt_truth (pv 1) (by intro _; rfl)) (pss_cons (ps_set (i := 2) nd rfl (.inr rfl) (pe_dc (own := [("_", 4), ("high", 5)]) (g := (gTup K 2 (gCons (gName 4) (gCons (gName 5) gNil)))) (tt := tYes) rfl nd (pi_seq (pv 1)) (blkOk_by (N := nl_can_be_fulfilled) (sc := defScope s_can_be_fulfilled) (own := [("_", 4), ("high", 5)]) (by decide +kernel)) (fun _ _ _ _ _ => (pg_tup rfl (pgs_cons (pg_name (i := 4) nd rfl (.inl rfl)) (pgs_cons (pg_name (i := 5) nd rfl (.inl rfl)) pgs_nil)))) (fun _ _ _ _ _ => pts_nil) (fun _ _ _ _ _ => (pv 5)) (fun _ _ _ _ _ => pe_bl))) (pss_cons (ps_setLc (i := 3) (own := [("pair", 6)]) (g := (gName 6)) rfl nd rfl rfl (sw_true rfl rfl rfl (by decide +kernel)) (pi_seq (pv 1)) (blkOk_by (N := nl_can_be_fulfilled) (sc := defScope s_can_be_fulfilled) (own := [("pair", 6)]) (by decide +kernel)) (fun _ _ _ _ _ => (pg_name (i := 6) nd rfl (.inl rfl))) (fun _ _ _ _ _ => (pts_one (pt_cmpR (show OpR _ (compareOp .In) (rInQ K) from (op_inQ hu65)) (pe_ix (show IxR _ (rIxQ K) from ix_Q hu1) (pv 6) pe_int (fun _ _ => rfl)) (pv 2) (by first | rfl | exact nomark _)))) (fun _ _ _ _ _ => (pv 6))) (pss_cons (ps_if (pt_cmpR (op_eqD hu64) (pe_callB (call_lenQ) (by rfl) B.len (by decide +kernel) (pa_cons (pv 3) pa_nil)) (pe_callB (call_lenQ) (by rfl) B.len (by decide +kernel) (pa_cons (pv 1) pa_nil)) (by first | rfl | exact nomark _)) (pss_one (ps_ret pe_bl)) pss_nil) (pss_one (ps_set (i := 1) nd rfl (.inl rfl) (pv 3))))))) (pss_one (ps_ret pe_bl)))), ?_⟩
  exact (sims_seq (sims_asg (sim_cb simc_list (sim_cons (sim_var 0) sim_nil)) (simg_name 1)) (sims_seq (sims_while (sim_tru (sim_var 1)) (sims_seq (sims_asg (sim_dc (simi_seqP (sim_var 1)) (simg_tup (simg_cons (simg_name 4) (simg_cons (simg_name 5) simg_nil))) (go_tup (go_cons go_name (go_cons go_name go_nil))) sim_yes (sim_var 5) sim_bl) (simg_name 2)) (sims_seq (sims_asg (sim_lc (simi_seqP (sim_var 1)) (simg_name 6) go_name (sim_test (sim_op simr_in (sim_op simr_ixP (sim_var 6) sim_int) (sim_var 2))) (sim_var 6)) (simg_name 3)) (sims_seq (sims_if (sim_test (sim_op simr_eq (sim_cb simc_lenP (sim_cons (sim_var 3) sim_nil)) (sim_cb simc_lenP (sim_cons (sim_var 1) sim_nil)))) (sims_ret sim_bl) sims_next) (sims_asg (sim_var 3) (simg_name 1)))))) (sims_ret sim_bl)))
abbrev s_are_orders : Stmt := topS 33
abbrev nl_are_orders : List Str := ["orders", "tables", "names", "pair"]
theorem sc_are_orders : FnScope nl_are_orders ["orders", "tables"] (defScope s_are_orders) := ⟨rfl, rfl, rfl, by decide +kernel, rfl, by decide +kernel, by decide +kernel⟩
def r_are_orders : SF := (sSeq (sAsg (eCB gList (eCons (eVar 1) eNil)) (gfName 2)) (sSeq (sFor (eSeqP (eVar 0)) (gfName 3) (sSeq (sIf (eOr (eNot (eTru (eIsiP .tup (eVar 3)))) (eOr (eB (eOp gNe (eCB gLenP (eCons (eVar 3) eNil)) (eC (.int 2)))) (eOr (eB (eOp (gIn' true) (eOp gIxP (eVar 3) (eC (.int 0))) (eVar 2))) (eB (eOp (gIn' true) (eOp gIxP (eVar 3) (eC (.int 1))) (eVar 2)))))) (sRet (eC (.bl false))) sNext) (sIf (eB (eOp gNe (eOp gIxP (eVar 1) (eOp gIxP (eVar 3) (eC (.int 0)))) (eOp gIxP (eVar 1) (eOp gIxP (eVar 3) (eC (.int 1)))))) (sRet (eC (.bl false))) sNext))) (sRet (eCall (fn 1 f_can_be_fulfilled) (eCons (eVar 0) eNil)))))
def f_are_orders : FF := body 4 r_are_orders
abbrev Pr_are_orders (P : Program) (w : World) (K : PySem.W.Frag) (mg : Str → Option Value) (base : Heap) : Prop := Pr P w K mg base "are_orders" 2 ["orders", "tables"] (spQ K 2 (fn 2 f_are_orders))
theorem ok_are_orders {f : Addr} {fd : FuncData} (F : Fun K "are_orders" "are_orders" s_are_orders f fd) (B : Blt mg) (D : Glo K mg) (FL : Flds K) (P_can_be_fulfilled : Pr_can_be_fulfilled P w K mg base) : FnOk P w K mg base (L2.CX P w) 2 f fd ["orders", "tables"] (spQ K 2 (fn 2 f_are_orders)) := by
  obtain ⟨a_can_be_fulfilled, d_can_be_fulfilled, m_can_be_fulfilled, k_can_be_fulfilled, b_can_be_fulfilled, G_can_be_fulfilled⟩ := P_can_be_fulfilled
  have nd := sc_are_orders.nd
  refine fun_ok F sc_are_orders rfl rfl fun cdv A outer s H E hr => ?_
  have hu1 : (A.deeper (PyProof.Rows.envOfC "are_orders" (defScope s_are_orders) s.heap.objs.size f cdv)).units + 1 < cLine := by have := hr.un; omega
  have hu64 : (A.deeper (PyProof.Rows.envOfC "are_orders" (defScope s_are_orders) s.heap.objs.size f cdv)).units + 64 < cLine := by have := hr.un; omega
  have hu65 : (A.deeper (PyProof.Rows.envOfC "are_orders" (defScope s_are_orders) s.heap.objs.size f cdv)).units + 65 < cLine := by have := hr.un; omega
  refine ⟨_, (pss_cons (ps_set (i := 2) nd rfl (.inl rfl) (pe_callTy (call_listQ rfl) (by rfl) B.list (by decide +kernel) (pa_cons (pv 1) pa_nil))) (pss_cons (ps_for (passes_of rfl) rfl (pi_seq (pv 0)) (pg_name (i := 3) nd rfl (.inl rfl)) (pss_cons (ps_if (PW.pt (pw_or (pt_not (pt_truth (pe_callB (call_isi) (by rfl) B.isi (by decide +kernel) (pa_cons (pv 3) (pa_cons (pe_bltn (v := .ty "tuple") (by rfl) B.tuple (by decide +kernel) rfl) pa_nil))) (by intro _; rfl))) (pw_or (pt_cmpR (op_neD hu64) (pe_callB (call_lenQ) (by rfl) B.len (by decide +kernel) (pa_cons (pv 3) pa_nil)) pe_int (by first | rfl | exact nomark _)) (pw_or (pt_cmpR (op_notInQ hu65) (pe_ix (ix_Q hu1) (pv 3) pe_int (fun _ _ => rfl)) (pv 2) (by first | rfl | exact nomark _)) (pw_or1 (pt_cmpR (op_notInQ hu65) (pe_ix (ix_Q hu1) (pv 3) pe_int (fun _ _ => rfl)) (pv 2) (by first | rfl | exact nomark _))))))) (pss_one (ps_ret pe_bl)) pss_nil) (pss_one (ps_if (pt_cmpR (op_neD hu64) (pe_ix (ix_Q hu1) (pv 1) (pe_ix (ix_Q hu1) (pv 3) pe_int (fun _ _ => rfl)) (fun _ _ => rfl)) (pe_ix (ix_Q hu1) (pv 1) (pe_ix (ix_Q hu1) (pv 3) pe_int (fun _ _ => rfl)) (fun _ _ => rfl)) (by first | rfl | exact nomark _)) (pss_one (ps_ret pe_bl)) pss_nil)))) (pss_one (ps_ret (pe_call G_can_be_fulfilled (hr.mono (by decide)) (by rfl) m_can_be_fulfilled k_can_be_fulfilled b_can_be_fulfilled .nil (passes_call (takes_of rfl rfl rfl rfl) (fun _ _ _ _ h => h)) (pa_cons (pv 0) pa_nil)))))), ?_⟩
  exact (sims_seq (sims_asg (sim_cb simc_list (sim_cons (sim_var 1) sim_nil)) (simg_name 2)) (sims_seq (sims_for (simi_seqP (sim_var 0)) (simg_name 3) (sims_seq (sims_if (sim_or (sim_not (sim_tru (sim_isiP (b := .tup) (by intro z; cases z) (sim_var 3)))) (sim_or (sim_test (sim_op simr_ne (sim_cb simc_lenP (sim_cons (sim_var 3) sim_nil)) sim_int)) (sim_or (sim_test (sim_op simr_notIn (sim_op simr_ixP (sim_var 3) sim_int) (sim_var 2))) (sim_test (sim_op simr_notIn (sim_op simr_ixP (sim_var 3) sim_int) (sim_var 2)))))) (sims_ret sim_bl) sims_next) (sims_if (sim_test (sim_op simr_ne (sim_op simr_ixP (sim_var 1) (sim_op simr_ixP (sim_var 3) sim_int)) (sim_op simr_ixP (sim_var 1) (sim_op simr_ixP (sim_var 3) sim_int)))) (sims_ret sim_bl) sims_next))) (sims_ret (sim_call (sim_cons (sim_var 0) sim_nil)))))
abbrev s_items_told : Stmt := topS 34
abbrev nl_items_told : List Str := ["template", "fixed", "words", "name", "params", "orders", "steps", "pair", "param", "table", "tables", "items"]
theorem sc_items_told : FnScope nl_items_told ["template", "fixed", "words"] (defScope s_items_told) := ⟨rfl, rfl, rfl, by decide +kernel, rfl, by decide +kernel, by decide +kernel⟩
def r_items_told : SF := (sSeq (sIf (eOr (eNot (eTru (eIsiP .tup (eVar 0)))) (eB (eOp gNe (eCB gLenP (eCons (eVar 0) eNil)) (eC (.int 4))))) (sRet (eC .non)) sNext) (sSeq (sAsg (eVar 0) (gfTup 4 (gfCons (gfName 3) (gfCons (gfName 4) (gfCons (gfName 5) (gfCons (gfName 6) gfNil)))))) (sSeq (sIf (eOr (eNot (eTru (eIsiP .str (eVar 3)))) (eOr (eNot (eTru (eIsiP .tup (eVar 4)))) (eB (eOp (gB fun i j => iLt j i) (eCB gLenP (eCons (eVar 4) eNil)) (eC (.int 4)))))) (sRet (eC .non)) sNext) (sSeq (sIf (eOr (eNot (eTru (eIsiP .tup (eVar 5)))) (eOr (eNot (eTru (eIsiP .tup (eVar 6)))) (eNot (eB (eChain (gB iLe) (gB iLe) (eC (.int 1)) (eCB gLenP (eCons (eVar 6) eNil)) (eC (.int 8))))))) (sRet (eC .non)) sNext) (sSeq (sDrop (eAppend (eVar 2) (eCons (eVar 3) eNil))) (sSeq (sFor (eSeqP (eVar 4)) (gfName 7) (sSeq (sIf (eOr (eNot (eTru (eIsiP .tup (eVar 7)))) (eB (eOp gNe (eCB gLenP (eCons (eVar 7) eNil)) (eC (.int 2))))) (sRet (eC .non)) sNext) (sSeq (sAsg (eVar 7) (gfTup 2 (gfCons (gfName 8) (gfCons (gfName 9) gfNil)))) (sSeq (sIf (eOr (eNot (eTru (eIsiP .str (eVar 8)))) (eNot (eTru (eIsiP .str (eVar 9))))) (sRet (eC .non)) sNext) (sDrop (eExtend (eVar 2) (eCons (eVar 7) eNil))))))) (sSeq (sAsg (eCB gDictP (eCons (eVar 4) eNil)) (gfName 10)) (sSeq (sAsg (eLst (eStar (eVar 10) (eStar (eVar 1) eNil))) (gfName 11)) (sSeq (sIf (eB (eOp (gB iLt) (eLenSetL (eVar 11)) (eOp gAdd (eCB gLenP (eCons (eVar 4) eNil)) (eCB gLenP (eCons (eVar 1) eNil))))) (sRet (eC .non)) sNext) (sRet (eIf (eAnd (eTru (eVar 5)) (eNot (eTru (eCall (fn 2 f_are_orders) (eCons (eVar 5) (eCons (eVar 10) eNil)))))) (eC .non) (eVar 11))))))))))))
def f_items_told : FF := body 12 r_items_told
abbrev Pr_items_told (P : Program) (w : World) (K : PySem.W.Frag) (mg : Str → Option Value) (base : Heap) : Prop := Pr P w K mg base "items_told" 3 ["template", "fixed", "words"] (spQ K 3 (fn 3 f_items_told))
theorem ok_items_told {f : Addr} {fd : FuncData} (F : Fun K "items_told" "items_told" s_items_told f fd) (B : Blt mg) (D : Glo K mg) (FL : Flds K) (P_are_orders : Pr_are_orders P w K mg base) : FnOk P w K mg base (L2.CX P w) 3 f fd ["template", "fixed", "words"] (spQ K 3 (fn 3 f_items_told)) := by
  obtain ⟨a_are_orders, d_are_orders, m_are_orders, k_are_orders, b_are_orders, G_are_orders⟩ := P_are_orders
  obtain ⟨t_MOST_PARAMS, D_MOST_PARAMS⟩ := D.g_MOST_PARAMS
  obtain ⟨t_MOST_STEPS, D_MOST_STEPS⟩ := D.g_MOST_STEPS
  have nd := sc_items_told.nd
  refine fun_ok F sc_items_told rfl rfl fun cdv A outer s H E hr => ?_
  have hu64 : (A.deeper (PyProof.Rows.envOfC "items_told" (defScope s_items_told) s.heap.objs.size f cdv)).units + 64 < cLine := by have := hr.un; omega
  refine ⟨_, (pss_cons (ps_if (PW.pt (pw_or (pt_not (pt_truth (pe_callB (call_isi) (by rfl) B.isi (by decide +kernel) (pa_cons (pv 0) (pa_cons (pe_bltn (v := .ty "tuple") (by rfl) B.tuple (by decide +kernel) rfl) pa_nil))) (by intro _; rfl))) (pw_or1 (pt_cmpR (op_neD hu64) (pe_callB (call_lenQ) (by rfl) B.len (by decide +kernel) (pa_cons (pv 0) pa_nil)) pe_int (by first | rfl | exact nomark _))))) (pss_one (ps_ret pe_non)) pss_nil) (pss_cons (ps_asg (pv 0) (pg_tup rfl (pgs_cons (pg_name (i := 3) nd rfl (.inl rfl)) (pgs_cons (pg_name (i := 4) nd rfl (.inl rfl)) (pgs_cons (pg_name (i := 5) nd rfl (.inl rfl)) (pgs_cons (pg_name (i := 6) nd rfl (.inl rfl)) pgs_nil)))))) (pss_cons (ps_if (PW.pt (pw_or (pt_not (pt_truth (pe_callB (call_isi) (by rfl) B.isi (by decide +kernel) (pa_cons (pv 3) (pa_cons (pe_bltn (v := .ty "str") (by rfl) B.str (by decide +kernel) rfl) pa_nil))) (by intro _; rfl))) (pw_or (pt_not (pt_truth (pe_callB (call_isi) (by rfl) B.isi (by decide +kernel) (pa_cons (pv 4) (pa_cons (pe_bltn (v := .ty "tuple") (by rfl) B.tuple (by decide +kernel) rfl) pa_nil))) (by intro _; rfl))) (pw_or1 (pt_cmpR op_gt (pe_callB (call_lenQ) (by rfl) B.len (by decide +kernel) (pa_cons (pv 4) pa_nil)) (pe_glob (v := .int 4) (by rfl) D_MOST_PARAMS ⟨_, rfl⟩) (by first | rfl | exact nomark _)))))) (pss_one (ps_ret pe_non)) pss_nil) (pss_cons (ps_if (PW.pt (pw_or (pt_not (pt_truth (pe_callB (call_isi) (by rfl) B.isi (by decide +kernel) (pa_cons (pv 5) (pa_cons (pe_bltn (v := .ty "tuple") (by rfl) B.tuple (by decide +kernel) rfl) pa_nil))) (by intro _; rfl))) (pw_or (pt_not (pt_truth (pe_callB (call_isi) (by rfl) B.isi (by decide +kernel) (pa_cons (pv 6) (pa_cons (pe_bltn (v := .ty "tuple") (by rfl) B.tuple (by decide +kernel) rfl) pa_nil))) (by intro _; rfl))) (pw_or1 (pt_not (pt_chain op_le op_le pe_int (pe_callB (call_lenQ) (by rfl) B.len (by decide +kernel) (pa_cons (pv 6) pa_nil)) (pe_glob (v := .int 8) (by rfl) D_MOST_STEPS ⟨_, rfl⟩))))))) (pss_one (ps_ret pe_non)) pss_nil) (pss_cons (ps_expr (pe_bm PySem.F.plainAttrs_list PySem.F.slot_list_append PySem.F.type_list_append mt_append (pv 2) (pa_cons (pv 3) pa_nil))) (pss_cons (ps_for (passes_of rfl) rfl (pi_seq (pv 4)) (pg_name (i := 7) nd rfl (.inl rfl)) (pss_cons (ps_if (PW.pt (pw_or (pt_not (pt_truth (pe_callB (call_isi) (by rfl) B.isi (by decide +kernel) (pa_cons (pv 7) (pa_cons (pe_bltn (v := .ty "tuple") (by rfl) B.tuple (by decide +kernel) rfl) pa_nil))) (by intro _; rfl))) (pw_or1 (pt_cmpR (op_neD hu64) (pe_callB (call_lenQ) (by rfl) B.len (by decide +kernel) (pa_cons (pv 7) pa_nil)) pe_int (by first | rfl | exact nomark _))))) (pss_one (ps_ret pe_non)) pss_nil) (pss_cons (ps_asg (pv 7) (pg_tup rfl (pgs_cons (pg_name (i := 8) nd rfl (.inl rfl)) (pgs_cons (pg_name (i := 9) nd rfl (.inl rfl)) pgs_nil)))) (pss_cons (ps_if (PW.pt (pw_or (pt_not (pt_truth (pe_callB (call_isi) (by rfl) B.isi (by decide +kernel) (pa_cons (pv 8) (pa_cons (pe_bltn (v := .ty "str") (by rfl) B.str (by decide +kernel) rfl) pa_nil))) (by intro _; rfl))) (pw_or1 (pt_not (pt_truth (pe_callB (call_isi) (by rfl) B.isi (by decide +kernel) (pa_cons (pv 9) (pa_cons (pe_bltn (v := .ty "str") (by rfl) B.str (by decide +kernel) rfl) pa_nil))) (by intro _; rfl)))))) (pss_one (ps_ret pe_non)) pss_nil) (pss_one (ps_expr (pe_bm PySem.F.plainAttrs_list PySem.F.slot_list_extend PySem.F.type_list_extend mt_extendQ (pv 2) (pa_cons (pv 7) pa_nil)))))))) (pss_cons (ps_set (i := 10) nd rfl (.inl rfl) (pe_callTy (call_dictPT rfl) (by rfl) B.dict (by decide +kernel) (pa_cons (pv 4) pa_nil))) (pss_cons (ps_set (i := 11) nd rfl (.inl rfl) (pe_lst (pa_starQ rfl (pv 10) (pa_starQ rfl (pv 1) pa_nil)))) (pss_cons (ps_if (pt_cmpR op_lt (pe_callB call_lenK (by rfl) B.len (by decide +kernel) (pa_cons (pe_callTy (call_setLK rfl) (by rfl) B.set (by decide +kernel) (pa_cons (pv 11) pa_nil)) pa_nil)) (pe_op op_addQ (pe_callB (call_lenQ) (by rfl) B.len (by decide +kernel) (pa_cons (pv 4) pa_nil)) (pe_callB (call_lenQ) (by rfl) B.len (by decide +kernel) (pa_cons (pv 1) pa_nil))) (by first | rfl | exact nomark _)) (pss_one (ps_ret pe_non)) pss_nil) (pss_one (ps_ret (pe_ifExp (PW.pt (pw_and (pt_truth (pv 5) (by intro _; rfl)) (pw_and1 (pt_not (pt_truth (pe_call G_are_orders (hr.mono (by decide)) (by rfl) m_are_orders k_are_orders b_are_orders .nil (passes_call (takes_of rfl rfl rfl rfl) (fun _ _ _ _ h => h)) (pa_cons (pv 5) (pa_cons (pv 10) pa_nil))) (by intro _; rfl)))))) pe_non (pv 11))))))))))))), ?_⟩
  exact (sims_seq (sims_if (sim_or (sim_not (sim_tru (sim_isiP (b := .tup) (by intro z; cases z) (sim_var 0)))) (sim_test (sim_op simr_ne (sim_cb simc_lenP (sim_cons (sim_var 0) sim_nil)) sim_int))) (sims_ret sim_non) sims_next) (sims_seq (sims_asg (sim_var 0) (simg_tup (simg_cons (simg_name 3) (simg_cons (simg_name 4) (simg_cons (simg_name 5) (simg_cons (simg_name 6) simg_nil)))))) (sims_seq (sims_if (sim_or (sim_not (sim_tru (sim_isiP (b := .str) (by intro z; cases z) (sim_var 3)))) (sim_or (sim_not (sim_tru (sim_isiP (b := .tup) (by intro z; cases z) (sim_var 4)))) (sim_test (sim_op simr_gt (sim_cb simc_lenP (sim_cons (sim_var 4) sim_nil)) sim_int)))) (sims_ret sim_non) sims_next) (sims_seq (sims_if (sim_or (sim_not (sim_tru (sim_isiP (b := .tup) (by intro z; cases z) (sim_var 5)))) (sim_or (sim_not (sim_tru (sim_isiP (b := .tup) (by intro z; cases z) (sim_var 6)))) (sim_not (sim_test (sim_chain simr_le simr_le sim_int (sim_cb simc_lenP (sim_cons (sim_var 6) sim_nil)) sim_int))))) (sims_ret sim_non) sims_next) (sims_seq (sims_drop (sim_append (sim_var 2) (sim_cons (sim_var 3) sim_nil))) (sims_seq (sims_for (simi_seqP (sim_var 4)) (simg_name 7) (sims_seq (sims_if (sim_or (sim_not (sim_tru (sim_isiP (b := .tup) (by intro z; cases z) (sim_var 7)))) (sim_test (sim_op simr_ne (sim_cb simc_lenP (sim_cons (sim_var 7) sim_nil)) sim_int))) (sims_ret sim_non) sims_next) (sims_seq (sims_asg (sim_var 7) (simg_tup (simg_cons (simg_name 8) (simg_cons (simg_name 9) simg_nil)))) (sims_seq (sims_if (sim_or (sim_not (sim_tru (sim_isiP (b := .str) (by intro z; cases z) (sim_var 8)))) (sim_not (sim_tru (sim_isiP (b := .str) (by intro z; cases z) (sim_var 9))))) (sims_ret sim_non) sims_next) (sims_drop (sim_extend (sim_var 2) (sim_cons (sim_var 7) sim_nil))))))) (sims_seq (sims_asg (sim_cb simc_dictP (sim_cons (sim_var 4) sim_nil)) (simg_name 10)) (sims_seq (sims_asg (sim_lst (sim_star (sim_var 10) (sim_star (sim_var 1) sim_nil))) (simg_name 11)) (sims_seq (sims_if (sim_test (sim_op simr_lt (sim_lenSetL (sim_var 11)) (sim_op simr_add (sim_cb simc_lenP (sim_cons (sim_var 4) sim_nil)) (sim_cb simc_lenP (sim_cons (sim_var 1) sim_nil))))) (sims_ret sim_non) sims_next) (sims_ret (sim_if (sim_and (sim_tru (sim_var 5)) (sim_not (sim_tru (sim_call (sim_cons (sim_var 5) (sim_cons (sim_var 10) sim_nil)))))) sim_non (sim_var 11))))))))))))
abbrev s_steps_fit : Stmt := topS 35
abbrev nl_steps_fit : List Str := ["steps", "items", "modes", "held", "step", "word", "item", "mode"]
theorem sc_steps_fit : FnScope nl_steps_fit ["steps", "items", "modes"] (defScope s_steps_fit) := ⟨rfl, rfl, rfl, by decide +kernel, rfl, by decide +kernel, by decide +kernel⟩
def r_steps_fit : SF := (sSeq (sAsg eDnew (gfName 3)) (sSeq (sFor (eSeqP (eVar 0)) (gfName 4) (sSeq (sIf (eNot (eTru (eIsiP .tup (eVar 4)))) (sRet (eC (.bl false))) sNext) (sIf (eB (eOp gEq (eCB gLenP (eCons (eVar 4) eNil)) (eC (.int 3)))) (sSeq (sAsg (eVar 4) (gfTup 3 (gfCons (gfName 5) (gfCons (gfName 6) (gfCons (gfName 7) gfNil))))) (sSeq (sIf (eOr (eB (eOp gNe (eVar 5) (eC (.str [108, 111, 99, 107])))) (eOr (eB (eOp (gIn' true) (eVar 6) (eVar 1))) (eB (eOp (gIn' true) (eVar 7) (eVar 2))))) (sRet (eC (.bl false))) sNext) (sSeq (sIf (eAnd (eB (eOp (gIn' false) (eVar 6) (eVar 3))) (eNot (eTru (eOp gIxP (eVar 3) (eVar 6))))) (sRet (eC (.bl false))) sNext) (sAsg (eC (.bl true)) (gfSub gSet (eVar 3) (eVar 6)))))) (sIf (eB (eOp gEq (eCB gLenP (eCons (eVar 4) eNil)) (eC (.int 2)))) (sSeq (sAsg (eVar 4) (gfTup 2 (gfCons (gfName 5) (gfCons (gfName 6) gfNil)))) (sSeq (sIf (eOr (eB (eOp gNe (eVar 5) (eC (.str [102, 114, 101, 101])))) (eOr (eB (eOp (gIn' true) (eVar 6) (eVar 1))) (eOr (eB (eOp (gIn' true) (eVar 6) (eVar 3))) (eNot (eTru (eOp gIxP (eVar 3) (eVar 6))))))) (sRet (eC (.bl false))) sNext) (sAsg (eC (.bl false)) (gfSub gSet (eVar 3) (eVar 6))))) (sRet (eC (.bl false))))))) (sRet (eC (.bl true)))))
def f_steps_fit : FF := body 8 r_steps_fit
abbrev Pr_steps_fit (P : Program) (w : World) (K : PySem.W.Frag) (mg : Str → Option Value) (base : Heap) : Prop := Pr P w K mg base "steps_fit" 1 ["steps", "items", "modes"] (spQ K 3 (fn 3 f_steps_fit))
theorem ok_steps_fit {f : Addr} {fd : FuncData} (F : Fun K "steps_fit" "steps_fit" s_steps_fit f fd) (B : Blt mg) (D : Glo K mg) (FL : Flds K)  : FnOk P w K mg base (L2.CX P w) 1 f fd ["steps", "items", "modes"] (spQ K 3 (fn 3 f_steps_fit)) := by
  have nd := sc_steps_fit.nd
  refine fun_ok F sc_steps_fit rfl rfl fun cdv A outer s H E hr => ?_
  have hu1 : (A.deeper (PyProof.Rows.envOfC "steps_fit" (defScope s_steps_fit) s.heap.objs.size f cdv)).units + 1 < cLine := by have := hr.un; omega
  have hu64 : (A.deeper (PyProof.Rows.envOfC "steps_fit" (defScope s_steps_fit) s.heap.objs.size f cdv)).units + 64 < cLine := by have := hr.un; omega
  have hu65 : (A.deeper (PyProof.Rows.envOfC "steps_fit" (defScope s_steps_fit) s.heap.objs.size f cdv)).units + 65 < cLine := by have := hr.un; omega
  refine ⟨_, (pss_cons (ps_set (i := 3) nd rfl (.inl rfl) pe_dnewK) (pss_cons (ps_for (passes_of rfl) rfl (pi_seq (pv 0)) (pg_name (i := 4) nd rfl (.inl rfl)) (pss_cons (ps_if (pt_not (pt_truth (pe_callB (call_isi) (by rfl) B.isi (by decide +kernel) (pa_cons (pv 4) (pa_cons (pe_bltn (v := .ty "tuple") (by rfl) B.tuple (by decide +kernel) rfl) pa_nil))) (by intro _; rfl))) (pss_one (ps_ret pe_bl)) pss_nil) (pss_one (ps_if (pt_cmpR (op_eqD hu64) (pe_callB (call_lenQ) (by rfl) B.len (by decide +kernel) (pa_cons (pv 4) pa_nil)) pe_int (by first | rfl | exact nomark _)) (pss_cons (ps_asg (pv 4) (pg_tup rfl (pgs_cons (pg_name (i := 5) nd rfl (.inl rfl)) (pgs_cons (pg_name (i := 6) nd rfl (.inl rfl)) (pgs_cons (pg_name (i := 7) nd rfl (.inl rfl)) pgs_nil))))) (pss_cons (ps_if (PW.pt (pw_or (pt_cmpR (op_neD hu64) (pv 5) pe_str (by first | rfl | exact nomark _)) (pw_or (pt_cmpR (op_notInQ hu65) (pv 6) (pv 1) (by first | rfl | exact nomark _)) (pw_or1 (pt_cmpR (op_notInQ hu65) (pv 7) (pv 2) (by first | rfl | exact nomark _)))))) (pss_one (ps_ret pe_bl)) pss_nil) (pss_cons (ps_if (PW.pt (pw_and (pt_cmpR (op_inQ hu65) (pv 6) (pv 3) (by first | rfl | exact nomark _)) (pw_and1 (pt_not (pt_truth (pe_ix (ix_Q hu1) (pv 3) (pv 6) (fun _ _ => rfl)) (by intro _; rfl)))))) (pss_one (ps_ret pe_bl)) pss_nil) (pss_one (ps_asg pe_bl (pg_sub (pv 3) (pv 6) (set_Q hu1) (by intros; rfl))))))) (pss_one (ps_if (pt_cmpR (op_eqD hu64) (pe_callB (call_lenQ) (by rfl) B.len (by decide +kernel) (pa_cons (pv 4) pa_nil)) pe_int (by first | rfl | exact nomark _)) (pss_cons (ps_asg (pv 4) (pg_tup rfl (pgs_cons (pg_name (i := 5) nd rfl (.inl rfl)) (pgs_cons (pg_name (i := 6) nd rfl (.inl rfl)) pgs_nil)))) (pss_cons (ps_if (PW.pt (pw_or (pt_cmpR (op_neD hu64) (pv 5) pe_str (by first | rfl | exact nomark _)) (pw_or (pt_cmpR (op_notInQ hu65) (pv 6) (pv 1) (by first | rfl | exact nomark _)) (pw_or (pt_cmpR (op_notInQ hu65) (pv 6) (pv 3) (by first | rfl | exact nomark _)) (pw_or1 (pt_not (pt_truth (pe_ix (ix_Q hu1) (pv 3) (pv 6) (fun _ _ => rfl)) (by intro _; rfl)))))))) (pss_one (ps_ret pe_bl)) pss_nil) (pss_one (ps_asg pe_bl (pg_sub (pv 3) (pv 6) (set_Q hu1) (by intros; rfl)))))) (pss_one (ps_ret pe_bl)))))))) (pss_one (ps_ret pe_bl)))), ?_⟩
  exact (sims_seq (sims_asg sim_dnew (simg_name 3)) (sims_seq (sims_for (simi_seqP (sim_var 0)) (simg_name 4) (sims_seq (sims_if (sim_not (sim_tru (sim_isiP (b := .tup) (by intro z; cases z) (sim_var 4)))) (sims_ret sim_bl) sims_next) (sims_if (sim_test (sim_op simr_eq (sim_cb simc_lenP (sim_cons (sim_var 4) sim_nil)) sim_int)) (sims_seq (sims_asg (sim_var 4) (simg_tup (simg_cons (simg_name 5) (simg_cons (simg_name 6) (simg_cons (simg_name 7) simg_nil))))) (sims_seq (sims_if (sim_or (sim_test (sim_op simr_ne (sim_var 5) (sim_str (by decide +kernel)))) (sim_or (sim_test (sim_op simr_notIn (sim_var 6) (sim_var 1))) (sim_test (sim_op simr_notIn (sim_var 7) (sim_var 2))))) (sims_ret sim_bl) sims_next) (sims_seq (sims_if (sim_and (sim_test (sim_op simr_in (sim_var 6) (sim_var 3))) (sim_not (sim_tru (sim_op simr_ixP (sim_var 3) (sim_var 6))))) (sims_ret sim_bl) sims_next) (sims_asg sim_bl (simg_sub (sim_var 3) (sim_var 6) simset))))) (sims_if (sim_test (sim_op simr_eq (sim_cb simc_lenP (sim_cons (sim_var 4) sim_nil)) sim_int)) (sims_seq (sims_asg (sim_var 4) (simg_tup (simg_cons (simg_name 5) (simg_cons (simg_name 6) simg_nil)))) (sims_seq (sims_if (sim_or (sim_test (sim_op simr_ne (sim_var 5) (sim_str (by decide +kernel)))) (sim_or (sim_test (sim_op simr_notIn (sim_var 6) (sim_var 1))) (sim_or (sim_test (sim_op simr_notIn (sim_var 6) (sim_var 3))) (sim_not (sim_tru (sim_op simr_ixP (sim_var 3) (sim_var 6))))))) (sims_ret sim_bl) sims_next) (sims_asg sim_bl (simg_sub (sim_var 3) (sim_var 6) simset)))) (sims_ret sim_bl))))) (sims_ret sim_bl)))
abbrev s_is_system : Stmt := topS 36
abbrev nl_is_system : List Str := ["system", "modes", "fixed", "templates", "names", "words", "taken", "template", "items"]
theorem sc_is_system : FnScope nl_is_system ["system"] (defScope s_is_system) := ⟨rfl, rfl, rfl, by decide +kernel, rfl, by decide +kernel, by decide +kernel⟩
def r_is_system : SF := (sSeq (sIf (eOr (eNot (eTru (eIsiP .tup (eVar 0)))) (eB (eOp gNe (eCB gLenP (eCons (eVar 0) eNil)) (eC (.int 3))))) (sRet (eC (.bl false))) sNext) (sSeq (sAsg (eVar 0) (gfTup 3 (gfCons (gfName 1) (gfCons (gfName 2) (gfCons (gfName 3) gfNil))))) (sSeq (sIf (eOr (eNot (eTru (eIsiP .tup (eVar 1)))) (eOr (eB (eOp gNe (eCB gLenP (eCons (eVar 1) eNil)) (eC (.int 3)))) (eOr (eNot (eTru (eIsiP .tup (eVar 2)))) (eB (eOp (gB fun i j => iLt j i) (eCB gLenP (eCons (eVar 2) eNil)) (eC (.int 4))))))) (sRet (eC (.bl false))) sNext) (sSeq (sAsg (eOp gIxP (eVar 1) (eC (.int 0))) (gfName 4)) (sSeq (sIf (eOr (eNot (eTru (eIsiP .tup (eVar 4)))) (eNot (eB (eChain (gB iLe) (gB iLe) (eC (.int 1)) (eCB gLenP (eCons (eVar 4) eNil)) (eC (.int 6)))))) (sRet (eC (.bl false))) sNext) (sSeq (sIf (eOr (eNot (eTru (eIsiP .tup (eVar 3)))) (eNot (eB (eChain (gB iLe) (gB iLe) (eC (.int 1)) (eCB gLenP (eCons (eVar 3) eNil)) (eC (.int 6)))))) (sRet (eC (.bl false))) sNext) (sSeq (sAsg (eLst (eStar (eVar 4) (eStar (eVar 2) eNil))) (gfName 5)) (sSeq (sIf (eNot (eTru (eCall (fn 1 f_are_strings) (eCons (eVar 5) eNil)))) (sRet (eC (.bl false))) sNext) (sSeq (sAsg eDnew (gfName 6)) (sSeq (sFor (eSeqP (eVar 3)) (gfName 7) (sSeq (sAsg (eCall (fn 3 f_items_told) (eCons (eVar 7) (eCons (eVar 2) (eCons (eVar 5) eNil)))) (gfName 8)) (sSeq (sIf (eOr (eB (eOp gIsN' (eVar 8) (eC .non))) (eNot (eTru (eCall (fn 3 f_steps_fit) (eCons (eOp gIxP (eVar 7) (eC (.int 3))) (eCons (eVar 8) (eCons (eVar 4) eNil))))))) (sRet (eC (.bl false))) sNext) (sAsg (eC (.bl true)) (gfSub gSet (eVar 6) (eOp gIxP (eVar 7) (eC (.int 0)))))))) (sSeq (sIf (eOr (eB (eOp (gB iLt) (eCB gLenP (eCons (eVar 6) eNil)) (eCB gLenP (eCons (eVar 3) eNil)))) (eNot (eTru (eCall (fn 1 f_are_letters) (eCons (eVar 5) eNil))))) (sRet (eC (.bl false))) sNext) (sRet (eOp gIsN' (eCall (fn 1 f_wrong_part) (eCons (eVar 1) eNil)) (eC .non))))))))))))))
def f_is_system : FF := body 9 r_is_system
abbrev Pr_is_system (P : Program) (w : World) (K : PySem.W.Frag) (mg : Str → Option Value) (base : Heap) : Prop := Pr P w K mg base "is_system" 4 ["system"] (spQ K 1 (fn 1 f_is_system))
theorem ok_is_system {f : Addr} {fd : FuncData} (F : Fun K "is_system" "is_system" s_is_system f fd) (B : Blt mg) (D : Glo K mg) (FL : Flds K) (P_are_strings : Pr_are_strings P w K mg base) (P_items_told : Pr_items_told P w K mg base) (P_steps_fit : Pr_steps_fit P w K mg base) (P_are_letters : Pr_are_letters P w K mg base) (P_wrong_part : Pr_wrong_part P w K mg base) : FnOk P w K mg base (L2.CX P w) 4 f fd ["system"] (spQ K 1 (fn 1 f_is_system)) := by
  obtain ⟨a_are_strings, d_are_strings, m_are_strings, k_are_strings, b_are_strings, G_are_strings⟩ := P_are_strings
  obtain ⟨a_items_told, d_items_told, m_items_told, k_items_told, b_items_told, G_items_told⟩ := P_items_told
  obtain ⟨a_steps_fit, d_steps_fit, m_steps_fit, k_steps_fit, b_steps_fit, G_steps_fit⟩ := P_steps_fit
  obtain ⟨a_are_letters, d_are_letters, m_are_letters, k_are_letters, b_are_letters, G_are_letters⟩ := P_are_letters
  obtain ⟨a_wrong_part, d_wrong_part, m_wrong_part, k_wrong_part, b_wrong_part, G_wrong_part⟩ := P_wrong_part
  obtain ⟨t_MOST_FIXED, D_MOST_FIXED⟩ := D.g_MOST_FIXED
  obtain ⟨t_MOST_MODES, D_MOST_MODES⟩ := D.g_MOST_MODES
  obtain ⟨t_MOST_TEMPLATES, D_MOST_TEMPLATES⟩ := D.g_MOST_TEMPLATES
  have nd := sc_is_system.nd
  refine fun_ok F sc_is_system rfl rfl fun cdv A outer s H E hr => ?_
  have hu1 : (A.deeper (PyProof.Rows.envOfC "is_system" (defScope s_is_system) s.heap.objs.size f cdv)).units + 1 < cLine := by have := hr.un; omega
  have hu64 : (A.deeper (PyProof.Rows.envOfC "is_system" (defScope s_is_system) s.heap.objs.size f cdv)).units + 64 < cLine := by have := hr.un; omega
  refine ⟨_, (pss_cons (ps_if (PW.pt (pw_or (pt_not (pt_truth (pe_callB (call_isi) (by rfl) B.isi (by decide +kernel) (pa_cons (pv 0) (pa_cons (pe_bltn (v := .ty "tuple") (by rfl) B.tuple (by decide +kernel) rfl) pa_nil))) (by intro _; rfl))) (pw_or1 (pt_cmpR (op_neD hu64) (pe_callB (call_lenQ) (by rfl) B.len (by decide +kernel) (pa_cons (pv 0) pa_nil)) pe_int (by first | rfl | exact nomark _))))) (pss_one (ps_ret pe_bl)) pss_nil) (pss_cons (ps_asg (pv 0) (pg_tup rfl (pgs_cons (pg_name (i := 1) nd rfl (.inl rfl)) (pgs_cons (pg_name (i := 2) nd rfl (.inl rfl)) (pgs_cons (pg_name (i := 3) nd rfl (.inl rfl)) pgs_nil))))) (pss_cons (ps_if (PW.pt (pw_or (pt_not (pt_truth (pe_callB (call_isi) (by rfl) B.isi (by decide +kernel) (pa_cons (pv 1) (pa_cons (pe_bltn (v := .ty "tuple") (by rfl) B.tuple (by decide +kernel) rfl) pa_nil))) (by intro _; rfl))) (pw_or (pt_cmpR (op_neD hu64) (pe_callB (call_lenQ) (by rfl) B.len (by decide +kernel) (pa_cons (pv 1) pa_nil)) pe_int (by first | rfl | exact nomark _)) (pw_or (pt_not (pt_truth (pe_callB (call_isi) (by rfl) B.isi (by decide +kernel) (pa_cons (pv 2) (pa_cons (pe_bltn (v := .ty "tuple") (by rfl) B.tuple (by decide +kernel) rfl) pa_nil))) (by intro _; rfl))) (pw_or1 (pt_cmpR op_gt (pe_callB (call_lenQ) (by rfl) B.len (by decide +kernel) (pa_cons (pv 2) pa_nil)) (pe_glob (v := .int 4) (by rfl) D_MOST_FIXED ⟨_, rfl⟩) (by first | rfl | exact nomark _))))))) (pss_one (ps_ret pe_bl)) pss_nil) (pss_cons (ps_set (i := 4) nd rfl (.inl rfl) (pe_ix (ix_Q hu1) (pv 1) pe_int (fun _ _ => rfl))) (pss_cons (ps_if (PW.pt (pw_or (pt_not (pt_truth (pe_callB (call_isi) (by rfl) B.isi (by decide +kernel) (pa_cons (pv 4) (pa_cons (pe_bltn (v := .ty "tuple") (by rfl) B.tuple (by decide +kernel) rfl) pa_nil))) (by intro _; rfl))) (pw_or1 (pt_not (pt_chain op_le op_le pe_int (pe_callB (call_lenQ) (by rfl) B.len (by decide +kernel) (pa_cons (pv 4) pa_nil)) (pe_glob (v := .int 6) (by rfl) D_MOST_MODES ⟨_, rfl⟩)))))) (pss_one (ps_ret pe_bl)) pss_nil) (pss_cons (ps_if (PW.pt (pw_or (pt_not (pt_truth (pe_callB (call_isi) (by rfl) B.isi (by decide +kernel) (pa_cons (pv 3) (pa_cons (pe_bltn (v := .ty "tuple") (by rfl) B.tuple (by decide +kernel) rfl) pa_nil))) (by intro _; rfl))) (pw_or1 (pt_not (pt_chain op_le op_le pe_int (pe_callB (call_lenQ) (by rfl) B.len (by decide +kernel) (pa_cons (pv 3) pa_nil)) (pe_glob (v := .int 6) (by rfl) D_MOST_TEMPLATES ⟨_, rfl⟩)))))) (pss_one (ps_ret pe_bl)) pss_nil) (pss_cons (ps_set (i := 5) nd rfl (.inl rfl) (pe_lst (pa_starQ rfl (pv 4) (pa_starQ rfl (pv 2) pa_nil)))) (pss_cons (ps_if (pt_not (pt_truth (pe_call G_are_strings (hr.mono (by decide)) (by rfl) m_are_strings k_are_strings b_are_strings .nil (passes_call (takes_of rfl rfl rfl rfl) (fun _ _ _ _ h => h)) (pa_cons (pv 5) pa_nil)) (by intro _; rfl))) (pss_one (ps_ret pe_bl)) pss_nil) (pss_cons (ps_set (i := 6) nd rfl (.inl rfl) pe_dnewK) (pss_cons (ps_for (passes_of rfl) rfl (pi_seq (pv 3)) (pg_name (i := 7) nd rfl (.inl rfl)) (pss_cons (ps_set (i := 8) nd rfl (.inl rfl) (pe_call G_items_told (hr.mono (by decide)) (by rfl) m_items_told k_items_told b_items_told .nil (passes_call (takes_of rfl rfl rfl rfl) (fun _ _ _ _ h => h)) (pa_cons (pv 7) (pa_cons (pv 2) (pa_cons (pv 5) pa_nil))))) (pss_cons (ps_if (PW.pt (pw_or (pt_cmpR op_isN (pv 8) pe_non (by first | rfl | exact nomark _)) (pw_or1 (pt_not (pt_truth (pe_call G_steps_fit (hr.mono (by decide)) (by rfl) m_steps_fit k_steps_fit b_steps_fit .nil (passes_call (takes_of rfl rfl rfl rfl) (fun _ _ _ _ h => h)) (pa_cons (pe_ix (ix_Q hu1) (pv 7) pe_int (fun _ _ => rfl)) (pa_cons (pv 8) (pa_cons (pv 4) pa_nil)))) (by intro _; rfl)))))) (pss_one (ps_ret pe_bl)) pss_nil) (pss_one (ps_asg pe_bl (pg_sub (pv 6) (pe_ix (ix_Q hu1) (pv 7) pe_int (fun _ _ => rfl)) (set_Q hu1) (by intros; rfl))))))) (pss_cons (ps_if (PW.pt (pw_or (pt_cmpR op_lt (pe_callB (call_lenQ) (by rfl) B.len (by decide +kernel) (pa_cons (pv 6) pa_nil)) (pe_callB (call_lenQ) (by rfl) B.len (by decide +kernel) (pa_cons (pv 3) pa_nil)) (by first | rfl | exact nomark _)) (pw_or1 (pt_not (pt_truth (pe_call G_are_letters (hr.mono (by decide)) (by rfl) m_are_letters k_are_letters b_are_letters .nil (passes_call (takes_of rfl rfl rfl rfl) (fun _ _ _ _ h => h)) (pa_cons (pv 5) pa_nil)) (by intro _; rfl)))))) (pss_one (ps_ret pe_bl)) pss_nil) (pss_one (ps_ret (pe_cmpR op_isN (pe_call G_wrong_part (hr.mono (by decide)) (by rfl) m_wrong_part k_wrong_part b_wrong_part .nil (passes_call (takes_of rfl rfl rfl rfl) (fun _ _ _ _ h => h)) (pa_cons (pv 1) pa_nil)) pe_non (by first | rfl | exact nomark _))))))))))))))), ?_⟩
  exact (sims_seq (sims_if (sim_or (sim_not (sim_tru (sim_isiP (b := .tup) (by intro z; cases z) (sim_var 0)))) (sim_test (sim_op simr_ne (sim_cb simc_lenP (sim_cons (sim_var 0) sim_nil)) sim_int))) (sims_ret sim_bl) sims_next) (sims_seq (sims_asg (sim_var 0) (simg_tup (simg_cons (simg_name 1) (simg_cons (simg_name 2) (simg_cons (simg_name 3) simg_nil))))) (sims_seq (sims_if (sim_or (sim_not (sim_tru (sim_isiP (b := .tup) (by intro z; cases z) (sim_var 1)))) (sim_or (sim_test (sim_op simr_ne (sim_cb simc_lenP (sim_cons (sim_var 1) sim_nil)) sim_int)) (sim_or (sim_not (sim_tru (sim_isiP (b := .tup) (by intro z; cases z) (sim_var 2)))) (sim_test (sim_op simr_gt (sim_cb simc_lenP (sim_cons (sim_var 2) sim_nil)) sim_int))))) (sims_ret sim_bl) sims_next) (sims_seq (sims_asg (sim_op simr_ixP (sim_var 1) sim_int) (simg_name 4)) (sims_seq (sims_if (sim_or (sim_not (sim_tru (sim_isiP (b := .tup) (by intro z; cases z) (sim_var 4)))) (sim_not (sim_test (sim_chain simr_le simr_le sim_int (sim_cb simc_lenP (sim_cons (sim_var 4) sim_nil)) sim_int)))) (sims_ret sim_bl) sims_next) (sims_seq (sims_if (sim_or (sim_not (sim_tru (sim_isiP (b := .tup) (by intro z; cases z) (sim_var 3)))) (sim_not (sim_test (sim_chain simr_le simr_le sim_int (sim_cb simc_lenP (sim_cons (sim_var 3) sim_nil)) sim_int)))) (sims_ret sim_bl) sims_next) (sims_seq (sims_asg (sim_lst (sim_star (sim_var 4) (sim_star (sim_var 2) sim_nil))) (simg_name 5)) (sims_seq (sims_if (sim_not (sim_tru (sim_call (sim_cons (sim_var 5) sim_nil)))) (sims_ret sim_bl) sims_next) (sims_seq (sims_asg sim_dnew (simg_name 6)) (sims_seq (sims_for (simi_seqP (sim_var 3)) (simg_name 7) (sims_seq (sims_asg (sim_call (sim_cons (sim_var 7) (sim_cons (sim_var 2) (sim_cons (sim_var 5) sim_nil)))) (simg_name 8)) (sims_seq (sims_if (sim_or (sim_test (sim_op simr_isN (sim_var 8) sim_non)) (sim_not (sim_tru (sim_call (sim_cons (sim_op simr_ixP (sim_var 7) sim_int) (sim_cons (sim_var 8) (sim_cons (sim_var 4) sim_nil))))))) (sims_ret sim_bl) sims_next) (sims_asg sim_bl (simg_sub (sim_var 6) (sim_op simr_ixP (sim_var 7) sim_int) simset))))) (sims_seq (sims_if (sim_or (sim_test (sim_op simr_lt (sim_cb simc_lenP (sim_cons (sim_var 6) sim_nil)) (sim_cb simc_lenP (sim_cons (sim_var 3) sim_nil)))) (sim_not (sim_tru (sim_call (sim_cons (sim_var 5) sim_nil))))) (sims_ret sim_bl) sims_next) (sims_ret (sim_op simr_isN (sim_call (sim_cons (sim_var 1) sim_nil)) sim_non)))))))))))))
abbrev s_wrong_place : Stmt := topS 37
abbrev nl_wrong_place : List Str := ["system", "template", "taken", "words", "items", "steps", "place"]
theorem sc_wrong_place : FnScope nl_wrong_place ["system", "template", "taken"] (defScope s_wrong_place) := ⟨rfl, rfl, rfl, by decide +kernel, rfl, by decide +kernel, by decide +kernel⟩
def r_wrong_place : SF := (sSeq (sAsg (eLst eNil) (gfName 3)) (sSeq (sAsg (eCall (fn 3 f_items_told) (eCons (eVar 1) (eCons (eOp gIxP (eVar 0) (eC (.int 1))) (eCons (eVar 3) eNil)))) (gfName 4)) (sSeq (sIf (eOr (eB (eOp gIsN' (eVar 4) (eC .non))) (eOr (eNot (eTru (eCall (fn 1 f_are_letters) (eCons (eVar 3) eNil)))) (eB (eOp (gIn' false) (eOp gIxP (eVar 1) (eC (.int 0))) (eVar 2))))) (sRet (eNeg (eC (.int 1)))) sNext) (sSeq (sAsg (eOp gIxP (eVar 1) (eC (.int 3))) (gfName 5)) (sSeq (sFor (eRng1 (eCons (eCB gLenP (eCons (eVar 5) eNil)) eNil)) (gfName 6) (sIf (eNot (eTru (eCall (fn 3 f_steps_fit) (eCons (eSl (eVar 5) eoN (eoI (eOp gAdd (eVar 6) (eC (.int 1))))) (eCons (eVar 4) (eCons (eOp gIxP (eOp gIxP (eVar 0) (eC (.int 0))) (eC (.int 0))) eNil)))))) (sRet (eVar 6)) sNext)) (sRet (eC .non)))))))
def f_wrong_place : FF := body 7 r_wrong_place
abbrev Pr_wrong_place (P : Program) (w : World) (K : PySem.W.Frag) (mg : Str → Option Value) (base : Heap) : Prop := Pr P w K mg base "wrong_place" 4 ["system", "template", "taken"] (spQ K 3 (fn 3 f_wrong_place))
theorem ok_wrong_place {f : Addr} {fd : FuncData} (F : Fun K "wrong_place" "wrong_place" s_wrong_place f fd) (B : Blt mg) (D : Glo K mg) (FL : Flds K) (P_items_told : Pr_items_told P w K mg base) (P_are_letters : Pr_are_letters P w K mg base) (P_steps_fit : Pr_steps_fit P w K mg base) : FnOk P w K mg base (L2.CX P w) 4 f fd ["system", "template", "taken"] (spQ K 3 (fn 3 f_wrong_place)) := by
  obtain ⟨a_items_told, d_items_told, m_items_told, k_items_told, b_items_told, G_items_told⟩ := P_items_told
  obtain ⟨a_are_letters, d_are_letters, m_are_letters, k_are_letters, b_are_letters, G_are_letters⟩ := P_are_letters
  obtain ⟨a_steps_fit, d_steps_fit, m_steps_fit, k_steps_fit, b_steps_fit, G_steps_fit⟩ := P_steps_fit
  have nd := sc_wrong_place.nd
  refine fun_ok F sc_wrong_place rfl rfl fun cdv A outer s H E hr => ?_
  have hu1 : (A.deeper (PyProof.Rows.envOfC "wrong_place" (defScope s_wrong_place) s.heap.objs.size f cdv)).units + 1 < cLine := by have := hr.un; omega
  have hu65 : (A.deeper (PyProof.Rows.envOfC "wrong_place" (defScope s_wrong_place) s.heap.objs.size f cdv)).units + 65 < cLine := by have := hr.un; omega
  refine ⟨_, (pss_cons (ps_set (i := 3) nd rfl (.inl rfl) (pe_lst pa_nil)) (pss_cons (ps_set (i := 4) nd rfl (.inl rfl) (pe_call G_items_told (hr.mono (by decide)) (by rfl) m_items_told k_items_told b_items_told .nil (passes_call (takes_of rfl rfl rfl rfl) (fun _ _ _ _ h => h)) (pa_cons (pv 1) (pa_cons (pe_ix (ix_Q hu1) (pv 0) pe_int (fun _ _ => rfl)) (pa_cons (pv 3) pa_nil))))) (pss_cons (ps_if (PW.pt (pw_or (pt_cmpR op_isN (pv 4) pe_non (by first | rfl | exact nomark _)) (pw_or (pt_not (pt_truth (pe_call G_are_letters (hr.mono (by decide)) (by rfl) m_are_letters k_are_letters b_are_letters .nil (passes_call (takes_of rfl rfl rfl rfl) (fun _ _ _ _ h => h)) (pa_cons (pv 3) pa_nil)) (by intro _; rfl))) (pw_or1 (pt_cmpR (op_inQ hu65) (pe_ix (ix_Q hu1) (pv 1) pe_int (fun _ _ => rfl)) (pv 2) (by first | rfl | exact nomark _)))))) (pss_one (ps_ret (pe_un un_neg pe_int))) pss_nil) (pss_cons (ps_set (i := 5) nd rfl (.inl rfl) (pe_ix (ix_Q hu1) (pv 1) pe_int (fun _ _ => rfl))) (pss_cons (ps_for (passes_of rfl) rfl (pi_range1 (by rfl) B.range (pa_cons (pe_callB (call_lenQ) (by rfl) B.len (by decide +kernel) (pa_cons (pv 5) pa_nil)) pa_nil)) (pg_name (i := 6) nd rfl (.inl rfl)) (pss_one (ps_if (pt_not (pt_truth (pe_call G_steps_fit (hr.mono (by decide)) (by rfl) m_steps_fit k_steps_fit b_steps_fit .nil (passes_call (takes_of rfl rfl rfl rfl) (fun _ _ _ _ h => h)) (pa_cons (pe_slice (sl_Q) (pv 5) po_none (po_some (pe_op op_addQ (pv 6) pe_int))) (pa_cons (pv 4) (pa_cons (pe_ix (ix_Q hu1) (pe_ix (ix_Q hu1) (pv 0) pe_int (fun _ _ => rfl)) pe_int (fun _ _ => rfl)) pa_nil)))) (by intro _; rfl))) (pss_one (ps_ret (pv 6))) pss_nil))) (pss_one (ps_ret pe_non))))))), ?_⟩
  exact (sims_seq (sims_asg (sim_lst sim_nil) (simg_name 3)) (sims_seq (sims_asg (sim_call (sim_cons (sim_var 1) (sim_cons (sim_op simr_ixP (sim_var 0) sim_int) (sim_cons (sim_var 3) sim_nil)))) (simg_name 4)) (sims_seq (sims_if (sim_or (sim_test (sim_op simr_isN (sim_var 4) sim_non)) (sim_or (sim_not (sim_tru (sim_call (sim_cons (sim_var 3) sim_nil)))) (sim_test (sim_op simr_in (sim_op simr_ixP (sim_var 1) sim_int) (sim_var 2))))) (sims_ret (sim_neg sim_int)) sims_next) (sims_seq (sims_asg (sim_op simr_ixP (sim_var 1) sim_int) (simg_name 5)) (sims_seq (sims_for (simi_rng1 (sim_cons (sim_cb simc_lenP (sim_cons (sim_var 5) sim_nil)) sim_nil)) (simg_name 6) (sims_if (sim_not (sim_tru (sim_call (sim_cons (sim_sl (sim_var 5) simo_none (simo_some (sim_op simr_add (sim_var 6) sim_int))) (sim_cons (sim_var 4) (sim_cons (sim_op simr_ixP (sim_op simr_ixP (sim_var 0) sim_int) sim_int) sim_nil)))))) (sims_ret (sim_var 6)) sims_next)) (sims_ret sim_non))))))
abbrev s_require_system : Stmt := topS 38
abbrev nl_require_system : List Str := ["system", "modes", "fixed", "templates", "taken", "index", "template", "place"]
theorem sc_require_system : FnScope nl_require_system ["system"] (defScope s_require_system) := ⟨rfl, rfl, rfl, by decide +kernel, rfl, by decide +kernel, by decide +kernel⟩
def r_require_system : SF := (sSeq (sIf (eOr (eNot (eTru (eIsiP .tup (eVar 0)))) (eB (eOp gNe (eCB gLenP (eCons (eVar 0) eNil)) (eC (.int 3))))) (sRaise [73, 110, 118, 97, 108, 105, 100, 83, 121, 115, 116, 101, 109] [[112, 97, 114, 116]] 1 (eCons (eC (.str [102, 111, 114, 109])) eNil)) sNext) (sSeq (sAsg (eVar 0) (gfTup 3 (gfCons (gfName 1) (gfCons (gfName 2) (gfCons (gfName 3) gfNil))))) (sSeq (sDrop (eCall (fn 1 f_require_modes) (eCons (eVar 1) eNil))) (sSeq (sIf (eNot (eTru (eCall (fn 3 f_are_different_names) (eCons (eVar 2) (eCons (eC (.int 0)) (eCons (eC (.int 4)) eNil)))))) (sRaise [73, 110, 118, 97, 108, 105, 100, 83, 121, 115, 116, 101, 109] [[112, 97, 114, 116]] 1 (eCons (eC (.str [102, 105, 120, 101, 100])) eNil)) sNext) (sSeq (sIf (eOr (eNot (eTru (eIsiP .tup (eVar 3)))) (eNot (eB (eChain (gB iLe) (gB iLe) (eC (.int 1)) (eCB gLenP (eCons (eVar 3) eNil)) (eC (.int 6)))))) (sRaise [73, 110, 118, 97, 108, 105, 100, 83, 121, 115, 116, 101, 109] [[112, 97, 114, 116]] 1 (eCons (eC (.str [116, 101, 109, 112, 108, 97, 116, 101, 115])) eNil)) sNext) (sSeq (sAsg (eLst eNil) (gfName 4)) (sFor (eEn (eCons (eVar 3) eNil)) (gfTup 2 (gfCons (gfName 5) (gfCons (gfName 6) gfNil))) (sSeq (sAsg (eCall (fn 3 f_wrong_place) (eCons (eVar 0) (eCons (eVar 6) (eCons (eVar 4) eNil)))) (gfName 7)) (sSeq (sIf (eB (eOp gNotN' (eVar 7) (eC .non))) (sRaise [73, 110, 118, 97, 108, 105, 100, 84, 101, 109, 112, 108, 97, 116, 101] [[116, 101, 109, 112, 108, 97, 116, 101], [115, 116, 101, 112]] 2 (eCons (eVar 5) (eCons (eVar 7) eNil))) sNext) (sDrop (eAppend (eVar 4) (eCons (eOp gIxP (eVar 6) (eC (.int 0))) eNil))))))))))))
def f_require_system : FF := body 8 r_require_system
abbrev Pr_require_system (P : Program) (w : World) (K : PySem.W.Frag) (mg : Str → Option Value) (base : Heap) : Prop := Pr P w K mg base "require_system" 5 ["system"] (spQ K 1 (fn 1 f_require_system))
theorem ok_require_system {f : Addr} {fd : FuncData} (F : Fun K "require_system" "require_system" s_require_system f fd) (B : Blt mg) (D : Glo K mg) (FL : Flds K) (P_InvalidSystem : Pr_InvalidSystem P w K mg base) (P_require_modes : Pr_require_modes P w K mg base) (P_are_different_names : Pr_are_different_names P w K mg base) (P_wrong_place : Pr_wrong_place P w K mg base) (P_InvalidTemplate : Pr_InvalidTemplate P w K mg base) : FnOk P w K mg base (L2.CX P w) 5 f fd ["system"] (spQ K 1 (fn 1 f_require_system)) := by
  obtain ⟨A_InvalidSystem, i_InvalidSystem, l_InvalidSystem, n_InvalidSystem, e_InvalidSystem, q_InvalidSystem, X_InvalidSystem⟩ := P_InvalidSystem
  obtain ⟨a_require_modes, d_require_modes, m_require_modes, k_require_modes, b_require_modes, G_require_modes⟩ := P_require_modes
  obtain ⟨a_are_different_names, d_are_different_names, m_are_different_names, k_are_different_names, b_are_different_names, G_are_different_names⟩ := P_are_different_names
  obtain ⟨a_wrong_place, d_wrong_place, m_wrong_place, k_wrong_place, b_wrong_place, G_wrong_place⟩ := P_wrong_place
  obtain ⟨A_InvalidTemplate, i_InvalidTemplate, l_InvalidTemplate, n_InvalidTemplate, e_InvalidTemplate, q_InvalidTemplate, X_InvalidTemplate⟩ := P_InvalidTemplate
  obtain ⟨t_MOST_FIXED, D_MOST_FIXED⟩ := D.g_MOST_FIXED
  obtain ⟨t_MOST_TEMPLATES, D_MOST_TEMPLATES⟩ := D.g_MOST_TEMPLATES
  have nd := sc_require_system.nd
  refine fun_ok F sc_require_system rfl rfl fun cdv A outer s H E hr => ?_
  have hu1 : (A.deeper (PyProof.Rows.envOfC "require_system" (defScope s_require_system) s.heap.objs.size f cdv)).units + 1 < cLine := by have := hr.un; omega
  have hu64 : (A.deeper (PyProof.Rows.envOfC "require_system" (defScope s_require_system) s.heap.objs.size f cdv)).units + 64 < cLine := by have := hr.un; omega
  refine ⟨_, (pss_cons (ps_if (PW.pt (pw_or (pt_not (pt_truth (pe_callB (call_isi) (by rfl) B.isi (by decide +kernel) (pa_cons (pv 0) (pa_cons (pe_bltn (v := .ty "tuple") (by rfl) B.tuple (by decide +kernel) rfl) pa_nil))) (by intro _; rfl))) (pw_or1 (pt_cmpR (op_neD hu64) (pe_callB (call_lenQ) (by rfl) B.len (by decide +kernel) (pa_cons (pv 0) pa_nil)) pe_int (by first | rfl | exact nomark _))))) (pss_one (ps_raise rfl (takes_of rfl rfl rfl rfl) (pmk_mkX (x := "InvalidSystem") ⟨q_InvalidSystem.T, q_InvalidSystem.I, q_InvalidSystem.G, q_InvalidSystem.sup, q_InvalidSystem.ne, q_InvalidSystem.few, q_InvalidSystem.nd, q_InvalidSystem.no⟩ X_InvalidSystem hr (by rfl) (pa_cons pe_str pa_nil)))) pss_nil) (pss_cons (ps_asg (pv 0) (pg_tup rfl (pgs_cons (pg_name (i := 1) nd rfl (.inl rfl)) (pgs_cons (pg_name (i := 2) nd rfl (.inl rfl)) (pgs_cons (pg_name (i := 3) nd rfl (.inl rfl)) pgs_nil))))) (pss_cons (ps_expr (pe_call G_require_modes (hr.mono (by decide)) (by rfl) m_require_modes k_require_modes b_require_modes .nil (passes_call (takes_of rfl rfl rfl rfl) (fun _ _ _ _ h => h)) (pa_cons (pv 1) pa_nil))) (pss_cons (ps_if (pt_not (pt_truth (pe_call G_are_different_names (hr.mono (by decide)) (by rfl) m_are_different_names k_are_different_names b_are_different_names .nil (passes_call (takes_of rfl rfl rfl rfl) (fun _ _ _ _ h => h)) (pa_cons (pv 2) (pa_cons pe_int (pa_cons (pe_glob (v := .int 4) (by rfl) D_MOST_FIXED ⟨_, rfl⟩) pa_nil)))) (by intro _; rfl))) (pss_one (ps_raise rfl (takes_of rfl rfl rfl rfl) (pmk_mkX (x := "InvalidSystem") ⟨q_InvalidSystem.T, q_InvalidSystem.I, q_InvalidSystem.G, q_InvalidSystem.sup, q_InvalidSystem.ne, q_InvalidSystem.few, q_InvalidSystem.nd, q_InvalidSystem.no⟩ X_InvalidSystem hr (by rfl) (pa_cons pe_str pa_nil)))) pss_nil) (pss_cons (ps_if (PW.pt (pw_or (pt_not (pt_truth (pe_callB (call_isi) (by rfl) B.isi (by decide +kernel) (pa_cons (pv 3) (pa_cons (pe_bltn (v := .ty "tuple") (by rfl) B.tuple (by decide +kernel) rfl) pa_nil))) (by intro _; rfl))) (pw_or1 (pt_not (pt_chain op_le op_le pe_int (pe_callB (call_lenQ) (by rfl) B.len (by decide +kernel) (pa_cons (pv 3) pa_nil)) (pe_glob (v := .int 6) (by rfl) D_MOST_TEMPLATES ⟨_, rfl⟩)))))) (pss_one (ps_raise rfl (takes_of rfl rfl rfl rfl) (pmk_mkX (x := "InvalidSystem") ⟨q_InvalidSystem.T, q_InvalidSystem.I, q_InvalidSystem.G, q_InvalidSystem.sup, q_InvalidSystem.ne, q_InvalidSystem.few, q_InvalidSystem.nd, q_InvalidSystem.no⟩ X_InvalidSystem hr (by rfl) (pa_cons pe_str pa_nil)))) pss_nil) (pss_cons (ps_set (i := 4) nd rfl (.inl rfl) (pe_lst pa_nil)) (pss_one (ps_for (passes_of rfl) rfl (pi_en (by rfl) B.enum (pa_cons (pv 3) pa_nil)) (pg_tup rfl (pgs_cons (pg_name (i := 5) nd rfl (.inl rfl)) (pgs_cons (pg_name (i := 6) nd rfl (.inl rfl)) pgs_nil))) (pss_cons (ps_set (i := 7) nd rfl (.inl rfl) (pe_call G_wrong_place (hr.mono (by decide)) (by rfl) m_wrong_place k_wrong_place b_wrong_place .nil (passes_call (takes_of rfl rfl rfl rfl) (fun _ _ _ _ h => h)) (pa_cons (pv 0) (pa_cons (pv 6) (pa_cons (pv 4) pa_nil))))) (pss_cons (ps_if (pt_cmpR op_notN (pv 7) pe_non (by first | rfl | exact nomark _)) (pss_one (ps_raise rfl (takes_of rfl rfl rfl rfl) (pmk_mkX (x := "InvalidTemplate") ⟨q_InvalidTemplate.T, q_InvalidTemplate.I, q_InvalidTemplate.G, q_InvalidTemplate.sup, q_InvalidTemplate.ne, q_InvalidTemplate.few, q_InvalidTemplate.nd, q_InvalidTemplate.no⟩ X_InvalidTemplate hr (by rfl) (pa_cons (pv 5) (pa_cons (pv 7) pa_nil))))) pss_nil) (pss_one (ps_expr (pe_bm PySem.F.plainAttrs_list PySem.F.slot_list_append PySem.F.type_list_append mt_append (pv 4) (pa_cons (pe_ix (ix_Q hu1) (pv 6) pe_int (fun _ _ => rfl)) pa_nil)))))))))))))), ?_⟩
  exact (sims_seq (sims_if (sim_or (sim_not (sim_tru (sim_isiP (b := .tup) (by intro z; cases z) (sim_var 0)))) (sim_test (sim_op simr_ne (sim_cb simc_lenP (sim_cons (sim_var 0) sim_nil)) sim_int))) (sims_raise n_InvalidSystem e_InvalidSystem (sim_cons (sim_str (by decide +kernel)) sim_nil)) sims_next) (sims_seq (sims_asg (sim_var 0) (simg_tup (simg_cons (simg_name 1) (simg_cons (simg_name 2) (simg_cons (simg_name 3) simg_nil))))) (sims_seq (sims_drop (sim_call (sim_cons (sim_var 1) sim_nil))) (sims_seq (sims_if (sim_not (sim_tru (sim_call (sim_cons (sim_var 2) (sim_cons sim_int (sim_cons sim_int sim_nil)))))) (sims_raise n_InvalidSystem e_InvalidSystem (sim_cons (sim_str (by decide +kernel)) sim_nil)) sims_next) (sims_seq (sims_if (sim_or (sim_not (sim_tru (sim_isiP (b := .tup) (by intro z; cases z) (sim_var 3)))) (sim_not (sim_test (sim_chain simr_le simr_le sim_int (sim_cb simc_lenP (sim_cons (sim_var 3) sim_nil)) sim_int)))) (sims_raise n_InvalidSystem e_InvalidSystem (sim_cons (sim_str (by decide +kernel)) sim_nil)) sims_next) (sims_seq (sims_asg (sim_lst sim_nil) (simg_name 4)) (sims_for (simi_en (sim_cons (sim_var 3) sim_nil)) (simg_tup (simg_cons (simg_name 5) (simg_cons (simg_name 6) simg_nil))) (sims_seq (sims_asg (sim_call (sim_cons (sim_var 0) (sim_cons (sim_var 6) (sim_cons (sim_var 4) sim_nil)))) (simg_name 7)) (sims_seq (sims_if (sim_test (sim_op simr_notN (sim_var 7) sim_non)) (sims_raise n_InvalidTemplate e_InvalidTemplate (sim_cons (sim_var 5) (sim_cons (sim_var 7) sim_nil))) sims_next) (sims_drop (sim_append (sim_var 4) (sim_cons (sim_op simr_ixP (sim_var 6) sim_int) sim_nil))))))))))))
abbrev s_check_system : Stmt := topS 40
abbrev nl_check_system : List Str := ["system"]
theorem sc_check_system : FnScope nl_check_system ["system"] (defScope s_check_system) := ⟨rfl, rfl, rfl, by decide +kernel, rfl, by decide +kernel, by decide +kernel⟩
def r_check_system : SF := (sIf (eNot (eTru (eCall (fn 1 f_is_system) (eCons (eVar 0) eNil)))) (sDrop (eCall (fn 1 f_require_system) (eCons (eVar 0) eNil))) sNext)
def f_check_system : FF := body 1 r_check_system
abbrev Pr_check_system (P : Program) (w : World) (K : PySem.W.Frag) (mg : Str → Option Value) (base : Heap) : Prop := Pr P w K mg base "check_system" 6 ["system"] (spQ K 1 (fn 1 f_check_system))
theorem ok_check_system {f : Addr} {fd : FuncData} (F : Fun K "check_system" "check_system" s_check_system f fd) (B : Blt mg) (D : Glo K mg) (FL : Flds K) (P_is_system : Pr_is_system P w K mg base) (P_require_system : Pr_require_system P w K mg base) : FnOk P w K mg base (L2.CX P w) 6 f fd ["system"] (spQ K 1 (fn 1 f_check_system)) := by
  obtain ⟨a_is_system, d_is_system, m_is_system, k_is_system, b_is_system, G_is_system⟩ := P_is_system
  obtain ⟨a_require_system, d_require_system, m_require_system, k_require_system, b_require_system, G_require_system⟩ := P_require_system
  have nd := sc_check_system.nd
  refine fun_ok F sc_check_system rfl rfl fun cdv A outer s H E hr => ?_
  refine ⟨_, (pss_one (ps_if (pt_not (pt_truth (pe_call G_is_system (hr.mono (by decide)) (by rfl) m_is_system k_is_system b_is_system .nil (passes_call (takes_of rfl rfl rfl rfl) (fun _ _ _ _ h => h)) (pa_cons (pv 0) pa_nil)) (by intro _; rfl))) (pss_one (ps_expr (pe_call G_require_system (hr.mono (by decide)) (by rfl) m_require_system k_require_system b_require_system .nil (passes_call (takes_of rfl rfl rfl rfl) (fun _ _ _ _ h => h)) (pa_cons (pv 0) pa_nil)))) pss_nil)), ?_⟩
  exact (sims_if (sim_not (sim_tru (sim_call (sim_cons (sim_var 0) sim_nil)))) (sims_drop (sim_call (sim_cons (sim_var 0) sim_nil))) sims_next)
abbrev s_asking_steps : Stmt := topS 41
abbrev nl_asking_steps : List Str := ["table", "steps", "held", "places", "place", "row", "_", "item", "mode", "before"]
theorem sc_asking_steps : FnScope nl_asking_steps ["table", "steps"] (defScope s_asking_steps) := ⟨rfl, rfl, rfl, by decide +kernel, rfl, by decide +kernel, by decide +kernel⟩
def r_asking_steps : SF := (sSeq (sAsg eDnew (gfName 2)) (sSeq (sAsg (eLst eNil) (gfName 3)) (sSeq (sFor (eEn (eCons (eVar 1) eNil)) (gfTup 2 (gfCons (gfName 4) (gfCons (gfName 5) gfNil))) (sIf (eB (eOp gEq (eCB gLenP (eCons (eVar 5) eNil)) (eC (.int 3)))) (sSeq (sAsg (eVar 5) (gfTup 3 (gfCons (gfName 6) (gfCons (gfName 7) (gfCons (gfName 8) gfNil))))) (sSeq (sIf (eB (eOp (gIn' true) (eVar 7) (eVar 2))) (sSeq (sAsg (eVar 8) (gfSub gSet (eVar 2) (eVar 7))) (sSeq (sDrop (eAppend (eVar 3) (eCons (eVar 4) eNil))) sCont)) sNext) (sSeq (sAsg (eOp gIxP (eVar 2) (eVar 7)) (gfName 9)) (sSeq (sAsg eNever (gfSub gSet (eVar 2) (eVar 7))) (sIf (eB (eOp gNe (eOp gIxP (eVar 2) (eVar 7)) (eVar 9))) (sDrop (eAppend (eVar 3) (eCons (eVar 4) eNil))) sNext))))) sNext)) (sRet (eVar 3)))))
def f_asking_steps : FF := body 10 r_asking_steps
abbrev Pr_asking_steps (P : Program) (w : World) (K : PySem.W.Frag) (mg : Str → Option Value) (base : Heap) : Prop := Pr P w K mg base "asking_steps" 1 ["table", "steps"] (spQ K 2 (fn 2 f_asking_steps))
theorem ok_asking_steps {f : Addr} {fd : FuncData} (F : Fun K "asking_steps" "asking_steps" s_asking_steps f fd) (B : Blt mg) (D : Glo K mg) (FL : Flds K)  : FnOk P w K mg base (L2.CX P w) 1 f fd ["table", "steps"] (spQ K 2 (fn 2 f_asking_steps)) := by
  have nd := sc_asking_steps.nd
  refine fun_ok F sc_asking_steps rfl rfl fun cdv A outer s H E hr => ?_
  have hu1 : (A.deeper (PyProof.Rows.envOfC "asking_steps" (defScope s_asking_steps) s.heap.objs.size f cdv)).units + 1 < cLine := by have := hr.un; omega
  have hu64 : (A.deeper (PyProof.Rows.envOfC "asking_steps" (defScope s_asking_steps) s.heap.objs.size f cdv)).units + 64 < cLine := by have := hr.un; omega
  have hu65 : (A.deeper (PyProof.Rows.envOfC "asking_steps" (defScope s_asking_steps) s.heap.objs.size f cdv)).units + 65 < cLine := by have := hr.un; omega
  refine ⟨_, (pss_cons (ps_set (i := 2) nd rfl (.inl rfl) pe_dnewK) (pss_cons (ps_set (i := 3) nd rfl (.inl rfl) (pe_lst pa_nil)) (pss_cons (ps_for (passes_of rfl) rfl (pi_en (by rfl) B.enum (pa_cons (pv 1) pa_nil)) (pg_tup rfl (pgs_cons (pg_name (i := 4) nd rfl (.inl rfl)) (pgs_cons (pg_name (i := 5) nd rfl (.inl rfl)) pgs_nil))) (pss_one (ps_if (pt_cmpR (op_eqD hu64) (pe_callB (call_lenQ) (by rfl) B.len (by decide +kernel) (pa_cons (pv 5) pa_nil)) pe_int (by first | rfl | exact nomark _)) (pss_cons (ps_asg (pv 5) (pg_tup rfl (pgs_cons (pg_name (i := 6) nd rfl (.inl rfl)) (pgs_cons (pg_name (i := 7) nd rfl (.inl rfl)) (pgs_cons (pg_name (i := 8) nd rfl (.inl rfl)) pgs_nil))))) (pss_cons (ps_if (pt_cmpR (op_notInQ hu65) (pv 7) (pv 2) (by first | rfl | exact nomark _)) (pss_cons (ps_asg (pv 8) (pg_sub (pv 2) (pv 7) (set_Q hu1) (by intros; rfl))) (pss_cons (ps_expr (pe_bm PySem.F.plainAttrs_list PySem.F.slot_list_append PySem.F.type_list_append mt_append (pv 3) (pa_cons (pv 4) pa_nil))) (pss_one ps_continue))) pss_nil) (pss_cons (ps_set (i := 9) nd rfl (.inl rfl) (pe_ix (ix_Q hu1) (pv 2) (pv 7) (fun _ _ => rfl))) (pss_cons (ps_asg pe_false (pg_sub (pv 2) (pv 7) (set_Q hu1) (by intros; rfl))) (pss_one (ps_if (pt_cmpR (op_neD hu64) (pe_ix (ix_Q hu1) (pv 2) (pv 7) (fun _ _ => rfl)) (pv 9) (by first | rfl | exact nomark _)) (pss_one (ps_expr (pe_bm PySem.F.plainAttrs_list PySem.F.slot_list_append PySem.F.type_list_append mt_append (pv 3) (pa_cons (pv 4) pa_nil)))) pss_nil)))))) pss_nil))) (pss_one (ps_ret (pv 3)))))), ?_⟩
  exact (sims_seq (sims_asg sim_dnew (simg_name 2)) (sims_seq (sims_asg (sim_lst sim_nil) (simg_name 3)) (sims_seq (sims_for (simi_en (sim_cons (sim_var 1) sim_nil)) (simg_tup (simg_cons (simg_name 4) (simg_cons (simg_name 5) simg_nil))) (sims_if (sim_test (sim_op simr_eq (sim_cb simc_lenP (sim_cons (sim_var 5) sim_nil)) sim_int)) (sims_seq (sims_asg (sim_var 5) (simg_tup (simg_cons (simg_name 6) (simg_cons (simg_name 7) (simg_cons (simg_name 8) simg_nil))))) (sims_seq (sims_if (sim_test (sim_op simr_notIn (sim_var 7) (sim_var 2))) (sims_seq (sims_asg (sim_var 8) (simg_sub (sim_var 2) (sim_var 7) simset)) (sims_seq (sims_drop (sim_append (sim_var 3) (sim_cons (sim_var 4) sim_nil))) sims_cont)) sims_next) (sims_seq (sims_asg (sim_op simr_ixP (sim_var 2) (sim_var 7)) (simg_name 9)) (sims_seq (sims_asg sim_never (simg_sub (sim_var 2) (sim_var 7) simset)) (sims_if (sim_test (sim_op simr_ne (sim_op simr_ixP (sim_var 2) (sim_var 7)) (sim_var 9))) (sims_drop (sim_append (sim_var 3) (sim_cons (sim_var 4) sim_nil))) sims_next))))) sims_next)) (sims_ret (sim_var 3)))))
abbrev s_positions : Stmt := topS 42
abbrev nl_positions : List Str := ["system", "table", "found", "index", "template", "step"]
theorem sc_positions : FnScope nl_positions ["system"] (defScope s_positions) := ⟨rfl, rfl, rfl, by decide +kernel, rfl, by decide +kernel, by decide +kernel⟩
def r_positions : SF := (sSeq (sDrop (eCall (fn 1 f_check_system) (eCons (eVar 0) eNil))) (sSeq (sAsg (eMake [74, 111, 105, 110, 115] (fn 2 f_Joins_init) (eCons (eOp gIxP (eVar 0) (eC (.int 0))) eNil)) (gfName 1)) (sSeq (sAsg (eLst eNil) (gfName 2)) (sSeq (sFor (eEn (eCons (eOp gIxP (eVar 0) (eC (.int 2))) eNil)) (gfTup 2 (gfCons (gfName 3) (gfCons (gfName 4) gfNil))) (sDrop (eExtend (eVar 2) (eCons (eLc (eSeqP (eCall (fn 2 f_asking_steps) (eCons (eVar 1) (eCons (eOp gIxP (eVar 4) (eC (.int 3))) eNil)))) (gfName 5) eYes (eTup (eCons (eVar 3) (eCons (eVar 5) eNil))) [5]) eNil)))) (sRet (eVar 2))))))
def f_positions : FF := body 6 r_positions
abbrev Pr_positions (P : Program) (w : World) (K : PySem.W.Frag) (mg : Str → Option Value) (base : Heap) : Prop := Pr P w K mg base "positions" 7 ["system"] (spQ K 1 (fn 1 f_positions))
theorem ok_positions {f : Addr} {fd : FuncData} (F : Fun K "positions" "positions" s_positions f fd) (B : Blt mg) (D : Glo K mg) (FL : Flds K) (P_check_system : Pr_check_system P w K mg base) (P_Joins_init : Pr_Joins_init P w K mg base) (P_asking_steps : Pr_asking_steps P w K mg base) : FnOk P w K mg base (L2.CX P w) 7 f fd ["system"] (spQ K 1 (fn 1 f_positions)) := by
  obtain ⟨a_check_system, d_check_system, m_check_system, k_check_system, b_check_system, G_check_system⟩ := P_check_system
  obtain ⟨A_Joins, a_Joins_init, d_Joins_init, n_Joins, m_Joins, M_Joins, b_Joins_init, G_Joins_init⟩ := P_Joins_init
  obtain ⟨a_asking_steps, d_asking_steps, m_asking_steps, k_asking_steps, b_asking_steps, G_asking_steps⟩ := P_asking_steps
  have nd := sc_positions.nd
  refine fun_ok F sc_positions rfl rfl fun cdv A outer s H E hr => ?_
  have hu1 : (A.deeper (PyProof.Rows.envOfC "positions" (defScope s_positions) s.heap.objs.size f cdv)).units + 1 < cLine := by have := hr.un; omega
  refine ⟨_, (pss_cons (ps_expr (pe_call G_check_system (hr.mono (by decide)) (by rfl) m_check_system k_check_system b_check_system .nil (passes_call (takes_of rfl rfl rfl rfl) (fun _ _ _ _ h => h)) (pa_cons (pv 0) pa_nil))) (pss_cons (ps_set (i := 1) nd rfl (.inl rfl) (pe_make M_Joins G_Joins_init (hr.mono (by decide)) (by rfl) m_Joins b_Joins_init .nil (passes_call (takes_of rfl rfl rfl rfl) (fun _ _ _ _ h => h)) (pa_cons (pe_ix (ix_Q hu1) (pv 0) pe_int (fun _ _ => rfl)) pa_nil))) (pss_cons (ps_set (i := 2) nd rfl (.inl rfl) (pe_lst pa_nil)) (pss_cons (ps_for (passes_of rfl) rfl (pi_en (by rfl) B.enum (pa_cons (pe_ix (ix_Q hu1) (pv 0) pe_int (fun _ _ => rfl)) pa_nil)) (pg_tup rfl (pgs_cons (pg_name (i := 3) nd rfl (.inr rfl)) (pgs_cons (pg_name (i := 4) nd rfl (.inl rfl)) pgs_nil))) (pss_one (ps_expr (pe_bm PySem.F.plainAttrs_list PySem.F.slot_list_extend PySem.F.type_list_extend mt_extendQ (pv 2) (pa_cons (pe_lc (own := [("step", 5)]) (g := (gName 5)) (tt := tYes) rfl nd (pi_seq (pe_call G_asking_steps (hr.mono (by decide)) (by rfl) m_asking_steps k_asking_steps b_asking_steps .nil (passes_call (takes_of rfl rfl rfl rfl) (fun _ _ _ _ h => h)) (pa_cons (pv 1) (pa_cons (pe_ix (ix_Q hu1) (pv 4) pe_int (fun _ _ => rfl)) pa_nil)))) (blkOk_by (N := nl_positions) (sc := defScope s_positions) (own := [("step", 5)]) (by decide +kernel)) (fun _ _ _ _ _ => (pg_name (i := 5) nd rfl (.inl rfl))) (fun _ _ _ _ _ => pts_nil) (fun _ _ _ _ _ => (pe_tup (pa_cons (pv 3) (pa_cons (pv 5) pa_nil))))) pa_nil))))) (pss_one (ps_ret (pv 2))))))), ?_⟩
  exact (sims_seq (sims_drop (sim_call (sim_cons (sim_var 0) sim_nil))) (sims_seq (sims_asg (sim_make n_Joins (sim_cons (sim_op simr_ixP (sim_var 0) sim_int) sim_nil)) (simg_name 1)) (sims_seq (sims_asg (sim_lst sim_nil) (simg_name 2)) (sims_seq (sims_for (simi_en (sim_cons (sim_op simr_ixP (sim_var 0) sim_int) sim_nil)) (simg_tup (simg_cons (simg_name 3) (simg_cons (simg_name 4) simg_nil))) (sims_drop (sim_extend (sim_var 2) (sim_cons (sim_lc (simi_seqP (sim_call (sim_cons (sim_var 1) (sim_cons (sim_op simr_ixP (sim_var 4) sim_int) sim_nil)))) (simg_name 5) go_name sim_yes (sim_tup (sim_cons (sim_var 3) (sim_cons (sim_var 5) sim_nil)))) sim_nil)))) (sims_ret (sim_var 2))))))
abbrev s_q_usual : Stmt := topS 48
abbrev nl_q_usual : List Str := ["_law_names", "_law_some", "_law_rows"]
theorem sc_q_usual : FnScope nl_q_usual [] (defScope s_q_usual) := ⟨rfl, rfl, rfl, by decide +kernel, rfl, by decide +kernel, by decide +kernel⟩
def r_q_usual : SF := (sSeq (sAsg (eTup (eCons (eC (.str [105, 115])) (eCons (eC (.str [105, 120])) (eCons (eC (.str [115])) (eCons (eC (.str [117])) (eCons (eC (.str [115, 105, 120])) (eCons (eC (.str [120])) eNil))))))) (gfName 0)) (sSeq (sAsg (eTup (eCons (eTup (eCons (eC (.str [105, 115])) (eCons (eC (.str [105, 115])) eNil))) (eCons (eTup (eCons (eC (.str [105, 115])) (eCons (eC (.str [105, 120])) eNil))) (eCons (eTup (eCons (eC (.str [105, 115])) (eCons (eC (.str [115])) eNil))) (eCons (eTup (eCons (eC (.str [105, 115])) (eCons (eC (.str [117])) eNil))) (eCons (eTup (eCons (eC (.str [105, 115])) (eCons (eC (.str [115, 105, 120])) eNil))) (eCons (eTup (eCons (eC (.str [105, 120])) (eCons (eC (.str [105, 115])) eNil))) (eCons (eTup (eCons (eC (.str [105, 120])) (eCons (eC (.str [105, 120])) eNil))) eNil)))))))) (gfName 1)) (sSeq (sAsg (eOp gAdd (eVar 1) (eTup (eCons (eTup (eCons (eC (.str [115])) (eCons (eC (.str [105, 115])) eNil))) (eCons (eTup (eCons (eC (.str [115])) (eCons (eC (.str [115])) eNil))) (eCons (eTup (eCons (eC (.str [115])) (eCons (eC (.str [117])) eNil))) (eCons (eTup (eCons (eC (.str [117])) (eCons (eC (.str [105, 115])) eNil))) (eCons (eTup (eCons (eC (.str [117])) (eCons (eC (.str [115])) eNil))) (eCons (eTup (eCons (eC (.str [115, 105, 120])) (eCons (eC (.str [105, 115])) eNil))) eNil)))))))) (gfName 1)) (sSeq (sAsg (eTup (eCons (eTup (eCons (eC (.str [105, 115])) (eCons (eC (.str [105, 120])) (eCons (eC (.str [105, 120])) eNil)))) (eCons (eTup (eCons (eC (.str [105, 115])) (eCons (eC (.str [115])) (eCons (eC (.str [115])) eNil)))) (eCons (eTup (eCons (eC (.str [105, 115])) (eCons (eC (.str [117])) (eCons (eC (.str [117])) eNil)))) (eCons (eTup (eCons (eC (.str [105, 115])) (eCons (eC (.str [115, 105, 120])) (eCons (eC (.str [115, 105, 120])) eNil)))) (eCons (eTup (eCons (eC (.str [105, 115])) (eCons (eC (.str [120])) (eCons (eC (.str [120])) eNil)))) eNil)))))) (gfName 2)) (sSeq (sAsg (eOp gAdd (eVar 2) (eTup (eCons (eTup (eCons (eC (.str [105, 120])) (eCons (eC (.str [115])) (eCons (eC (.str [115, 105, 120])) eNil)))) (eCons (eTup (eCons (eC (.str [105, 120])) (eCons (eC (.str [117])) (eCons (eC (.str [115, 105, 120])) eNil)))) (eCons (eTup (eCons (eC (.str [105, 120])) (eCons (eC (.str [115, 105, 120])) (eCons (eC (.str [115, 105, 120])) eNil)))) (eCons (eTup (eCons (eC (.str [105, 120])) (eCons (eC (.str [120])) (eCons (eC (.str [120])) eNil)))) (eCons (eTup (eCons (eC (.str [115])) (eCons (eC (.str [117])) (eCons (eC (.str [117])) eNil)))) eNil))))))) (gfName 2)) (sSeq (sAsg (eOp gAdd (eVar 2) (eTup (eCons (eTup (eCons (eC (.str [115])) (eCons (eC (.str [115, 105, 120])) (eCons (eC (.str [115, 105, 120])) eNil)))) (eCons (eTup (eCons (eC (.str [115])) (eCons (eC (.str [120])) (eCons (eC (.str [120])) eNil)))) (eCons (eTup (eCons (eC (.str [117])) (eCons (eC (.str [115, 105, 120])) (eCons (eC (.str [115, 105, 120])) eNil)))) (eCons (eTup (eCons (eC (.str [117])) (eCons (eC (.str [120])) (eCons (eC (.str [120])) eNil)))) (eCons (eTup (eCons (eC (.str [115, 105, 120])) (eCons (eC (.str [120])) (eCons (eC (.str [120])) eNil)))) eNil))))))) (gfName 2)) (sRet (eTup (eCons (eVar 0) (eCons (eVar 1) (eCons (eVar 2) eNil)))))))))))
def f_q_usual : FF := body 3 r_q_usual
abbrev Pr_q_usual (P : Program) (w : World) (K : PySem.W.Frag) (mg : Str → Option Value) (base : Heap) : Prop := Pr P w K mg base "_law_usual" 1 [] (spQ K 0 (fn 0 f_q_usual))
theorem ok_q_usual {f : Addr} {fd : FuncData} (F : Fun K "_law_usual" "_law_usual" s_q_usual f fd) (B : Blt mg) (D : Glo K mg) (FL : Flds K)  : FnOk P w K mg base (L2.CX P w) 1 f fd [] (spQ K 0 (fn 0 f_q_usual)) := by
  have nd := sc_q_usual.nd
  refine fun_ok F sc_q_usual rfl rfl fun cdv A outer s H E hr => ?_
  refine ⟨_, (pss_cons (ps_set (i := 0) nd rfl (.inl rfl) (pe_tup (pa_cons pe_str (pa_cons pe_str (pa_cons pe_str (pa_cons pe_str (pa_cons pe_str (pa_cons pe_str pa_nil)))))))) (pss_cons (ps_set (i := 1) nd rfl (.inl rfl) (pe_tup (pa_cons (pe_tup (pa_cons pe_str (pa_cons pe_str pa_nil))) (pa_cons (pe_tup (pa_cons pe_str (pa_cons pe_str pa_nil))) (pa_cons (pe_tup (pa_cons pe_str (pa_cons pe_str pa_nil))) (pa_cons (pe_tup (pa_cons pe_str (pa_cons pe_str pa_nil))) (pa_cons (pe_tup (pa_cons pe_str (pa_cons pe_str pa_nil))) (pa_cons (pe_tup (pa_cons pe_str (pa_cons pe_str pa_nil))) (pa_cons (pe_tup (pa_cons pe_str (pa_cons pe_str pa_nil))) pa_nil))))))))) (pss_cons (ps_set (i := 1) nd rfl (.inl rfl) (pe_op op_addQ (pv 1) (pe_tup (pa_cons (pe_tup (pa_cons pe_str (pa_cons pe_str pa_nil))) (pa_cons (pe_tup (pa_cons pe_str (pa_cons pe_str pa_nil))) (pa_cons (pe_tup (pa_cons pe_str (pa_cons pe_str pa_nil))) (pa_cons (pe_tup (pa_cons pe_str (pa_cons pe_str pa_nil))) (pa_cons (pe_tup (pa_cons pe_str (pa_cons pe_str pa_nil))) (pa_cons (pe_tup (pa_cons pe_str (pa_cons pe_str pa_nil))) pa_nil))))))))) (pss_cons (ps_set (i := 2) nd rfl (.inl rfl) (pe_tup (pa_cons (pe_tup (pa_cons pe_str (pa_cons pe_str (pa_cons pe_str pa_nil)))) (pa_cons (pe_tup (pa_cons pe_str (pa_cons pe_str (pa_cons pe_str pa_nil)))) (pa_cons (pe_tup (pa_cons pe_str (pa_cons pe_str (pa_cons pe_str pa_nil)))) (pa_cons (pe_tup (pa_cons pe_str (pa_cons pe_str (pa_cons pe_str pa_nil)))) (pa_cons (pe_tup (pa_cons pe_str (pa_cons pe_str (pa_cons pe_str pa_nil)))) pa_nil))))))) (pss_cons (ps_set (i := 2) nd rfl (.inl rfl) (pe_op op_addQ (pv 2) (pe_tup (pa_cons (pe_tup (pa_cons pe_str (pa_cons pe_str (pa_cons pe_str pa_nil)))) (pa_cons (pe_tup (pa_cons pe_str (pa_cons pe_str (pa_cons pe_str pa_nil)))) (pa_cons (pe_tup (pa_cons pe_str (pa_cons pe_str (pa_cons pe_str pa_nil)))) (pa_cons (pe_tup (pa_cons pe_str (pa_cons pe_str (pa_cons pe_str pa_nil)))) (pa_cons (pe_tup (pa_cons pe_str (pa_cons pe_str (pa_cons pe_str pa_nil)))) pa_nil)))))))) (pss_cons (ps_set (i := 2) nd rfl (.inl rfl) (pe_op op_addQ (pv 2) (pe_tup (pa_cons (pe_tup (pa_cons pe_str (pa_cons pe_str (pa_cons pe_str pa_nil)))) (pa_cons (pe_tup (pa_cons pe_str (pa_cons pe_str (pa_cons pe_str pa_nil)))) (pa_cons (pe_tup (pa_cons pe_str (pa_cons pe_str (pa_cons pe_str pa_nil)))) (pa_cons (pe_tup (pa_cons pe_str (pa_cons pe_str (pa_cons pe_str pa_nil)))) (pa_cons (pe_tup (pa_cons pe_str (pa_cons pe_str (pa_cons pe_str pa_nil)))) pa_nil)))))))) (pss_one (ps_ret (pe_tup (pa_cons (pv 0) (pa_cons (pv 1) (pa_cons (pv 2) pa_nil)))))))))))), ?_⟩
  exact (sims_seq (sims_asg (sim_tup (sim_cons (sim_str (by decide +kernel)) (sim_cons (sim_str (by decide +kernel)) (sim_cons (sim_str (by decide +kernel)) (sim_cons (sim_str (by decide +kernel)) (sim_cons (sim_str (by decide +kernel)) (sim_cons (sim_str (by decide +kernel)) sim_nil))))))) (simg_name 0)) (sims_seq (sims_asg (sim_tup (sim_cons (sim_tup (sim_cons (sim_str (by decide +kernel)) (sim_cons (sim_str (by decide +kernel)) sim_nil))) (sim_cons (sim_tup (sim_cons (sim_str (by decide +kernel)) (sim_cons (sim_str (by decide +kernel)) sim_nil))) (sim_cons (sim_tup (sim_cons (sim_str (by decide +kernel)) (sim_cons (sim_str (by decide +kernel)) sim_nil))) (sim_cons (sim_tup (sim_cons (sim_str (by decide +kernel)) (sim_cons (sim_str (by decide +kernel)) sim_nil))) (sim_cons (sim_tup (sim_cons (sim_str (by decide +kernel)) (sim_cons (sim_str (by decide +kernel)) sim_nil))) (sim_cons (sim_tup (sim_cons (sim_str (by decide +kernel)) (sim_cons (sim_str (by decide +kernel)) sim_nil))) (sim_cons (sim_tup (sim_cons (sim_str (by decide +kernel)) (sim_cons (sim_str (by decide +kernel)) sim_nil))) sim_nil)))))))) (simg_name 1)) (sims_seq (sims_asg (sim_op simr_add (sim_var 1) (sim_tup (sim_cons (sim_tup (sim_cons (sim_str (by decide +kernel)) (sim_cons (sim_str (by decide +kernel)) sim_nil))) (sim_cons (sim_tup (sim_cons (sim_str (by decide +kernel)) (sim_cons (sim_str (by decide +kernel)) sim_nil))) (sim_cons (sim_tup (sim_cons (sim_str (by decide +kernel)) (sim_cons (sim_str (by decide +kernel)) sim_nil))) (sim_cons (sim_tup (sim_cons (sim_str (by decide +kernel)) (sim_cons (sim_str (by decide +kernel)) sim_nil))) (sim_cons (sim_tup (sim_cons (sim_str (by decide +kernel)) (sim_cons (sim_str (by decide +kernel)) sim_nil))) (sim_cons (sim_tup (sim_cons (sim_str (by decide +kernel)) (sim_cons (sim_str (by decide +kernel)) sim_nil))) sim_nil)))))))) (simg_name 1)) (sims_seq (sims_asg (sim_tup (sim_cons (sim_tup (sim_cons (sim_str (by decide +kernel)) (sim_cons (sim_str (by decide +kernel)) (sim_cons (sim_str (by decide +kernel)) sim_nil)))) (sim_cons (sim_tup (sim_cons (sim_str (by decide +kernel)) (sim_cons (sim_str (by decide +kernel)) (sim_cons (sim_str (by decide +kernel)) sim_nil)))) (sim_cons (sim_tup (sim_cons (sim_str (by decide +kernel)) (sim_cons (sim_str (by decide +kernel)) (sim_cons (sim_str (by decide +kernel)) sim_nil)))) (sim_cons (sim_tup (sim_cons (sim_str (by decide +kernel)) (sim_cons (sim_str (by decide +kernel)) (sim_cons (sim_str (by decide +kernel)) sim_nil)))) (sim_cons (sim_tup (sim_cons (sim_str (by decide +kernel)) (sim_cons (sim_str (by decide +kernel)) (sim_cons (sim_str (by decide +kernel)) sim_nil)))) sim_nil)))))) (simg_name 2)) (sims_seq (sims_asg (sim_op simr_add (sim_var 2) (sim_tup (sim_cons (sim_tup (sim_cons (sim_str (by decide +kernel)) (sim_cons (sim_str (by decide +kernel)) (sim_cons (sim_str (by decide +kernel)) sim_nil)))) (sim_cons (sim_tup (sim_cons (sim_str (by decide +kernel)) (sim_cons (sim_str (by decide +kernel)) (sim_cons (sim_str (by decide +kernel)) sim_nil)))) (sim_cons (sim_tup (sim_cons (sim_str (by decide +kernel)) (sim_cons (sim_str (by decide +kernel)) (sim_cons (sim_str (by decide +kernel)) sim_nil)))) (sim_cons (sim_tup (sim_cons (sim_str (by decide +kernel)) (sim_cons (sim_str (by decide +kernel)) (sim_cons (sim_str (by decide +kernel)) sim_nil)))) (sim_cons (sim_tup (sim_cons (sim_str (by decide +kernel)) (sim_cons (sim_str (by decide +kernel)) (sim_cons (sim_str (by decide +kernel)) sim_nil)))) sim_nil))))))) (simg_name 2)) (sims_seq (sims_asg (sim_op simr_add (sim_var 2) (sim_tup (sim_cons (sim_tup (sim_cons (sim_str (by decide +kernel)) (sim_cons (sim_str (by decide +kernel)) (sim_cons (sim_str (by decide +kernel)) sim_nil)))) (sim_cons (sim_tup (sim_cons (sim_str (by decide +kernel)) (sim_cons (sim_str (by decide +kernel)) (sim_cons (sim_str (by decide +kernel)) sim_nil)))) (sim_cons (sim_tup (sim_cons (sim_str (by decide +kernel)) (sim_cons (sim_str (by decide +kernel)) (sim_cons (sim_str (by decide +kernel)) sim_nil)))) (sim_cons (sim_tup (sim_cons (sim_str (by decide +kernel)) (sim_cons (sim_str (by decide +kernel)) (sim_cons (sim_str (by decide +kernel)) sim_nil)))) (sim_cons (sim_tup (sim_cons (sim_str (by decide +kernel)) (sim_cons (sim_str (by decide +kernel)) (sim_cons (sim_str (by decide +kernel)) sim_nil)))) sim_nil))))))) (simg_name 2)) (sims_ret (sim_tup (sim_cons (sim_var 0) (sim_cons (sim_var 1) (sim_cons (sim_var 2) sim_nil)))))))))))
abbrev s_q_long : Stmt := topS 52
abbrev nl_q_long : List Str := ["_law_letters"]
theorem sc_q_long : FnScope nl_q_long ["_law_letters"] (defScope s_q_long) := ⟨rfl, rfl, rfl, by decide +kernel, rfl, by decide +kernel, by decide +kernel⟩
def r_q_long : SF := (sRet (eSl (eOp gAdd (eVar 0) (eC (.str [97, 98, 99, 100, 101, 102, 103, 104, 105, 106, 107, 108]))) eoN (eoI (eC (.int 12)))))
def f_q_long : FF := body 1 r_q_long
abbrev Pr_q_long (P : Program) (w : World) (K : PySem.W.Frag) (mg : Str → Option Value) (base : Heap) : Prop := Pr P w K mg base "_law_long" 1 ["_law_letters"] (spQ K 1 (fn 1 f_q_long))
theorem ok_q_long {f : Addr} {fd : FuncData} (F : Fun K "_law_long" "_law_long" s_q_long f fd) (B : Blt mg) (D : Glo K mg) (FL : Flds K)  : FnOk P w K mg base (L2.CX P w) 1 f fd ["_law_letters"] (spQ K 1 (fn 1 f_q_long)) := by
  have nd := sc_q_long.nd
  refine fun_ok F sc_q_long rfl rfl fun cdv A outer s H E hr => ?_
  refine ⟨_, (pss_one (ps_ret (pe_slice (sl_Q) (pe_op op_addQ (pv 0) pe_str) po_none (po_some pe_int)))), ?_⟩
  exact (sims_ret (sim_sl (sim_op simr_add (sim_var 0) (sim_str (by decide +kernel))) simo_none (simo_some sim_int)))
abbrev s_q_full : Stmt := topS 53
abbrev nl_q_full : List Str := ["_law_source_here", "_law_many", "_law_size", "_law_width", "_law_fixed", "_law_items", "_law_params", "_law_orders", "_law_names", "_law_found", "_law_k", "_law_steps", "_law_param", "_law_j"]
theorem sc_q_full : FnScope nl_q_full ["_law_source_here", "_law_many", "_law_size", "_law_width", "_law_fixed"] (defScope s_q_full) := ⟨rfl, rfl, rfl, by decide +kernel, rfl, by decide +kernel, by decide +kernel⟩
def r_q_full : SF := (sSeq (sAsg (eTupOf (eLc (eRng1 (eCons (eVar 4) eNil)) (gfName 10) eYes (eCall (fn 1 f_q_long) (eCons (eOp gAdd (eC (.str [102, 105, 120, 101, 100])) (eOp gIxP (eC (.str [118, 119, 120, 121, 122])) (eVar 10))) eNil)) [10])) (gfName 5)) (sSeq (sAsg (eTupOfF (eLc (eRng1 (eCons (eVar 3) eNil)) (gfName 10) eYes (eTup (eCons (eCall (fn 1 f_q_long) (eCons (eOp gAdd (eC (.str [112, 97, 114, 97, 109])) (eOp gIxP (eC (.str [118, 119, 120, 121, 122])) (eVar 10))) eNil)) (eCons (eCall (fn 1 f_q_long) (eCons (eC (.str [116, 97, 98, 108, 101])) eNil)) eNil))) [10])) (gfName 6)) (sSeq (sAsg (eTupOf (eLc (eRng1 (eCons (eOp (gI (· - ·)) (eVar 3) (eC (.int 1))) eNil)) (gfName 10) eYes (eTup (eCons (eOp gIxP (eOp gIxP (eVar 6) (eVar 10)) (eC (.int 0))) (eCons (eOp gIxP (eOp gIxP (eVar 6) (eOp gAdd (eVar 10) (eC (.int 1)))) (eC (.int 0))) eNil))) [10])) (gfName 7)) (sSeq (sAsg (eOp gAdd (eLc (eSeqP (eVar 6)) (gfName 12) eYes (eOp gIxP (eVar 12) (eC (.int 0))) [12]) (eCB gList (eCons (eVar 5) eNil))) (gfName 8)) (sSeq (sAsg (eLst eNil) (gfName 9)) (sSeq (sFor (eRng1 (eCons (eVar 1) eNil)) (gfName 10) (sSeq (sAsg (eTupOf (eLc (eRng1 (eCons (eVar 2) eNil)) (gfName 13) eYes (eTup (eCons (eC (.str [108, 111, 99, 107])) (eCons (eOp gIxP (eVar 8) (eOp (gIC cPos (· % ·)) (eVar 13) (eCB gLenP (eCons (eVar 8) eNil)))) (eCons (eOp gIxP (eLst (eCons (eC (.str [105, 115])) (eCons (eC (.str [120])) eNil))) (eOp (gIC cDiv (· / ·)) (eVar 13) (eCB gLenP (eCons (eVar 8) eNil)))) eNil)))) [13])) (gfName 11)) (sDrop (eAppend (eVar 9) (eCons (eTup (eCons (eCall (fn 1 f_q_long) (eCons (eOp gIxP (eC (.str [116, 117, 118, 119, 120, 121, 122])) (eVar 10)) eNil)) (eCons (eVar 6) (eCons (eVar 7) (eCons (eVar 11) eNil))))) eNil))))) (sRet (eTup (eCons (eCall (fn 0 f_q_usual) eNil) (eCons (eVar 5) (eCons (eTupOf (eVar 9)) eNil)))))))))))
def f_q_full : FF := body 14 r_q_full
abbrev Pr_q_full (P : Program) (w : World) (K : PySem.W.Frag) (mg : Str → Option Value) (base : Heap) : Prop := Pr P w K mg base "_law_full" 2 ["_law_source_here", "_law_many", "_law_size", "_law_width", "_law_fixed"] (spQ K 5 (fn 5 f_q_full))
theorem ok_q_full {f : Addr} {fd : FuncData} (F : Fun K "_law_full" "_law_full" s_q_full f fd) (B : Blt mg) (D : Glo K mg) (FL : Flds K) (P_q_long : Pr_q_long P w K mg base) (P_q_usual : Pr_q_usual P w K mg base) : FnOk P w K mg base (L2.CX P w) 2 f fd ["_law_source_here", "_law_many", "_law_size", "_law_width", "_law_fixed"] (spQ K 5 (fn 5 f_q_full)) := by
  obtain ⟨a_q_long, d_q_long, m_q_long, k_q_long, b_q_long, G_q_long⟩ := P_q_long
  obtain ⟨a_q_usual, d_q_usual, m_q_usual, k_q_usual, b_q_usual, G_q_usual⟩ := P_q_usual
  have nd := sc_q_full.nd
  refine fun_ok F sc_q_full rfl rfl fun cdv A outer s H E hr => ?_
  have hu1 : (A.deeper (PyProof.Rows.envOfC "_law_full" (defScope s_q_full) s.heap.objs.size f cdv)).units + 1 < cLine := by have := hr.un; omega
  refine ⟨_, (pss_cons (ps_set (i := 5) nd rfl (.inl rfl) (pe_tupleOf (by rfl) B.tuple (pe_lc (own := [("_law_k", 10)]) (g := (gName 10)) (tt := tYes) rfl nd (pi_range1 (by rfl) B.range (pa_cons (pv 4) pa_nil)) (blkOk_by (N := nl_q_full) (sc := defScope s_q_full) (own := [("_law_k", 10)]) (by decide +kernel)) (fun _ _ _ _ _ => (pg_name (i := 10) nd rfl (.inl rfl))) (fun _ _ _ _ _ => pts_nil) (fun _ _ _ _ _ => (pe_call G_q_long (hr.mono (by decide)) (by rfl) m_q_long k_q_long b_q_long .nil passL (pa_cons (pe_op (show OpR _ (binaryOp .Add) (rAddQ K) from op_addQ) pe_str (pe_ix (show IxR _ (rIxQ K) from ix_Q hu1) pe_str (pv 10) (fun _ _ => rfl))) pa_nil)))))) (pss_cons (ps_set (i := 6) nd rfl (.inr rfl) (pe_tupleOfF (by rfl) B.tuple (pe_lc (own := [("_law_k", 10)]) (g := (gName 10)) (tt := tYes) rfl nd (pi_range1 (by rfl) B.range (pa_cons (pv 3) pa_nil)) (blkOk_by (N := nl_q_full) (sc := defScope s_q_full) (own := [("_law_k", 10)]) (by decide +kernel)) (fun _ _ _ _ _ => (pg_name (i := 10) nd rfl (.inl rfl))) (fun _ _ _ _ _ => pts_nil) (fun _ _ _ _ _ => (pe_tup (pa_cons (pe_call G_q_long (hr.mono (by decide)) (by rfl) m_q_long k_q_long b_q_long .nil passL (pa_cons (pe_op (show OpR _ (binaryOp .Add) (rAddQ K) from op_addQ) pe_str (pe_ix (show IxR _ (rIxQ K) from ix_Q hu1) pe_str (pv 10) (fun _ _ => rfl))) pa_nil)) (pa_cons (pe_call G_q_long (hr.mono (by decide)) (by rfl) m_q_long k_q_long b_q_long .nil passL (pa_cons pe_str pa_nil)) pa_nil))))))) (pss_cons (ps_set (i := 7) nd rfl (.inl rfl) (pe_tupleOf (by rfl) B.tuple (pe_lc (own := [("_law_k", 10)]) (g := (gName 10)) (tt := tYes) rfl nd (pi_range1 (by rfl) B.range (pa_cons (pe_op op_sub (pv 3) pe_int) pa_nil)) (blkOk_by (N := nl_q_full) (sc := defScope s_q_full) (own := [("_law_k", 10)]) (by decide +kernel)) (fun _ _ _ _ _ => (pg_name (i := 10) nd rfl (.inl rfl))) (fun _ _ _ _ _ => pts_nil) (fun _ _ _ _ _ => (pe_tup (pa_cons (pe_ix (show IxR _ (rIxQ K) from ix_Q hu1) (pe_ix (show IxR _ (rIxQ K) from ix_Q hu1) (pv 6) (pv 10) (fun _ _ => rfl)) pe_int (fun _ _ => rfl)) (pa_cons (pe_ix (show IxR _ (rIxQ K) from ix_Q hu1) (pe_ix (show IxR _ (rIxQ K) from ix_Q hu1) (pv 6) (pe_op (show OpR _ (binaryOp .Add) (rAddQ K) from op_addQ) (pv 10) pe_int) (fun _ _ => rfl)) pe_int (fun _ _ => rfl)) pa_nil))))))) (pss_cons (ps_set (i := 8) nd rfl (.inr rfl) (pe_op op_addQ (pe_lc (own := [("_law_param", 12)]) (g := (gName 12)) (tt := tYes) rfl nd (pi_seq (pv 6)) (blkOk_by (N := nl_q_full) (sc := defScope s_q_full) (own := [("_law_param", 12)]) (by decide +kernel)) (fun _ _ _ _ _ => (pg_name (i := 12) nd rfl (.inl rfl))) (fun _ _ _ _ _ => pts_nil) (fun _ _ _ _ _ => (pe_ix (show IxR _ (rIxQ K) from ix_Q hu1) (pv 12) pe_int (fun _ _ => rfl)))) (pe_callTy (call_listQ rfl) (by rfl) B.list (by decide +kernel) (pa_cons (pv 5) pa_nil)))) (pss_cons (ps_set (i := 9) nd rfl (.inl rfl) (pe_lst pa_nil)) (pss_cons (ps_for (passes_of rfl) rfl (pi_range1 (by rfl) B.range (pa_cons (pv 1) pa_nil)) (pg_name (i := 10) nd rfl (.inl rfl)) (pss_cons (ps_set (i := 11) nd rfl (.inl rfl) (pe_tupleOf (by rfl) B.tuple (pe_lc (own := [("_law_j", 13)]) (g := (gName 13)) (tt := tYes) rfl nd (pi_range1 (by rfl) B.range (pa_cons (pv 2) pa_nil)) (blkOk_by (N := nl_q_full) (sc := defScope s_q_full) (own := [("_law_j", 13)]) (by decide +kernel)) (fun _ _ _ _ _ => (pg_name (i := 13) nd rfl (.inl rfl))) (fun _ _ _ _ _ => pts_nil) (fun _ _ _ _ _ => (pe_tup (pa_cons pe_str (pa_cons (pe_ix (show IxR _ (rIxQ K) from ix_Q hu1) (pv 8) (pe_op op_mod (pv 13) (pe_callB (show CallR _ (.builtin "len") (rLenQ K) from call_lenQ) (by rfl) B.len (by decide +kernel) (pa_cons (pv 8) pa_nil))) (fun _ _ => rfl)) (pa_cons (pe_ix (show IxR _ (rIxQ K) from ix_Q hu1) (pe_lst (pa_cons pe_str (pa_cons pe_str pa_nil))) (pe_op op_fdiv (pv 13) (pe_callB (show CallR _ (.builtin "len") (rLenQ K) from call_lenQ) (by rfl) B.len (by decide +kernel) (pa_cons (pv 8) pa_nil))) (fun _ _ => rfl)) pa_nil)))))))) (pss_one (ps_expr (pe_bm PySem.F.plainAttrs_list PySem.F.slot_list_append PySem.F.type_list_append mt_append (pv 9) (pa_cons (pe_tup (pa_cons (pe_call G_q_long (hr.mono (by decide)) (by rfl) m_q_long k_q_long b_q_long .nil (passes_call (takes_of rfl rfl rfl rfl) (fun _ _ _ _ h => h)) (pa_cons (pe_ix (ix_Q hu1) pe_str (pv 10) (fun _ _ => rfl)) pa_nil)) (pa_cons (pv 6) (pa_cons (pv 7) (pa_cons (pv 11) pa_nil))))) pa_nil)))))) (pss_one (ps_ret (pe_tup (pa_cons (pe_call0 G_q_usual (hr.mono (by decide)) (by rfl) m_q_usual k_q_usual b_q_usual .nil (passes_call (takes_of rfl rfl rfl rfl) (fun _ _ _ _ h => h))) (pa_cons (pv 5) (pa_cons (pe_tupleOf (by rfl) B.tuple (pv 9)) pa_nil)))))))))))), ?_⟩
  exact (sims_seq (sims_asg (sim_tupOf (sim_lc (simi_rng1 (sim_cons (sim_var 4) sim_nil)) (simg_name 10) go_name sim_yes (sim_call (sim_cons (sim_op simr_add (sim_str (by decide +kernel)) (sim_op simr_ixP (sim_str (by decide +kernel)) (sim_var 10))) sim_nil)))) (simg_name 5)) (sims_seq (sims_asg (sim_tupOfF (sim_lc (simi_rng1 (sim_cons (sim_var 3) sim_nil)) (simg_name 10) go_name sim_yes (sim_tup (sim_cons (sim_call (sim_cons (sim_op simr_add (sim_str (by decide +kernel)) (sim_op simr_ixP (sim_str (by decide +kernel)) (sim_var 10))) sim_nil)) (sim_cons (sim_call (sim_cons (sim_str (by decide +kernel)) sim_nil)) sim_nil))))) (simg_name 6)) (sims_seq (sims_asg (sim_tupOf (sim_lc (simi_rng1 (sim_cons (sim_op simr_sub (sim_var 3) sim_int) sim_nil)) (simg_name 10) go_name sim_yes (sim_tup (sim_cons (sim_op simr_ixP (sim_op simr_ixP (sim_var 6) (sim_var 10)) sim_int) (sim_cons (sim_op simr_ixP (sim_op simr_ixP (sim_var 6) (sim_op simr_add (sim_var 10) sim_int)) sim_int) sim_nil))))) (simg_name 7)) (sims_seq (sims_asg (sim_op simr_add (sim_lc (simi_seqP (sim_var 6)) (simg_name 12) go_name sim_yes (sim_op simr_ixP (sim_var 12) sim_int)) (sim_cb simc_list (sim_cons (sim_var 5) sim_nil))) (simg_name 8)) (sims_seq (sims_asg (sim_lst sim_nil) (simg_name 9)) (sims_seq (sims_for (simi_rng1 (sim_cons (sim_var 1) sim_nil)) (simg_name 10) (sims_seq (sims_asg (sim_tupOf (sim_lc (simi_rng1 (sim_cons (sim_var 2) sim_nil)) (simg_name 13) go_name sim_yes (sim_tup (sim_cons (sim_str (by decide +kernel)) (sim_cons (sim_op simr_ixP (sim_var 8) (sim_op simr_mod (sim_var 13) (sim_cb simc_lenP (sim_cons (sim_var 8) sim_nil)))) (sim_cons (sim_op simr_ixP (sim_lst (sim_cons (sim_str (by decide +kernel)) (sim_cons (sim_str (by decide +kernel)) sim_nil))) (sim_op simr_fdiv (sim_var 13) (sim_cb simc_lenP (sim_cons (sim_var 8) sim_nil)))) sim_nil)))))) (simg_name 11)) (sims_drop (sim_append (sim_var 9) (sim_cons (sim_tup (sim_cons (sim_call (sim_cons (sim_op simr_ixP (sim_str (by decide +kernel)) (sim_var 10)) sim_nil)) (sim_cons (sim_var 6) (sim_cons (sim_var 7) (sim_cons (sim_var 11) sim_nil))))) sim_nil))))) (sims_ret (sim_tup (sim_cons (sim_call sim_nil) (sim_cons (sim_var 5) (sim_cons (sim_tupOf (sim_var 9)) sim_nil)))))))))))
end
end K15
namespace K15
open PySem L2 QE
abbrev sSaid : Stmt := topS 51
/-- what the suite needs of the classes -/
structure Sfx (P : Program) (K : PySem.W.Frag) (mg : Str → Option Value) : Prop where
  isi : mg "isinstance" = none
  hS : ∃ S, mg "StuckError" = some (.ref S) ∧ ∀ A, (PySem.W.nsIn K mainGlobals (st [73, 110, 118, 97, 108, 105, 100, 84, 101, 109, 112, 108, 97, 116, 101]) = some (some (.ref A)) ∨ PySem.W.nsIn K mainGlobals (st [73, 110, 118, 97, 108, 105, 100, 83, 121, 115, 116, 101, 109]) = some (some (.ref A))) → PySem.W.exmOne K (.ref A) (.ref S) = some true
  G : PySem.XE.XG0 K
  T : ∃ A B, mg "InvalidTemplate" = some (.ref A) ∧ PySem.W.nsIn K mainGlobals (st [73, 110, 118, 97, 108, 105, 100, 84, 101, 109, 112, 108, 97, 116, 101]) = some (some (.ref A)) ∧ ErrC K A ∧ PySem.W.kitOne K (.ref A) (.ref A) = some true ∧
    PySem.W.findIn K (.ref A) "template" = some none ∧ PySem.W.findIn K (.ref A) "step" = some none ∧
    mg "InvalidSystem" = some (.ref B) ∧ PySem.W.nsIn K mainGlobals (st [73, 110, 118, 97, 108, 105, 100, 83, 121, 115, 116, 101, 109]) = some (some (.ref B)) ∧ ErrC K B ∧ PySem.W.kitOne K (.ref B) (.ref A) = some false ∧ PySem.W.kitOne K (.ref B) (.ref B) = some true ∧ PySem.W.findIn K (.ref B) "part" = some none
def nT : Nm := [73, 110, 118, 97, 108, 105, 100, 84, 101, 109, 112, 108, 97, 116, 101]
def nS : Nm := [73, 110, 118, 97, 108, 105, 100, 83, 121, 115, 116, 101, 109]
def n_template : Nm := [116, 101, 109, 112, 108, 97, 116, 101]
def n_step : Nm := [115, 116, 101, 112]
def n_part : Nm := [112, 97, 114, 116]
def n_system : Nm := [115, 121, 115, 116, 101, 109]
/-- the suite -/
def suiteQ (C : Nm) (fs : List (Nm × U)) : Option U := match nmEq C nT with
  | true => (match lookF fs n_template, lookF fs n_step with | some a, some b => some (.tup [.str n_template, a, b]) | _, _ => none)
  | false => (match nmEq C nS with
    | true => (match lookF fs n_part with | some a => some (.tup [.str n_system, a]) | none => none)
    | false => none)
def r_q_said : SF := fun env h => match env[0]?, env[1]? with
  | some (some u), some _ => (match fn 1 f_check_system [u] h with
    | some (.ok v, h') => some (.rt v, env, h')
    | some (.ex C fs, h') => (match suiteQ C fs with | some v => some (.rt v, env, h') | none => none)
    | none => none)
  | _, _ => none
def f_q_said : FF := body 2 r_q_said
theorem re_len {K : PySem.W.Frag} {m : Mp} {H : Hp} : ∀ {r : QE.Env} {σ : L2.St}, RE K m H r σ → r.length = σ.length
  | [], σ, q => by rw [show σ = [] from q]; rfl
  | none :: r, σ, q => by
    obtain ⟨o, s, rfl, q⟩ := q
    simp [re_len q]
  | some u :: r, σ, q => by
    obtain ⟨v, s, rfl, _, q⟩ := q
    simp [re_len q]
section
variable {P : Program} {w : World} {K : PySem.W.Frag} {mg : Str → Option Value} {base : Heap}
theorem sc_said : FnScope ["_law_plan", "error"] ["_law_plan"] (defScope sSaid) := ⟨rfl, rfl, rfl, by decide +kernel, rfl, by decide +kernel, by decide +kernel⟩
abbrev Pr_q_said (P : Program) (w : World) (K : PySem.W.Frag) (mg : Str → Option Value) (base : Heap) : Prop := Pr P w K mg base "_law_said" 7 ["_law_plan"] (spQ K 1 (fn 1 f_q_said))
theorem ok_q_said {f : Addr} {fd : FuncData} (F : Fun K "_law_said" "_law_said" sSaid f fd) (S : Sfx P K mg) (PC : Pr_check_system P w K mg base) : FnOk P w K mg base (L2.CX P w) 7 f fd ["_law_plan"] (spQ K 1 (fn 1 f_q_said)) := by
  obtain ⟨aC, dC, mC, kC, bC, GC⟩ := PC
  obtain ⟨Sa, hSa, exS⟩ := S.hS
  obtain ⟨AT, AS, mT, nsT, eT, kTT, fT1, fT2, mS, nsS, eS, kST, kSS, fS1⟩ := S.T
  have nd := sc_said.nd
  refine fun_ok F sc_said rfl rfl fun cdv A outer s H E hr => ?_
  refine ⟨_, pss_one (ps_try_as (i := 1) (Wout := fun cls d _ H => E cls d H) rfl rfl nd rfl rfl ⟨rfl, by decide, .inl hSa⟩ (takes_of rfl rfl rfl rfl)
    (fun W pn xe tk _ => pss_one (ps_ret (pe_callS GC (hr.mono (by decide)) (by rfl) mC kC bC (fun σ => passAt tk σ) (pa_cons (pv 0) pa_nil))))
    (fun a oe cls d pn hz hf => pss_cons (ps_if (pt_val (pe_callB (call_isiS (X := cxOf (L2.CX P w) P w K mg base ["_law_plan", "error"] "_law_said" (defScope sSaid) f cdv A outer s H E) (a := a) (oe := oe) (cls := cls) (d := d) (pn := pn) hz hf S.G) (by rfl) S.isi (by decide +kernel) (pa_cons (pv 1) (pa_cons (pe_glob (v := .ref AT) (by rfl) mT rfl) pa_nil))))
        (pss_one (ps_ret (pe_tup (pa_cons pe_str (pa_cons (pe_fldS (X := cxOf (L2.CX P w) P w K mg base ["_law_plan", "error"] "_law_said" (defScope sSaid) f cdv A outer s H E) (a := a) (oe := oe) (cls := cls) (d := d) (pn := pn) hz hf (pv 1)) (pa_cons (pe_fldS (X := cxOf (L2.CX P w) P w K mg base ["_law_plan", "error"] "_law_said" (defScope sSaid) f cdv A outer s H E) (a := a) (oe := oe) (cls := cls) (d := d) (pn := pn) hz hf (pv 1)) pa_nil)))))) pss_nil)
      (pss_cons (ps_if (pt_val (pe_callB (call_isiS (X := cxOf (L2.CX P w) P w K mg base ["_law_plan", "error"] "_law_said" (defScope sSaid) f cdv A outer s H E) (a := a) (oe := oe) (cls := cls) (d := d) (pn := pn) hz hf S.G) (by rfl) S.isi (by decide +kernel) (pa_cons (pv 1) (pa_cons (pe_glob (v := .ref AS) (by rfl) mS rfl) pa_nil))))
        (pss_one (ps_ret (pe_tup (pa_cons pe_str (pa_cons (pe_fldS (X := cxOf (L2.CX P w) P w K mg base ["_law_plan", "error"] "_law_said" (defScope sSaid) f cdv A outer s H E) (a := a) (oe := oe) (cls := cls) (d := d) (pn := pn) hz hf (pv 1)) pa_nil))))) pss_nil)
      (pss_one ps_never)))), ?_⟩
  intro m h env σ H' r D re R e o
  unfold r_q_said at e
  split at e
  · rename_i u o1 hu hu1
    obtain ⟨v, h1, h2⟩ := re.at hu
    refine ⟨v, h1, ?_⟩
    split at e
    · rename_i v2 h' e1
      cases e
      exact ⟨rfl, m, h, [u], _, ⟨v, [], rfl, h2, rfl⟩, R, e1, fun m' H2 v' x R' q => o m' H2 v' x R' q⟩
    · rename_i C fs h' e1
      split at e
      · rename_i v2 hv
        cases e
        refine ⟨rfl, m, h, [u], _, ⟨v, [], rfl, h2, rfl⟩, R, e1, fun m' H2 d vs A' x R' hd rf hA => ?_⟩
        have len : 1 < σ.length := by
          rw [← re_len re]
          exact (List.getElem?_eq_some_iff.mp hu1).1
        have at1 : ∀ a : Addr, (σ.set 1 (some (V.ref a)))[1]? = some (some (V.ref a)) := fun a => by rw [List.getElem?_set_self len]
        unfold suiteQ at hv
        split at hv
        · rename_i hC
          have eC := (nmEq_iff C nT).mp hC
          subst eC
          rw [show PySem.W.nsIn K mainGlobals (st nT) = some (some (.ref AT)) from nsT] at hA
          cases hA
          split at hv
          · rename_i a b ha hb
            cases hv
            obtain ⟨va, la, qa⟩ := (lookF_ok rf).1 a ha
            obtain ⟨vb, lb, qb⟩ := (lookF_ok rf).1 b hb
            have e1 : ("template" : Str) = st n_template := by decide +kernel
            have e2 : ("step" : Str) = st n_step := by decide +kernel
            refine ⟨true, exS AT (.inl nsT), fun _ a0 ha0 => ?_, fun q => nomatch q⟩
            refine ⟨_, at1 a0, AT, d, vs, _, _, true, rfl, rfl, rfl, hd, eT, .own AT, kTT, true, rfl, iteT ?_⟩
            refine ⟨_, at1 a0, rfl, AT, d, vs, va, rfl, rfl, eT, fT1, hd, by rw [e1]; exact la, ?_⟩
            refine ⟨_, at1 a0, rfl, AT, d, vs, vb, rfl, rfl, eT, fT2, hd, by rw [e2]; exact lb, ?_⟩
            refine ⟨by show 3 ≤ sizeLine; decide, fun p hp => ?_⟩
            obtain ⟨x2, R2⟩ := R'.fresh (o := .tup [.str "template", va, vb]) hp
            exact o m' _ _ (x.trans x2) R2 ⟨p, _, rfl, .of upd_same, _, _, rfl, (by rw [e1]; exact rfl), va, _, rfl, qa.mono x2, vb, [], rfl, qb.mono x2, rfl⟩
          · cases hv
        · split at hv
          · rename_i hC
            have eC := (nmEq_iff C nS).mp hC
            subst eC
            rw [show PySem.W.nsIn K mainGlobals (st nS) = some (some (.ref AS)) from nsS] at hA
            cases hA
            split at hv
            · rename_i a ha
              cases hv
              obtain ⟨va, la, qa⟩ := (lookF_ok rf).1 a ha
              have e1 : ("part" : Str) = st n_part := by decide +kernel
              have e2 : ("system" : Str) = st n_system := by decide +kernel
              refine ⟨true, exS AS (.inr nsS), fun _ a0 ha0 => ?_, fun q => nomatch q⟩
              refine ⟨_, at1 a0, AS, d, vs, _, _, false, rfl, rfl, rfl, hd, eS, .own AT, kST, false, rfl, iteF ?_⟩
              refine ⟨_, at1 a0, AS, d, vs, _, _, true, rfl, rfl, rfl, hd, eS, .own AS, kSS, true, rfl, iteT ?_⟩
              refine ⟨_, at1 a0, rfl, AS, d, vs, va, rfl, rfl, eS, fS1, hd, by rw [e1]; exact la, ?_⟩
              refine ⟨by show 2 ≤ sizeLine; decide, fun p hp => ?_⟩
              obtain ⟨x2, R2⟩ := R'.fresh (o := .tup [.str "system", va]) hp
              exact o m' _ _ (x.trans x2) R2 ⟨p, _, rfl, .of upd_same, _, _, rfl, (by rw [e2]; exact rfl), va, [], rfl, qa.mono x2, rfl⟩
            · cases hv
          · cases hv
      · cases e
    · cases e
  · cases e
end
end K15
/-! QW: a law run at the caller's place -/
namespace L2
open PySem PySem.Spec PyProof.Rows
/-- a def of one parameter, run at the caller's place -/
def AtTop (P : Program) (w : World) (K : PySem.W.Frag) (mg : Str → Option Value) (base : Heap) (f : Addr) (fd : FuncData) (x : Str) (sp : Sp) : Prop :=
  ∀ (s : Shared) (H : Hp) (a : Addr) (Q : VK) (E : XK), Env0 P w K mg base callerA [] s H → BindsTo s fd ⟨[.ref a], []⟩ [(x, .ref a)] → sp [.ref a] H Q E → codeAny (model P w) callerA (.call (.ref f) ⟨[.ref a], []⟩) (CR CX0 [] P w H s Q E) s
theorem Fun.atTop {P : Program} {w : World} {K : PySem.W.Frag} {mg : Str → Option Value} {base : Heap} {x qual : Str} {st : Stmt} {f : Addr} {fd : FuncData} {N : List Str} {p : Str} {sp : Sp} (F : Fun K x qual st f fd) (S : FnScope N [p] (defScope st))
    (body : ∀ (cdv : Value) (s : Shared) (H : Hp) (a : Addr) (Q : VK) (E : XK), sp [.ref a] H Q E →
      ∃ t, PSs (cxOf CX0 P w K mg base N qual (defScope st) f cdv callerA [] s H E).nox (defBody st) t ∧ t { nx := fun _ G => Q .non G, rt := Q } (start N [.ref a]) H) : AtTop P w K mg base f fd p sp := by
  obtain ⟨oc, od, kV, doc, pm, an, cdv, ct, osl, rfl, lk, hcd⟩ := F.ex
  intro s H a Q E e0 bt want
  have kin : K.In s.heap := e0.mod.kin.keeps fun b u e => (e0.bs b u e).1
  refine Att.call_fn (binds := [(p, .ref a)]) kin (e0.mod.nolimit.keeps fun b u e => (e0.bs b u e).1) lk hcd (by decide) bt ?_ (fun s1 ic => ?_) S.co S.gen S.kind
  · rcases S.par p (List.mem_singleton.mpr rfl) with q | q <;> simp [q]
  · obtain ⟨t, ht, hq⟩ := body cdv s H a Q E want
    have J := inv_start (CX := CX0) (us := [.ref a]) (vs := [.ref a]) (E := E) S rfl e0 rfl (.cons rfl .nil) ic
    refine wpAny_mono (ht.nox.run [] s1 _ H _ J hq) (fun fl s2 hs => ?_) fun e s2 hs => hs
    cases fl with
    | ret u =>
      obtain ⟨v, σ2, H2, J2, rv, q⟩ := hs
      exact ⟨v, H2, J2.os, J2.bare, J2.base, J2.hok, rv, q⟩
    | next =>
      obtain ⟨σ2, H2, J2, q⟩ := hs
      exact ⟨.non, H2, J2.os, J2.bare, J2.base, J2.hok, rfl, q⟩
    | brk =>
      obtain ⟨_, _, _, q⟩ := hs
      exact q.elim
    | cont =>
      obtain ⟨_, _, _, q⟩ := hs
      exact q.elim
/-- what the end asks of a run of the law -/
def TrueEnd (s0 : Shared) (r : Result) (s : Shared) : Prop := r = .ok (.ret (.bool true)) ∧ OldK s0.heap s.heap ∧ s.os = s0.os ∧ AllBare s.gens
section
variable {P : Program} {w : World} {K : PySem.W.Frag} {mg mb : Str → Option Value} {fa a : Addr} {fd : FuncData} {x : Str} {sp : Sp} {s0 : Shared} {us : List Value} {ns : List Int}
theorem top_from (kin : K.In s0.heap) (gm : s0.heap.Ns mainGlobals mg) (gb : s0.heap.Ns builtinsNs mb) (boot : ∀ y : Str, y ≠ "__name__" → mb y = bootBuiltins y) (nl : s0.heap.NoLimit) (ng : s0.gens = #[])
    (at0 : s0.heap.get? a = some { cls := .type "list", data := .seq us.toArray }) {H : Hp} (on : Only H) (ok : HOk P w H s0.heap) (lone : ∀ b, H b ≠ none → b = a) (offK : H a ≠ none → K.lookup a = none)
    (G : ∀ base : Heap, K.In base → base.Ns mainGlobals mg → AtTop P w K mg base fa fd x sp) (bt : BindsTo s0 fd ⟨[.ref a], []⟩ [(x, .ref a)]) (want : sp [.ref a] H (fun v _ => v = .bl true) fun _ _ _ => False) :
    codeAny (model P w) callerA (.call (.ref fa) ⟨[.ref a], []⟩) (TrueEnd s0) s0 := by
  have bare : ∀ {b : Addr} {o : Obj}, s0.heap.get? b = some o → b ≠ a → (hidT s0.heap H).get? b = some o := fun {b o} e ne => hidT_get e (by
    cases q : H b with
    | none => rfl
    | some z => exact absurd (lone b (by rw [q]; exact fun y => by cases y)) ne)
  have dictNe : ∀ {b : Addr} {o : Obj} {es : Array DictEntry} {n : Nat}, s0.heap.get? b = some o → o.data = .dict es n → b ≠ a := fun {b o es n} e d z => by
    rw [z, at0] at e
    cases e
    cases d
  have nsOf : ∀ {b : Addr} {m : Str → Option Value}, s0.heap.Ns b m → (hidT s0.heap H).Ns b m := fun {b m} h => by
    obtain ⟨o, es, n, e, d, r⟩ := h
    exact ⟨o, es, n, bare e (dictNe e d), d, r⟩
  have kinB : K.In (hidT s0.heap H) := fun b o e => by
    by_cases z : b = a
    · refine hidT_get (kin b o e) ?_
      cases q : H b with
      | none => rfl
      | some y =>
        rw [z, offK (by rw [← z, q]; exact fun y => by cases y)] at e
        cases e
    · exact bare (kin b o e) z
  have modB : Mod K mg (hidT s0.heap H) := ⟨kinB, nsOf gm, ⟨mb, nsOf gb, boot⟩, by obtain ⟨m2, h1, h2⟩ := nl; exact ⟨m2, nsOf h1, h2⟩⟩
  have start : Env0 P w K mg (hidT s0.heap H) callerA [] s0 H :=
    { frames := rfl, mod := modB, bs := fun b o e => of_hidT e, bsz := Nat.le_of_eq (hidT_size _ _), funs := trivial, frf := fun b h => (by cases h), hok := ok, bare := .of_eq ng }
  refine codeAny_mono (G _ kinB (nsOf gm) s0 H a _ _ start bt want) fun r s h => ?_
  match r, h with
  | .ok (.ret u), h =>
    obtain ⟨v, H2, h1, h2, h3, h4, h5, h6⟩ := h
    have h7 : v = .bl true := h6
    rw [h7] at h5
    have h8 : u = Value.bool true := h5
    rw [h8]
    refine ⟨rfl, OldK.of_keep fun b o e => ?_, h1, h2⟩
    cases q : H b with
    | none => exact h3.keep b o e q (fun z => by cases z) (fun z => by cases z)
    | some z =>
      rcases on b with y | ⟨ob, xs, y⟩
      · rw [q] at y
        cases y
      · obtain ⟨g1, _⟩ := ok b _ y
        obtain ⟨g2, _⟩ := h4 b _ (h3.frzs b ob _ y)
        rw [e] at g1
        cases g1
        exact g2
  | .error e, h => exact False.elim h
theorem top_call (kin : K.In s0.heap) (gm : s0.heap.Ns mainGlobals mg) (gb : s0.heap.Ns builtinsNs mb) (boot : ∀ y : Str, y ≠ "__name__" → mb y = bootBuiltins y) (nl : s0.heap.NoLimit) (ng : s0.gens = #[])
    (at0 : s0.heap.get? a = some { cls := .type "list", data := .seq us.toArray }) (allI : IntsAre us ns) (le : ns.length ≤ sizeLine)
    (G : ∀ base : Heap, K.In base → base.Ns mainGlobals mg → AtTop P w K mg base fa fd x sp) (bt : BindsTo s0 fd ⟨[.ref a], []⟩ [(x, .ref a)])
    (want : ∀ H : Hp, Only H → SqL K H a (ns.map V.int) → sp [.ref a] H (fun v _ => v = .bl true) fun _ _ _ => False) : codeAny (model P w) callerA (.call (.ref fa) ⟨[.ref a], []⟩) (TrueEnd s0) s0 := by
  have rel := vals_ints allI
  have same : us.length = ns.length := by rw [← rel.length, List.length_map]
  by_cases inK : K.lookup a = none
  · have here : (upd (fun _ => none) a (.frz { cls := .type "list", data := .seq us.toArray } (.lst (ns.map V.int))) : Hp) a = some (.frz { cls := .type "list", data := .seq us.toArray } (.lst (ns.map V.int))) := upd_same
    have off : ∀ b, b ≠ a → (upd (fun _ => none) a (.frz { cls := .type "list", data := .seq us.toArray } (.lst (ns.map V.int))) : Hp) b = none := fun b z => upd_ne z
    generalize (upd (fun _ => none) a (.frz { cls := .type "list", data := .seq us.toArray } (.lst (ns.map V.int))) : Hp) = H at here off
    have on : Only H := fun b => by
      by_cases z : b = a
      · exact .inr ⟨_, _, by rw [z]; exact here⟩
      · exact .inl (off b z)
    refine top_from kin gm gb boot nl ng at0 on (fun b u e => ?_) (fun b z => Classical.byContradiction fun y => z (off b y)) (fun _ => inK) G bt (want H on (.inl (.inr ⟨_, here⟩)))
    by_cases z : b = a
    · subst z
      rw [here] at e
      cases e
      exact ⟨at0, by rw [List.length_map]; exact le, us, _, rel, at0⟩
    · rw [off b z] at e
      cases e
  · cases hk : K.lookup a with
    | none => exact absurd hk inK
    | some o =>
      have e := kin a o hk
      rw [at0] at e
      cases e
      have on : Only (fun _ => none) := fun _ => .inl rfl
      exact top_from kin gm gb boot nl ng at0 on (fun b u z => by cases z) (fun b z => absurd rfl z) (fun z => absurd rfl z) G bt (want _ on (.inr ⟨_, us.toArray, _, hk, rfl, rfl, rfl, by rw [List.size_toArray, same]; exact le, by simpa using rel⟩))
end
theorem walk_top {l : PySem.W.OpenLaw} {n : Nat} {q : Program} {loose : List Str} {XP : (Str → Option Value) → Heap → Prop} {YP : World → Heap → Prop} {d : DefRec} {K : Params → PySem.W.Frag} {sp : World → Sp} {x : Str}
    (most : l.most = some n) (small : n ≤ sizeLine) (nodef : d.params.defaults = []) (inY : ∀ (w : World) (h : Heap), YP w h → (K w.params).In h)
    (G : ∀ (w : World) (mg : Str → Option Value) (fa : Addr) (h : Heap), (K w.params).In h → h.Ns mainGlobals mg → mg d.name = some (.ref fa) →
      ∃ fd : FuncData, (∀ (s : Shared) (u : Value), BindsTo s fd ⟨[u], []⟩ [(x, u)]) ∧ ∀ base : Heap, (K w.params).In base → base.Ns mainGlobals mg → AtTop l.prog w (K w.params) mg base fa fd x (sp w))
    (want : ∀ (w : World) (H : Hp) (a : Addr) (ns : List Int), ns.length ≤ n → Only H → SqL (K w.params) H a (ns.map V.int) → sp w [.ref a] H (fun v _ => v = .bl true) fun _ _ _ => False) :
    PySem.W.WalkO q loose XP YP l.row.toRowW d [] (fun f vs => PySem.call f vs) := by
  refine Att.attach_call most nodef fun w sA sB mA mB f2 o pm cd doc a us ns GG Y k1 k2 k3 k4 k5 k6 k7 k8 => ?_
  have kin := inY w _ Y
  obtain ⟨fd, bt, rest⟩ := G w mA f2 _ kin GG.T.g k4
  exact top_call kin GG.T.g GG.T.b GG.T.builtins GG.T.nolimit k8 k5 k6 (Nat.le_trans k7 small) rest (bt _ _) fun H on sq => want w H a ns k7 on sq
end L2
namespace L2
open PySem PySem.Spec PyProof.Rows
/-- xs + ys, a list of any standing and a tracked one -/
def rCatS (K : PySem.W.Frag) : R2 := fun x y H Q => ∃ l b xs zs, x = .ref l ∧ y = .ref b ∧ SqL K H l xs ∧ H b = some (.lst zs) ∧ xs.length + zs.length ≤ sizeLine ∧ ∀ p, H p = none → Q (.ref p) (upd H p (.lst (xs ++ zs)))
theorem op_catS {X : Cx} : OpR X (binaryOp .Add) (rCatS X.K) := by
  intro pins s σ H x y v u Q I rx ry h
  obtain ⟨l, b, xs, zs, rfl, rfl, hH, hB, hz, q⟩ := h
  cases rx
  cases ry
  obtain ⟨its, r, hl, _⟩ := I.list hH
  obtain ⟨z2, its2, n2, r2, hl2, e2⟩ := I.lstM hB
  obtain ⟨⟨oc, od, oda, osl⟩, n, e, hc, hd, hdat⟩ := hl
  have hlen := r.length
  have hlen2 := r2.length
  dsimp only at hc hd hdat
  subst hc hd hdat
  have hsz : its.toArray.size + its2.toArray.size ≤ sizeLine := by
    simp only [List.size_toArray]
    omega
  refine concat_meets ⟨_, e, rfl⟩ ⟨_, e2, rfl⟩ PySem.noFill_list_add PySem.seq_list_add F.slot_list_add F.entry_list_add (F.args_list_add_2 _ _) (list_addW l b its.toArray its2.toArray n n2 none none osl #[] hsz) ⟨e, e2, ?_⟩
  have ea : its.toArray ++ its2.toArray = (its ++ its2).toArray := by simp
  rw [ea]
  exact ⟨.ref _, _, I.lnew (t' := s.toks) (r.append r2) (by rw [List.length_append]; omega), rfl, q _ I.fresh⟩
end L2
namespace K15
open PySem L2 QE
abbrev sMixed : Stmt := topS 44
abbrev sSource : Stmt := topS 45
abbrev sTake : Stmt := topS 46
abbrev s_law : Stmt := topS 54
abbrev sLaw : Stmt := s_law
/-- _law_mixed: some number below its modulus -/
def spMixed : Sp := fun vs H Q _ => ∃ c d : Int, vs = [.int c, .int d] ∧ ∀ r : Int, 0 ≤ r → r < 2147483563 → Q (.int r) H
/-- _law_source: a new list of three numbers, none of them below 0 -/
def spSource : Sp := fun vs H Q _ => ∃ c : Int, vs = [.int c] ∧ ∀ (p : Addr) (x y : Int), H p = none → 0 ≤ x → 0 ≤ y → Q (.ref p) (upd H p (.lst [.int x, .int y, .int 0]))
/-- _law_take: some number below the bound; the source goes on -/
def spTake : Sp := fun vs H Q _ => ∃ (a : Addr) (x y z b : Int), vs = [.ref a, .int b] ∧ H a = some (.lst [.int x, .int y, .int z]) ∧ 0 ≤ x ∧ 0 < b ∧ b < 1073741824 ∧
  ∀ r x' z' : Int, 0 ≤ r → r < b → 0 ≤ x' → Q (.int r) (upd H a (.lst [.int x', .int y, .int z']))
structure TxtB (mg : Str → Option Value) : Prop where
  int : mg "int" = none
  abs : mg "abs" = none
  len : mg "len" = none
section
variable {P : Program} {w : World} {K : PySem.W.Frag} {mg : Str → Option Value} {base : Heap}
theorem scMixed : FnScope ["_law_cell", "_law_draw", "_law_figure"] ["_law_cell", "_law_draw"] (defScope sMixed) := ⟨rfl, rfl, rfl, by decide +kernel, rfl, by decide +kernel, by decide +kernel⟩
theorem ok_mixed {f : Addr} {fd : FuncData} (F : Fun K "_law_mixed" "_law_mixed" sMixed f fd) (B : TxtB mg) : FnOk P w K mg base CX0 1 f fd ["_law_cell", "_law_draw"] spMixed := by
  refine F.ok scMixed (fun vs H Q E h => ?_) (fun cdv A outer s H vs Q E hr h => ?_)
  · obtain ⟨c, d, rfl, _⟩ := h
    rfl
  · obtain ⟨c, d, rfl, k⟩ := h
    have I1 : ∀ {X : Cx} {e : Expr} {te : TE} {p pos : Pos} (hm : X.mg "int" = none) (hg : Gl X "int") (he : PE X e te) (h1 : starEach [e] X.env = (false, eval e X.env) :: starEach [] X.env), PE X (.Call (.Name "int" p) [e] [] pos) (tCB _ (tCons te tNil)) :=
      fun hm hg he h1 => pe_callTy call_intI hg hm (by decide +kernel) (pa_cons he pa_nil h1) (by decide) (by decide) h1 (by rfl)
    refine ⟨_, pss_cons (ps_set (i := 2) scMixed.nd rfl (.inl rfl) (pe_op op_mod (I1 B.int rfl (pe_op op_mul (pe_op op_add (pe_op op_mod (I1 B.int rfl (pv 0) rfl) pe_int) pe_int) (pe_op op_add (pe_op op_mul (pv 1) pe_int) pe_int)) rfl) pe_int))
      (pss_cons (ps_set (i := 2) scMixed.nd rfl (.inl rfl) (pe_op op_mod (I1 B.int rfl (pe_op op_mul (pe_op op_add (pv 2) (pe_op op_mul (pe_op op_mod (I1 B.int rfl (pe_op op_fdivW (pv 0) pe_int) rfl) pe_int) (pe_op op_add (pv 1) pe_int))) pe_int) rfl) pe_int))
      (pss_cons (ps_set (i := 2) scMixed.nd rfl (.inl rfl) (pe_op op_mod (I1 B.int rfl (pe_op op_mul (pv 2) (pe_op op_add (pe_op op_add (pe_op op_fdiv (pv 2) pe_int) pe_int) (pv 1))) rfl) pe_int))
      (pss_one (ps_ret (pe_op op_mod (I1 B.int rfl (pe_op op_mul (pv 2) (pe_op op_add (pe_op op_fdiv (pv 2) pe_int) pe_int)) rfl) pe_int))))), ?_⟩
    simp only [tSeq, tAsg, tRet, tOp, tCB, tCons, tNil, tVar, tC, gName, rI, rI0, L2.start, List.map_cons, List.map_nil, List.length_cons, List.length_nil, List.replicate, List.getElem?_cons_zero, List.getElem?_cons_succ, List.set_cons_zero, List.set_cons_succ, Option.some.injEq, exists_eq_left', V.int.injEq, List.cons.injEq, and_true, exists_and_left, exists_eq_left, rInt1, List.cons_append, List.nil_append]
    have nn : ∀ x m : Int, 0 < m → m < 4000000000 → -(2 ^ 64) < x % m ∧ x % m < 2 ^ 64 := fun x m h0 h1 => by
      have a := Int.emod_nonneg x (show m ≠ 0 by omega)
      have b := Int.emod_lt_of_pos x h0
      constructor <;> omega
    have n1 : -(2 ^ 64) < c % 2147483646 + 1 ∧ c % 2147483646 + 1 < 2 ^ 64 := by
      have a := Int.emod_nonneg c (show (2147483646 : Int) ≠ 0 by decide)
      have b := Int.emod_lt_of_pos c (show (0 : Int) < 2147483646 by decide)
      constructor <;> omega
    exact ⟨by decide, .inr ⟨by decide, by decide⟩, .inl n1, by decide, ⟨by decide, by decide +kernel⟩, by decide, .inl (nn _ _ (by decide) (by decide)), .inr ⟨by decide, by decide⟩, by decide, ⟨by decide, by decide⟩, .inl (nn _ _ (by decide) (by decide)), by decide,
      ⟨by decide, by decide⟩, .inl (nn _ _ (by decide) (by decide)), by decide, k _ (Int.emod_nonneg _ (by decide)) (Int.emod_lt_of_pos _ (by decide))⟩
theorem scSource : FnScope ["_law_cell"] ["_law_cell"] (defScope sSource) := ⟨rfl, rfl, rfl, by decide +kernel, rfl, by decide +kernel, by decide +kernel⟩
theorem ok_source {f : Addr} {fd : FuncData} (F : Fun K "_law_source" "_law_source" sSource f fd) (B : TxtB mg) : FnOk P w K mg base CX0 1 f fd ["_law_cell"] spSource := by
  refine F.ok scSource (fun vs H Q E h => ?_) (fun cdv A outer s H vs Q E hr h => ?_)
  · obtain ⟨c, rfl, _⟩ := h
    rfl
  · obtain ⟨c, rfl, k⟩ := h
    refine ⟨_, pss_cons (ps_if (pt_cmpR op_ge (pe_callB call_absI (by rfl) B.abs (by decide +kernel) (pa_cons (pv 0) pa_nil)) (pe_op op_pow pe_int pe_int) (nomark _)) (pss_one (ps_ret (pe_lst (pa_cons (pe_callB call_absI (by rfl) B.abs (by decide +kernel) (pa_cons (pv 0) pa_nil)) (pa_cons (pe_callB call_absI (by rfl) B.abs (by decide +kernel) (pa_cons (pv 0) pa_nil)) (pa_cons pe_int pa_nil)))))) pss_nil)
      (pss_one (ps_ret (pe_lst (pa_cons pe_int (pa_cons (pe_callB call_absI (by rfl) B.abs (by decide +kernel) (pa_cons (pv 0) pa_nil)) (pa_cons pe_int pa_nil)))))), ?_⟩
    simp only [tIfS, tNext, tTest, tLst, tSeq, tAsg, tRet, tOp, tCB, tCons, tNil, tVar, tC, gName, rI, rI0, L2.start, List.map_cons, List.map_nil, List.length_cons, List.length_nil, List.replicate, List.getElem?_cons_zero, List.getElem?_cons_succ, List.set_cons_zero, List.set_cons_succ, Option.some.injEq, exists_eq_left', V.int.injEq, V.bl.injEq, V.ref.injEq, V.str.injEq, decide_eq_true_eq, List.cons.injEq, and_true, exists_and_left, exists_eq_left, rInt1, List.cons_append, List.nil_append, rAbs1]
    have e : ∀ x : Int, (0 : Int) ≤ if x < 0 then -x else x := fun x => by split <;> omega
    refine ⟨⟨by decide, by decide, by decide⟩, ?_⟩
    refine ite2 (fun _ => ?_) (fun _ => ?_)
    · exact ⟨by show 3 ≤ sizeLine; decide, fun p hp => k p _ _ hp (e c) (e c)⟩
    · exact ⟨by show 3 ≤ sizeLine; decide, fun p hp => k p _ _ hp (by decide) (e c)⟩
theorem scTake : FnScope ["_law_source_here", "_law_bound", "_law_drawn"] ["_law_source_here", "_law_bound"] (defScope sTake) := ⟨rfl, rfl, rfl, by decide +kernel, rfl, by decide +kernel, by decide +kernel⟩
theorem ok_take {f fM : Addr} {fd fdM : FuncData} (F : Fun K "_law_take" "_law_take" sTake f fd) (B : TxtB mg) (FM : Fun K "_law_mixed" "_law_mixed" sMixed fM fdM) (bM : Binds K fdM ["_law_cell", "_law_draw"] []) (gM : mg "_law_mixed" = some (.ref fM)) :
    FnOk P w K mg base CX0 2 f fd ["_law_source_here", "_law_bound"] spTake := by
  have GM : FnOk P w K mg base CX0 1 fM fdM ["_law_cell", "_law_draw"] spMixed := ok_mixed FM B
  refine F.ok scTake (fun vs H Q E h => ?_) (fun cdv A outer s H vs Q E hr h => ?_)
  · obtain ⟨a, x, y, z, b, rfl, _⟩ := h
    rfl
  · obtain ⟨a, x, y, z, b, rfl, hH, hx, hb, hb2, k⟩ := h
    refine ⟨_, pss_cons (ps_if (pt_cmpR op_gt (pe_ix ix_listH (pv 0) pe_int (fun _ _ => rfl)) pe_int (nomark _))
        (pss_cons (ps_set (i := 2) scTake.nd rfl (.inl rfl) (pe_op op_mod (pe_callTy call_intI (by rfl) B.int (by decide +kernel) (pa_cons (pe_ix ix_listH (pv 0) pe_int (fun _ _ => rfl)) pa_nil)) (pv 1)))
        (pss_cons (ps_asg (pe_op op_fdiv (pe_ix ix_listH (pv 0) pe_int (fun _ _ => rfl)) (pv 1)) (pg_sub (pv 0) pe_int set_listH))
        (pss_one (ps_ret (pv 2))))) pss_nil)
      (pss_cons (ps_asg (pe_op op_add (pe_ix ix_listH (pv 0) pe_int (fun _ _ => rfl)) pe_int) (pg_sub (pv 0) pe_int set_listH))
      (pss_one (ps_ret (pe_op op_mod (pe_callTy call_intI (by rfl) B.int (by decide +kernel) (pa_cons (pe_call GM hr rfl gM FM.kp bM .nil pass0 (pa_cons (pe_ix ix_listH (pv 0) pe_int (fun _ _ => rfl)) (pa_cons (pe_ix ix_listH (pv 0) pe_int (fun _ _ => rfl)) pa_nil))) pa_nil)) (pv 1))))), ?_⟩
    simp only [tIfS, tNext, tTest, tLst, gSub, tCall, atI0, atI1, atI2, ixN3_0, ixN3_2, rIxH, rSetH, spMixed, tSeq, tAsg, tRet, tOp, tCB, tCons, tNil, tVar, tC, gName, rI, rI0, L2.start, List.map_cons, List.map_nil, List.length_cons, List.length_nil, List.replicate, List.getElem?_cons_zero, List.getElem?_cons_succ, List.set_cons_zero, List.set_cons_succ, Option.some.injEq, exists_eq_left', V.int.injEq, V.bl.injEq, V.ref.injEq, V.str.injEq, decide_eq_true_eq, List.cons.injEq, and_true, exists_and_left, exists_eq_left, rInt1, List.cons_append, List.nil_append, rAbs1, hH, HO.lst.injEq, upd_same]
    refine ite2 (fun h0 => ?_) (fun h0 => ?_)
    · exact ⟨hb, ⟨hb, hb2⟩, k _ _ _ (Int.emod_nonneg _ (by omega)) (Int.emod_lt_of_pos _ hb) (Int.ediv_nonneg hx (by omega))⟩
    · exact ⟨_, _, ⟨rfl, rfl⟩, fun r _ _ => ⟨hb, k _ _ _ (Int.emod_nonneg _ (by omega)) (Int.emod_lt_of_pos _ hb) hx⟩⟩
end
theorem rh_nil {K : PySem.W.Frag} {H : Hp} : RH K (fun _ => none) H ⟨0, .nil⟩ where
  lt := fun i a e => nomatch e
  ge := by decide
  inj := fun i j a e => nomatch e
  ob := fun i a e => nomatch e
  at_ := fun i o e => by rw [show Hq.get ⟨0, .nil⟩ i = Tr.get .nil i from rfl, get_nil] at e; cases e
theorem ext_same {K : PySem.W.Frag} {H H' : Hp} {m' : Mp} (e : Ext K (fun _ => none) H m' H') : Same H H' := fun a o h => e.k a o h fun i z => nomatch z
theorem re_of {K : PySem.W.Frag} {m : Mp} {H : Hp} : ∀ {r : QE.Env} {σ : L2.St}, r.length = σ.length → (∀ (i : Nat) (u : U), r[i]? = some (some u) → ∃ v, σ[i]? = some (some v) ∧ RU K m H u v) → RE K m H r σ
  | [], [], _, _ => rfl
  | none :: r, s :: σ, hl, h => ⟨s, σ, rfl, re_of (by simpa using hl) fun i u e => h (i + 1) u (by simpa using e)⟩
  | some w :: r, s :: σ, hl, h => by
    obtain ⟨v, e, q⟩ := h 0 w rfl
    have e' : s = some v := by simpa using e
    subst e'
    exact ⟨v, σ, rfl, q, re_of (by simpa using hl) fun i u e => h (i + 1) u (by simpa using e)⟩
def r_seg1 : SF := (sSeq (sAsg (eCall (fn 5 f_q_full) (eCons (eVar 2) (eCons (eVar 3) (eCons (eVar 4) (eCons (eVar 5) (eCons (eVar 6) eNil)))))) (gfName 7)) (sSeq (sAsg (eLst eNil) (gfName 8)) (sSeq (sFor (eRng1 (eCons (eVar 3) eNil)) (gfName 9) (sAsg (eOp gAdd (eVar 8) (eLc (eRng1 (eCons (eVar 4) eNil)) (gfName 13) eYes (eTup (eCons (eVar 9) (eCons (eVar 13) eNil))) [13])) (gfName 8))) (sIf (eOr (eB (eOp gNotN' (eCall (fn 1 f_q_said) (eCons (eVar 7) eNil)) (eC .non))) (eB (eOp gNe (eCall (fn 1 f_positions) (eCons (eVar 7) eNil)) (eVar 8)))) (sRet (eC (.bl false))) sNext))))
def r_seg2 : SF := (sSeq (sAsg (eCall (fn 5 f_q_full) (eCons (eVar 2) (eCons (eC (.int 6)) (eCons (eC (.int 8)) (eCons (eC (.int 4)) (eCons (eC (.int 4)) eNil)))))) (gfName 10)) (sSeq (sIf (eOr (eB (eOp gNotN' (eCall (fn 1 f_q_said) (eCons (eVar 10) eNil)) (eC .non))) (eB (eOp gNe (eCB gLenP (eCons (eCall (fn 1 f_positions) (eCons (eVar 10) eNil)) eNil)) (eC (.int 48))))) (sRet (eC (.bl false))) sNext) (sSeq (sAsg (eLst (eCons (eCall (fn 1 f_q_said) (eCons (eCall (fn 5 f_q_full) (eCons (eVar 2) (eCons (eC (.int 7)) (eCons (eC (.int 8)) (eCons (eC (.int 4)) (eCons (eC (.int 4)) eNil)))))) eNil)) (eCons (eCall (fn 1 f_q_said) (eCons (eCall (fn 5 f_q_full) (eCons (eVar 2) (eCons (eC (.int 6)) (eCons (eC (.int 9)) (eCons (eC (.int 4)) (eCons (eC (.int 4)) eNil)))))) eNil)) eNil))) (gfName 11)) (sSeq (sAsg (eOp gAdd (eVar 11) (eLst (eCons (eCall (fn 1 f_q_said) (eCons (eCall (fn 5 f_q_full) (eCons (eVar 2) (eCons (eC (.int 6)) (eCons (eC (.int 8)) (eCons (eC (.int 5)) (eCons (eC (.int 4)) eNil)))))) eNil)) (eCons (eCall (fn 1 f_q_said) (eCons (eCall (fn 5 f_q_full) (eCons (eVar 2) (eCons (eC (.int 6)) (eCons (eC (.int 8)) (eCons (eC (.int 4)) (eCons (eC (.int 5)) eNil)))))) eNil)) eNil)))) (gfName 11)) (sSeq (sAsg (eLst (eCons (eTup (eCons (eC (.str [115, 121, 115, 116, 101, 109])) (eCons (eC (.str [116, 101, 109, 112, 108, 97, 116, 101, 115])) eNil))) (eCons (eTup (eCons (eC (.str [116, 101, 109, 112, 108, 97, 116, 101])) (eCons (eC (.int 0)) (eCons (eNeg (eC (.int 1))) eNil)))) (eCons (eTup (eCons (eC (.str [116, 101, 109, 112, 108, 97, 116, 101])) (eCons (eC (.int 0)) (eCons (eNeg (eC (.int 1))) eNil)))) (eCons (eTup (eCons (eC (.str [115, 121, 115, 116, 101, 109])) (eCons (eC (.str [102, 105, 120, 101, 100])) eNil))) eNil))))) (gfName 8)) (sSeq (sAsg (eTup (eCons (eOp gIxP (eVar 10) (eC (.int 0))) (eCons (eOp gIxP (eVar 10) (eC (.int 1))) (eCons (eTup (eCons (eOp gAdd (eTup (eCons (eC (.str [97, 98, 99, 100, 101, 102, 103, 104, 105, 106, 107, 108, 109])) eNil)) (eSl (eOp gIxP (eOp gIxP (eVar 10) (eC (.int 2))) (eC (.int 0))) (eoI (eC (.int 1))) eoN)) eNil)) eNil)))) (gfName 12)) (sRet (eAndT (eOp gEq (eVar 11) (eVar 8)) (eOp gEq (eCall (fn 1 f_q_said) (eCons (eVar 12) eNil)) (eTup (eCons (eC (.str [116, 101, 109, 112, 108, 97, 116, 101])) (eCons (eC (.int 0)) (eCons (eNeg (eC (.int 1))) eNil)))))))))))))
/-- what is known when the draws are done -/
def env1 (v : V) (a b : Int) : QE.Env := [none, none, some (.con v), some (.int a), some (.int b), some (.int 4), some (.int 4), none, none, none, none, none, none, none]
def env2 (v : V) : QE.Env := [none, none, some (.con v), none, none, none, none, none, none, none, none, none, none, none]
def ok1 : Option SO → Bool
  | some (.nx, env, _) => (match chk 14 env, env[2]? with | true, some (some _) => true | _, _ => false)
  | _ => false
def ok2 : Option SO → Bool
  | some (.rt (.bl true), _, _) => true
  | _ => false
theorem s1_1_4 (v : V) : ok1 (r_seg1 (env1 v 1 4) ⟨0, .nil⟩) = true := by kernel_rfl
theorem s1_1_5 (v : V) : ok1 (r_seg1 (env1 v 1 5) ⟨0, .nil⟩) = true := by kernel_rfl
theorem s1_1_6 (v : V) : ok1 (r_seg1 (env1 v 1 6) ⟨0, .nil⟩) = true := by kernel_rfl
theorem s1_1_7 (v : V) : ok1 (r_seg1 (env1 v 1 7) ⟨0, .nil⟩) = true := by kernel_rfl
theorem s1_1_8 (v : V) : ok1 (r_seg1 (env1 v 1 8) ⟨0, .nil⟩) = true := by kernel_rfl
theorem s1_2_4 (v : V) : ok1 (r_seg1 (env1 v 2 4) ⟨0, .nil⟩) = true := by kernel_rfl
theorem s1_2_5 (v : V) : ok1 (r_seg1 (env1 v 2 5) ⟨0, .nil⟩) = true := by kernel_rfl
theorem s1_2_6 (v : V) : ok1 (r_seg1 (env1 v 2 6) ⟨0, .nil⟩) = true := by kernel_rfl
theorem s1_2_7 (v : V) : ok1 (r_seg1 (env1 v 2 7) ⟨0, .nil⟩) = true := by kernel_rfl
theorem s1_2_8 (v : V) : ok1 (r_seg1 (env1 v 2 8) ⟨0, .nil⟩) = true := by kernel_rfl
theorem s1_3_4 (v : V) : ok1 (r_seg1 (env1 v 3 4) ⟨0, .nil⟩) = true := by kernel_rfl
theorem s1_3_5 (v : V) : ok1 (r_seg1 (env1 v 3 5) ⟨0, .nil⟩) = true := by kernel_rfl
theorem s1_3_6 (v : V) : ok1 (r_seg1 (env1 v 3 6) ⟨0, .nil⟩) = true := by kernel_rfl
theorem s1_3_7 (v : V) : ok1 (r_seg1 (env1 v 3 7) ⟨0, .nil⟩) = true := by kernel_rfl
theorem s1_3_8 (v : V) : ok1 (r_seg1 (env1 v 3 8) ⟨0, .nil⟩) = true := by kernel_rfl
theorem s1_4_4 (v : V) : ok1 (r_seg1 (env1 v 4 4) ⟨0, .nil⟩) = true := by kernel_rfl
theorem s1_4_5 (v : V) : ok1 (r_seg1 (env1 v 4 5) ⟨0, .nil⟩) = true := by kernel_rfl
theorem s1_4_6 (v : V) : ok1 (r_seg1 (env1 v 4 6) ⟨0, .nil⟩) = true := by kernel_rfl
theorem s1_4_7 (v : V) : ok1 (r_seg1 (env1 v 4 7) ⟨0, .nil⟩) = true := by kernel_rfl
theorem s1_4_8 (v : V) : ok1 (r_seg1 (env1 v 4 8) ⟨0, .nil⟩) = true := by kernel_rfl
theorem s1_5_4 (v : V) : ok1 (r_seg1 (env1 v 5 4) ⟨0, .nil⟩) = true := by kernel_rfl
theorem s1_5_5 (v : V) : ok1 (r_seg1 (env1 v 5 5) ⟨0, .nil⟩) = true := by kernel_rfl
theorem s1_5_6 (v : V) : ok1 (r_seg1 (env1 v 5 6) ⟨0, .nil⟩) = true := by kernel_rfl
theorem s1_5_7 (v : V) : ok1 (r_seg1 (env1 v 5 7) ⟨0, .nil⟩) = true := by kernel_rfl
theorem s1_5_8 (v : V) : ok1 (r_seg1 (env1 v 5 8) ⟨0, .nil⟩) = true := by kernel_rfl
theorem s1_6_4 (v : V) : ok1 (r_seg1 (env1 v 6 4) ⟨0, .nil⟩) = true := by kernel_rfl
theorem s1_6_5 (v : V) : ok1 (r_seg1 (env1 v 6 5) ⟨0, .nil⟩) = true := by kernel_rfl
theorem s1_6_6 (v : V) : ok1 (r_seg1 (env1 v 6 6) ⟨0, .nil⟩) = true := by kernel_rfl
theorem s1_6_7 (v : V) : ok1 (r_seg1 (env1 v 6 7) ⟨0, .nil⟩) = true := by kernel_rfl
theorem s1_6_8 (v : V) : ok1 (r_seg1 (env1 v 6 8) ⟨0, .nil⟩) = true := by kernel_rfl
theorem s2 (v : V) : ok2 (r_seg2 (env2 v) ⟨0, .nil⟩) = true := by kernel_rfl
theorem s1_all (v : V) (a b : Int) (ha : 1 ≤ a) (ha2 : a ≤ 6) (hb : 4 ≤ b) (hb2 : b ≤ 8) : ok1 (r_seg1 (env1 v a b) ⟨0, .nil⟩) = true := by
  have h1 : a = 1 ∨ a = 2 ∨ a = 3 ∨ a = 4 ∨ a = 5 ∨ a = 6 := by omega
  have h2 : b = 4 ∨ b = 5 ∨ b = 6 ∨ b = 7 ∨ b = 8 := by omega
  rcases h1 with rfl | rfl | rfl | rfl | rfl | rfl <;> rcases h2 with rfl | rfl | rfl | rfl | rfl
  · exact s1_1_4 v
  · exact s1_1_5 v
  · exact s1_1_6 v
  · exact s1_1_7 v
  · exact s1_1_8 v
  · exact s1_2_4 v
  · exact s1_2_5 v
  · exact s1_2_6 v
  · exact s1_2_7 v
  · exact s1_2_8 v
  · exact s1_3_4 v
  · exact s1_3_5 v
  · exact s1_3_6 v
  · exact s1_3_7 v
  · exact s1_3_8 v
  · exact s1_4_4 v
  · exact s1_4_5 v
  · exact s1_4_6 v
  · exact s1_4_7 v
  · exact s1_4_8 v
  · exact s1_5_4 v
  · exact s1_5_5 v
  · exact s1_5_6 v
  · exact s1_5_7 v
  · exact s1_5_8 v
  · exact s1_6_4 v
  · exact s1_6_5 v
  · exact s1_6_6 v
  · exact s1_6_7 v
  · exact s1_6_8 v
structure BltL (mg : Str → Option Value) : Prop where
  len : mg "len" = none
  range : mg "range" = none
def spLaw2 (K : PySem.W.Frag) : Sp := fun vs H Q _ => ∃ (a : Addr) (ns : List Int), vs = [.ref a] ∧ SqL K H a (ns.map V.int) ∧ ns.length ≤ 63 ∧ ∀ H', Q (.bl true) H'
abbrev nl_law : List Str := ["_law_script", "_law_cell", "_law_source_here", "_law_many", "_law_size", "_law_width", "_law_fixed", "_law_plan", "_law_due", "_law_k", "_law_most", "_law_told", "_law_long_here", "_law_j"]
theorem scLaw : FnScope nl_law ["_law_script"] (defScope sLaw) := ⟨rfl, rfl, rfl, by decide +kernel, rfl, by decide +kernel, by decide +kernel⟩
section
variable {P : Program} {w : World} {K : PySem.W.Frag} {mg : Str → Option Value} {base : Heap}
theorem ok_law {f aSrc aTk : Addr} {fd dSrc dTk : FuncData} (F : Fun K "law" "law" sLaw f fd) (B : BltL mg) (P_q_full : Pr_q_full P w K mg base) (P_q_said : Pr_q_said P w K mg base) (P_positions : Pr_positions P w K mg base)
    (GSrc : FnOk P w K mg base CX0 1 aSrc dSrc ["_law_cell"] spSource) (mSrc : mg "_law_source" = some (.ref aSrc)) (kSrc : PySem.W.keepIn K (.ref aSrc) = true) (bSrc : Binds K dSrc ["_law_cell"] [])
    (GTk : FnOk P w K mg base CX0 2 aTk dTk ["_law_source_here", "_law_bound"] spTake) (mTk : mg "_law_take" = some (.ref aTk)) (kTk : PySem.W.keepIn K (.ref aTk) = true) (bTk : Binds K dTk ["_law_source_here", "_law_bound"] []) :
    AtTop P w K mg base f fd "_law_script" (spLaw2 K) := by
  obtain ⟨a_q_full, d_q_full, m_q_full, k_q_full, b_q_full, G_q_full⟩ := P_q_full
  obtain ⟨a_q_said, d_q_said, m_q_said, k_q_said, b_q_said, G_q_said⟩ := P_q_said
  obtain ⟨a_positions, d_positions, m_positions, k_positions, b_positions, G_positions⟩ := P_positions
  have nd := scLaw.nd
  refine F.atTop scLaw (fun cdv s H a Q E h => ?_)
  obtain ⟨a', ns, hv, hS, hl, k⟩ := h
  cases hv
  have hr : Room 7 (callerA.deeper (PyProof.Rows.envOfC "law" (defScope sLaw) s.heap.objs.size f cdv)) := (show Room 8 callerA from ⟨rfl, by decide, by decide⟩).deeper _
  have hu1 : (callerA.deeper (PyProof.Rows.envOfC "law" (defScope sLaw) s.heap.objs.size f cdv)).units + 1 < cLine := by have := hr.un; omega
  have hu64 : (callerA.deeper (PyProof.Rows.envOfC "law" (defScope sLaw) s.heap.objs.size f cdv)).units + 64 < cLine := by have := hr.un; omega
  have hu65 : (callerA.deeper (PyProof.Rows.envOfC "law" (defScope sLaw) s.heap.objs.size f cdv)).units + 65 < cLine := by have := hr.un; omega
  refine ⟨_, pss_cons (ps_for PassesOwn.never rfl (pi_list (pe_slice sl_list (pe_op op_catS (pv 0) (pe_lst (pa_cons pe_int pa_nil))) po_none (po_some pe_int))) (pg_name (i := 1) nd rfl (.inl rfl))
      (pss_cons (ps_set (i := 2) nd rfl (.inl rfl) (pe_call GSrc (hr.mono (by decide)) rfl mSrc kSrc bSrc .nil pass0 (pa_cons (pv 1) pa_nil)))
      (pss_cons (ps_asg (pe_lst (pa_cons (pe_op op_add pe_int (pe_call GTk (hr.mono (by decide)) rfl mTk kTk bTk .nil pass0 (pa_cons (pv 2) (pa_cons pe_int pa_nil)))) (pa_cons (pe_op op_add pe_int (pe_call GTk (hr.mono (by decide)) rfl mTk kTk bTk .nil pass0 (pa_cons (pv 2) (pa_cons pe_int pa_nil)))) (pa_cons pe_int (pa_cons pe_int pa_nil)))))
          (pg_unl rfl (pgs_cons (pg_name (i := 3) nd rfl (.inl rfl)) (pgs_cons (pg_name (i := 4) nd rfl (.inl rfl)) (pgs_cons (pg_name (i := 5) nd rfl (.inl rfl)) (pgs_cons (pg_name (i := 6) nd rfl (.inl rfl)) pgs_nil))))))
        (pss_cons (ps_set (i := 7) nd rfl (.inl rfl) (pe_call G_q_full (hr.mono (by decide)) (by rfl) m_q_full k_q_full b_q_full .nil passL (pa_cons (pv 2) (pa_cons (pv 3) (pa_cons (pv 4) (pa_cons (pv 5) (pa_cons (pv 6) pa_nil))))))) (pss_cons (ps_set (i := 8) nd rfl (.inl rfl) (pe_lst pa_nil)) (pss_cons (ps_for PassesOwn.never rfl (pi_range1 (by rfl) B.range (pa_cons (pv 3) pa_nil)) (pg_name (i := 9) nd rfl (.inr rfl)) (pss_one (ps_set (i := 8) nd rfl (.inl rfl) (pe_op op_addQ (pv 8) (pe_lc (own := [("_law_j", 13)]) (g := (gName 13)) (tt := tYes) rfl nd (pi_range1 (by rfl) B.range (pa_cons (pv 4) pa_nil)) (blkOk_by (N := nl_law) (sc := defScope s_law) (own := [("_law_j", 13)]) (by decide +kernel)) (fun _ _ _ _ _ => (pg_name (i := 13) nd rfl (.inl rfl))) (fun _ _ _ _ _ => pts_nil) (fun _ _ _ _ _ => (pe_tup (pa_cons (pv 9) (pa_cons (pv 13) pa_nil))))))))) (pss_one (ps_if (PW.pt (pw_or (pt_cmpR op_notN (pe_call G_q_said (hr.mono (by decide)) (by rfl) m_q_said k_q_said b_q_said .nil passL (pa_cons (pv 7) pa_nil)) pe_non (by first | rfl | exact nomark _)) (pw_or1 (pt_cmpR (op_neD hu64) (pe_call G_positions (hr.mono (by decide)) (by rfl) m_positions k_positions b_positions .nil passL (pa_cons (pv 7) pa_nil)) (pv 8) (by first | rfl | exact nomark _))))) (pss_one (ps_ret pe_bl)) pss_nil))))))))
    (pss_cons (ps_set (i := 10) nd rfl (.inl rfl) (pe_call G_q_full (hr.mono (by decide)) (by rfl) m_q_full k_q_full b_q_full .nil passL (pa_cons (pv 2) (pa_cons pe_int (pa_cons pe_int (pa_cons pe_int (pa_cons pe_int pa_nil))))))) (pss_cons (ps_if (PW.pt (pw_or (pt_cmpR op_notN (pe_call G_q_said (hr.mono (by decide)) (by rfl) m_q_said k_q_said b_q_said .nil passL (pa_cons (pv 10) pa_nil)) pe_non (by first | rfl | exact nomark _)) (pw_or1 (pt_cmpR (op_neD hu64) (pe_callB (call_lenQ) (by rfl) B.len (by decide +kernel) (pa_cons (pe_call G_positions (hr.mono (by decide)) (by rfl) m_positions k_positions b_positions .nil passL (pa_cons (pv 10) pa_nil)) pa_nil)) pe_int (by first | rfl | exact nomark _))))) (pss_one (ps_ret pe_bl)) pss_nil) (pss_cons (ps_set (i := 11) nd rfl (.inl rfl) (pe_lst (pa_cons (pe_call G_q_said (hr.mono (by decide)) (by rfl) m_q_said k_q_said b_q_said .nil passL (pa_cons (pe_call G_q_full (hr.mono (by decide)) (by rfl) m_q_full k_q_full b_q_full .nil passL (pa_cons (pv 2) (pa_cons pe_int (pa_cons pe_int (pa_cons pe_int (pa_cons pe_int pa_nil)))))) pa_nil)) (pa_cons (pe_call G_q_said (hr.mono (by decide)) (by rfl) m_q_said k_q_said b_q_said .nil passL (pa_cons (pe_call G_q_full (hr.mono (by decide)) (by rfl) m_q_full k_q_full b_q_full .nil passL (pa_cons (pv 2) (pa_cons pe_int (pa_cons pe_int (pa_cons pe_int (pa_cons pe_int pa_nil)))))) pa_nil)) pa_nil)))) (pss_cons (ps_set (i := 11) nd rfl (.inl rfl) (pe_op op_addQ (pv 11) (pe_lst (pa_cons (pe_call G_q_said (hr.mono (by decide)) (by rfl) m_q_said k_q_said b_q_said .nil passL (pa_cons (pe_call G_q_full (hr.mono (by decide)) (by rfl) m_q_full k_q_full b_q_full .nil passL (pa_cons (pv 2) (pa_cons pe_int (pa_cons pe_int (pa_cons pe_int (pa_cons pe_int pa_nil)))))) pa_nil)) (pa_cons (pe_call G_q_said (hr.mono (by decide)) (by rfl) m_q_said k_q_said b_q_said .nil passL (pa_cons (pe_call G_q_full (hr.mono (by decide)) (by rfl) m_q_full k_q_full b_q_full .nil passL (pa_cons (pv 2) (pa_cons pe_int (pa_cons pe_int (pa_cons pe_int (pa_cons pe_int pa_nil)))))) pa_nil)) pa_nil))))) (pss_cons (ps_set (i := 8) nd rfl (.inl rfl) (pe_lst (pa_cons (pe_tup (pa_cons pe_str (pa_cons pe_str pa_nil))) (pa_cons (pe_tup (pa_cons pe_str (pa_cons pe_int (pa_cons (pe_un un_neg pe_int) pa_nil)))) (pa_cons (pe_tup (pa_cons pe_str (pa_cons pe_int (pa_cons (pe_un un_neg pe_int) pa_nil)))) (pa_cons (pe_tup (pa_cons pe_str (pa_cons pe_str pa_nil))) pa_nil)))))) (pss_cons (ps_set (i := 12) nd rfl (.inl rfl) (pe_tup (pa_cons (pe_ix (ix_Q hu1) (pv 10) pe_int (fun _ _ => rfl)) (pa_cons (pe_ix (ix_Q hu1) (pv 10) pe_int (fun _ _ => rfl)) (pa_cons (pe_tup (pa_cons (pe_op op_addQ (pe_tup (pa_cons pe_str pa_nil)) (pe_slice (sl_Q) (pe_ix (ix_Q hu1) (pe_ix (ix_Q hu1) (pv 10) pe_int (fun _ _ => rfl)) pe_int (fun _ _ => rfl)) (po_some pe_int) po_none)) pa_nil)) pa_nil))))) (pss_one (ps_ret (pe_andT (pe_cmpR (op_eqD hu64) (pv 11) (pv 8) (by first | rfl | exact nomark _)) (pe_one (pe_cmpR (op_eqD hu64) (pe_call G_q_said (hr.mono (by decide)) (by rfl) m_q_said k_q_said b_q_said .nil passL (pa_cons (pv 12) pa_nil)) (pe_tup (pa_cons pe_str (pa_cons pe_int (pa_cons (pe_un un_neg pe_int) pa_nil)))) (by first | rfl | exact nomark _)))))))))))), ?_⟩
  refine ⟨_, rfl, by show 1 ≤ sizeLine; decide, fun p4 n4 => ⟨_, _, _, _, rfl, rfl, (SameG.of ((Same.rfl' H).new n4)).sqL hS, upd_same, ?_, fun p5 n5 => ⟨3, rfl, _, _, rfl, SqL.of upd_same, fun p6 n6 => ⟨p6, rfl, ⟨_, SqL.of upd_same⟩, ?_⟩⟩⟩⟩
  · rw [List.length_map]
    exact Nat.le_trans (by show ns.length + 1 ≤ 64; omega) (show 64 ≤ sizeLine by decide)
  have e6 : upd (upd (upd H p4 (.lst [.int 0])) p5 (.lst (ns.map V.int ++ [.int 0]))) p6 (.lst (cutV (ns.map V.int ++ [.int 0]) none (some 3))) p6 = some (.lst (cutV (ns.map V.int ++ [.int 0]) none (some 3))) := upd_same
  generalize upd (upd (upd H p4 (.lst [.int 0])) p5 (.lst (ns.map V.int ++ [.int 0]))) p6 (.lst (cutV (ns.map V.int ++ [.int 0]) none (some 3))) = HC at e6 ⊢
  have hi : ∀ x ∈ cutV (ns.map V.int ++ [.int 0]) none (some 3), ∃ c : Int, x = .int c := by
    intro x hx
    have hx2 := List.mem_of_mem_drop (List.mem_of_mem_take hx)
    rw [List.mem_append, List.mem_map] at hx2
    rcases hx2 with ⟨c, _, e⟩ | e
    · exact ⟨c, e.symm⟩
    · exact ⟨0, List.mem_singleton.mp e⟩
  have hpos : 0 < (cutV (ns.map V.int ++ [V.int 0]) none (some 3)).length := by
    unfold cutV
    rw [List.length_take, List.length_drop]
    have hL : (ns.map V.int ++ [V.int 0]).length = ns.length + 1 := by simp
    rw [hL]
    simp only [HT.sIx]
    simp
    omega
  refine for_list (K := K) (xs := cutV (ns.map V.int ++ [.int 0]) none (some 3)) (fun i σ H' => Same HC H' ∧ σ.length = 14 ∧ (0 < i → ∃ v, σ[2]? = some (some v))) ⟨Same.rfl' HC, rfl, fun z => absurd z (Nat.lt_irrefl 0)⟩ (fun i σ H' _ h => SqL.of (h.1 _ _ e6)) (fun i x σ H' hx h => ?_) (fun σ H' h => ?_)
  · obtain ⟨sC, hl, _⟩ := h
    obtain ⟨c, rfl⟩ := hi x (List.mem_of_getElem? hx)
    refine ⟨_, (by simp [List.getElem?_set, hl] : (σ.set 1 (some (V.int c)))[1]? = some (some (V.int c))), c, rfl, fun src x0 y0 nsrc hx0 hy0 => ?_⟩
    have s1 : ((σ.set 1 (some (V.int c))).set 2 (some (V.ref src)))[2]? = some (some (V.ref src)) := by simp [List.getElem?_set, hl]
    refine ⟨_, s1, src, x0, y0, 0, 6, rfl, upd_same, hx0, by decide, by decide, fun r x' z' hr0 hr6 hx' => ⟨_, _, rfl, rfl, ?_⟩⟩
    refine ⟨_, s1, src, x', y0, z', 5, rfl, upd_same, hx', by decide, by decide, fun r2 x2 z2 hq0 hq5 hx2 => ⟨_, _, rfl, rfl, ?_⟩⟩
    refine ⟨by show 4 ≤ sizeLine; decide, fun p hp => ?_⟩
    refine ⟨p, _, rfl, SqL.of upd_same, rfl, _, _, rfl, _, _, rfl, _, _, rfl, _, _, rfl, rfl, ?_⟩
    have hCs : HC src = none := by
      cases q : HC src with
      | none => rfl
      | some o =>
        rw [sC _ _ q] at nsrc
        cases nsrc
    have sD : Same HC (upd (upd (upd (upd H' src (.lst [.int x0, .int y0, .int 0])) src (.lst [.int x', .int y0, .int z'])) src (.lst [.int x2, .int y0, .int z2])) p (.lst [.int (1 + r), .int (4 + r2), .int 4, .int 4])) := by
      refine Same.new (((sC.new nsrc).put hCs).put hCs) hp
    have ok := s1_all (V.ref src) (1 + r) (4 + r2) (by omega) (by omega) (by omega) (by omega)
    unfold ok1 at ok
    split at ok
    · rename_i env' h' e1
      split at ok
      · rename_i u hc hu
        refine ((sims_seq (sims_asg (sim_call (sim_cons (sim_var 2) (sim_cons (sim_var 3) (sim_cons (sim_var 4) (sim_cons (sim_var 5) (sim_cons (sim_var 6) sim_nil)))))) (simg_name 7)) (sims_seq (sims_asg (sim_lst sim_nil) (simg_name 8)) (sims_seq (sims_for (simi_rng1 (sim_cons (sim_var 3) sim_nil)) (simg_name 9) (sims_asg (sim_op simr_add (sim_var 8) (sim_lc (simi_rng1 (sim_cons (sim_var 4) sim_nil)) (simg_name 13) go_name sim_yes (sim_tup (sim_cons (sim_var 9) (sim_cons (sim_var 13) sim_nil))))) (simg_name 8))) (sims_if (sim_or (sim_test (sim_op simr_notN (sim_call (sim_cons (sim_var 7) sim_nil)) sim_non)) (sim_test (sim_op simr_ne (sim_call (sim_cons (sim_var 7) sim_nil)) (sim_var 8)))) (sims_ret sim_bl) sims_next)))) : SimS K E0 _ r_seg1) (fun _ => none) ⟨0, .nil⟩ (env1 (V.ref src) (1 + r) (4 + r2)) _ _ _ _ (re_of (by simp [env1, hl]) fun i u e => ?_) rh_nil e1 fun m' H3 σ' x3 R3 re3 => ?_
        · have L : ∀ {i : Nat} {u : U}, (env1 (V.ref src) (1 + r) (4 + r2))[i]? = some (some u) → (i = 2 ∧ u = .con (.ref src)) ∨ (i = 3 ∧ u = .int (1 + r)) ∨ (i = 4 ∧ u = .int (4 + r2)) ∨ (i = 5 ∧ u = .int 4) ∨ (i = 6 ∧ u = .int 4) := by
            intro i u e
            unfold env1 at e
            rcases i with _ | _ | _ | _ | _ | _ | _ | i
            · cases e
            · cases e
            · cases e; exact .inl ⟨rfl, rfl⟩
            · cases e; exact .inr (.inl ⟨rfl, rfl⟩)
            · cases e; exact .inr (.inr (.inl ⟨rfl, rfl⟩))
            · cases e; exact .inr (.inr (.inr (.inl ⟨rfl, rfl⟩)))
            · cases e; exact .inr (.inr (.inr (.inr ⟨rfl, rfl⟩)))
            · exfalso
              have : ∀ (j : Nat), (List.replicate 7 (none : Option U))[j]? ≠ some (some u) := by
                intro j z
                rw [List.getElem?_replicate] at z
                split at z <;> cases z
              exact this i (by simpa using e)
          rcases L e with ⟨rfl, rfl⟩ | ⟨rfl, rfl⟩ | ⟨rfl, rfl⟩ | ⟨rfl, rfl⟩ | ⟨rfl, rfl⟩
          · exact ⟨.ref src, by simp [List.getElem?_set, hl], rfl⟩
          · exact ⟨.int (1 + r), by simp [List.getElem?_set, hl], rfl⟩
          · exact ⟨.int (4 + r2), by simp [List.getElem?_set, hl], rfl⟩
          · exact ⟨.int 4, by simp [List.getElem?_set, hl], rfl⟩
          · exact ⟨.int 4, by simp [List.getElem?_set, hl], rfl⟩
        · refine ⟨sD.tr (ext_same x3), by rw [← re_len re3]; exact chk_len hc, fun _ => ?_⟩
          obtain ⟨v, e, _⟩ := re3.at hu
          exact ⟨v, e⟩
      · cases ok
    · cases ok
  · obtain ⟨sC, hl, hs⟩ := h
    obtain ⟨v, hv⟩ := hs hpos
    have ok := s2 v
    unfold ok2 at ok
    split at ok
    · rename_i env' h' e1
      refine ((sims_seq (sims_asg (sim_call (sim_cons (sim_var 2) (sim_cons sim_int (sim_cons sim_int (sim_cons sim_int (sim_cons sim_int sim_nil)))))) (simg_name 10)) (sims_seq (sims_if (sim_or (sim_test (sim_op simr_notN (sim_call (sim_cons (sim_var 10) sim_nil)) sim_non)) (sim_test (sim_op simr_ne (sim_cb simc_lenP (sim_cons (sim_call (sim_cons (sim_var 10) sim_nil)) sim_nil)) sim_int))) (sims_ret sim_bl) sims_next) (sims_seq (sims_asg (sim_lst (sim_cons (sim_call (sim_cons (sim_call (sim_cons (sim_var 2) (sim_cons sim_int (sim_cons sim_int (sim_cons sim_int (sim_cons sim_int sim_nil)))))) sim_nil)) (sim_cons (sim_call (sim_cons (sim_call (sim_cons (sim_var 2) (sim_cons sim_int (sim_cons sim_int (sim_cons sim_int (sim_cons sim_int sim_nil)))))) sim_nil)) sim_nil))) (simg_name 11)) (sims_seq (sims_asg (sim_op simr_add (sim_var 11) (sim_lst (sim_cons (sim_call (sim_cons (sim_call (sim_cons (sim_var 2) (sim_cons sim_int (sim_cons sim_int (sim_cons sim_int (sim_cons sim_int sim_nil)))))) sim_nil)) (sim_cons (sim_call (sim_cons (sim_call (sim_cons (sim_var 2) (sim_cons sim_int (sim_cons sim_int (sim_cons sim_int (sim_cons sim_int sim_nil)))))) sim_nil)) sim_nil)))) (simg_name 11)) (sims_seq (sims_asg (sim_lst (sim_cons (sim_tup (sim_cons (sim_str (by decide +kernel)) (sim_cons (sim_str (by decide +kernel)) sim_nil))) (sim_cons (sim_tup (sim_cons (sim_str (by decide +kernel)) (sim_cons sim_int (sim_cons (sim_neg sim_int) sim_nil)))) (sim_cons (sim_tup (sim_cons (sim_str (by decide +kernel)) (sim_cons sim_int (sim_cons (sim_neg sim_int) sim_nil)))) (sim_cons (sim_tup (sim_cons (sim_str (by decide +kernel)) (sim_cons (sim_str (by decide +kernel)) sim_nil))) sim_nil))))) (simg_name 8)) (sims_seq (sims_asg (sim_tup (sim_cons (sim_op simr_ixP (sim_var 10) sim_int) (sim_cons (sim_op simr_ixP (sim_var 10) sim_int) (sim_cons (sim_tup (sim_cons (sim_op simr_add (sim_tup (sim_cons (sim_str (by decide +kernel)) sim_nil)) (sim_sl (sim_op simr_ixP (sim_op simr_ixP (sim_var 10) sim_int) sim_int) (simo_some sim_int) simo_none)) sim_nil)) sim_nil)))) (simg_name 12)) (sims_ret (sim_andT (sim_op simr_eq (sim_var 11) (sim_var 8)) (sim_op simr_eq (sim_call (sim_cons (sim_var 12) sim_nil)) (sim_tup (sim_cons (sim_str (by decide +kernel)) (sim_cons sim_int (sim_cons (sim_neg sim_int) sim_nil))))))))))))) : SimS K E0 _ r_seg2) (fun _ => none) ⟨0, .nil⟩ (env2 v) _ _ _ _ (re_of (by simp [env2, hl]) fun i u e => ?_) rh_nil e1 fun m' H3 w x3 R3 q => ?_
      · have : i = 2 ∧ u = .con v := by
          unfold env2 at e
          rcases i with _ | _ | _ | i
          · cases e
          · cases e
          · cases e; exact ⟨rfl, rfl⟩
          · exfalso
            have : ∀ (j : Nat), (List.replicate 11 (none : Option U))[j]? ≠ some (some u) := by
              intro j z
              rw [List.getElem?_replicate] at z
              split at z <;> cases z
            exact this i (by simpa using e)
        obtain ⟨rfl, rfl⟩ := this
        exact ⟨v, hv, rfl⟩
      · cases q
        exact k _
    · cases ok
end
end K15
/-! EF1: the facts of own errors, from what the top says (once more, for any law) -/
namespace EF
open PySem L2
structure ErrIs (K : PySem.W.Frag) (S C : Addr) : Prop where
  err : ErrC K C
  isS : PySem.W.kitOne K (.ref C) (.ref S) = some true
  isV : PySem.W.kitOne K (.ref C) (.type "ValueError") = some true
structure ErrF (prog : Program) (K : PySem.W.Frag) (mg : Str → Option Value) (S : Addr) (x : Str) (C fI : Addr) (l : List (Str × Pos × Pos × Pos × Pos)) : Prop where
  T : PySem.XE.XT K mg x C
  I : PySem.XE.XI prog K C fI (l.map (·.1)) (PySem.XE.setsOf l)
  no : ∀ p ∈ l, PySem.W.findIn K (.ref C) p.1 = some none ∧ (p.1 == ("__debug__" : Str)) = false
  is : ErrIs K S C
  up : ∃ cd : ClassData, PySem.W.clsIn K C = some cd ∧ cd.mro = [.ref C, .ref S, .type "ValueError", .type "Exception", .type "BaseException", .type "object"]
def gPos {α : Type} : List α → List α → List α := fun us _ => us
section
variable {prog : Program} {K : PySem.W.Frag} {C fI : Addr} {rest : List Stmt} {f : Str}
theorem xp_part (I : PySem.XE.XI prog K C fI ["part"] rest) : PySem.XE.XB K fI ["part"] [] 1 gPos := I.binds fun q kV doc pm ct cdv an l p scope cc e body us ws hl h1 h2 => by
  match l, hl, us, h1, ws, h2 with
  | [(a, b)], hl, [u], _, [], _ =>
    simp only [List.map_cons, List.map_nil, List.cons.injEq, and_true] at hl
    subst hl
    exact ⟨rfl, rfl⟩
theorem xp_index (I : PySem.XE.XI prog K C fI ["index"] rest) : PySem.XE.XB K fI ["index"] [] 1 gPos := I.binds fun q kV doc pm ct cdv an l p scope cc e body us ws hl h1 h2 => by
  match l, hl, us, h1, ws, h2 with
  | [(a, b)], hl, [u], _, [], _ =>
    simp only [List.map_cons, List.map_nil, List.cons.injEq, and_true] at hl
    subst hl
    exact ⟨rfl, rfl⟩
theorem xp_owner (I : PySem.XE.XI prog K C fI ["owner"] rest) : PySem.XE.XB K fI ["owner"] [] 1 gPos := I.binds fun q kV doc pm ct cdv an l p scope cc e body us ws hl h1 h2 => by
  match l, hl, us, h1, ws, h2 with
  | [(a, b)], hl, [u], _, [], _ =>
    simp only [List.map_cons, List.map_nil, List.cons.injEq, and_true] at hl
    subst hl
    exact ⟨rfl, rfl⟩
theorem xp_item (I : PySem.XE.XI prog K C fI ["item"] rest) : PySem.XE.XB K fI ["item"] [] 1 gPos := I.binds fun q kV doc pm ct cdv an l p scope cc e body us ws hl h1 h2 => by
  match l, hl, us, h1, ws, h2 with
  | [(a, b)], hl, [u], _, [], _ =>
    simp only [List.map_cons, List.map_nil, List.cons.injEq, and_true] at hl
    subst hl
    exact ⟨rfl, rfl⟩
theorem xp_name (I : PySem.XE.XI prog K C fI ["name"] rest) : PySem.XE.XB K fI ["name"] [] 1 gPos := I.binds fun q kV doc pm ct cdv an l p scope cc e body us ws hl h1 h2 => by
  match l, hl, us, h1, ws, h2 with
  | [(a, b)], hl, [u], _, [], _ =>
    simp only [List.map_cons, List.map_nil, List.cons.injEq, and_true] at hl
    subst hl
    exact ⟨rfl, rfl⟩
theorem xp_mode (I : PySem.XE.XI prog K C fI ["mode"] rest) : PySem.XE.XB K fI ["mode"] [] 1 gPos := I.binds fun q kV doc pm ct cdv an l p scope cc e body us ws hl h1 h2 => by
  match l, hl, us, h1, ws, h2 with
  | [(a, b)], hl, [u], _, [], _ =>
    simp only [List.map_cons, List.map_nil, List.cons.injEq, and_true] at hl
    subst hl
    exact ⟨rfl, rfl⟩
theorem xp_place (I : PySem.XE.XI prog K C fI ["place"] rest) : PySem.XE.XB K fI ["place"] [] 1 gPos := I.binds fun q kV doc pm ct cdv an l p scope cc e body us ws hl h1 h2 => by
  match l, hl, us, h1, ws, h2 with
  | [(a, b)], hl, [u], _, [], _ =>
    simp only [List.map_cons, List.map_nil, List.cons.injEq, and_true] at hl
    subst hl
    exact ⟨rfl, rfl⟩
theorem xp_limit (I : PySem.XE.XI prog K C fI ["limit"] rest) : PySem.XE.XB K fI ["limit"] [] 1 gPos := I.binds fun q kV doc pm ct cdv an l p scope cc e body us ws hl h1 h2 => by
  match l, hl, us, h1, ws, h2 with
  | [(a, b)], hl, [u], _, [], _ =>
    simp only [List.map_cons, List.map_nil, List.cons.injEq, and_true] at hl
    subst hl
    exact ⟨rfl, rfl⟩
theorem xp_two (I : PySem.XE.XI prog K C fI ["template", "step"] rest) : PySem.XE.XB K fI ["template", "step"] [] 2 gPos := I.binds fun q kV doc pm ct cdv an l p scope cc e body us ws hl h1 h2 => by
  match l, hl, us, h1, ws, h2 with
  | [(a, b), (a2, b2)], hl, [u, v], _, [], _ =>
    simp only [List.map_cons, List.map_nil, List.cons.injEq, and_true] at hl
    obtain ⟨h3, h4⟩ := hl
    subst h3 h4
    exact ⟨rfl, rfl⟩
end
theorem kit_up {prog : Program} {K : PySem.W.Frag} {mg : Str → Option Value} {S C D fI fJ : Addr} {x y : Str} {l l' : List (Str × Pos × Pos × Pos × Pos)} (E : ErrF prog K mg S x C fI l) (E' : ErrF prog K mg S y D fJ l') (hs : D ≠ S) : PySem.W.kitOne K (.ref C) (.ref D) = some (decide (C = D)) := by
  by_cases h : C = D
  · subst h
    simp [PySem.W.kitOne]
  · obtain ⟨cd, hc, hm⟩ := E.up
    obtain ⟨cd', hc', _⟩ := E'.up
    have b : (Value.ref C == Value.ref D) = false := by
      rw [Bool.eq_false_iff]
      intro z
      exact h (Value.ref.inj (beq_iff_eq.mp z))
    have b1 : (Value.ref D == Value.ref C) = false := by
      rw [Bool.eq_false_iff]
      intro z
      exact h (Value.ref.inj (beq_iff_eq.mp z)).symm
    have b2 : (Value.ref D == Value.ref S) = false := by
      rw [Bool.eq_false_iff]
      intro z
      exact hs (Value.ref.inj (beq_iff_eq.mp z))
    unfold PySem.W.kitOne
    rw [b, if_neg Bool.false_ne_true]
    unfold PySem.W.kitCls
    have t : (Option.isSome (PySem.W.clsIn K D) && PySem.W.typeIn K (.ref D) == some (.type "type")) = true := by
      rw [hc', E'.T.tyC]
      simp
    simp only [t, if_true]
    show PySem.W.mroIn K C (.ref D) = _
    unfold PySem.W.mroIn
    rw [hc, Option.bind_some, hm]
    have b3 : ∀ T : String, (Value.ref D == Value.type T) = false := fun T => by
      rw [Bool.eq_false_iff]
      intro z
      exact Value.noConfusion (beq_iff_eq.mp z)
    simp [List.contains, List.elem, b1, b2, b3, h]
/-- the scope of such an __init__ -/
abbrev scp (fl : List Str) : Scope := { kind := .function, names := ((("self" : Str), NameKind.local) :: (fl.map fun f => (f, NameKind.local))) ++ [(("__class__" : Str), NameKind.free), (("super" : Str), NameKind.globalImplicit)], isGenerator := false, isCoroutine := false, more := [] }
abbrev chain (S : Addr) : List Value := [.ref S, .type "ValueError", .type "Exception", .type "BaseException", .type "object"]
theorem al_mk {K : PySem.W.Frag} {S N : Addr} {nm q : Str} {bs sub : List Value} {hdS : Bool} {sn : List Str} {ab : Bool} {col : Option Bool} {dd : Option Addr} {k0 k1 k2 k3 k5 : Option Value}
    (xS : K.lookup S = some (excClassObj nm q S N bs [.type "ValueError", .type "Exception", .type "BaseException", .type "object"] hdS sn sub ab col dd k0 k1 k2 k3 k5 "ValueError.__new__"))
    (fS : PySem.W.findIn K (.ref S) "__init__" = some (some (.builtin "ValueError.__init__"))) : PySem.W.alongIn K "__init__" (chain S) = some (some (.builtin "ValueError.__init__")) := by
  simp only [PySem.W.findIn, xS] at fS
  exact fS
section
variable {prog : Program} {K : PySem.W.Frag} {h : Heap} {mg : Str → Option Value} {x : Str} {S C fI : Addr} {l : List (Str × Pos × Pos × Pos × Pos)} {pl : List (Pos × Str)} {p p1 p2 p3 p4 p5 p6 : Pos} {m : Str} {j : Nat}
variable {nm qc : Str} {N : Addr} {bs : List Value} {sn : List Str} {sub : List Value} {ab : Bool} {col : Option Bool} {dd : Option Addr} {k0 k1 k2 k3 k5 : Option Value}
variable {oc kV doc pm ct ccl cl : Value} {od an cdd cld : Option Addr} {osl ccs csl : Array (Option Value)} {vs : Array Value} {cda cc : Addr} {file q : Str} {tf : Tok}
theorem errF_mk (X : K.In h) (G : h.Ns mainGlobals mg) (iS0 : PySem.W.isClsIn K S = true) (tS : PySem.W.typeIn K (.ref S) = some (.type "type")) (al : PySem.W.alongIn K "__init__" (chain S) = some (some (.builtin "ValueError.__init__")))
    (aC : PySem.W.nsIn K mainGlobals x = some (some (.ref C)))
    (xL : K.lookup C = some (excClassObj nm qc C N bs (chain S) true sn sub ab col dd k0 k1 k2 k3 k5 "ValueError.__new__"))
    (kC : PySem.W.keepIn K (.ref C) = true)
    (sa : PySem.W.findIn K (.ref C) "__setattr__" = some (some (.builtin "object.__setattr__"))) (ga : PySem.W.findIn K (.ref C) "__getattribute__" = some (some (.builtin "BaseException.__getattribute__"))) (gg : PySem.W.findIn K (.ref C) "__getattr__" = some none) (ha : PySem.W.findIn K (.ref C) "__class__" = some (some (.builtin "object.__class__")))
    (no : ∀ r ∈ l, PySem.W.findIn K (.ref C) r.1 = some none ∧ (r.1 == ("__debug__" : Str)) = false)
    (fi : PySem.W.findIn K (.ref C) "__init__" = some (some (.ref fI))) (ti : PySem.W.typeIn K (.ref fI) = some (.type "function"))
    (lk : K.lookup fI = some ⟨oc, od, .func (PySem.W.fnX "__init__" q (PySem.XE.iArgs p pl) (PySem.XE.iSup m j p1 p2 p3 p4 p5 p6 :: PySem.XE.setsOf l) (scp (l.map (·.1))) [("__class__", cc)] .none kV doc pm an (.ref cda) ct), osl⟩)
    (hcd : PySem.W.codeIn K (.ref cda) q = true) (lkc : K.lookup cda = some ⟨ccl, cdd, .fields vs, ccs⟩) (v2 : vs[2]? = some (.str file tf)) (hf : ((prog.main.file : Str) == file) = true) (lkcc : K.lookup cc = some ⟨cl, cld, .cell (some (.ref C)), csl⟩)
    (hpl : pl.map (·.2) = l.map (·.1)) (hline : (p3.endLine == p5.line) = true) (hsup : (scp (l.map (·.1))).names.lookup ("super" : Str) = some .globalImplicit) (hcls : (scp (l.map (·.1))).names.lookup ("__class__" : Str) = some .free)
    (hfl : ∀ f ∈ l.map (·.1), (scp (l.map (·.1))).names.lookup f = some .local) : ErrF prog K mg S x C fI l := by
  have iS : (PySem.W.clsIn K S).isSome = true := iS0
  have hc : PySem.W.clsIn K C = some { name := nm, bases := bs, mro := .ref C :: chain S, ns := N, qualname := qc, hasDict := true, slotNames := sn, subclasses := sub, abstract := ab, collection := col, hasDel := false } := by
    unfold PySem.W.clsIn
    rw [xL] <;> rfl
  have mro : ∀ b, PySem.W.mroIn K C b = some ((Value.ref C :: chain S).contains b) := fun b => by
    unfold PySem.W.mroIn
    rw [hc, Option.bind_some]
    rfl
  have tyC : PySem.W.typeIn K (.ref C) = some (.type "type") := by
    show (K.lookup C).map (·.cls) = _
    rw [xL] <;> rfl
  have hd : PySem.W.hasDictIn K C = true := by
    unfold PySem.W.hasDictIn
    rw [hc] <;> rfl
  have T : PySem.XE.XT K mg x C := {
    gC := PySem.W.mg_of X G aC, kC := kC, cls := ⟨nm, qc, N, bs, chain S, sn, sub, ab, col, dd, k0, k1, k2, k3, k5, xL, by rfl, al⟩, sa := sa, ga := ga, gg := gg
    hsB := by
      show PySem.W.mroIn K C _ = _
      rw [mro]
      simp [chain]
    hsV := by
      show PySem.W.mroIn K C _ = _
      rw [mro]
      simp [chain]
    tyC := tyC, hd := hd, ha := ha
    hm := by
      rw [mro]
      simp [chain]
    hself := by
      rw [mro]
      simp [chain] }
  refine ⟨T, ⟨fi, ti, oc, od, q, kV, doc, pm, ct, an, cda, osl, pl, p, p1, p2, p3, p4, p5, p6, m, j, _, cc, ccl, cl, cdd, cld, vs, ccs, csl, file, tf, lk, hcd, hpl, lkc, v2, hf, lkcc, hline, rfl, rfl, rfl, ?_, hsup, hcls, rfl, hfl⟩, no, ⟨⟨mg, x, T⟩, ?_, ?_⟩, _, hc, rfl⟩
  · intro y hy
    simp only [scp, List.cons_append, List.mem_cons, List.mem_append, List.mem_map, List.not_mem_nil, or_false] at hy
    rcases hy with rfl | ⟨f, _, rfl⟩ | rfl | rfl <;> simp
  · unfold PySem.W.kitOne
    split
    · rfl
    · unfold PySem.W.kitCls
      simp only [iS, tS]
      show (if _ then PySem.W.mroIn K C (.ref S) else none) = _
      rw [mro]
      simp [chain]
  · unfold PySem.W.kitOne
    rw [if_neg (by intro z; exact Value.noConfusion (beq_iff_eq.mp z))]
    unfold PySem.W.kitCls
    have km : PySem.W.kitMeta "ValueError" = true := by decide +kernel
    simp only [km, if_true]
    show PySem.W.mroIn K C _ = _
    rw [mro]
    simp [chain]
end
structure FO (fl : List Str) : Prop where
  sup : (scp fl).names.lookup ("super" : Str) = some .globalImplicit
  cls : (scp fl).names.lookup ("__class__" : Str) = some .free
  loc : ∀ f ∈ fl, (scp fl).names.lookup f = some .local
  dbg : ∀ f ∈ fl, (f == ("__debug__" : Str)) = false
theorem fo_part : FO ["part"] := ⟨by decide +kernel, by decide +kernel, by decide +kernel, by decide +kernel⟩
theorem fo_two : FO ["template", "step"] := ⟨by decide +kernel, by decide +kernel, by decide +kernel, by decide +kernel⟩
theorem fo_index : FO ["index"] := ⟨by decide +kernel, by decide +kernel, by decide +kernel, by decide +kernel⟩
theorem fo_owner : FO ["owner"] := ⟨by decide +kernel, by decide +kernel, by decide +kernel, by decide +kernel⟩
theorem fo_item : FO ["item"] := ⟨by decide +kernel, by decide +kernel, by decide +kernel, by decide +kernel⟩
theorem fo_mode : FO ["mode"] := ⟨by decide +kernel, by decide +kernel, by decide +kernel, by decide +kernel⟩
theorem fo_place : FO ["place"] := ⟨by decide +kernel, by decide +kernel, by decide +kernel, by decide +kernel⟩
theorem fo_name : FO ["name"] := ⟨by decide +kernel, by decide +kernel, by decide +kernel, by decide +kernel⟩
theorem fo_limit : FO ["limit"] := ⟨by decide +kernel, by decide +kernel, by decide +kernel, by decide +kernel⟩
theorem no_one {K : PySem.W.Frag} {C : Addr} {f : Str} {q1 q2 q3 q4 : Pos} (fo : FO [f]) (h : PySem.W.findIn K (.ref C) f = some none) : ∀ r ∈ [(f, q1, q2, q3, q4)], PySem.W.findIn K (.ref C) r.1 = some none ∧ (r.1 == ("__debug__" : Str)) = false := by
  intro r hr
  rw [List.mem_singleton] at hr
  subst hr
  exact ⟨h, fo.dbg f (List.mem_singleton.mpr rfl)⟩
theorem no_two {K : PySem.W.Frag} {C : Addr} {f g : Str} {q1 q2 q3 q4 r1 r2 r3 r4 : Pos} (fo : FO [f, g]) (h : PySem.W.findIn K (.ref C) f = some none) (h2 : PySem.W.findIn K (.ref C) g = some none) : ∀ r ∈ [(f, q1, q2, q3, q4), (g, r1, r2, r3, r4)], PySem.W.findIn K (.ref C) r.1 = some none ∧ (r.1 == ("__debug__" : Str)) = false := by
  intro r hr
  simp only [List.mem_cons, List.not_mem_nil, or_false] at hr
  rcases hr with rfl | rfl
  · exact ⟨h, fo.dbg f (by simp)⟩
  · exact ⟨h2, fo.dbg g (by simp)⟩
end EF
namespace K15
open PySem PySem.Spec PyProof.Rows L2 QE
abbrev l0 : List (Str × Pos × Pos × Pos × Pos) := [("part", ⟨13, 8, 13, 12⟩, ⟨13, 8, 13, 17⟩, ⟨13, 20, 13, 24⟩, ⟨13, 8, 13, 24⟩)]
abbrev l1 : List (Str × Pos × Pos × Pos × Pos) := [("template", ⟨18, 8, 18, 12⟩, ⟨18, 8, 18, 21⟩, ⟨18, 24, 18, 32⟩, ⟨18, 8, 18, 32⟩), ("step", ⟨19, 8, 19, 12⟩, ⟨19, 8, 19, 17⟩, ⟨19, 20, 19, 24⟩, ⟨19, 8, 19, 24⟩)]
theorem rus_nil {K : PySem.W.Frag} {m : Mp} {H : Hp} : RUs K m H [] [] := rfl
theorem rus_cons {K : PySem.W.Frag} {m : Mp} {H : Hp} {u : U} {us : List U} {v : V} {vs : List V} (h1 : RU K m H u v) (h2 : RUs K m H us vs) : RUs K m H (u :: us) (v :: vs) := ⟨v, vs, rfl, h1, h2⟩
theorem tupW_13 {K : PySem.W.Frag} {a a0 a1 a2 a3 a4 a5 a6 a7 a8 a9 a10 a11 a12 : Addr} {u0 u1 u2 u3 u4 u5 u6 u7 u8 u9 u10 u11 u12 : U} {od : Option Addr} {n : Nat} {sl : Array (Option Value)} (h : K.lookup a = some ⟨.type "tuple", od, .seq #[.ref a0, .ref a1, .ref a2, .ref a3, .ref a4, .ref a5, .ref a6, .ref a7, .ref a8, .ref a9, .ref a10, .ref a11, .ref a12] n, sl⟩) (r0 : ∀ m H, RU K m H u0 (.ref a0)) (r1 : ∀ m H, RU K m H u1 (.ref a1)) (r2 : ∀ m H, RU K m H u2 (.ref a2)) (r3 : ∀ m H, RU K m H u3 (.ref a3)) (r4 : ∀ m H, RU K m H u4 (.ref a4)) (r5 : ∀ m H, RU K m H u5 (.ref a5)) (r6 : ∀ m H, RU K m H u6 (.ref a6)) (r7 : ∀ m H, RU K m H u7 (.ref a7)) (r8 : ∀ m H, RU K m H u8 (.ref a8)) (r9 : ∀ m H, RU K m H u9 (.ref a9)) (r10 : ∀ m H, RU K m H u10 (.ref a10)) (r11 : ∀ m H, RU K m H u11 (.ref a11)) (r12 : ∀ m H, RU K m H u12 (.ref a12)) (m : Mp) (H : Hp) : RU K m H (.tup [u0, u1, u2, u3, u4, u5, u6, u7, u8, u9, u10, u11, u12]) (.ref a) :=
  ⟨a, [.ref a0, .ref a1, .ref a2, .ref a3, .ref a4, .ref a5, .ref a6, .ref a7, .ref a8, .ref a9, .ref a10, .ref a11, .ref a12], rfl, .inr ⟨_, _, _, h, rfl, rfl, (by show 13 ≤ sizeLine; decide), (.cons rfl (.cons rfl (.cons rfl (.cons rfl (.cons rfl (.cons rfl (.cons rfl (.cons rfl (.cons rfl (.cons rfl (.cons rfl (.cons rfl (.cons rfl .nil)))))))))))))⟩, (rus_cons (r0 m H) (rus_cons (r1 m H) (rus_cons (r2 m H) (rus_cons (r3 m H) (rus_cons (r4 m H) (rus_cons (r5 m H) (rus_cons (r6 m H) (rus_cons (r7 m H) (rus_cons (r8 m H) (rus_cons (r9 m H) (rus_cons (r10 m H) (rus_cons (r11 m H) (rus_cons (r12 m H) rus_nil)))))))))))))⟩
theorem tupW_15 {K : PySem.W.Frag} {a a0 a1 a2 a3 a4 a5 a6 a7 a8 a9 a10 a11 a12 a13 a14 : Addr} {u0 u1 u2 u3 u4 u5 u6 u7 u8 u9 u10 u11 u12 u13 u14 : U} {od : Option Addr} {n : Nat} {sl : Array (Option Value)} (h : K.lookup a = some ⟨.type "tuple", od, .seq #[.ref a0, .ref a1, .ref a2, .ref a3, .ref a4, .ref a5, .ref a6, .ref a7, .ref a8, .ref a9, .ref a10, .ref a11, .ref a12, .ref a13, .ref a14] n, sl⟩) (r0 : ∀ m H, RU K m H u0 (.ref a0)) (r1 : ∀ m H, RU K m H u1 (.ref a1)) (r2 : ∀ m H, RU K m H u2 (.ref a2)) (r3 : ∀ m H, RU K m H u3 (.ref a3)) (r4 : ∀ m H, RU K m H u4 (.ref a4)) (r5 : ∀ m H, RU K m H u5 (.ref a5)) (r6 : ∀ m H, RU K m H u6 (.ref a6)) (r7 : ∀ m H, RU K m H u7 (.ref a7)) (r8 : ∀ m H, RU K m H u8 (.ref a8)) (r9 : ∀ m H, RU K m H u9 (.ref a9)) (r10 : ∀ m H, RU K m H u10 (.ref a10)) (r11 : ∀ m H, RU K m H u11 (.ref a11)) (r12 : ∀ m H, RU K m H u12 (.ref a12)) (r13 : ∀ m H, RU K m H u13 (.ref a13)) (r14 : ∀ m H, RU K m H u14 (.ref a14)) (m : Mp) (H : Hp) : RU K m H (.tup [u0, u1, u2, u3, u4, u5, u6, u7, u8, u9, u10, u11, u12, u13, u14]) (.ref a) :=
  ⟨a, [.ref a0, .ref a1, .ref a2, .ref a3, .ref a4, .ref a5, .ref a6, .ref a7, .ref a8, .ref a9, .ref a10, .ref a11, .ref a12, .ref a13, .ref a14], rfl, .inr ⟨_, _, _, h, rfl, rfl, (by show 15 ≤ sizeLine; decide), (.cons rfl (.cons rfl (.cons rfl (.cons rfl (.cons rfl (.cons rfl (.cons rfl (.cons rfl (.cons rfl (.cons rfl (.cons rfl (.cons rfl (.cons rfl (.cons rfl (.cons rfl .nil)))))))))))))))⟩, (rus_cons (r0 m H) (rus_cons (r1 m H) (rus_cons (r2 m H) (rus_cons (r3 m H) (rus_cons (r4 m H) (rus_cons (r5 m H) (rus_cons (r6 m H) (rus_cons (r7 m H) (rus_cons (r8 m H) (rus_cons (r9 m H) (rus_cons (r10 m H) (rus_cons (r11 m H) (rus_cons (r12 m H) (rus_cons (r13 m H) (rus_cons (r14 m H) rus_nil)))))))))))))))⟩
theorem tupU_2 {K : PySem.W.Frag} {a : Addr} {y0 y1 : List Nat} {t0 t1 : PySem.Tok} {od : Option Addr} {n : Nat} {sl : Array (Option Value)} (h : K.lookup a = some ⟨.type "tuple", od, .seq #[.str (st y0) t0, .str (st y1) t1] n, sl⟩) (m : Mp) (H : Hp) : RU K m H (.tup [.str y0, .str y1]) (.ref a) :=
  ⟨a, [.str (st y0), .str (st y1)], rfl, .inr ⟨_, _, _, h, rfl, rfl, (by show 2 ≤ sizeLine; decide), (.cons ⟨_, rfl⟩ (.cons ⟨_, rfl⟩ .nil))⟩, (rus_cons (by show V.str (st y0) = V.str (st y0); rfl) (rus_cons (by show V.str (st y1) = V.str (st y1); rfl) rus_nil))⟩
theorem tupU_3 {K : PySem.W.Frag} {a : Addr} {y0 y1 y2 : List Nat} {t0 t1 t2 : PySem.Tok} {od : Option Addr} {n : Nat} {sl : Array (Option Value)} (h : K.lookup a = some ⟨.type "tuple", od, .seq #[.str (st y0) t0, .str (st y1) t1, .str (st y2) t2] n, sl⟩) (m : Mp) (H : Hp) : RU K m H (.tup [.str y0, .str y1, .str y2]) (.ref a) :=
  ⟨a, [.str (st y0), .str (st y1), .str (st y2)], rfl, .inr ⟨_, _, _, h, rfl, rfl, (by show 3 ≤ sizeLine; decide), (.cons ⟨_, rfl⟩ (.cons ⟨_, rfl⟩ (.cons ⟨_, rfl⟩ .nil)))⟩, (rus_cons (by show V.str (st y0) = V.str (st y0); rfl) (rus_cons (by show V.str (st y1) = V.str (st y1); rfl) (rus_cons (by show V.str (st y2) = V.str (st y2); rfl) rus_nil)))⟩
theorem tupU_6 {K : PySem.W.Frag} {a : Addr} {y0 y1 y2 y3 y4 y5 : List Nat} {t0 t1 t2 t3 t4 t5 : PySem.Tok} {od : Option Addr} {n : Nat} {sl : Array (Option Value)} (h : K.lookup a = some ⟨.type "tuple", od, .seq #[.str (st y0) t0, .str (st y1) t1, .str (st y2) t2, .str (st y3) t3, .str (st y4) t4, .str (st y5) t5] n, sl⟩) (m : Mp) (H : Hp) : RU K m H (.tup [.str y0, .str y1, .str y2, .str y3, .str y4, .str y5]) (.ref a) :=
  ⟨a, [.str (st y0), .str (st y1), .str (st y2), .str (st y3), .str (st y4), .str (st y5)], rfl, .inr ⟨_, _, _, h, rfl, rfl, (by show 6 ≤ sizeLine; decide), (.cons ⟨_, rfl⟩ (.cons ⟨_, rfl⟩ (.cons ⟨_, rfl⟩ (.cons ⟨_, rfl⟩ (.cons ⟨_, rfl⟩ (.cons ⟨_, rfl⟩ .nil))))))⟩, (rus_cons (by show V.str (st y0) = V.str (st y0); rfl) (rus_cons (by show V.str (st y1) = V.str (st y1); rfl) (rus_cons (by show V.str (st y2) = V.str (st y2); rfl) (rus_cons (by show V.str (st y3) = V.str (st y3); rfl) (rus_cons (by show V.str (st y4) = V.str (st y4); rfl) (rus_cons (by show V.str (st y5) = V.str (st y5); rfl) rus_nil))))))⟩
theorem all_mk {P : Program} {w : World} {K : PySem.W.Frag} {h : Heap} {mg : Str → Option Value} {fa CJ aJi S c0 c1 fi0 fi1 aUSUAL_NAMES aUSUAL_ALLOWED aUSUAL_JOINS aare_strings aare_letters aare_names aare_different_names ahas_faces awrong_joins aare_standard aread_and_write awrong_part acheck_modes arequire_modes acan_be_fulfilled aare_orders aitems_told asteps_fit ais_system awrong_place arequire_system acheck_system aasking_steps apositions aq_usual aq_long aq_full aq_mixed aq_source aq_take aq_said alaw : Addr} {tk0 tk1 tk2 tk3 tk4 tk5 : PySem.Tok} {oJi oare_strings oare_letters oare_names oare_different_names ohas_faces owrong_joins oare_standard oread_and_write owrong_part ocheck_modes orequire_modes ocan_be_fulfilled oare_orders oitems_told osteps_fit ois_system owrong_place orequire_system ocheck_system oasking_steps opositions oq_usual oq_long oq_full oq_mixed oq_source oq_take oq_said olaw : FuncData} (X : K.In h) (G : h.Ns mainGlobals mg) (hfa : mg "law" = some (.ref fa))
    (Aare_strings : PySem.W.nsIn K mainGlobals "are_strings" = some (some (.ref aare_strings)))
    (Fare_strings : Fun K "are_strings" "are_strings" s_are_strings aare_strings oare_strings)
    (bare_strings : Binds K oare_strings ["values"] [])
    (Aare_letters : PySem.W.nsIn K mainGlobals "are_letters" = some (some (.ref aare_letters)))
    (Fare_letters : Fun K "are_letters" "are_letters" s_are_letters aare_letters oare_letters)
    (bare_letters : Binds K oare_letters ["words"] [])
    (Aare_names : PySem.W.nsIn K mainGlobals "are_names" = some (some (.ref aare_names)))
    (Fare_names : Fun K "are_names" "are_names" s_are_names aare_names oare_names)
    (bare_names : Binds K oare_names ["values"] [])
    (Aare_different_names : PySem.W.nsIn K mainGlobals "are_different_names" = some (some (.ref aare_different_names)))
    (Fare_different_names : Fun K "are_different_names" "are_different_names" s_are_different_names aare_different_names oare_different_names)
    (bare_different_names : Binds K oare_different_names ["value", "least", "most"] [])
    (Ahas_faces : PySem.W.nsIn K mainGlobals "has_faces" = some (some (.ref ahas_faces)))
    (Fhas_faces : Fun K "has_faces" "has_faces" s_has_faces ahas_faces ohas_faces)
    (bhas_faces : Binds K ohas_faces ["bit", "face", "allowed"] [])
    (Awrong_joins : PySem.W.nsIn K mainGlobals "wrong_joins" = some (some (.ref awrong_joins)))
    (Fwrong_joins : Fun K "wrong_joins" "wrong_joins" s_wrong_joins awrong_joins owrong_joins)
    (bwrong_joins : Binds K owrong_joins ["bit", "joins", "face"] [])
    (Aare_standard : PySem.W.nsIn K mainGlobals "are_standard" = some (some (.ref aare_standard)))
    (Fare_standard : Fun K "are_standard" "are_standard" s_are_standard aare_standard oare_standard)
    (bare_standard : Binds K oare_standard ["modes"] [])
    (Aread_and_write : PySem.W.nsIn K mainGlobals "read_and_write" = some (some (.ref aread_and_write)))
    (Fread_and_write : Fun K "read_and_write" "read_and_write" s_read_and_write aread_and_write oread_and_write)
    (bread_and_write : Binds K oread_and_write ["modes"] [])
    (Awrong_part : PySem.W.nsIn K mainGlobals "wrong_part" = some (some (.ref awrong_part)))
    (Fwrong_part : Fun K "wrong_part" "wrong_part" s_wrong_part awrong_part owrong_part)
    (bwrong_part : Binds K owrong_part ["modes"] [])
    (Acheck_modes : PySem.W.nsIn K mainGlobals "check_modes" = some (some (.ref acheck_modes)))
    (Fcheck_modes : Fun K "check_modes" "check_modes" s_check_modes acheck_modes ocheck_modes)
    (bcheck_modes : Binds K ocheck_modes ["modes"] [])
    (Arequire_modes : PySem.W.nsIn K mainGlobals "require_modes" = some (some (.ref arequire_modes)))
    (Frequire_modes : Fun K "require_modes" "require_modes" s_require_modes arequire_modes orequire_modes)
    (brequire_modes : Binds K orequire_modes ["modes"] [])
    (Acan_be_fulfilled : PySem.W.nsIn K mainGlobals "can_be_fulfilled" = some (some (.ref acan_be_fulfilled)))
    (Fcan_be_fulfilled : Fun K "can_be_fulfilled" "can_be_fulfilled" s_can_be_fulfilled acan_be_fulfilled ocan_be_fulfilled)
    (bcan_be_fulfilled : Binds K ocan_be_fulfilled ["orders"] [])
    (Aare_orders : PySem.W.nsIn K mainGlobals "are_orders" = some (some (.ref aare_orders)))
    (Fare_orders : Fun K "are_orders" "are_orders" s_are_orders aare_orders oare_orders)
    (bare_orders : Binds K oare_orders ["orders", "tables"] [])
    (Aitems_told : PySem.W.nsIn K mainGlobals "items_told" = some (some (.ref aitems_told)))
    (Fitems_told : Fun K "items_told" "items_told" s_items_told aitems_told oitems_told)
    (bitems_told : Binds K oitems_told ["template", "fixed", "words"] [])
    (Asteps_fit : PySem.W.nsIn K mainGlobals "steps_fit" = some (some (.ref asteps_fit)))
    (Fsteps_fit : Fun K "steps_fit" "steps_fit" s_steps_fit asteps_fit osteps_fit)
    (bsteps_fit : Binds K osteps_fit ["steps", "items", "modes"] [])
    (Ais_system : PySem.W.nsIn K mainGlobals "is_system" = some (some (.ref ais_system)))
    (Fis_system : Fun K "is_system" "is_system" s_is_system ais_system ois_system)
    (bis_system : Binds K ois_system ["system"] [])
    (Awrong_place : PySem.W.nsIn K mainGlobals "wrong_place" = some (some (.ref awrong_place)))
    (Fwrong_place : Fun K "wrong_place" "wrong_place" s_wrong_place awrong_place owrong_place)
    (bwrong_place : Binds K owrong_place ["system", "template", "taken"] [])
    (Arequire_system : PySem.W.nsIn K mainGlobals "require_system" = some (some (.ref arequire_system)))
    (Frequire_system : Fun K "require_system" "require_system" s_require_system arequire_system orequire_system)
    (brequire_system : Binds K orequire_system ["system"] [])
    (Acheck_system : PySem.W.nsIn K mainGlobals "check_system" = some (some (.ref acheck_system)))
    (Fcheck_system : Fun K "check_system" "check_system" s_check_system acheck_system ocheck_system)
    (bcheck_system : Binds K ocheck_system ["system"] [])
    (Aasking_steps : PySem.W.nsIn K mainGlobals "asking_steps" = some (some (.ref aasking_steps)))
    (Fasking_steps : Fun K "asking_steps" "asking_steps" s_asking_steps aasking_steps oasking_steps)
    (basking_steps : Binds K oasking_steps ["table", "steps"] [])
    (Apositions : PySem.W.nsIn K mainGlobals "positions" = some (some (.ref apositions)))
    (Fpositions : Fun K "positions" "positions" s_positions apositions opositions)
    (bpositions : Binds K opositions ["system"] [])
    (Aq_usual : PySem.W.nsIn K mainGlobals "_law_usual" = some (some (.ref aq_usual)))
    (Fq_usual : Fun K "_law_usual" "_law_usual" s_q_usual aq_usual oq_usual)
    (bq_usual : Binds K oq_usual [] [])
    (Aq_long : PySem.W.nsIn K mainGlobals "_law_long" = some (some (.ref aq_long)))
    (Fq_long : Fun K "_law_long" "_law_long" s_q_long aq_long oq_long)
    (bq_long : Binds K oq_long ["_law_letters"] [])
    (Aq_full : PySem.W.nsIn K mainGlobals "_law_full" = some (some (.ref aq_full)))
    (Fq_full : Fun K "_law_full" "_law_full" s_q_full aq_full oq_full)
    (bq_full : Binds K oq_full ["_law_source_here", "_law_many", "_law_size", "_law_width", "_law_fixed"] [])
    (Aq_mixed : PySem.W.nsIn K mainGlobals "_law_mixed" = some (some (.ref aq_mixed)))
    (Fq_mixed : Fun K "_law_mixed" "_law_mixed" sMixed aq_mixed oq_mixed)
    (bq_mixed : Binds K oq_mixed ["_law_cell", "_law_draw"] [])
    (Aq_source : PySem.W.nsIn K mainGlobals "_law_source" = some (some (.ref aq_source)))
    (Fq_source : Fun K "_law_source" "_law_source" sSource aq_source oq_source)
    (bq_source : Binds K oq_source ["_law_cell"] [])
    (Aq_take : PySem.W.nsIn K mainGlobals "_law_take" = some (some (.ref aq_take)))
    (Fq_take : Fun K "_law_take" "_law_take" sTake aq_take oq_take)
    (bq_take : Binds K oq_take ["_law_source_here", "_law_bound"] [])
    (Aq_said : PySem.W.nsIn K mainGlobals "_law_said" = some (some (.ref aq_said)))
    (Fq_said : Fun K "_law_said" "_law_said" sSaid aq_said oq_said)
    (bq_said : Binds K oq_said ["_law_plan"] [])
    (Alaw : PySem.W.nsIn K mainGlobals "law" = some (some (.ref alaw)))
    (Flaw : Fun K "law" "law" sLaw alaw olaw)
    (bLaw : ∀ (s : Shared) (u : Value), BindsTo s olaw ⟨[u], []⟩ [("_law_script", u)])
    (AJ : PySem.W.nsIn K mainGlobals "Joins" = some (some (.ref CJ)))
    (MJ : Mk K CJ aJi)
    (clJ : Cls K CJ)
    (noR : PySem.W.findIn K (.ref CJ) "rows" = some none)
    (FJi : Fun K "__init__" "Joins.__init__" s_Joins_init aJi oJi)
    (bJi : Binds K oJi ["self", "modes"] [])
    (b_all : PySem.W.nsIn K mainGlobals "all" = some none)
    (b_dict : PySem.W.nsIn K mainGlobals "dict" = some none)
    (b_enumerate : PySem.W.nsIn K mainGlobals "enumerate" = some none)
    (b_int : PySem.W.nsIn K mainGlobals "int" = some none)
    (b_isinstance : PySem.W.nsIn K mainGlobals "isinstance" = some none)
    (b_len : PySem.W.nsIn K mainGlobals "len" = some none)
    (b_list : PySem.W.nsIn K mainGlobals "list" = some none)
    (b_map : PySem.W.nsIn K mainGlobals "map" = some none)
    (b_max : PySem.W.nsIn K mainGlobals "max" = some none)
    (b_range : PySem.W.nsIn K mainGlobals "range" = some none)
    (b_set : PySem.W.nsIn K mainGlobals "set" = some none)
    (b_str : PySem.W.nsIn K mainGlobals "str" = some none)
    (b_super : PySem.W.nsIn K mainGlobals "super" = some none)
    (b_tuple : PySem.W.nsIn K mainGlobals "tuple" = some none)
    (b_abs : PySem.W.nsIn K mainGlobals "abs" = some none)
    (gLONGEST_NAME : PySem.W.nsIn K mainGlobals "LONGEST_NAME" = some (some (.int 12 tk0)))
    (gMOST_FIXED : PySem.W.nsIn K mainGlobals "MOST_FIXED" = some (some (.int 4 tk1)))
    (gMOST_MODES : PySem.W.nsIn K mainGlobals "MOST_MODES" = some (some (.int 6 tk2)))
    (gMOST_PARAMS : PySem.W.nsIn K mainGlobals "MOST_PARAMS" = some (some (.int 4 tk3)))
    (gMOST_STEPS : PySem.W.nsIn K mainGlobals "MOST_STEPS" = some (some (.int 8 tk4)))
    (gMOST_TEMPLATES : PySem.W.nsIn K mainGlobals "MOST_TEMPLATES" = some (some (.int 6 tk5)))
    (gUSUAL_NAMES : PySem.W.nsIn K mainGlobals "USUAL_NAMES" = some (some (.ref aUSUAL_NAMES)))
    (rUSUAL_NAMES : ∀ m H, RU K m H u_USUAL_NAMES (.ref aUSUAL_NAMES))
    (gUSUAL_ALLOWED : PySem.W.nsIn K mainGlobals "USUAL_ALLOWED" = some (some (.ref aUSUAL_ALLOWED)))
    (rUSUAL_ALLOWED : ∀ m H, RU K m H u_USUAL_ALLOWED (.ref aUSUAL_ALLOWED))
    (gUSUAL_JOINS : PySem.W.nsIn K mainGlobals "USUAL_JOINS" = some (some (.ref aUSUAL_JOINS)))
    (rUSUAL_JOINS : ∀ m H, RU K m H u_USUAL_JOINS (.ref aUSUAL_JOINS))
    (gS : PySem.W.nsIn K mainGlobals "StuckError" = some (some (.ref S)))
    (E0 : EF.ErrF P K mg S "InvalidSystem" c0 fi0 l0)
    (n0 : PySem.W.nsIn K mainGlobals "InvalidSystem" = some (some (.ref c0)))
    (x0 : PySem.W.exmOne K (.ref c0) (.ref S) = some true)
    (E1 : EF.ErrF P K mg S "InvalidTemplate" c1 fi1 l1)
    (n1 : PySem.W.nsIn K mainGlobals "InvalidTemplate" = some (some (.ref c1)))
    (x1 : PySem.W.exmOne K (.ref c1) (.ref S) = some true)
    (GG : PySem.XE.XG P K)
    (nS0 : c0 ≠ S)
    (nS1 : c1 ≠ S)
    (nT : c0 ≠ c1) :
    ∃ fd : FuncData, (∀ (s : Shared) (u : Value), BindsTo s fd ⟨[u], []⟩ [("_law_script", u)]) ∧ ∀ base : Heap, K.In base → base.Ns mainGlobals mg → AtTop P w K mg base fa fd "_law_script" (spLaw2 K) := by
  have e := hfa.symm.trans (PySem.W.mg_of X G Alaw)
  cases e
  have M : ∀ {x : Str} {r : Value}, PySem.W.nsIn K mainGlobals x = some (some r) → mg x = some r := fun e => PySem.W.mg_of X G e
  have N : ∀ {x : Str}, PySem.W.nsIn K mainGlobals x = some none → mg x = none := fun e => PySem.W.mg_none_of X G e
  have eJ : ("Joins" : Str) = st [74, 111, 105, 110, 115] := by decide +kernel
  have e0 : ("InvalidSystem" : Str) = st [73, 110, 118, 97, 108, 105, 100, 83, 121, 115, 116, 101, 109] := by decide +kernel
  have e1 : ("InvalidTemplate" : Str) = st [73, 110, 118, 97, 108, 105, 100, 84, 101, 109, 112, 108, 97, 116, 101] := by decide +kernel
  have eR : ("rows" : Str) = st [114, 111, 119, 115] := by decide +kernel
  have BB : Blt mg := { all := N b_all, dict := N b_dict, enum := N b_enumerate, isi := N b_isinstance, len := N b_len, list := N b_list, map := N b_map, max := N b_max, range := N b_range, set := N b_set, str := N b_str, tuple := N b_tuple }
  have GG2 : Glo K mg := { g_LONGEST_NAME := ⟨_, M gLONGEST_NAME⟩, g_MOST_FIXED := ⟨_, M gMOST_FIXED⟩, g_MOST_MODES := ⟨_, M gMOST_MODES⟩, g_MOST_PARAMS := ⟨_, M gMOST_PARAMS⟩, g_MOST_STEPS := ⟨_, M gMOST_STEPS⟩, g_MOST_TEMPLATES := ⟨_, M gMOST_TEMPLATES⟩, g_USUAL_NAMES := ⟨_, M gUSUAL_NAMES, rUSUAL_NAMES⟩, g_USUAL_ALLOWED := ⟨_, M gUSUAL_ALLOWED, rUSUAL_ALLOWED⟩, g_USUAL_JOINS := ⟨_, M gUSUAL_JOINS, rUSUAL_JOINS⟩ }
  have FLr : ∀ C ∈ [[74, 111, 105, 110, 115]], ∀ A, PySem.W.nsIn K mainGlobals (st C) = some (some (.ref A)) → Cls K A ∧ NoAttr K A (st [114, 111, 119, 115]) := by
    intro C hC A hA
    cases List.mem_singleton.mp hC
    rw [← eJ, AJ] at hA
    cases hA
    rw [← eR]
    exact ⟨clJ, noR⟩
  have FL : Flds K := ⟨FLr⟩
  refine ⟨olaw, bLaw, fun base _ _ => ?_⟩
  have P_InvalidSystem : Pr_InvalidSystem P w K mg base := ⟨c0, fi0, l0, (by rw [← e0]; exact n0), (by decide +kernel), ⟨E0.T, E0.I, GG, N b_super, by decide, by decide, by decide, E0.no⟩, EF.xp_part E0.I⟩
  have P_InvalidTemplate : Pr_InvalidTemplate P w K mg base := ⟨c1, fi1, l1, (by rw [← e1]; exact n1), (by decide +kernel), ⟨E1.T, E1.I, GG, N b_super, by decide, by decide, by decide, E1.no⟩, EF.xp_two E1.I⟩
  have P_are_strings : Pr_are_strings P w K mg base := ⟨_, _, M Aare_strings, Fare_strings.kp, bare_strings, ok_are_strings Fare_strings BB GG2 FL ⟩
  have P_are_letters : Pr_are_letters P w K mg base := ⟨_, _, M Aare_letters, Fare_letters.kp, bare_letters, ok_are_letters Fare_letters BB GG2 FL ⟩
  have P_are_names : Pr_are_names P w K mg base := ⟨_, _, M Aare_names, Fare_names.kp, bare_names, ok_are_names Fare_names BB GG2 FL P_are_strings P_are_letters⟩
  have P_are_different_names : Pr_are_different_names P w K mg base := ⟨_, _, M Aare_different_names, Fare_different_names.kp, bare_different_names, ok_are_different_names Fare_different_names BB GG2 FL P_are_names⟩
  have P_Joins_init : Pr_Joins_init P w K mg base := ⟨_, _, _, (by rw [← eJ]; exact AJ), M AJ, MJ, bJi, ok_Joins_init FJi BB GG2 FL ⟩
  have P_has_faces : Pr_has_faces P w K mg base := ⟨_, _, M Ahas_faces, Fhas_faces.kp, bhas_faces, ok_has_faces Fhas_faces BB GG2 FL ⟩
  have P_wrong_joins : Pr_wrong_joins P w K mg base := ⟨_, _, M Awrong_joins, Fwrong_joins.kp, bwrong_joins, ok_wrong_joins Fwrong_joins BB GG2 FL ⟩
  have P_are_standard : Pr_are_standard P w K mg base := ⟨_, _, M Aare_standard, Fare_standard.kp, bare_standard, ok_are_standard Fare_standard BB GG2 FL ⟩
  have P_read_and_write : Pr_read_and_write P w K mg base := ⟨_, _, M Aread_and_write, Fread_and_write.kp, bread_and_write, ok_read_and_write Fread_and_write BB GG2 FL ⟩
  have P_wrong_part : Pr_wrong_part P w K mg base := ⟨_, _, M Awrong_part, Fwrong_part.kp, bwrong_part, ok_wrong_part Fwrong_part BB GG2 FL P_read_and_write P_are_standard P_has_faces P_wrong_joins⟩
  have P_check_modes : Pr_check_modes P w K mg base := ⟨_, _, M Acheck_modes, Fcheck_modes.kp, bcheck_modes, ok_check_modes Fcheck_modes BB GG2 FL P_are_names P_wrong_part⟩
  have P_require_modes : Pr_require_modes P w K mg base := ⟨_, _, M Arequire_modes, Frequire_modes.kp, brequire_modes, ok_require_modes Frequire_modes BB GG2 FL P_check_modes⟩
  have P_can_be_fulfilled : Pr_can_be_fulfilled P w K mg base := ⟨_, _, M Acan_be_fulfilled, Fcan_be_fulfilled.kp, bcan_be_fulfilled, ok_can_be_fulfilled Fcan_be_fulfilled BB GG2 FL ⟩
  have P_are_orders : Pr_are_orders P w K mg base := ⟨_, _, M Aare_orders, Fare_orders.kp, bare_orders, ok_are_orders Fare_orders BB GG2 FL P_can_be_fulfilled⟩
  have P_items_told : Pr_items_told P w K mg base := ⟨_, _, M Aitems_told, Fitems_told.kp, bitems_told, ok_items_told Fitems_told BB GG2 FL P_are_orders⟩
  have P_steps_fit : Pr_steps_fit P w K mg base := ⟨_, _, M Asteps_fit, Fsteps_fit.kp, bsteps_fit, ok_steps_fit Fsteps_fit BB GG2 FL ⟩
  have P_is_system : Pr_is_system P w K mg base := ⟨_, _, M Ais_system, Fis_system.kp, bis_system, ok_is_system Fis_system BB GG2 FL P_are_strings P_items_told P_steps_fit P_are_letters P_wrong_part⟩
  have P_wrong_place : Pr_wrong_place P w K mg base := ⟨_, _, M Awrong_place, Fwrong_place.kp, bwrong_place, ok_wrong_place Fwrong_place BB GG2 FL P_items_told P_are_letters P_steps_fit⟩
  have P_require_system : Pr_require_system P w K mg base := ⟨_, _, M Arequire_system, Frequire_system.kp, brequire_system, ok_require_system Frequire_system BB GG2 FL P_InvalidSystem P_require_modes P_are_different_names P_wrong_place P_InvalidTemplate⟩
  have P_check_system : Pr_check_system P w K mg base := ⟨_, _, M Acheck_system, Fcheck_system.kp, bcheck_system, ok_check_system Fcheck_system BB GG2 FL P_is_system P_require_system⟩
  have P_asking_steps : Pr_asking_steps P w K mg base := ⟨_, _, M Aasking_steps, Fasking_steps.kp, basking_steps, ok_asking_steps Fasking_steps BB GG2 FL ⟩
  have P_positions : Pr_positions P w K mg base := ⟨_, _, M Apositions, Fpositions.kp, bpositions, ok_positions Fpositions BB GG2 FL P_check_system P_Joins_init P_asking_steps⟩
  have P_q_usual : Pr_q_usual P w K mg base := ⟨_, _, M Aq_usual, Fq_usual.kp, bq_usual, ok_q_usual Fq_usual BB GG2 FL ⟩
  have P_q_long : Pr_q_long P w K mg base := ⟨_, _, M Aq_long, Fq_long.kp, bq_long, ok_q_long Fq_long BB GG2 FL ⟩
  have P_q_full : Pr_q_full P w K mg base := ⟨_, _, M Aq_full, Fq_full.kp, bq_full, ok_q_full Fq_full BB GG2 FL P_q_long P_q_usual⟩
  have hS : ∃ S, mg "StuckError" = some (.ref S) ∧ ∀ A, (PySem.W.nsIn K mainGlobals (st [73, 110, 118, 97, 108, 105, 100, 84, 101, 109, 112, 108, 97, 116, 101]) = some (some (.ref A)) ∨ PySem.W.nsIn K mainGlobals (st [73, 110, 118, 97, 108, 105, 100, 83, 121, 115, 116, 101, 109]) = some (some (.ref A))) → PySem.W.exmOne K (.ref A) (.ref S) = some true := by
    refine ⟨S, M gS, fun A hA => ?_⟩
    rcases hA with hA | hA
    · rw [← e1, n1] at hA
      cases hA
      exact x1
    · rw [← e0, n0] at hA
      cases hA
      exact x0
  have SX : Sfx P K mg := { isi := N b_isinstance, hS := hS, G := GG.toXG0, T := ⟨c1, c0, M n1, (by rw [← e1]; exact n1), E1.is.err, (by rw [EF.kit_up E1 E1 nS1]; simp), (E1.no _ (.head _)).1, (E1.no _ (.tail _ (.head _))).1, M n0, (by rw [← e0]; exact n0), E0.is.err, (by rw [EF.kit_up E0 E1 nS1, decide_eq_false nT]), (by rw [EF.kit_up E0 E0 nS0]; simp), (E0.no _ (.head _)).1⟩ }
  have P_q_said : Pr_q_said P w K mg base := ⟨_, _, M Aq_said, Fq_said.kp, bq_said, ok_q_said Fq_said SX P_check_system⟩
  have TB : TxtB mg := { int := N b_int, abs := N b_abs, len := N b_len }
  have GTk := ok_take (P := P) (w := w) (base := base) Fq_take TB Fq_mixed bq_mixed (M Aq_mixed)
  have GSrc := ok_source (P := P) (w := w) (base := base) Fq_source TB
  have BL : BltL mg := { len := N b_len, range := N b_range }
  exact ok_law Flaw BL P_q_full P_q_said P_positions GSrc (M Aq_source) Fq_source.kp bq_source GTk (M Aq_take) Fq_take.kp bq_take
end K15
open PySem PySem.W PyProof.Rows L2
theorem K15.walk {l : PySem.W.OpenLaw} {q : Program} {loose : List Str} {XP : (Str → Option Value) → Heap → Prop} {YP : World → Heap → Prop} {d : DefRec} {K : Params → PySem.W.Frag} (hn : l.most = some 63) (hdf : d.params.defaults = [])
    (hY : ∀ (w : World) (h : Heap), YP w h → (K w.params).In h)
    (F : ∀ (w : World) (mg : Str → Option Value) (fa : Addr) (h : Heap), (K w.params).In h → h.Ns mainGlobals mg → mg d.name = some (.ref fa) →
      ∃ fd : FuncData, (∀ (s : Shared) (u : Value), BindsTo s fd ⟨[u], []⟩ [("_law_script", u)]) ∧ ∀ base : Heap, (K w.params).In base → base.Ns mainGlobals mg → AtTop l.prog w (K w.params) mg base fa fd "_law_script" (K15.spLaw2 (K w.params))) :
    PySem.W.WalkO q loose XP YP l.row.toRowW d [] (fun f vs => PySem.call f vs) :=
  L2.walk_top (n := 63) (x := "_law_script") (sp := fun w => K15.spLaw2 (K w.params)) hn (by decide) hdf hY F fun _ _ a ns hl _ hS => ⟨a, ns, rfl, hS, hl, fun _ => rfl⟩
set_option maxHeartbeats 0 in
theorem PySem.Challenge.cw_stuckrows_k15_greatest_systems_holds : PySem.Challenge.rw_stuckrows_k15_greatest_systems.Holds := by
  w_on; o_law; k_head; (case hw => w_witness2)
  k_fill
  refine K15.walk (l := PySem.Challenge.rw_stuckrows_k15_greatest_systems) rfl rfl (fun w h Y => PySem.W.kIn_of Y) ?F
  case F =>
    intro w mg fa h KX G hmg
    refine' K15.all_mk KX G hmg
      ?Aare_strings
      (fun_mk (x := "are_strings") (qual := "are_strings") (st := K15.s_are_strings) ?Lare_strings ?Care_strings ?Kare_strings)
      ((fun_mk (x := "are_strings") (qual := "are_strings") (st := K15.s_are_strings) ?Lare_strings ?Care_strings ?Kare_strings).binds (ps := ["values"]) fun _ _ _ _ _ _ us hl => match us, hl with | [_], _ => rfl)
      ?Aare_letters
      (fun_mk (x := "are_letters") (qual := "are_letters") (st := K15.s_are_letters) ?Lare_letters ?Care_letters ?Kare_letters)
      ((fun_mk (x := "are_letters") (qual := "are_letters") (st := K15.s_are_letters) ?Lare_letters ?Care_letters ?Kare_letters).binds (ps := ["words"]) fun _ _ _ _ _ _ us hl => match us, hl with | [_], _ => rfl)
      ?Aare_names
      (fun_mk (x := "are_names") (qual := "are_names") (st := K15.s_are_names) ?Lare_names ?Care_names ?Kare_names)
      ((fun_mk (x := "are_names") (qual := "are_names") (st := K15.s_are_names) ?Lare_names ?Care_names ?Kare_names).binds (ps := ["values"]) fun _ _ _ _ _ _ us hl => match us, hl with | [_], _ => rfl)
      ?Aare_different_names
      (fun_mk (x := "are_different_names") (qual := "are_different_names") (st := K15.s_are_different_names) ?Lare_different_names ?Care_different_names ?Kare_different_names)
      ((fun_mk (x := "are_different_names") (qual := "are_different_names") (st := K15.s_are_different_names) ?Lare_different_names ?Care_different_names ?Kare_different_names).binds (ps := ["value", "least", "most"]) fun _ _ _ _ _ _ us hl => match us, hl with | [_, _, _], _ => rfl)
      ?Ahas_faces
      (fun_mk (x := "has_faces") (qual := "has_faces") (st := K15.s_has_faces) ?Lhas_faces ?Chas_faces ?Khas_faces)
      ((fun_mk (x := "has_faces") (qual := "has_faces") (st := K15.s_has_faces) ?Lhas_faces ?Chas_faces ?Khas_faces).binds (ps := ["bit", "face", "allowed"]) fun _ _ _ _ _ _ us hl => match us, hl with | [_, _, _], _ => rfl)
      ?Awrong_joins
      (fun_mk (x := "wrong_joins") (qual := "wrong_joins") (st := K15.s_wrong_joins) ?Lwrong_joins ?Cwrong_joins ?Kwrong_joins)
      ((fun_mk (x := "wrong_joins") (qual := "wrong_joins") (st := K15.s_wrong_joins) ?Lwrong_joins ?Cwrong_joins ?Kwrong_joins).binds (ps := ["bit", "joins", "face"]) fun _ _ _ _ _ _ us hl => match us, hl with | [_, _, _], _ => rfl)
      ?Aare_standard
      (fun_mk (x := "are_standard") (qual := "are_standard") (st := K15.s_are_standard) ?Lare_standard ?Care_standard ?Kare_standard)
      ((fun_mk (x := "are_standard") (qual := "are_standard") (st := K15.s_are_standard) ?Lare_standard ?Care_standard ?Kare_standard).binds (ps := ["modes"]) fun _ _ _ _ _ _ us hl => match us, hl with | [_], _ => rfl)
      ?Aread_and_write
      (fun_mk (x := "read_and_write") (qual := "read_and_write") (st := K15.s_read_and_write) ?Lread_and_write ?Cread_and_write ?Kread_and_write)
      ((fun_mk (x := "read_and_write") (qual := "read_and_write") (st := K15.s_read_and_write) ?Lread_and_write ?Cread_and_write ?Kread_and_write).binds (ps := ["modes"]) fun _ _ _ _ _ _ us hl => match us, hl with | [_], _ => rfl)
      ?Awrong_part
      (fun_mk (x := "wrong_part") (qual := "wrong_part") (st := K15.s_wrong_part) ?Lwrong_part ?Cwrong_part ?Kwrong_part)
      ((fun_mk (x := "wrong_part") (qual := "wrong_part") (st := K15.s_wrong_part) ?Lwrong_part ?Cwrong_part ?Kwrong_part).binds (ps := ["modes"]) fun _ _ _ _ _ _ us hl => match us, hl with | [_], _ => rfl)
      ?Acheck_modes
      (fun_mk (x := "check_modes") (qual := "check_modes") (st := K15.s_check_modes) ?Lcheck_modes ?Ccheck_modes ?Kcheck_modes)
      ((fun_mk (x := "check_modes") (qual := "check_modes") (st := K15.s_check_modes) ?Lcheck_modes ?Ccheck_modes ?Kcheck_modes).binds (ps := ["modes"]) fun _ _ _ _ _ _ us hl => match us, hl with | [_], _ => rfl)
      ?Arequire_modes
      (fun_mk (x := "require_modes") (qual := "require_modes") (st := K15.s_require_modes) ?Lrequire_modes ?Crequire_modes ?Krequire_modes)
      ((fun_mk (x := "require_modes") (qual := "require_modes") (st := K15.s_require_modes) ?Lrequire_modes ?Crequire_modes ?Krequire_modes).binds (ps := ["modes"]) fun _ _ _ _ _ _ us hl => match us, hl with | [_], _ => rfl)
      ?Acan_be_fulfilled
      (fun_mk (x := "can_be_fulfilled") (qual := "can_be_fulfilled") (st := K15.s_can_be_fulfilled) ?Lcan_be_fulfilled ?Ccan_be_fulfilled ?Kcan_be_fulfilled)
      ((fun_mk (x := "can_be_fulfilled") (qual := "can_be_fulfilled") (st := K15.s_can_be_fulfilled) ?Lcan_be_fulfilled ?Ccan_be_fulfilled ?Kcan_be_fulfilled).binds (ps := ["orders"]) fun _ _ _ _ _ _ us hl => match us, hl with | [_], _ => rfl)
      ?Aare_orders
      (fun_mk (x := "are_orders") (qual := "are_orders") (st := K15.s_are_orders) ?Lare_orders ?Care_orders ?Kare_orders)
      ((fun_mk (x := "are_orders") (qual := "are_orders") (st := K15.s_are_orders) ?Lare_orders ?Care_orders ?Kare_orders).binds (ps := ["orders", "tables"]) fun _ _ _ _ _ _ us hl => match us, hl with | [_, _], _ => rfl)
      ?Aitems_told
      (fun_mk (x := "items_told") (qual := "items_told") (st := K15.s_items_told) ?Litems_told ?Citems_told ?Kitems_told)
      ((fun_mk (x := "items_told") (qual := "items_told") (st := K15.s_items_told) ?Litems_told ?Citems_told ?Kitems_told).binds (ps := ["template", "fixed", "words"]) fun _ _ _ _ _ _ us hl => match us, hl with | [_, _, _], _ => rfl)
      ?Asteps_fit
      (fun_mk (x := "steps_fit") (qual := "steps_fit") (st := K15.s_steps_fit) ?Lsteps_fit ?Csteps_fit ?Ksteps_fit)
      ((fun_mk (x := "steps_fit") (qual := "steps_fit") (st := K15.s_steps_fit) ?Lsteps_fit ?Csteps_fit ?Ksteps_fit).binds (ps := ["steps", "items", "modes"]) fun _ _ _ _ _ _ us hl => match us, hl with | [_, _, _], _ => rfl)
      ?Ais_system
      (fun_mk (x := "is_system") (qual := "is_system") (st := K15.s_is_system) ?Lis_system ?Cis_system ?Kis_system)
      ((fun_mk (x := "is_system") (qual := "is_system") (st := K15.s_is_system) ?Lis_system ?Cis_system ?Kis_system).binds (ps := ["system"]) fun _ _ _ _ _ _ us hl => match us, hl with | [_], _ => rfl)
      ?Awrong_place
      (fun_mk (x := "wrong_place") (qual := "wrong_place") (st := K15.s_wrong_place) ?Lwrong_place ?Cwrong_place ?Kwrong_place)
      ((fun_mk (x := "wrong_place") (qual := "wrong_place") (st := K15.s_wrong_place) ?Lwrong_place ?Cwrong_place ?Kwrong_place).binds (ps := ["system", "template", "taken"]) fun _ _ _ _ _ _ us hl => match us, hl with | [_, _, _], _ => rfl)
      ?Arequire_system
      (fun_mk (x := "require_system") (qual := "require_system") (st := K15.s_require_system) ?Lrequire_system ?Crequire_system ?Krequire_system)
      ((fun_mk (x := "require_system") (qual := "require_system") (st := K15.s_require_system) ?Lrequire_system ?Crequire_system ?Krequire_system).binds (ps := ["system"]) fun _ _ _ _ _ _ us hl => match us, hl with | [_], _ => rfl)
      ?Acheck_system
      (fun_mk (x := "check_system") (qual := "check_system") (st := K15.s_check_system) ?Lcheck_system ?Ccheck_system ?Kcheck_system)
      ((fun_mk (x := "check_system") (qual := "check_system") (st := K15.s_check_system) ?Lcheck_system ?Ccheck_system ?Kcheck_system).binds (ps := ["system"]) fun _ _ _ _ _ _ us hl => match us, hl with | [_], _ => rfl)
      ?Aasking_steps
      (fun_mk (x := "asking_steps") (qual := "asking_steps") (st := K15.s_asking_steps) ?Lasking_steps ?Casking_steps ?Kasking_steps)
      ((fun_mk (x := "asking_steps") (qual := "asking_steps") (st := K15.s_asking_steps) ?Lasking_steps ?Casking_steps ?Kasking_steps).binds (ps := ["table", "steps"]) fun _ _ _ _ _ _ us hl => match us, hl with | [_, _], _ => rfl)
      ?Apositions
      (fun_mk (x := "positions") (qual := "positions") (st := K15.s_positions) ?Lpositions ?Cpositions ?Kpositions)
      ((fun_mk (x := "positions") (qual := "positions") (st := K15.s_positions) ?Lpositions ?Cpositions ?Kpositions).binds (ps := ["system"]) fun _ _ _ _ _ _ us hl => match us, hl with | [_], _ => rfl)
      ?Aq_usual
      (fun_mk (x := "_law_usual") (qual := "_law_usual") (st := K15.s_q_usual) ?Lq_usual ?Cq_usual ?Kq_usual)
      ((fun_mk (x := "_law_usual") (qual := "_law_usual") (st := K15.s_q_usual) ?Lq_usual ?Cq_usual ?Kq_usual).binds (ps := []) fun _ _ _ _ _ _ us hl => match us, hl with | [], _ => rfl)
      ?Aq_long
      (fun_mk (x := "_law_long") (qual := "_law_long") (st := K15.s_q_long) ?Lq_long ?Cq_long ?Kq_long)
      ((fun_mk (x := "_law_long") (qual := "_law_long") (st := K15.s_q_long) ?Lq_long ?Cq_long ?Kq_long).binds (ps := ["_law_letters"]) fun _ _ _ _ _ _ us hl => match us, hl with | [_], _ => rfl)
      ?Aq_full
      (fun_mk (x := "_law_full") (qual := "_law_full") (st := K15.s_q_full) ?Lq_full ?Cq_full ?Kq_full)
      ((fun_mk (x := "_law_full") (qual := "_law_full") (st := K15.s_q_full) ?Lq_full ?Cq_full ?Kq_full).binds (ps := ["_law_source_here", "_law_many", "_law_size", "_law_width", "_law_fixed"]) fun _ _ _ _ _ _ us hl => match us, hl with | [_, _, _, _, _], _ => rfl)
      ?Aq_mixed
      (fun_mk (x := "_law_mixed") (qual := "_law_mixed") (st := K15.sMixed) ?Lq_mixed ?Cq_mixed ?Kq_mixed)
      ((fun_mk (x := "_law_mixed") (qual := "_law_mixed") (st := K15.sMixed) ?Lq_mixed ?Cq_mixed ?Kq_mixed).binds (ps := ["_law_cell", "_law_draw"]) fun _ _ _ _ _ _ us hl => match us, hl with | [_, _], _ => rfl)
      ?Aq_source
      (fun_mk (x := "_law_source") (qual := "_law_source") (st := K15.sSource) ?Lq_source ?Cq_source ?Kq_source)
      ((fun_mk (x := "_law_source") (qual := "_law_source") (st := K15.sSource) ?Lq_source ?Cq_source ?Kq_source).binds (ps := ["_law_cell"]) fun _ _ _ _ _ _ us hl => match us, hl with | [_], _ => rfl)
      ?Aq_take
      (fun_mk (x := "_law_take") (qual := "_law_take") (st := K15.sTake) ?Lq_take ?Cq_take ?Kq_take)
      ((fun_mk (x := "_law_take") (qual := "_law_take") (st := K15.sTake) ?Lq_take ?Cq_take ?Kq_take).binds (ps := ["_law_source_here", "_law_bound"]) fun _ _ _ _ _ _ us hl => match us, hl with | [_, _], _ => rfl)
      ?Aq_said
      (fun_mk (x := "_law_said") (qual := "_law_said") (st := K15.sSaid) ?Lq_said ?Cq_said ?Kq_said)
      ((fun_mk (x := "_law_said") (qual := "_law_said") (st := K15.sSaid) ?Lq_said ?Cq_said ?Kq_said).binds (ps := ["_law_plan"]) fun _ _ _ _ _ _ us hl => match us, hl with | [_], _ => rfl)
      ?Alaw
      (fun_mk (x := "law") (qual := "law") (st := K15.sLaw) ?Llaw ?Claw ?Klaw)
      (fun s u => .of_eq rfl)
      ?AJ
      ⟨?mk, ?fiJ, ?fnJ, ?kcJ⟩
      ⟨?pg, ?hd, ?po, ?sa⟩
      ?noR
      (fun_mk (x := "__init__") (qual := "Joins.__init__") (st := K15.s_Joins_init) ?LJi ?CJi ?KJi)
      ((fun_mk (x := "__init__") (qual := "Joins.__init__") (st := K15.s_Joins_init) ?LJi ?CJi ?KJi).binds (ps := ["self", "modes"]) fun _ _ _ _ _ _ us hl => match us, hl with | [_, _], _ => rfl)
      ?b_all
      ?b_dict
      ?b_enumerate
      ?b_int
      ?b_isinstance
      ?b_len
      ?b_list
      ?b_map
      ?b_max
      ?b_range
      ?b_set
      ?b_str
      ?b_super
      ?b_tuple
      ?b_abs
      ?gLONGEST_NAME
      ?gMOST_FIXED
      ?gMOST_MODES
      ?gMOST_PARAMS
      ?gMOST_STEPS
      ?gMOST_TEMPLATES
      ?gUSUAL_NAMES
      (K15.tupU_6 ?USUAL_NAMESr)
      ?gUSUAL_ALLOWED
      (K15.tupW_13 ?USUAL_ALLOWED0 (K15.tupU_2 ?USUAL_ALLOWEDr0) (K15.tupU_2 ?USUAL_ALLOWEDr1) (K15.tupU_2 ?USUAL_ALLOWEDr2) (K15.tupU_2 ?USUAL_ALLOWEDr3) (K15.tupU_2 ?USUAL_ALLOWEDr4) (K15.tupU_2 ?USUAL_ALLOWEDr5) (K15.tupU_2 ?USUAL_ALLOWEDr6) (K15.tupU_2 ?USUAL_ALLOWEDr7) (K15.tupU_2 ?USUAL_ALLOWEDr8) (K15.tupU_2 ?USUAL_ALLOWEDr9) (K15.tupU_2 ?USUAL_ALLOWEDr10) (K15.tupU_2 ?USUAL_ALLOWEDr11) (K15.tupU_2 ?USUAL_ALLOWEDr12))
      ?gUSUAL_JOINS
      (K15.tupW_15 ?USUAL_JOINS0 (K15.tupU_3 ?USUAL_JOINSr0) (K15.tupU_3 ?USUAL_JOINSr1) (K15.tupU_3 ?USUAL_JOINSr2) (K15.tupU_3 ?USUAL_JOINSr3) (K15.tupU_3 ?USUAL_JOINSr4) (K15.tupU_3 ?USUAL_JOINSr5) (K15.tupU_3 ?USUAL_JOINSr6) (K15.tupU_3 ?USUAL_JOINSr7) (K15.tupU_3 ?USUAL_JOINSr8) (K15.tupU_3 ?USUAL_JOINSr9) (K15.tupU_3 ?USUAL_JOINSr10) (K15.tupU_3 ?USUAL_JOINSr11) (K15.tupU_3 ?USUAL_JOINSr12) (K15.tupU_3 ?USUAL_JOINSr13) (K15.tupU_3 ?USUAL_JOINSr14))
      ?gS
      (EF.errF_mk (x := "InvalidSystem") (l := K15.l0) (p := ⟨11, 17, 11, 21⟩) (pl := [(⟨11, 23, 11, 27⟩, "part")]) (m := "this is not a system") (j := 0) (p1 := ⟨12, 8, 12, 13⟩) (p2 := ⟨12, 8, 12, 15⟩) (p3 := ⟨12, 8, 12, 24⟩) (p4 := ⟨12, 25, 12, 47⟩) (p5 := ⟨12, 8, 12, 48⟩) (p6 := ⟨12, 8, 12, 48⟩) KX G ?iS ?tS (EF.al_mk ?xS ?fS) ?aC0 ?xL0 ?kC0 ?sa0 ?ga0 ?gg0 ?ha0 (EF.no_one EF.fo_part ?no0) ?fi0 ?ti0 ?lk0 ?hcd0 ?lkc0 ?v20 ?hf0 ?lkcc0 rfl rfl EF.fo_part.sup EF.fo_part.cls EF.fo_part.loc)
      ?aC0
      (PySem.W.exm_ref ?exa0 ?exb0 ?exc0 ?exd0)
      (EF.errF_mk (x := "InvalidTemplate") (l := K15.l1) (p := ⟨16, 17, 16, 21⟩) (pl := [(⟨16, 23, 16, 31⟩, "template"), (⟨16, 33, 16, 37⟩, "step")]) (m := "a template of the system is not as it must be") (j := 0) (p1 := ⟨17, 8, 17, 13⟩) (p2 := ⟨17, 8, 17, 15⟩) (p3 := ⟨17, 8, 17, 24⟩) (p4 := ⟨17, 25, 17, 72⟩) (p5 := ⟨17, 8, 17, 73⟩) (p6 := ⟨17, 8, 17, 73⟩) KX G ?iS ?tS (EF.al_mk ?xS ?fS) ?aC1 ?xL1 ?kC1 ?sa1 ?ga1 ?gg1 ?ha1 (EF.no_two EF.fo_two ?no1 ?np1) ?fi1 ?ti1 ?lk1 ?hcd1 ?lkc1 ?v21 ?hf1 ?lkcc1 rfl rfl EF.fo_two.sup EF.fo_two.cls EF.fo_two.loc)
      ?aC1
      (PySem.W.exm_ref ?exa1 ?exb1 ?exc1 ?exd1)
      { hn := ?hn, ht := ?ht, op := ?op, sup := ?b_super, top := ?top }
      ?nS0
      ?nS1
      ?nT
    (case gS => k_is)
    (case Aare_strings => k_is)
    (case Lare_strings => k_is)
    (case Care_strings => k_is)
    (case Kare_strings => k_is)
    (case Aare_letters => k_is)
    (case Lare_letters => k_is)
    (case Care_letters => k_is)
    (case Kare_letters => k_is)
    (case Aare_names => k_is)
    (case Lare_names => k_is)
    (case Care_names => k_is)
    (case Kare_names => k_is)
    (case Aare_different_names => k_is)
    (case Lare_different_names => k_is)
    (case Care_different_names => k_is)
    (case Kare_different_names => k_is)
    (case Ahas_faces => k_is)
    (case Lhas_faces => k_is)
    (case Chas_faces => k_is)
    (case Khas_faces => k_is)
    (case Awrong_joins => k_is)
    (case Lwrong_joins => k_is)
    (case Cwrong_joins => k_is)
    (case Kwrong_joins => k_is)
    (case Aare_standard => k_is)
    (case Lare_standard => k_is)
    (case Care_standard => k_is)
    (case Kare_standard => k_is)
    (case Aread_and_write => k_is)
    (case Lread_and_write => k_is)
    (case Cread_and_write => k_is)
    (case Kread_and_write => k_is)
    (case Awrong_part => k_is)
    (case Lwrong_part => k_is)
    (case Cwrong_part => k_is)
    (case Kwrong_part => k_is)
    (case Acheck_modes => k_is)
    (case Lcheck_modes => k_is)
    (case Ccheck_modes => k_is)
    (case Kcheck_modes => k_is)
    (case Arequire_modes => k_is)
    (case Lrequire_modes => k_is)
    (case Crequire_modes => k_is)
    (case Krequire_modes => k_is)
    (case Acan_be_fulfilled => k_is)
    (case Lcan_be_fulfilled => k_is)
    (case Ccan_be_fulfilled => k_is)
    (case Kcan_be_fulfilled => k_is)
    (case Aare_orders => k_is)
    (case Lare_orders => k_is)
    (case Care_orders => k_is)
    (case Kare_orders => k_is)
    (case Aitems_told => k_is)
    (case Litems_told => k_is)
    (case Citems_told => k_is)
    (case Kitems_told => k_is)
    (case Asteps_fit => k_is)
    (case Lsteps_fit => k_is)
    (case Csteps_fit => k_is)
    (case Ksteps_fit => k_is)
    (case Ais_system => k_is)
    (case Lis_system => k_is)
    (case Cis_system => k_is)
    (case Kis_system => k_is)
    (case Awrong_place => k_is)
    (case Lwrong_place => k_is)
    (case Cwrong_place => k_is)
    (case Kwrong_place => k_is)
    (case Arequire_system => k_is)
    (case Lrequire_system => k_is)
    (case Crequire_system => k_is)
    (case Krequire_system => k_is)
    (case Acheck_system => k_is)
    (case Lcheck_system => k_is)
    (case Ccheck_system => k_is)
    (case Kcheck_system => k_is)
    (case Aasking_steps => k_is)
    (case Lasking_steps => k_is)
    (case Casking_steps => k_is)
    (case Kasking_steps => k_is)
    (case Apositions => k_is)
    (case Lpositions => k_is)
    (case Cpositions => k_is)
    (case Kpositions => k_is)
    (case Aq_usual => k_is)
    (case Lq_usual => k_is)
    (case Cq_usual => k_is)
    (case Kq_usual => k_is)
    (case Aq_long => k_is)
    (case Lq_long => k_is)
    (case Cq_long => k_is)
    (case Kq_long => k_is)
    (case Aq_full => k_is)
    (case Lq_full => k_is)
    (case Cq_full => k_is)
    (case Kq_full => k_is)
    (case Aq_mixed => k_is)
    (case Lq_mixed => k_is)
    (case Cq_mixed => k_is)
    (case Kq_mixed => k_is)
    (case Aq_source => k_is)
    (case Lq_source => k_is)
    (case Cq_source => k_is)
    (case Kq_source => k_is)
    (case Aq_take => k_is)
    (case Lq_take => k_is)
    (case Cq_take => k_is)
    (case Kq_take => k_is)
    (case Aq_said => k_is)
    (case Lq_said => k_is)
    (case Cq_said => k_is)
    (case Kq_said => k_is)
    (case Alaw => k_is)
    (case Llaw => k_is)
    (case Claw => k_is)
    (case Klaw => k_is)
    (case AJ => k_is)
    (case mk => k_is)
    (case fiJ => k_is)
    (case fnJ => k_is)
    (case kcJ => k_is)
    (case pg => k_is)
    (case hd => k_is)
    (case po => k_is)
    (case sa => k_is)
    (case noR => k_is)
    (case LJi => k_is)
    (case CJi => k_is)
    (case KJi => k_is)
    (case b_all => k_is)
    (case b_dict => k_is)
    (case b_enumerate => k_is)
    (case b_int => k_is)
    (case b_isinstance => k_is)
    (case b_len => k_is)
    (case b_list => k_is)
    (case b_map => k_is)
    (case b_max => k_is)
    (case b_range => k_is)
    (case b_set => k_is)
    (case b_str => k_is)
    (case b_super => k_is)
    (case b_tuple => k_is)
    (case b_abs => k_is)
    (case gLONGEST_NAME => k_is)
    (case gMOST_FIXED => k_is)
    (case gMOST_MODES => k_is)
    (case gMOST_PARAMS => k_is)
    (case gMOST_STEPS => k_is)
    (case gMOST_TEMPLATES => k_is)
    (case gUSUAL_NAMES => k_is)
    (case USUAL_NAMESr => k_is)
    (case gUSUAL_ALLOWED => k_is)
    (case USUAL_ALLOWED0 => k_is)
    (case USUAL_ALLOWEDr0 => k_is)
    (case USUAL_ALLOWEDr1 => k_is)
    (case USUAL_ALLOWEDr2 => k_is)
    (case USUAL_ALLOWEDr3 => k_is)
    (case USUAL_ALLOWEDr4 => k_is)
    (case USUAL_ALLOWEDr5 => k_is)
    (case USUAL_ALLOWEDr6 => k_is)
    (case USUAL_ALLOWEDr7 => k_is)
    (case USUAL_ALLOWEDr8 => k_is)
    (case USUAL_ALLOWEDr9 => k_is)
    (case USUAL_ALLOWEDr10 => k_is)
    (case USUAL_ALLOWEDr11 => k_is)
    (case USUAL_ALLOWEDr12 => k_is)
    (case gUSUAL_JOINS => k_is)
    (case USUAL_JOINS0 => k_is)
    (case USUAL_JOINSr0 => k_is)
    (case USUAL_JOINSr1 => k_is)
    (case USUAL_JOINSr2 => k_is)
    (case USUAL_JOINSr3 => k_is)
    (case USUAL_JOINSr4 => k_is)
    (case USUAL_JOINSr5 => k_is)
    (case USUAL_JOINSr6 => k_is)
    (case USUAL_JOINSr7 => k_is)
    (case USUAL_JOINSr8 => k_is)
    (case USUAL_JOINSr9 => k_is)
    (case USUAL_JOINSr10 => k_is)
    (case USUAL_JOINSr11 => k_is)
    (case USUAL_JOINSr12 => k_is)
    (case USUAL_JOINSr13 => k_is)
    (case USUAL_JOINSr14 => k_is)
    (case iS => k_is)
    (case tS => k_is)
    (case xS => k_is)
    (case fS => k_is)
    (case aC0 => k_is)
    (case xL0 => k_is)
    (case kC0 => k_is)
    (case sa0 => k_is)
    (case ga0 => k_is)
    (case gg0 => k_is)
    (case ha0 => k_is)
    (case no0 => k_is)
    (case fi0 => k_is)
    (case ti0 => k_is)
    (case lk0 => k_is)
    (case hcd0 => k_is)
    (case lkc0 => k_is)
    (case v20 => rfl)
    (case hf0 => decide +kernel)
    (case lkcc0 => k_is)
    (case exa0 => k_is)
    (case exb0 => k_is)
    (case exc0 => k_is)
    (case exd0 => k_is)
    (case aC1 => k_is)
    (case xL1 => k_is)
    (case kC1 => k_is)
    (case sa1 => k_is)
    (case ga1 => k_is)
    (case gg1 => k_is)
    (case ha1 => k_is)
    (case no1 => k_is)
    (case np1 => k_is)
    (case fi1 => k_is)
    (case ti1 => k_is)
    (case lk1 => k_is)
    (case hcd1 => k_is)
    (case lkc1 => k_is)
    (case v21 => rfl)
    (case hf1 => decide +kernel)
    (case lkcc1 => k_is)
    (case exa1 => k_is)
    (case exb1 => k_is)
    (case exc1 => k_is)
    (case exd1 => k_is)
    (case hn => k_is)
    (case ht => k_is)
    (case op => k_is)
    (case top => decide +kernel)
    (case nS0 => decide)
    (case nS1 => decide)
    (case nT => decide)
#print axioms PySem.Challenge.cw_stuckrows_k15_greatest_systems_holds
