import PyProof.Rows.All
import HandS.ForMost
import HandS.Evl
import KE.KDictKeyed
import HandS.ForExc
import HandS.ExcCtx
import HandS.HotCalls
import HandS.SuiteRaise
import HandS.IsInst
import HandS.Replace
import HandS.Property
import PyProof.Draws
import PyProof.EnumMake
import HandS.RevRange
import HandS.More
import HandS.TupLe
import KE.KExcSuper
import KE.KSuper
import HandS.Nested
import HandS.ExcInit
import HandS.FStr
import HandS.ClsMeth
import HandS.ExcField
import HandS.ExcIs
import KE.KExcIs
import HandS.FStrTup
import KE.GoesZip
import KE.GoesMore
import KE.GoesEnum
import HandS.Deep
import HandS.Flow
import PyProof.ListRange
import PyProof.ListStr
import PyProof.StrOps2
import Wide.All
import OpenK.AllK
import Wide.FinOn
import PySem.Challenge.RW_bothsure_k09_views_grow
set_option Elab.async false
set_option linter.all false
set_option maxRecDepth 100000
set_option maxHeartbeats 2000000
/-! Dicts whose keys are nested tuples of ints and None: as objects of the hand layer. -/
namespace Cz
open PySem L2 Evl PyProof.Rows

mutual
def noTx : NestedKey → Bool
  | .none => true | .num _ => true | .text _ => false
  | .tup ks => noTxs ks
def noTxs : List NestedKey → Bool
  | [] => true
  | k :: ks => noTx k && noTxs ks
end
mutual
theorem hash_w (w w' : World) : ∀ k : NestedKey, noTx k = true → k.hash w = k.hash w'
  | .none, _ => rfl
  | .num i, _ => rfl
  | .text x, h => by simp [noTx] at h
  | .tup ks, h => by
    unfold NestedKey.hash
    rw [hashes_w w w' ks (by simpa [noTx] using h)]
theorem hashes_w (w w' : World) : ∀ ks : List NestedKey, noTxs ks = true → NestedKey.hashes w ks = NestedKey.hashes w' ks
  | [], _ => rfl
  | k :: ks, h => by
    simp only [noTxs, Bool.and_eq_true] at h
    unfold NestedKey.hashes
    rw [hash_w w w' k h.1, hashes_w w w' ks h.2]
end
abbrev NEnt := NestedKey × Addr × V
def NRel (p : NEnt) (q : NestedKey × Addr × Value) : Prop := q.1 = p.1 ∧ q.2.1 = p.2.1 ∧ RelV p.2.2 q.2.2
def NDp (a : Addr) (xs : List NEnt) (h : Heap) : Prop :=
  (a == sysModules) = false ∧ xs.length ≤ sizeLine ∧ (∀ x ∈ xs, noTx x.1 = true) ∧ ∃ ys : List (NestedKey × Addr × Value), Paired NRel xs ys ∧ ∃ o es ep, h.get? a = some o ∧ o.ExactDict ∧ o.data = .dict es ep ∧
    (∀ w : World, es.toList = ys.map fun x => (⟨x.1.hash w, .ref x.2.1, x.2.2⟩ : DictEntry)) ∧ (ys.map (·.1)).Nodup
/-- such a dict -/
def ND (a : Addr) (xs : List NEnt) : HO := .ext (NDp a xs)
theorem nd_stay {a : Addr} {xs : List NEnt} (h1 h2 : Heap) (p : NDp a xs h1) (k : ∀ o, h1.get? a = some o → h2.get? a = some o) : NDp a xs h2 := by
  obtain ⟨q1, q2, q3, ys, q4, o, es, ep, q5, q6⟩ := p
  exact ⟨q1, q2, q3, ys, q4, o, es, ep, k _ q5, q6⟩
theorem nd_ok {P : Program} {w : World} {H : Hp} {h : Heap} {a : Addr} {xs : List NEnt} (p : NDp a xs h) : ObjOk P w H h a (ND a xs) :=
  ⟨p, let ⟨_, _, _, _, _, o, _, _, q, _⟩ := p; ⟨o, q⟩, nd_stay⟩

/-! a key in the abstract heap -/
mutual
inductive NK (K : PySem.W.Frag) (H : Hp) : NestedKey → V → Prop
  | none : NK K H .none .non
  | num (i : Int) : NK K H (.num i) (.int i)
  | tup {p : Addr} {vs : List V} {ks : List NestedKey} : SqT K H p vs → NKs K H ks vs → NK K H (.tup ks) (.ref p)
inductive NKs (K : PySem.W.Frag) (H : Hp) : List NestedKey → List V → Prop
  | nil : NKs K H [] []
  | cons {k : NestedKey} {v : V} {ks : List NestedKey} {vs : List V} : NK K H k v → NKs K H ks vs → NKs K H (k :: ks) (v :: vs)
end
section
variable {K : PySem.W.Frag} {G H : Hp}
mutual
theorem NK.mono (e : Ex G H) : ∀ {k : NestedKey} {v : V}, NK K G k v → NK K H k v
  | _, _, .none => .none
  | _, _, .num i => .num i
  | _, _, .tup h r => .tup (ex_t e h) (NKs.mono e r)
theorem NKs.mono (e : Ex G H) : ∀ {k : List NestedKey} {v : List V}, NKs K G k v → NKs K H k v
  | _, _, .nil => .nil
  | _, _, .cons h r => .cons (NK.mono e h) (NKs.mono e r)
end
mutual
theorem NK.tx : ∀ {k : NestedKey} {v : V}, NK K H k v → noTx k = true
  | _, _, .none => rfl
  | _, _, .num i => rfl
  | _, _, .tup h r => by simp [noTx, NKs.tx r]
theorem NKs.tx : ∀ {k : List NestedKey} {v : List V}, NKs K H k v → noTxs k = true
  | _, _, .nil => rfl
  | _, _, .cons h r => by simp [noTxs, NK.tx h, NKs.tx r]
end
end
section
variable {X : Cx} {pins : List (Addr × Obj)} {σ : L2.St} {H : Hp} {s : Shared}
mutual
theorem NK.is (I : Inv X pins σ H s) : ∀ {k : NestedKey} {v : V} {u : Value}, NK X.K H k v → RelV v u → NestedIs s.heap k u
  | _, _, _, .none, r => by cases (show _ = Value.none from r); exact .none
  | _, _, _, .num i, r => by
    obtain ⟨t, e⟩ := (show ∃ t, _ = Value.int i t from r)
    subst e
    exact .int i t
  | _, _, _, .tup h q, r => by
    cases r
    obtain ⟨its, rv, ⟨o, h1, h2, n, h3⟩, _⟩ := I.tuple h
    exact .tup h1 h2 h3 (by simpa using NKs.is I q rv)
theorem NKs.is (I : Inv X pins σ H s) : ∀ {k : List NestedKey} {v : List V} {u : List Value}, NKs X.K H k v → Vals v u → NestedAll s.heap k u
  | _, _, _, .nil, .nil => .nil
  | _, _, _, .cons h q, .cons r rr => .cons (NK.is I h r) (NKs.is I q rr)
end
/-! ### the operations -/
/-- what stands at the key k -/
def ndLook (k : NestedKey) : List NEnt → Option V
  | [] => none
  | x :: r => if x.1 = k then some x.2.2 else ndLook k r
/-- the entries behind d[k] = v -/
def ndPut (k : NestedKey) (p : Addr) (v : V) (xs : List NEnt) : List NEnt :=
  if (ndLook k xs).isSome then xs.map fun x => if x.1 = k then (x.1, x.2.1, v) else x else xs ++ [(k, p, v)]
theorem nd_look {k : NestedKey} : ∀ {xs : List NEnt} {ys : List (NestedKey × Addr × Value)}, Paired NRel xs ys → RelO (ndLook k xs) ((atKey ys k).map (·.2))
  | _, _, .nil => True.intro
  | _, _, .cons (a := x) (b := y) h r => by
    have ih := nd_look (k := k) r
    obtain ⟨e1, e2, e3⟩ := h
    unfold ndLook
    unfold atKey at ih ⊢
    by_cases hk : x.1 = k
    · rw [if_pos hk, List.find?_cons_of_pos (by simpa [e1] using hk)]
      exact e3
    · rw [if_neg hk, List.find?_cons_of_neg (by simpa [e1] using hk)]
      exact ih
theorem nd_isSome {k : NestedKey} {xs : List NEnt} {ys : List (NestedKey × Addr × Value)} (r : Paired NRel xs ys) : (ndLook k xs).isSome = (atKey ys k).isSome := by
  have h := (nd_look (k := k) r).isSome_eq
  rw [h, Option.isSome_map]
theorem nd_put {k : NestedKey} {p : Addr} {v : V} {u : Value} (rv : RelV v u) {xs : List NEnt} {ys : List (NestedKey × Addr × Value)} (r : Paired NRel xs ys) : Paired NRel (ndPut k p v xs) (storedH ys k p u) := by
  have key : ∀ {xs : List NEnt} {ys : List (NestedKey × Addr × Value)}, Paired NRel xs ys → Paired NRel (xs.map fun x => if x.1 = k then (x.1, x.2.1, v) else x) (ys.map (putAt k u)) := by
    intro xs ys r
    induction r with
    | nil => exact .nil
    | @cons x y xs ys h r ih =>
      refine .cons ?_ ih
      obtain ⟨e1, e2, e3⟩ := h
      show NRel (if x.1 = k then (x.1, x.2.1, v) else x) _
      by_cases hk : x.1 = k
      · rw [if_pos hk]
        unfold putAt
        rw [if_pos (by rw [e1]; exact hk)]
        exact ⟨e1, e2, rv⟩
      · rw [if_neg hk]
        unfold putAt
        rw [if_neg (by rw [e1]; exact hk)]
        exact ⟨e1, e2, e3⟩
  have app : ∀ {xs : List NEnt} {ys : List (NestedKey × Addr × Value)}, Paired NRel xs ys → Paired NRel (xs ++ [(k, p, v)]) (ys ++ [(k, p, u)]) := by
    intro xs ys r
    induction r with
    | nil => exact .cons ⟨rfl, rfl, rv⟩ .nil
    | @cons x y xs ys h r ih => exact .cons h ih
  unfold ndPut storedH
  rw [nd_isSome r]
  split
  · exact key r
  · exact app r
theorem ndPut_len (k : NestedKey) (p : Addr) (v : V) (xs : List NEnt) : (ndPut k p v xs).length ≤ xs.length + 1 := by
  unfold ndPut
  split
  · simp
  · simp
theorem ndPut_mem {k : NestedKey} {p : Addr} {v : V} {xs : List NEnt} {x : NEnt} (h : x ∈ ndPut k p v xs) : (∃ y ∈ xs, x.1 = y.1 ∧ x.2.1 = y.2.1) ∨ (x.1 = k ∧ x.2.1 = p) := by
  unfold ndPut at h
  split at h
  · obtain ⟨y, hy, rfl⟩ := List.mem_map.mp h
    left
    refine ⟨y, hy, ?_⟩
    split
    · exact ⟨rfl, rfl⟩
    · exact ⟨rfl, rfl⟩
  · rcases List.mem_append.mp h with h | h
    · exact .inl ⟨x, h, rfl, rfl⟩
    · right
      have : x = (k, p, v) := by simpa using h
      subst this
      exact ⟨rfl, rfl⟩
theorem nrel_mem {xs : List NEnt} {ys : List (NestedKey × Addr × Value)} (r : Paired NRel xs ys) : ∀ y ∈ ys, ∃ x ∈ xs, NRel x y := by
  induction r with
  | nil => intro y hy; cases hy
  | @cons x y xs ys h r ih =>
    intro z hz
    rcases List.mem_cons.mp hz with rfl | hz
    · exact ⟨x, by simp, h⟩
    · obtain ⟨w, hw, q⟩ := ih z hz
      exact ⟨w, by simp [hw], q⟩
theorem nrel_tx {xs : List NEnt} {ys : List (NestedKey × Addr × Value)} (r : Paired NRel xs ys) (h : ∀ x ∈ xs, noTx x.1 = true) : ∀ y ∈ ys, noTx y.1 = true := fun y hy => by
  obtain ⟨x, hx, e, _⟩ := nrel_mem r y hy
  rw [e]
  exact h x hx
/-- the keys stand -/
def NKeys (K : PySem.W.Frag) (H : Hp) (xs : List NEnt) : Prop := ∀ x ∈ xs, NK K H x.1 (.ref x.2.1) ∧ x.1.depth ≤ 8
theorem nd_dict {a : Addr} {xs : List NEnt} (I : Inv X pins σ H s) (e : H a = some (ND a xs)) (hk : NKeys X.K H xs) :
    (a == sysModules) = false ∧ xs.length ≤ sizeLine ∧ ∃ ys, Paired NRel xs ys ∧ s.heap.DictOfH (nestedKind X.prog X.w) a ys := by
  obtain ⟨⟨h1, h2, h3, ys, r, o, es, ep, q1, q2, q3, q4, q5⟩, _⟩ := I.hok a _ e
  refine ⟨h1, h2, ys, r, o, es, ep, q1, q2, q3, q4 X.w, fun y hy => ?_, q5⟩
  obtain ⟨x, hx, e1, e2, _⟩ : ∃ x ∈ xs, NRel x y := by
    exact nrel_mem r y hy
  obtain ⟨k1, k2⟩ := hk x hx
  rw [e1, e2]
  exact ⟨NK.is I k1 rfl, k2⟩
theorem nd_is {k : NestedKey} {p : Addr} (I : Inv X pins σ H s) (kk : NK X.K H k (.ref p)) (kd : k.depth ≤ 8) : (nestedKind X.prog X.w).is s.heap k p := ⟨NK.is I kk rfl, kd⟩
theorem nd_room {A : Around} (hu : A.units + 64 < cLine) : (nestedKind X.prog X.w).room A.in1 := by
  show A.units + 1 + 8 < cLine
  omega
/-- y in d, y not in d -/
def rNIn (K : PySem.W.Frag) (neg : Bool) : R2 := fun y x H Q => ∃ a xs k p, x = .ref a ∧ y = .ref p ∧ H a = some (ND a xs) ∧ NKeys K H xs ∧ NK K H k (.ref p) ∧ k.depth ≤ 8 ∧ Q (.bl (if neg then !(ndLook k xs).isSome else (ndLook k xs).isSome)) H
theorem op_nIn (hu : X.A.units + 64 < cLine) : OpR X (compareOp .In) (rNIn X.K false) := by
  intro pins s σ H x y v u Q I rx ry h
  obtain ⟨a, xs, k, p, rfl, rfl, e, hk, kk, kd, q⟩ := h
  cases (show v = Value.ref p from rx)
  cases (show u = Value.ref a from ry)
  obtain ⟨h1, h2, ys, r, dd⟩ := nd_dict I e hk
  refine wpAny_in_heap (nd_room hu) (nd_is I kk kd) h1 dd ?_
  rw [← nd_isSome r]
  exact ⟨.bl _, H, I.tok _, rfl, q⟩
theorem op_nNotIn (hu : X.A.units + 64 < cLine) : OpR X (compareOp .NotIn) (rNIn X.K true) := by
  intro pins s σ H x y v u Q I rx ry h
  obtain ⟨a, xs, k, p, rfl, rfl, e, hk, kk, kd, q⟩ := h
  cases (show v = Value.ref p from rx)
  cases (show u = Value.ref a from ry)
  obtain ⟨h1, h2, ys, r, dd⟩ := nd_dict I e hk
  refine wpAny_notIn_heap (nd_room hu) (nd_is I kk kd) h1 dd ?_
  rw [← nd_isSome r]
  exact ⟨.bl _, H, I.tok _, rfl, q⟩
/-- d[y], there -/
def rNGet (K : PySem.W.Frag) : R2 := fun x y H Q => ∃ a xs k p v, x = .ref a ∧ y = .ref p ∧ H a = some (ND a xs) ∧ NKeys K H xs ∧ NK K H k (.ref p) ∧ k.depth ≤ 8 ∧ ndLook k xs = some v ∧ Q v H
theorem ix_nGet (hu : X.A.units + 64 < cLine) : IxR X (rNGet X.K) := by
  intro value slice pins s σ H x y v u Q I rx ry h hs
  obtain ⟨a, xs, k, p, z, rfl, rfl, e, hk, kk, kd, hl, q⟩ := h
  cases (show v = Value.ref a from rx)
  cases (show u = Value.ref p from ry)
  obtain ⟨h1, h2, ys, r, dd⟩ := nd_dict I e hk
  obtain ⟨w', hw, rw'⟩ := RelO.some_of (v := z) (o := (atKey ys k).map (·.2)) (by rw [← hl]; exact nd_look r)
  obtain ⟨pp, hp, hp2⟩ := Option.map_eq_some_iff.mp hw
  have fin : EP X pins σ Q w' { s with toks := s.toks + (nestedKind X.prog X.w).draws k } := ⟨z, H, I.tok _, rw', q⟩
  unfold subscriptTail
  refine wpAny_bind ?_
  rw [getitemInPython_of_ne dd.typeIs.not_modules]
  refine wpAny_bind (wpAny_specialOf dd.typeIs PySem.F.slot_dict_getitem.lookup ?_)
  have fin2 : wpAny (model X.prog X.w) X.A (subscripted slice false (.ref a) (.ref p)) (fun r s₃ => wpAny (model X.prog X.w) X.A (letTemporaryGo value (.ref a) r >>= fun _ => pure r) (EP X pins σ Q) X.xe s₃) X.xe s := by
    rw [hs]
    refine wpAny_operating (wpAny_getItem_heap (nd_room hu) (nd_is I kk kd) dd hp ?_)
    rw [hp2]
    exact wpAny_bind (wpAny_letTemporaryGo (wpAny_pure fin))
  first
    | exact wpAny_pure (wpAny_bind fin2)
    | exact wpAny_bind (wpAny_pure (wpAny_bind fin2))
    | exact wpAny_bind fin2
theorem nd_write {a p : Addr} {xs : List NEnt} {k : NestedKey} {v : V} {u : Value} {h' : Heap} {ys : List (NestedKey × Addr × Value)} {t' : Nat} (I : Inv X pins σ H s) (e : H a = some (ND a xs)) (hl : xs.length < sizeLine) (kt : noTx k = true) (rv : RelV v u) (r : Paired NRel xs ys)
    (dd' : h'.DictOfH (nestedKind X.prog X.w) a (storedH ys k p u)) (hs : Heap.SameBut a s.heap h') : Inv X pins σ (upd H a (ND a (ndPut k p v xs))) { s with heap := h', toks := t' } := by
  obtain ⟨⟨h1, h2, h3, _⟩, _⟩ := I.hok a _ e
  obtain ⟨q, es, ep, hq, g2, g3, g4, _, g5⟩ := dd'
  refine d_write I (by rw [e]; exact True.intro) hs ⟨q, hq⟩ (nd_ok ⟨h1, by have := ndPut_len k p v xs; omega, fun x hx => ?_, _, nd_put rv r, q, es, ep, hq, g2, g3, fun w => ?_, g5⟩)
  · rcases ndPut_mem hx with ⟨y, hy, e1, _⟩ | ⟨e1, _⟩
    · rw [e1]; exact h3 y hy
    · rw [e1]; exact kt
  · rw [g4]
    refine List.map_congr_left fun y hy => ?_
    have : noTx y.1 = true := by
      refine nrel_tx (nd_put (k := k) (p := p) rv r) (fun x hx => ?_) y hy
      rcases ndPut_mem hx with ⟨y, hy, e1, _⟩ | ⟨e1, _⟩
      · rw [e1]; exact h3 y hy
      · rw [e1]; exact kt
    show (⟨y.1.hash X.w, .ref y.2.1, y.2.2⟩ : DictEntry) = _
    rw [hash_w X.w w y.1 this]
/-- d[y] = v -/
def rNSet (K : PySem.W.Frag) : TSet := fun x y v H Q => ∃ a xs k p, x = .ref a ∧ y = .ref p ∧ H a = some (ND a xs) ∧ NKeys K H xs ∧ NK K H k (.ref p) ∧ k.depth ≤ 8 ∧ xs.length < sizeLine ∧ Q (upd H a (ND a (ndPut k p v xs)))
theorem set_nd (hu : X.A.units + 64 < cLine) : PSet X (rNSet X.K) := by
  intro pins s σ H o i v ov iv u Q I ro ri rv h
  obtain ⟨a, xs, k, p, rfl, rfl, e, hk, kk, kd, hl, q⟩ := h
  cases (show ov = Value.ref a from ro)
  cases (show iv = Value.ref p from ri)
  obtain ⟨h1, h2, ys, r, dd⟩ := nd_dict I e hk
  refine wpAny_setItem_heap (hsz := by rw [← Paired.length r]; exact h2) (nd_room hu) (nd_is I kk kd) dd fun h' dd' hs => ?_
  exact ⟨_, nd_write I e hl (NK.tx kk) rv r dd' hs, q⟩
/-- d.setdefault(y, v) -/
def rNSetd (K : PySem.W.Frag) : V → List V → Hp → VK → Prop := fun x ys H Q => ∃ a xs k p v, x = .ref a ∧ ys = [.ref p, v] ∧ H a = some (ND a xs) ∧ NKeys K H xs ∧ NK K H k (.ref p) ∧ k.depth ≤ 8 ∧ xs.length < sizeLine ∧
  (∀ z, ndLook k xs = some z → Q z H) ∧ (ndLook k xs = none → Q v (upd H a (ND a (ndPut k p v xs))))
theorem mt_nSetd (hu : X.A.units + 64 < cLine) : MtM X "dict.setdefault" (rNSetd X.K) := by
  intro pins s σ H x ys vv us Q I rx rs h
  obtain ⟨a, xs, k, p, v, rfl, rfl, e, hk, kk, kd, hl, q1, q2⟩ := h
  cases (show vv = Value.ref a from rx)
  cases rs with
  | cons r1 rs =>
    cases rs with
    | cons r2 rs =>
      cases rs
      cases r1
      obtain ⟨h1, h2, ys, r, dd⟩ := nd_dict I e hk
      have look := nd_look (k := k) r
      refine call_setdefault_heap (hsz := by rw [← Paired.length r]; exact h2) (nd_room hu) (nd_is I kk kd) h1 dd (fun pp hp => ?_) fun hn h' dd' hs => ?_
      · rw [hp] at look
        cases hz : ndLook k xs with
        | none => rw [hz] at look; exact look.elim
        | some z => rw [hz] at look; exact ⟨z, H, I.tok _, look, q1 z hz⟩
      · rw [hn] at look
        cases hz : ndLook k xs with
        | some z => rw [hz] at look; exact look.elim
        | none => exact ⟨v, _, nd_write I e hl (NK.tx kk) r2 r dd' hs, r2, q2 hz⟩
/-- len(d) -/
def rNLen (K : PySem.W.Frag) : List V → Hp → VK → Prop := fun vs H Q => ∃ a xs, vs = [.ref a] ∧ H a = some (ND a xs) ∧ NKeys K H xs ∧ Q (.int xs.length) H
theorem call_nLen : CallR X (.builtin "len") (rNLen X.K) := by
  intro pins s σ H vs us Q I rs h
  obtain ⟨a, xs, rfl, e, hk, q⟩ := h
  cases rs with
  | cons r rs =>
    cases rs
    cases r
    obtain ⟨h1, h2, ys, r, dd⟩ := nd_dict I e hk
    have hl := Paired.length r
    refine PyProof.Rows.call_len_slot (n := xs.length) dd.typeIs PySem.F.slot_dict_len (fun Q' hq => len_keyed h1 ⟨ys, dd, rfl⟩ (by rw [pairsH_length, ← hl]; exact hq)) (by omega) (by rw [sizeLine_eq] at h2; omega) ?_
    exact ⟨.int xs.length, H, I.tok _, ⟨_, rfl⟩, q⟩
/-- {} -/
def tDNewN : TE := fun _ H Q => ∀ p, H p = none → Q (.ref p) (upd H p (ND p []))
theorem nd_empty (h : Heap) (hb : sysModules < h.objs.size) : NDp h.objs.size [] (h.push { cls := .type "dict", data := .dict #[] }) :=
  ⟨beq_eq_false_iff_ne.mpr (Ne.symm (Nat.ne_of_lt hb)), Nat.zero_le _, (fun _ h => nomatch h), [], .nil, _, #[], 0, Heap.get?_push_size _ rfl, ⟨rfl, rfl, rfl⟩, rfl, (fun _ => rfl), List.nodup_nil⟩
theorem pe_dnewN {pos : Pos} : PE X (.Dict [] [] pos) tDNewN := ⟨fun pins s σ H Q I h =>
  wpAny_Dict_empty ⟨.ref s.heap.objs.size, _, I.laid (a := s.heap.objs.size) (o := ND s.heap.objs.size []) (t' := s.toks) (fun _ _ q => Heap.get?_push_of_some _ q) (Nat.le_refl _) (nd_ok (nd_empty s.heap I.big)), rfl, h _ (I.hok.fresh (Nat.le_refl _))⟩⟩
end
end Cz

set_option Elab.async false
set_option linter.all false
set_option maxRecDepth 100000
set_option maxHeartbeats 2000000
/-! Certified pieces: data, what stands for it, slots with owned lists. -/
namespace Cz
open PySem L2 Evl

/-- plain data of the program -/
inductive Dat where
  | non | bl (b : Bool) | int (i : Int) | str (x : Str)
  | tup (ds : List Dat) | lst (ds : List Dat)
  | ins (c : Nat) (fs : List (Str × Dat))
  | dic (kvs : List (Key × Dat))
  | dicN (kvs : List (Dat × Dat))
  | cls (n : String) | own (c : Nat)

mutual
/-- data as a key of a dict: tuples of ints and None -/
def Dat.key : Dat → Option NestedKey
  | .non => some .none
  | .int i => some (.num i)
  | .tup ds => (keyL ds).map .tup
  | _ => none
def keyL : List Dat → Option (List NestedKey)
  | [] => some []
  | d :: r => match d.key, keyL r with
    | some p, some q => some (p :: q)
    | _, _ => none
end
mutual
inductive Rep (K : PySem.W.Frag) (T : Nat → Addr) (G : Hp) : V → Dat → Prop
  | non : Rep K T G .non .non
  | bl (b : Bool) : Rep K T G (.bl b) (.bl b)
  | int (i : Int) : Rep K T G (.int i) (.int i)
  | str (x : Str) : Rep K T G (.str x) (.str x)
  | tup {a : Addr} {vs : List V} {ds : List Dat} : SqT K G a vs → RepL K T G vs ds → Rep K T G (.ref a) (.tup ds)
  | lst {a : Addr} {vs : List V} {ds : List Dat} : SqL K G a vs → RepL K T G vs ds → Rep K T G (.ref a) (.lst ds)
  | ins {a : Addr} {c : Nat} {dx : Addr} {fvs : List (Str × V)} {fs : List (Str × Dat)} : G a = some (.ins (T c) dx fvs) → RepF K T G fvs fs → Rep K T G (.ref a) (.ins c fs)
  | dic {a : Addr} {kvs : List (Key × V)} {ds : List (Key × Dat)} : G a = some (.dK kvs) → RepK K T G kvs ds → Rep K T G (.ref a) (.dic ds)
  | dicN {a : Addr} {xs : List NEnt} {ds : List (Dat × Dat)} : G a = some (ND a xs) → RepN K T G xs ds → Rep K T G (.ref a) (.dicN ds)
  | cls (n : String) : Rep K T G (.ty n) (.cls n)
  | own (c : Nat) : Rep K T G (.ref (T c)) (.own c)
inductive RepL (K : PySem.W.Frag) (T : Nat → Addr) (G : Hp) : List V → List Dat → Prop
  | nil : RepL K T G [] []
  | cons {v : V} {vs : List V} {d : Dat} {ds : List Dat} : Rep K T G v d → RepL K T G vs ds → RepL K T G (v :: vs) (d :: ds)
inductive RepF (K : PySem.W.Frag) (T : Nat → Addr) (G : Hp) : List (Str × V) → List (Str × Dat) → Prop
  | nil : RepF K T G [] []
  | cons {f : Str} {v : V} {vs : List (Str × V)} {d : Dat} {ds : List (Str × Dat)} : Rep K T G v d → RepF K T G vs ds → RepF K T G ((f, v) :: vs) ((f, d) :: ds)
inductive RepK (K : PySem.W.Frag) (T : Nat → Addr) (G : Hp) : List (Key × V) → List (Key × Dat) → Prop
  | nil : RepK K T G [] []
  | cons {f : Key} {v : V} {vs : List (Key × V)} {d : Dat} {ds : List (Key × Dat)} : Rep K T G v d → RepK K T G vs ds → RepK K T G ((f, v) :: vs) ((f, d) :: ds)
inductive RepN (K : PySem.W.Frag) (T : Nat → Addr) (G : Hp) : List NEnt → List (Dat × Dat) → Prop
  | nil : RepN K T G [] []
  | cons {k : NestedKey} {p : Addr} {v : V} {vs : List NEnt} {kd d : Dat} {ds : List (Dat × Dat)} : Rep K T G (.ref p) kd → kd.key = some k → k.depth ≤ 8 → Rep K T G v d → RepN K T G vs ds → RepN K T G ((k, p, v) :: vs) ((kd, d) :: ds)
end

section
variable {K : PySem.W.Frag} {T : Nat → Addr} {G G' H H' : Hp}
mutual
theorem Rep.mono (e : Ex G G') : ∀ {v : V} {d : Dat}, Rep K T G v d → Rep K T G' v d
  | _, _, .non => .non
  | _, _, .bl b => .bl b
  | _, _, .int i => .int i
  | _, _, .str x => .str x
  | _, _, .tup h r => .tup (ex_t e h) (RepL.mono e r)
  | _, _, .lst h r => .lst (ex_l e h) (RepL.mono e r)
  | _, _, .ins h r => .ins (e _ _ h) (RepF.mono e r)
  | _, _, .dic h r => .dic (e _ _ h) (RepK.mono e r)
  | _, _, .dicN h r => .dicN (e _ _ h) (RepN.mono e r)
  | _, _, .cls n => .cls n
  | _, _, .own c => .own c
theorem RepL.mono (e : Ex G G') : ∀ {v : List V} {d : List Dat}, RepL K T G v d → RepL K T G' v d
  | _, _, .nil => .nil
  | _, _, .cons h r => .cons (Rep.mono e h) (RepL.mono e r)
theorem RepF.mono (e : Ex G G') : ∀ {v : List (Str × V)} {d : List (Str × Dat)}, RepF K T G v d → RepF K T G' v d
  | _, _, .nil => .nil
  | _, _, .cons h r => .cons (Rep.mono e h) (RepF.mono e r)
theorem RepK.mono (e : Ex G G') : ∀ {v : List (Key × V)} {d : List (Key × Dat)}, RepK K T G v d → RepK K T G' v d
  | _, _, .nil => .nil
  | _, _, .cons h r => .cons (Rep.mono e h) (RepK.mono e r)
theorem RepN.mono (e : Ex G G') : ∀ {v : List NEnt} {d : List (Dat × Dat)}, RepN K T G v d → RepN K T G' v d
  | _, _, .nil => .nil
  | _, _, .cons h k kd q r => .cons (Rep.mono e h) k kd (Rep.mono e q) (RepN.mono e r)
end
mutual
theorem Rep.nk : ∀ {v : V} {d : Dat} {k : NestedKey}, Rep K T G v d → d.key = some k → NK K G k v
  | _, _, _, .non, h => by simp [Dat.key] at h; subst h; exact .none
  | _, _, _, .int i, h => by simp [Dat.key] at h; subst h; exact .num i
  | _, _, _, .tup s r, h => by
    simp only [Dat.key, Option.map_eq_some_iff] at h
    obtain ⟨q, h1, rfl⟩ := h
    exact .tup s (RepL.nk r h1)
  | _, _, _, .bl b, h => by simp [Dat.key] at h
  | _, _, _, .str b, h => by simp [Dat.key] at h
  | _, _, _, .lst _ _, h => by simp [Dat.key] at h
  | _, _, _, .ins _ _, h => by simp [Dat.key] at h
  | _, _, _, .dic _ _, h => by simp [Dat.key] at h
  | _, _, _, .dicN _ _, h => by simp [Dat.key] at h
  | _, _, _, .cls _, h => by simp [Dat.key] at h
  | _, _, _, .own _, h => by simp [Dat.key] at h
theorem RepL.nk : ∀ {v : List V} {d : List Dat} {k : List NestedKey}, RepL K T G v d → keyL d = some k → NKs K G k v
  | _, _, _, .nil, h => by simp [keyL] at h; subst h; exact .nil
  | _, _, _, .cons (d := d) (ds := ds) a r, h => by
    unfold keyL at h
    cases h1 : d.key with
    | none => simp [h1] at h
    | some p =>
      cases h2 : keyL ds with
      | none => simp [h1, h2] at h
      | some q =>
        simp [h1, h2] at h
        subst h
        exact .cons (Rep.nk a h1) (RepL.nk r h2)
end
theorem RepL.length : ∀ {v : List V} {d : List Dat}, RepL K T G v d → v.length = d.length
  | _, _, .nil => rfl
  | _, _, .cons _ r => by rw [List.length_cons, List.length_cons, RepL.length r]
theorem RepL.get : ∀ {v : List V} {d : List Dat} {i : Nat} {x : V}, RepL K T G v d → v[i]? = some x → ∃ y, d[i]? = some y ∧ Rep K T G x y
  | _, _, i, _, .nil, e => by simp at e
  | _, _, 0, x, .cons h _, e => by simp at e; subst e; exact ⟨_, rfl, h⟩
  | _, _, i + 1, x, .cons _ r, e => by
    obtain ⟨y, h1, h2⟩ := RepL.get (i := i) (x := x) r (by simpa using e)
    exact ⟨y, by simpa using h1, h2⟩
theorem RepL.get' : ∀ {v : List V} {d : List Dat} {i : Nat} {y : Dat}, RepL K T G v d → d[i]? = some y → ∃ x, v[i]? = some x ∧ Rep K T G x y
  | _, _, i, _, .nil, e => by simp at e
  | _, _, 0, x, .cons h _, e => by simp at e; subst e; exact ⟨_, rfl, h⟩
  | _, _, i + 1, x, .cons _ r, e => by
    obtain ⟨y, h1, h2⟩ := RepL.get' (i := i) (y := x) r (by simpa using e)
    exact ⟨y, by simpa using h1, h2⟩
theorem RepL.append : ∀ {v w : List V} {d e : List Dat}, RepL K T G v d → RepL K T G w e → RepL K T G (v ++ w) (d ++ e)
  | _, _, _, _, .nil, s => s
  | _, _, _, _, .cons h r, s => .cons h (RepL.append r s)
theorem RepL.take : ∀ {v : List V} {d : List Dat} (n : Nat), RepL K T G v d → RepL K T G (v.take n) (d.take n)
  | _, _, 0, _ => .nil
  | _, _, _ + 1, .nil => .nil
  | _, _, n + 1, .cons h r => .cons h (RepL.take n r)
theorem RepL.drop : ∀ {v : List V} {d : List Dat} (n : Nat), RepL K T G v d → RepL K T G (v.drop n) (d.drop n)
  | _, _, 0, r => r
  | _, _, _ + 1, .nil => .nil
  | _, _, n + 1, .cons _ r => RepL.drop n r
theorem RepL.set {x : V} {y : Dat} (h : Rep K T G x y) : ∀ {v : List V} {d : List Dat} (n : Nat), RepL K T G v d → RepL K T G (v.set n x) (d.set n y)
  | _, _, _, .nil => .nil
  | _, _, 0, .cons _ r => .cons h r
  | _, _, n + 1, .cons q r => .cons q (RepL.set h n r)
theorem RepL.one {v : V} {d : Dat} (h : Rep K T G v d) : RepL K T G [v] [d] := .cons h .nil
theorem RepL.dropLast : ∀ {v : List V} {d : List Dat}, RepL K T G v d → RepL K T G v.dropLast d.dropLast := fun {v d} r => by
  rw [List.dropLast_eq_take, List.dropLast_eq_take, r.length]
  exact r.take _
theorem RepL.ints : ∀ (ns : List Int), RepL K T G (ns.map V.int) (ns.map Dat.int)
  | [] => .nil
  | n :: r => .cons (.int n) (RepL.ints r)

/-- G: what is frozen, H: the heap; what an expression does to them -/
structure Grow (G H G' H' : Hp) : Prop where
  g : Ex G G'
  gh : Ex G' H'
  h : Ex H H'
  nw : ∀ a o, G' a = some o → G a = some o ∨ H a = none
theorem Grow.refl (e : Ex G H) : Grow G H G H := ⟨Ex.refl G, e, Ex.refl H, fun _ _ h => .inl h⟩
theorem Grow.trans {G1 H1 G2 H2 : Hp} (a : Grow G H G1 H1) (b : Grow G1 H1 G2 H2) : Grow G H G2 H2 :=
  ⟨a.g.trans b.g, b.gh, a.h.trans b.h, fun x o h => by
    rcases b.nw x o h with h | h
    · exact a.nw x o h
    · exact .inr (fresh_back a.h h)⟩
theorem upd_ex {G H : Hp} {p : Addr} {o : HO} (e : Ex G H) : Ex (upd G p o) (upd H p o) := fun a u h => by
  by_cases q : a = p
  · subst q; rw [upd_same] at h ⊢; exact h
  · rw [upd_ne q] at h ⊢; exact e _ _ h
theorem Grow.new {p : Addr} {o : HO} (e : Ex G H) (n : H p = none) : Grow G H (upd G p o) (upd H p o) :=
  ⟨Ex.new (fresh_back e n), upd_ex e, Ex.new n, fun a u h => by
    by_cases q : a = p
    · subst q; exact .inr n
    · rw [upd_ne q] at h; exact .inl h⟩
/-- a new object that is not frozen -/
theorem Grow.newH {p : Addr} {o : HO} (e : Ex G H) (n : H p = none) : Grow G H G (upd H p o) :=
  ⟨Ex.refl G, e.trans (Ex.new n), Ex.new n, fun a u h => .inl h⟩
theorem Grow.free {G1 H1 : Hp} (w : Grow G H G1 H1) {a : Addr} (g : G a = none) (h : H a ≠ none) : G1 a = none := by
  cases e : G1 a with
  | none => rfl
  | some o =>
    rcases w.nw a o e with q | q
    · rw [g] at q; cases q
    · exact absurd q h

/-- an exception in flight -/
def RepX (K : PySem.W.Frag) (T : Nat → Addr) (G : Hp) (cls : Value) (d : Option Addr) (c : Nat) (fs : List (Str × Dat)) : Prop :=
  cls = .ref (T c) ∧ ((fs = [] ∧ d = none) ∨ ∃ dx fvs, d = some dx ∧ G dx = some (.xd fvs) ∧ RepF K T G fvs fs)
theorem RepX.mono {cls : Value} {d : Option Addr} {c : Nat} {fs : List (Str × Dat)} (e : Ex G G') (r : RepX K T G cls d c fs) : RepX K T G' cls d c fs :=
  ⟨r.1, r.2.elim .inl fun ⟨dx, fvs, h1, h2, h3⟩ => .inr ⟨dx, fvs, h1, e _ _ h2, h3.mono e⟩⟩
/-! ### slots -/
inductive Slot where
  | un
  | d (x : Dat)
  | ol (xs : List Dat)
  | oll (xss : List (List Dat))
  | od (kvs : List (Key × Dat))
  | on (kvs : List (Dat × Dat))
  | oi (a dx : Addr) (c : Nat) (fs : List (Str × Dat))
  | ex (a : Addr) (d : Option Addr) (c : Nat) (fs : List (Str × Dat))

/-- the rows of a list of lists, each owned -/
inductive RepR (K : PySem.W.Frag) (T : Nat → Addr) (G H : Hp) : List V → List (List Dat) → List Addr → Prop
  | nil : RepR K T G H [] [] []
  | cons {a : Addr} {vs ws : List V} {xs : List Dat} {xss : List (List Dat)} {fp : List Addr} : H a = some (.lst ws) → RepL K T G ws xs → RepR K T G H vs xss fp → RepR K T G H (.ref a :: vs) (xs :: xss) (a :: fp)

inductive SR (K : PySem.W.Frag) (T : Nat → Addr) (G H : Hp) : Option V → Slot → List Addr → Prop
  | un (o : Option V) : SR K T G H o .un []
  | d {v : V} {x : Dat} : Rep K T G v x → SR K T G H (some v) (.d x) []
  | ol {a : Addr} {vs : List V} {xs : List Dat} : H a = some (.lst vs) → RepL K T G vs xs → SR K T G H (some (.ref a)) (.ol xs) [a]
  | oll {a : Addr} {vs : List V} {xss : List (List Dat)} {fp : List Addr} : H a = some (.lst vs) → RepR K T G H vs xss fp → SR K T G H (some (.ref a)) (.oll xss) (a :: fp)
  | od {a : Addr} {kvs : List (Key × V)} {ds : List (Key × Dat)} : H a = some (.dK kvs) → RepK K T G kvs ds → SR K T G H (some (.ref a)) (.od ds) [a]
  | on {a : Addr} {xs : List NEnt} {ds : List (Dat × Dat)} : H a = some (ND a xs) → RepN K T G xs ds → SR K T G H (some (.ref a)) (.on ds) [a]
  | oi {a dx : Addr} {c : Nat} {fvs : List (Str × V)} {fs : List (Str × Dat)} : H a = some (.ins (T c) dx fvs) → RepF K T G fvs fs → SR K T G H (some (.ref a)) (.oi a dx c fs) [a]
  | ex {a : Addr} {d : Option Addr} {c : Nat} {fs : List (Str × Dat)} : RepX K T G (.ref (T c)) d c fs → SR K T G H (some (.ref a)) (.ex a d c fs) []

theorem RepR.mono (g : Ex G G') : ∀ {vs : List V} {xss : List (List Dat)} {fp : List Addr}, (∀ a ∈ fp, H' a = H a) → RepR K T G H vs xss fp → RepR K T G' H' vs xss fp
  | _, _, _, _, .nil => .nil
  | _, _, _, k, .cons h r s => .cons ((k _ (List.mem_cons_self ..)).trans h) (r.mono g) (RepR.mono g (fun a m => k a (List.mem_cons_of_mem _ m)) s)
theorem SR.mono (g : Ex G G') : ∀ {o : Option V} {s : Slot} {fp : List Addr}, (∀ a ∈ fp, H' a = H a) → SR K T G H o s fp → SR K T G' H' o s fp
  | _, _, _, _, .un o => .un o
  | _, _, _, _, .d r => .d (r.mono g)
  | _, _, _, k, .ol h r => .ol ((k _ (List.mem_cons_self ..)).trans h) (r.mono g)
  | _, _, _, k, .oll h r => .oll ((k _ (List.mem_cons_self ..)).trans h) (r.mono g fun a m => k a (List.mem_cons_of_mem _ m))
  | _, _, _, k, .od h r => .od ((k _ (List.mem_cons_self ..)).trans h) (r.mono g)
  | _, _, _, k, .on h r => .on ((k _ (List.mem_cons_self ..)).trans h) (r.mono g)
  | _, _, _, k, .oi h r => .oi ((k _ (List.mem_cons_self ..)).trans h) (r.mono g)
  | _, _, _, _, .ex r => .ex (r.mono g)

abbrev Gam := List Slot

/-- the state of a body: G0, H0 at its entry; fx: further objects of its own -/
structure SG (K : PySem.W.Frag) (T : Nat → Addr) (fx : List Addr) (G0 H0 G H : Hp) (σ : L2.St) (Γ : Gam) : Prop where
  len : σ.length = Γ.length
  gh : Ex G H
  g : Ex G0 G
  h : Ex H0 H
  nw : ∀ a o, G a = some o → G0 a = some o ∨ H0 a = none
  own : ∃ fp : Nat → List Addr, (∀ (i : Nat) (o : Option V) (s : Slot), σ[i]? = some o → Γ[i]? = some s → SR K T G H o s (fp i)) ∧
    (∀ i a, a ∈ fp i → G a = none ∧ H a ≠ none ∧ H0 a = none ∧ a ∉ fx) ∧ (∀ i, (fp i).Nodup) ∧ (∀ i j a, i ≠ j → a ∈ fp i → a ∉ fp j)
  fxs : ∀ a ∈ fx, G a = none ∧ H a ≠ none ∧ H0 a = none

variable {fx : List Addr} {G0 H0 : Hp} {σ : L2.St} {Γ : Gam}
theorem SG.grow (s : SG K T fx G0 H0 G H σ Γ) (w : Grow G H G' H') : SG K T fx G0 H0 G' H' σ Γ := by
  obtain ⟨fp, f1, f2, f3, f4⟩ := s.own
  have keep : ∀ a, H a ≠ none → H' a = H a := fun a h => by
    cases e : H a with
    | none => exact absurd e h
    | some o => exact w.h a o e
  exact ⟨s.len, w.gh, s.g.trans w.g, s.h.trans w.h, fun a o h => by
      rcases w.nw a o h with q | q
      · exact s.nw a o q
      · exact .inr (fresh_back s.h q),
    ⟨fp, fun i o t h1 h2 => (f1 i o t h1 h2).mono w.g fun a m => keep a (f2 i a m).2.1,
      fun i a m => ⟨w.free (f2 i a m).1 (f2 i a m).2.1, by rw [keep a (f2 i a m).2.1]; exact (f2 i a m).2.1, (f2 i a m).2.2⟩, f3, f4⟩,
    fun a m => ⟨w.free (s.fxs a m).1 (s.fxs a m).2.1, by rw [keep a (s.fxs a m).2.1]; exact (s.fxs a m).2.1, (s.fxs a m).2.2⟩⟩
theorem SG.start (e : Ex G H) {vs : List V} {ds : List Dat} (r : RepL K T G vs ds) (n : Nat) :
    SG K T [] G H G H (vs.map some ++ List.replicate n none) (ds.map Slot.d ++ List.replicate n Slot.un) := by
  refine ⟨by simp [r.length], e, Ex.refl _, Ex.refl _, fun _ _ h => .inl h, ⟨fun _ => [], fun i o s h1 h2 => ?_, fun _ _ m => by simp at m, fun _ => by simp, fun _ _ _ _ m => by simp at m⟩, fun _ m => by simp at m⟩
  by_cases hi : i < vs.length
  · rw [List.getElem?_append_left (by simpa using hi)] at h1
    rw [List.getElem?_append_left (by simpa [r.length] using hi)] at h2
    rw [List.getElem?_map] at h1 h2
    rw [List.getElem?_eq_getElem hi] at h1
    obtain ⟨y, e1, e2⟩ := r.get (List.getElem?_eq_getElem hi)
    rw [e1] at h2
    simp at h1 h2
    subst h1 h2
    exact .d e2
  · rw [List.getElem?_append_right (by simpa using hi)] at h1
    rw [List.getElem?_append_right (by simpa [r.length] using hi)] at h2
    rw [List.getElem?_replicate] at h1 h2
    split at h1 <;> simp at h1
    split at h2 <;> simp at h2
    subst h1 h2
    exact .un _
/-- a slot that holds data -/
theorem SG.get (s : SG K T fx G0 H0 G H σ Γ) {i : Nat} {x : Dat} (h : Γ[i]? = some (.d x)) : ∃ v, σ[i]? = some (some v) ∧ Rep K T G v x := by
  obtain ⟨fp, f1, _⟩ := s.own
  obtain ⟨hi, _⟩ := List.getElem?_eq_some_iff.mp h
  have hs : i < σ.length := by rw [s.len]; exact hi
  have q := f1 i _ _ (List.getElem?_eq_getElem hs) h
  rw [List.getElem?_eq_getElem hs]
  generalize σ[i] = o at q
  generalize fp i = p at q
  cases q with
  | d r => exact ⟨_, rfl, r⟩
theorem SG.getL (s : SG K T fx G0 H0 G H σ Γ) {i : Nat} {xs : List Dat} (h : Γ[i]? = some (.ol xs)) : ∃ a vs, σ[i]? = some (some (.ref a)) ∧ H a = some (.lst vs) ∧ RepL K T G vs xs ∧ G a = none ∧ H0 a = none := by
  obtain ⟨fp, f1, f2, _⟩ := s.own
  obtain ⟨hi, _⟩ := List.getElem?_eq_some_iff.mp h
  have hs : i < σ.length := by rw [s.len]; exact hi
  have q := f1 i _ _ (List.getElem?_eq_getElem hs) h
  have f2 := f2 i
  rw [List.getElem?_eq_getElem hs]
  generalize σ[i] = o at q
  generalize fp i = p at q f2
  cases q with
  | @ol a vs _ h r =>
    have z := f2 a (by simp)
    exact ⟨a, vs, rfl, h, r, z.1, z.2.2.1⟩
theorem SG.getD (s : SG K T fx G0 H0 G H σ Γ) {i : Nat} {xs : List (Key × Dat)} (h : Γ[i]? = some (.od xs)) : ∃ a vs, σ[i]? = some (some (.ref a)) ∧ H a = some (.dK vs) ∧ RepK K T G vs xs ∧ G a = none ∧ H0 a = none := by
  obtain ⟨fp, f1, f2, _⟩ := s.own
  obtain ⟨hi, _⟩ := List.getElem?_eq_some_iff.mp h
  have hs : i < σ.length := by rw [s.len]; exact hi
  have q := f1 i _ _ (List.getElem?_eq_getElem hs) h
  have f2 := f2 i
  rw [List.getElem?_eq_getElem hs]
  generalize σ[i] = o at q
  generalize fp i = p at q f2
  cases q with
  | @od a vs _ h r =>
    have z := f2 a (by simp)
    exact ⟨a, vs, rfl, h, r, z.1, z.2.2.1⟩
theorem SG.getI (s : SG K T fx G0 H0 G H σ Γ) {i c : Nat} {a dx : Addr} {xs : List (Str × Dat)} (h : Γ[i]? = some (.oi a dx c xs)) : ∃ vs, σ[i]? = some (some (.ref a)) ∧ H a = some (.ins (T c) dx vs) ∧ RepF K T G vs xs ∧ G a = none ∧ H0 a = none := by
  obtain ⟨fp, f1, f2, _⟩ := s.own
  obtain ⟨hi, _⟩ := List.getElem?_eq_some_iff.mp h
  have hs : i < σ.length := by rw [s.len]; exact hi
  have q := f1 i _ _ (List.getElem?_eq_getElem hs) h
  have f2 := f2 i
  rw [List.getElem?_eq_getElem hs]
  generalize σ[i] = o at q
  generalize fp i = p at q f2
  cases q with
  | oi h r =>
    have z := f2 a (by simp)
    exact ⟨_, rfl, h, r, z.1, z.2.2.1⟩
/-- a slot is set, its own objects given up, to something with the objects q -/
theorem SG.put (s : SG K T fx G0 H0 G H σ Γ) {i : Nat} {o : Option V} {t : Slot} {q : List Addr} (w : Grow G H G' H')
    (r : SR K T G' H' o t q) (hq : ∀ a ∈ q, H a = none ∧ G' a = none ∧ H' a ≠ none) (nd : q.Nodup) : SG K T fx G0 H0 G' H' (σ.set i o) (Γ.set i t) := by
  have s' := s.grow w
  obtain ⟨fp, f1, f2, f3, f4⟩ := s.own
  have keep : ∀ a, H a ≠ none → H' a = H a := fun a h => by
    cases e : H a with
    | none => exact absurd e h
    | some o => exact w.h a o e
  have g1 : ∀ (i : Nat) (o : Option V) (s : Slot), σ[i]? = some o → Γ[i]? = some s → SR K T G' H' o s (fp i) := fun i o t h1 h2 => (f1 i o t h1 h2).mono w.g fun a m => keep a (f2 i a m).2.1
  have g2 : ∀ i a, a ∈ fp i → G' a = none ∧ H' a ≠ none ∧ H0 a = none ∧ a ∉ fx := fun i a m => ⟨w.free (f2 i a m).1 (f2 i a m).2.1, by rw [keep a (f2 i a m).2.1]; exact (f2 i a m).2.1, (f2 i a m).2.2⟩
  refine ⟨by simp [s.len], s'.gh, s'.g, s'.h, s'.nw, ⟨fun j => if j = i then q else fp j, fun j o' t' h1 h2 => ?_, fun j a m => ?_, fun j => ?_, fun j k a n m1 m2 => ?_⟩, s'.fxs⟩
  · by_cases hj : j = i
    · subst hj
      have hl : j < (σ.set j o).length := (List.getElem?_eq_some_iff.mp h1).1
      rw [List.length_set] at hl
      rw [List.getElem?_set_self hl] at h1
      rw [List.getElem?_set_self (by rw [← s.len]; exact hl)] at h2
      simp at h1 h2
      subst h1 h2
      simpa using r
    · rw [List.getElem?_set_ne (Ne.symm hj)] at h1 h2
      simpa [hj] using g1 j o' t' h1 h2
  · by_cases hj : j = i
    · simp [hj] at m
      obtain ⟨z1, z2, z3⟩ := hq a m
      exact ⟨z2, z3, fresh_back s.h z1, fun h => (s.fxs a h).2.1 z1⟩
    · simp [hj] at m
      exact g2 j a m
  · by_cases hj : j = i
    · simpa [hj] using nd
    · simpa [hj] using f3 j
  · by_cases hj : j = i
    · subst hj
      simp at m1
      simp [Ne.symm n] at m2
      exact (f2 k a m2).2.1 (hq a m1).1
    · by_cases hk : k = i
      · subst hk
        simp at m2
        simp [hj] at m1
        exact (f2 j a m1).2.1 (hq a m2).1
      · simp [hj] at m1
        simp [hk] at m2
        exact f4 j k a n m1 m2
theorem SG.setD (s : SG K T fx G0 H0 G H σ Γ) {i : Nat} {v : V} {x : Dat} (r : Rep K T G v x) : SG K T fx G0 H0 G H (σ.set i (some v)) (Γ.set i (.d x)) :=
  s.put (Grow.refl s.gh) (.d r) (fun _ m => by simp at m) (by simp)
theorem SG.setU (s : SG K T fx G0 H0 G H σ Γ) {i : Nat} (o : Option V) : SG K T fx G0 H0 G H (σ.set i o) (Γ.set i .un) :=
  s.put (Grow.refl s.gh) (.un o) (fun _ m => by simp at m) (by simp)
/-- a new list, owned -/
theorem SG.setL (s : SG K T fx G0 H0 G H σ Γ) {i : Nat} {p : Addr} {vs : List V} {xs : List Dat} (r : RepL K T G vs xs) (n : H p = none) :
    SG K T fx G0 H0 G (upd H p (.lst vs)) (σ.set i (some (.ref p))) (Γ.set i (.ol xs)) :=
  s.put (Grow.newH s.gh n) (.ol upd_same r) (fun a m => by
    simp at m; subst m
    exact ⟨n, fresh_back s.gh n, by rw [upd_same]; simp⟩) (by simp)
/-- a new dict, owned -/
theorem SG.setK (s : SG K T fx G0 H0 G H σ Γ) {i : Nat} {p : Addr} {vs : List (Key × V)} {xs : List (Key × Dat)} (r : RepK K T G vs xs) (n : H p = none) :
    SG K T fx G0 H0 G (upd H p (.dK vs)) (σ.set i (some (.ref p))) (Γ.set i (.od xs)) :=
  s.put (Grow.newH s.gh n) (.od upd_same r) (fun a m => by
    simp at m; subst m
    exact ⟨n, fresh_back s.gh n, by rw [upd_same]; simp⟩) (by simp)
/-- an owned object is changed -/
theorem SG.mut (s : SG K T fx G0 H0 G H σ Γ) {i : Nat} {a : Addr} {u : HO} {t t' : Slot} (h1 : σ[i]? = some (some (.ref a))) (h2 : Γ[i]? = some t)
    (ho : ∀ fp, SR K T G H (some (.ref a)) t fp → a ∈ fp ∧ SR K T G (upd H a u) (some (.ref a)) t' fp) : SG K T fx G0 H0 G (upd H a u) σ (Γ.set i t') := by
  obtain ⟨fp, f1, f2, f3, f4⟩ := s.own
  obtain ⟨ha, hr⟩ := ho _ (f1 i _ _ h1 h2)
  obtain ⟨z1, z2, z3, z4⟩ := f2 i a ha
  have up : ∀ b, b ≠ a → upd H a u b = H b := fun b h => upd_ne h
  refine ⟨by simp [s.len], Ex.mut s.gh z1, s.g, Ex.mut s.h z3, s.nw, ⟨fp, fun j o t1 e1 e2 => ?_, fun j b m => ?_, f3, f4⟩, fun b m => ?_⟩
  · by_cases hj : j = i
    · subst hj
      rw [h1] at e1
      rw [List.getElem?_set_self (List.getElem?_eq_some_iff.mp h2).1] at e2
      simp at e1 e2
      subst e1 e2
      exact hr
    · rw [List.getElem?_set_ne (Ne.symm hj)] at e2
      exact (f1 j o t1 e1 e2).mono (Ex.refl G) fun b m => up b fun e => by subst e; exact f4 j i b hj m ha
  · obtain ⟨y1, y2, y3, y4⟩ := f2 j b m
    refine ⟨y1, ?_, y3, y4⟩
    by_cases e : b = a
    · subst e; rw [upd_same]; simp
    · rw [up b e]; exact y2
  · obtain ⟨y1, y2, y3⟩ := s.fxs b m
    refine ⟨y1, ?_, y3⟩
    rw [up b fun e => by subst e; exact z4 m]; exact y2
theorem SG.mutL (s : SG K T fx G0 H0 G H σ Γ) {i : Nat} {a : Addr} {vs : List V} {xs ys : List Dat} (h1 : σ[i]? = some (some (.ref a))) (h2 : Γ[i]? = some (.ol xs)) (r : RepL K T G vs ys) :
    SG K T fx G0 H0 G (upd H a (.lst vs)) σ (Γ.set i (.ol ys)) :=
  s.mut h1 h2 fun fp q => by
    cases q with
    | ol h0 r0 => exact ⟨by simp, .ol upd_same r⟩
theorem SG.mutK (s : SG K T fx G0 H0 G H σ Γ) {i : Nat} {a : Addr} {vs : List (Key × V)} {xs ys : List (Key × Dat)} (h1 : σ[i]? = some (some (.ref a))) (h2 : Γ[i]? = some (.od xs)) (r : RepK K T G vs ys) :
    SG K T fx G0 H0 G (upd H a (.dK vs)) σ (Γ.set i (.od ys)) :=
  s.mut h1 h2 fun fp q => by
    cases q with
    | od h0 r0 => exact ⟨by simp, .od upd_same r⟩
/-- an owned object is frozen as it is -/
theorem SG.freeze (s : SG K T fx G0 H0 G H σ Γ) {i : Nat} {a : Addr} {u : HO} {t : Slot} {x : Dat} (h1 : σ[i]? = some (some (.ref a))) (h2 : Γ[i]? = some t) (hu : H a = some u)
    (ho : ∀ fp, SR K T G H (some (.ref a)) t fp → a ∈ fp) (r : Rep K T (upd G a u) (.ref a) x) : SG K T fx G0 H0 (upd G a u) H σ (Γ.set i (.d x)) := by
  obtain ⟨fp, f1, f2, f3, f4⟩ := s.own
  have ha := ho _ (f1 i _ _ h1 h2)
  obtain ⟨z1, z2, z3, z4⟩ := f2 i a ha
  have gg : Ex G (upd G a u) := Ex.new z1
  refine ⟨by simp [s.len], fun b o e => ?_, s.g.trans gg, s.h, fun b o e => ?_, ⟨fun j => if j = i then [] else fp j, fun j o t1 e1 e2 => ?_, fun j b m => ?_, fun j => ?_, fun j k b n m1 m2 => ?_⟩, fun b m => ?_⟩
  · by_cases q : b = a
    · subst q; rw [upd_same] at e; rw [hu]; exact e
    · rw [upd_ne q] at e; exact s.gh b o e
  · by_cases q : b = a
    · subst q; exact .inr z3
    · rw [upd_ne q] at e; exact s.nw b o e
  · by_cases hj : j = i
    · subst hj
      rw [h1] at e1
      rw [List.getElem?_set_self (List.getElem?_eq_some_iff.mp h2).1] at e2
      simp at e1 e2
      subst e1 e2
      simpa using SR.d r
    · rw [List.getElem?_set_ne (Ne.symm hj)] at e2
      simpa [hj] using (f1 j o t1 e1 e2).mono gg fun b m => rfl
  · by_cases hj : j = i
    · simp [hj] at m
    · simp [hj] at m
      obtain ⟨y1, y2⟩ := f2 j b m
      refine ⟨?_, y2⟩
      rw [upd_ne fun e => by subst e; exact f4 j i b hj m ha]; exact y1
  · by_cases hj : j = i
    · simp [hj]
    · simpa [hj] using f3 j
  · by_cases hj : j = i
    · simp [hj] at m1
    · by_cases hk : k = i
      · simp [hk] at m2
      · simp [hj] at m1
        simp [hk] at m2
        exact f4 j k b n m1 m2
  · obtain ⟨y1, y2⟩ := s.fxs b m
    refine ⟨?_, y2⟩
    rw [upd_ne fun e => by subst e; exact z4 m]; exact y1
theorem SG.freezeL (s : SG K T fx G0 H0 G H σ Γ) {i : Nat} {xs : List Dat} (h2 : Γ[i]? = some (.ol xs)) : ∃ G', SG K T fx G0 H0 G' H σ (Γ.set i (.d (.lst xs))) := by
  obtain ⟨a, vs, h1, ha, r, g, _⟩ := s.getL h2
  exact ⟨_, s.freeze h1 h2 ha (fun fp q => by
    cases q with
    | ol h0 r0 => simp) (.lst (sq_of upd_same) (r.mono (Ex.new g)))⟩
theorem SG.freezeK (s : SG K T fx G0 H0 G H σ Γ) {i : Nat} {xs : List (Key × Dat)} (h2 : Γ[i]? = some (.od xs)) : ∃ G', SG K T fx G0 H0 G' H σ (Γ.set i (.d (.dic xs))) := by
  obtain ⟨a, vs, h1, ha, r, g, _⟩ := s.getD h2
  exact ⟨_, s.freeze h1 h2 ha (fun fp q => by
    cases q with
    | od h0 r0 => simp) (.dic upd_same (r.mono (Ex.new g)))⟩
/-- what is behind the end, seen from the entry -/
theorem SG.fin (s : SG K T fx G0 H0 G H σ Γ) : Grow G0 H0 G H := ⟨s.g, s.gh, s.h, s.nw⟩
end
end Cz

set_option Elab.async false
set_option linter.all false
set_option maxRecDepth 100000
set_option maxHeartbeats 2000000
/-! What is owned, frozen for good or for a look. -/
namespace Cz
open PySem L2 Evl

/-- an owned slot's content as data -/
def Slot.dat : Slot → Option Dat
  | .ol xs => some (.lst xs)
  | .oll xss => some (.lst (xss.map .lst))
  | .od kvs => some (.dic kvs)
  | .on kvs => some (.dicN kvs)
  | _ => none
/-! no list, no dict in it -/
mutual
def pureD : Dat → Bool
  | .lst _ => false
  | .dic _ => false
  | .dicN _ => false
  | .tup ds => pureL ds
  | .ins _ fs => pureF fs
  | _ => true
def pureL : List Dat → Bool
  | [] => true
  | d :: r => pureD d && pureL r
def pureF : List (Str × Dat) → Bool
  | [] => true
  | d :: r => pureD d.2 && pureF r
end
def MutO : Option HO → Prop
  | some (.lst _) => True
  | some (.dK _) => True
  | some (.ext _) => True
  | _ => False
def rmL (G : Hp) (fp : List Addr) : Hp := fun b => if b ∈ fp then none else G b
def frzG (G H : Hp) (fp : List Addr) : Hp := fun b => if b ∈ fp then H b else G b

section
variable {K : PySem.W.Frag} {T : Nat → Addr} {G G' H H' : Hp} {fp : List Addr}
theorem rmL_ne {b : Addr} (h : b ∉ fp) : rmL G fp b = G b := if_neg h
theorem rmL_keep {b : Addr} {o : HO} (hm : ∀ a ∈ fp, MutO (G a)) (h : G b = some o) (hn : ¬ MutO (some o)) : rmL G fp b = some o := by
  have : b ∉ fp := fun m => hn (h ▸ hm b m)
  rw [rmL_ne this, h]
theorem sqt_rm {a : Addr} {vs : List V} (hm : ∀ a ∈ fp, MutO (G a)) (h : SqT K G a vs) : SqT K (rmL G fp) a vs := by
  rcases h with (h | ⟨o, h⟩) | h
  · exact .inl (.inl (rmL_keep hm h fun z => z))
  · exact .inl (.inr ⟨o, rmL_keep hm h fun z => z⟩)
  · exact .inr h
mutual
theorem Rep.pure (hm : ∀ a ∈ fp, MutO (G a)) : ∀ {v : V} {d : Dat}, Rep K T G v d → pureD d = true → Rep K T (rmL G fp) v d
  | _, _, .non, _ => .non
  | _, _, .bl b, _ => .bl b
  | _, _, .int i, _ => .int i
  | _, _, .str x, _ => .str x
  | _, _, .tup h r, p => .tup (sqt_rm hm h) (RepL.pure hm r (by simpa [pureD] using p))
  | _, _, .lst h r, p => by simp [pureD] at p
  | _, _, .ins h r, p => .ins (rmL_keep hm h fun z => z) (RepF.pure hm r (by simpa [pureD] using p))
  | _, _, .dic h r, p => by simp [pureD] at p
  | _, _, .dicN h r, p => by simp [pureD] at p
  | _, _, .cls n, _ => .cls n
  | _, _, .own c, _ => .own c
theorem RepL.pure (hm : ∀ a ∈ fp, MutO (G a)) : ∀ {v : List V} {d : List Dat}, RepL K T G v d → pureL d = true → RepL K T (rmL G fp) v d
  | _, _, .nil, _ => .nil
  | _, _, .cons h r, p => by
    simp only [pureL, Bool.and_eq_true] at p
    exact .cons (Rep.pure hm h p.1) (RepL.pure hm r p.2)
theorem RepF.pure (hm : ∀ a ∈ fp, MutO (G a)) : ∀ {v : List (Str × V)} {d : List (Str × Dat)}, RepF K T G v d → pureF d = true → RepF K T (rmL G fp) v d
  | _, _, .nil, _ => .nil
  | _, _, .cons h r, p => by
    simp only [pureF, Bool.and_eq_true] at p
    exact .cons (Rep.pure hm h p.1) (RepF.pure hm r p.2)
end
theorem RepR.rep (hf : ∀ a ∈ fp, G' a = H a) (e : Ex G G') {vs : List V} {xss : List (List Dat)} {fq : List Addr} (s : ∀ a ∈ fq, a ∈ fp) (r : RepR K T G H vs xss fq) : RepL K T G' vs (xss.map .lst) := by
  induction r with
  | nil => exact .nil
  | @cons a vs ws xs xss fq h r q ih => exact .cons (.lst (sq_of (by rw [hf a (s a (by simp)), h])) (r.mono e)) (ih fun b m => s b (by simp [m]))
theorem RepR.mut : ∀ {vs : List V} {xss : List (List Dat)} {fq : List Addr}, RepR K T G H vs xss fq → ∀ a ∈ fq, MutO (H a)
  | _, _, _, .nil, a, m => by cases m
  | _, _, _, .cons h r q, a, m => by
    rcases List.mem_cons.mp m with rfl | m
    · rw [h]; trivial
    · exact RepR.mut q a m
variable {fx : List Addr} {G0 H0 : Hp} {σ : L2.St} {Γ : Gam}
/-- what is owned is frozen: as data -/
theorem SG.freezeA (s : SG K T fx G0 H0 G H σ Γ) {i : Nat} {t : Slot} {x : Dat} (h2 : Γ[i]? = some t) (hx : t.dat = some x) :
    ∃ fp, SG K T fx G0 H0 (frzG G H fp) H σ (Γ.set i (.d x)) ∧ Ex G (frzG G H fp) ∧ (∀ a ∈ fp, G a = none ∧ H0 a = none ∧ MutO (H a)) := by
  obtain ⟨fp, f1, f2, f3, f4⟩ := s.own
  have hi : i < σ.length := by rw [s.len]; exact (List.getElem?_eq_some_iff.mp h2).1
  obtain ⟨ov, ho⟩ : ∃ o, σ[i]? = some o := ⟨_, List.getElem?_eq_getElem hi⟩
  have hr := f1 i ov t ho h2
  have gg : Ex G (frzG G H (fp i)) := fun b o e => by
    unfold frzG
    by_cases hb : b ∈ fp i
    · rw [(f2 i b hb).1] at e; cases e
    · rw [if_neg hb]; exact e
  have gf : ∀ a ∈ fp i, frzG G H (fp i) a = H a := fun a m => if_pos m
  have main : ∃ v, ov = some v ∧ Rep K T (frzG G H (fp i)) v x ∧ ∀ a ∈ fp i, MutO (H a) := by
    generalize fp i = q at hr gg gf
    cases hr with
    | un o => cases hx
    | d r => cases hx
    | ex r => cases hx
    | oi h r => cases hx
    | ol h r =>
      cases hx
      exact ⟨_, rfl, .lst (sq_of (by rw [gf _ (by simp), h])) (r.mono gg), fun a m => by
        rw [List.mem_singleton.mp m, h]; trivial⟩
    | oll h r =>
      cases hx
      exact ⟨_, rfl, .lst (sq_of (by rw [gf _ (by simp), h])) (RepR.rep gf gg (fun a m => by simp [m]) r), fun a m => by
        rcases List.mem_cons.mp m with rfl | m
        · rw [h]; trivial
        · exact RepR.mut r a m⟩
    | od h r =>
      cases hx
      exact ⟨_, rfl, .dic (by rw [gf _ (by simp), h]) (r.mono gg), fun a m => by
        rw [List.mem_singleton.mp m, h]; trivial⟩
    | on h r =>
      cases hx
      exact ⟨_, rfl, .dicN (by rw [gf _ (by simp), h]) (r.mono gg), fun a m => by
        rw [List.mem_singleton.mp m, h]; trivial⟩
  obtain ⟨v, rfl, rv, hm⟩ := main
  refine ⟨fp i, ⟨by simp [s.len], fun b o e => ?_, s.g.trans gg, s.h, fun b o e => ?_, ⟨fun j => if j = i then [] else fp j, fun j o t1 e1 e2 => ?_, fun j b m => ?_, fun j => ?_, fun j k b n m1 m2 => ?_⟩, fun b m => ?_⟩, gg, fun a m => ⟨(f2 i a m).1, (f2 i a m).2.2.1, hm a m⟩⟩
  · unfold frzG at e
    split at e
    · exact e
    · exact s.gh b o e
  · unfold frzG at e
    split at e
    · next hb => exact .inr (f2 i b hb).2.2.1
    · exact s.nw b o e
  · by_cases hj : j = i
    · subst hj
      rw [ho] at e1
      rw [List.getElem?_set_self (List.getElem?_eq_some_iff.mp h2).1] at e2
      simp at e1 e2
      subst e1 e2
      simpa using SR.d rv
    · rw [List.getElem?_set_ne (Ne.symm hj)] at e2
      simpa [hj] using (f1 j o t1 e1 e2).mono gg fun b m => rfl
  · by_cases hj : j = i
    · simp [hj] at m
    · simp [hj] at m
      obtain ⟨y1, y2⟩ := f2 j b m
      refine ⟨?_, y2⟩
      unfold frzG
      rw [if_neg fun q => f4 j i b hj m q]
      exact y1
  · by_cases hj : j = i
    · simp [hj]
    · simpa [hj] using f3 j
  · by_cases hj : j = i
    · simp [hj] at m1
    · by_cases hk : k = i
      · simp [hk] at m2
      · simp [hj] at m1
        simp [hk] at m2
        exact f4 j k b n m1 m2
  · obtain ⟨y1, y2⟩ := s.fxs b m
    refine ⟨?_, y2⟩
    unfold frzG
    rw [if_neg fun q => (f2 i b q).2.2.2 m]
    exact y1
/-- behind a look: what was frozen is free again -/
theorem Grow.thaw (w : Grow (frzG G H fp) H G' H') (hf : ∀ a ∈ fp, G a = none ∧ MutO (H a)) : Grow G H (rmL G' fp) H' ∧ ∀ a ∈ fp, MutO (G' a) := by
  have hm : ∀ a ∈ fp, MutO (G' a) := fun a m => by
    obtain ⟨_, q⟩ := hf a m
    cases h : H a with
    | none => rw [h] at q; exact q.elim
    | some o =>
      have : frzG G H fp a = some o := by unfold frzG; rw [if_pos m, h]
      rw [w.g a o this]
      rw [h] at q
      exact q
  refine ⟨⟨fun b o h => ?_, fun b o h => ?_, w.h, fun b o h => ?_⟩, hm⟩
  · have hb : b ∉ fp := fun m => by rw [(hf b m).1] at h; cases h
    rw [rmL_ne hb]
    exact w.g b o (by unfold frzG; rw [if_neg hb, h])
  · unfold rmL at h
    split at h
    · cases h
    · exact w.gh b o h
  · unfold rmL at h
    split at h
    · cases h
    · next hb =>
      rcases w.nw b o h with q | q
      · unfold frzG at q
        rw [if_neg hb] at q
        exact .inl q
      · exact .inr q
theorem SG.getN (s : SG K T fx G0 H0 G H σ Γ) {i : Nat} {xs : List (Dat × Dat)} (h : Γ[i]? = some (.on xs)) : ∃ a vs, σ[i]? = some (some (.ref a)) ∧ H a = some (ND a vs) ∧ RepN K T G vs xs ∧ G a = none ∧ H0 a = none := by
  obtain ⟨fp, f1, f2, _⟩ := s.own
  obtain ⟨hi, _⟩ := List.getElem?_eq_some_iff.mp h
  have hs : i < σ.length := by rw [s.len]; exact hi
  have q := f1 i _ _ (List.getElem?_eq_getElem hs) h
  rw [List.getElem?_eq_getElem hs]
  generalize σ[i] = o at q
  have z := f2 i
  generalize fp i = p at q z
  cases q with
  | @on a _ _ h r =>
    have z1 := z a (by simp)
    exact ⟨_, _, rfl, h, r, z1.1, z1.2.2.1⟩
theorem SG.getLL (s : SG K T fx G0 H0 G H σ Γ) {i : Nat} {xss : List (List Dat)} (h : Γ[i]? = some (.oll xss)) : ∃ a vs fp, σ[i]? = some (some (.ref a)) ∧ H a = some (.lst vs) ∧ RepR K T G H vs xss fp ∧ (a :: fp).Nodup ∧ (∀ b ∈ a :: fp, G b = none ∧ H b ≠ none ∧ H0 b = none ∧ b ∉ fx) := by
  obtain ⟨fp, f1, f2, f3, _⟩ := s.own
  obtain ⟨hi, _⟩ := List.getElem?_eq_some_iff.mp h
  have hs : i < σ.length := by rw [s.len]; exact hi
  have q := f1 i _ _ (List.getElem?_eq_getElem hs) h
  rw [List.getElem?_eq_getElem hs]
  generalize σ[i] = o at q
  have z := f2 i
  have z3 := f3 i
  generalize fp i = p at q z z3
  cases q with
  | oll h r => exact ⟨_, _, _, rfl, h, r, z3, z⟩
theorem SG.setN (s : SG K T fx G0 H0 G H σ Γ) {i : Nat} {p : Addr} {vs : List NEnt} {xs : List (Dat × Dat)} (r : RepN K T G vs xs) (n : H p = none) :
    SG K T fx G0 H0 G (upd H p (ND p vs)) (σ.set i (some (.ref p))) (Γ.set i (.on xs)) :=
  s.put (Grow.newH s.gh n) (.on upd_same r) (fun a m => by
    simp at m; subst m
    exact ⟨n, fresh_back s.gh n, by rw [upd_same]; simp⟩) (by simp)
theorem SG.mutN (s : SG K T fx G0 H0 G H σ Γ) {i : Nat} {a : Addr} {vs : List NEnt} {xs ys : List (Dat × Dat)} (h1 : σ[i]? = some (some (.ref a))) (h2 : Γ[i]? = some (.on xs)) (r : RepN K T G vs ys) :
    SG K T fx G0 H0 G (upd H a (ND a vs)) σ (Γ.set i (.on ys)) :=
  s.mut h1 h2 fun fp q => by
    cases q with
    | on h0 r0 => exact ⟨by simp, .on upd_same r⟩
/-! ### nested keys as data -/
def lookN (k : Dat) : List (Dat × Dat) → Option Dat
  | [] => none
  | x :: r => if x.1.key = k.key then some x.2 else lookN k r
def putN (k d : Dat) (xs : List (Dat × Dat)) : List (Dat × Dat) :=
  if (lookN k xs).isSome then xs.map fun x => if x.1.key = k.key then (x.1, d) else x else xs ++ [(k, d)]
theorem RepN.length : ∀ {vs : List NEnt} {ds : List (Dat × Dat)}, RepN K T G vs ds → vs.length = ds.length
  | _, _, .nil => rfl
  | _, _, .cons _ _ _ _ r => by rw [List.length_cons, List.length_cons, RepN.length r]
theorem RepN.look {k : Dat} {nk : NestedKey} (hk : k.key = some nk) : ∀ {vs : List NEnt} {ds : List (Dat × Dat)}, RepN K T G vs ds → match lookN k ds with | some d => ∃ v, ndLook nk vs = some v ∧ Rep K T G v d | none => ndLook nk vs = none
  | _, _, .nil => rfl
  | _, _, .cons (k := k') (kd := kd) (v := v) (d := d) h1 h2 h3 h4 r => by
    have ih := RepN.look hk r
    unfold lookN ndLook
    by_cases e : k' = nk
    · rw [if_pos (by rw [h2, hk, e]), if_pos e]
      exact ⟨v, rfl, h4⟩
    · rw [if_neg (by rw [h2, hk]; simpa using e), if_neg e]
      exact ih
theorem RepN.keys (e : Ex G H) : ∀ {vs : List NEnt} {ds : List (Dat × Dat)}, RepN K T G vs ds → NKeys K H vs
  | _, _, .nil, x, m => by cases m
  | _, _, .cons h1 h2 h3 h4 r, x, m => by
    rcases List.mem_cons.mp m with rfl | m
    · exact ⟨(h1.nk h2).mono e, h3⟩
    · exact RepN.keys e r x m
theorem RepN.app {p : Addr} {v : V} {k d : Dat} {nk : NestedKey} (a1 : Rep K T G (.ref p) k) (hk : k.key = some nk) (hd : nk.depth ≤ 8) (a2 : Rep K T G v d) : ∀ {vs : List NEnt} {ds : List (Dat × Dat)}, RepN K T G vs ds → RepN K T G (vs ++ [(nk, p, v)]) (ds ++ [(k, d)])
  | _, _, .nil => .cons a1 hk hd a2 .nil
  | _, _, .cons h1 h2 h3 h4 r => .cons h1 h2 h3 h4 (RepN.app a1 hk hd a2 r)
theorem RepN.over {v : V} {k d : Dat} {nk : NestedKey} (hk : k.key = some nk) (a2 : Rep K T G v d) : ∀ {vs : List NEnt} {ds : List (Dat × Dat)}, RepN K T G vs ds → RepN K T G (vs.map fun x => if x.1 = nk then (x.1, x.2.1, v) else x) (ds.map fun x => if x.1.key = k.key then (x.1, d) else x)
  | _, _, .nil => .nil
  | _, _, .cons (k := k') h1 h2 h3 h4 r => by
    have ih := RepN.over hk a2 r
    simp only [List.map_cons]
    by_cases e : k' = nk
    · rw [if_pos e, if_pos (by rw [h2, hk, e])]
      exact .cons h1 h2 h3 a2 ih
    · rw [if_neg e, if_neg (by rw [h2, hk]; simpa using e)]
      exact .cons h1 h2 h3 h4 ih
theorem RepN.put {p : Addr} {v : V} {k d : Dat} {nk : NestedKey} (a1 : Rep K T G (.ref p) k) (hk : k.key = some nk) (hd : nk.depth ≤ 8) (a2 : Rep K T G v d) {vs : List NEnt} {ds : List (Dat × Dat)} (r : RepN K T G vs ds) : RepN K T G (ndPut nk p v vs) (putN k d ds) := by
  have hl := r.look hk
  unfold ndPut putN
  cases e : lookN k ds with
  | some x =>
    rw [e] at hl
    obtain ⟨z, hz, _⟩ := hl
    rw [hz]
    exact r.over hk a2
  | none =>
    rw [e] at hl
    rw [hl]
    exact r.app a1 hk hd a2
end
end Cz

set_option Elab.async false
set_option linter.all false
set_option maxRecDepth 100000
set_option maxHeartbeats 2000000
/-! Certified expressions. -/
namespace Cz
open PySem L2 Evl

inductive Rs (α : Type) where
  | ok (a : α) | exn (c : Nat) (fs : List (Str × Dat)) | bad
def Rs.bind {α β : Type} : Rs α → (α → Rs β) → Rs β
  | .ok a, f => f a
  | .exn c fs, _ => .exn c fs
  | .bad, _ => .bad
@[simp] theorem Rs.bind_ok {α β : Type} (a : α) (f : α → Rs β) : (Rs.ok a).bind f = f a := rfl
@[simp] theorem Rs.bind_exn {α β : Type} (c : Nat) (fs : List (Str × Dat)) (f : α → Rs β) : (Rs.exn c fs : Rs α).bind f = .exn c fs := rfl
@[simp] theorem Rs.bind_bad {α β : Type} (f : α → Rs β) : (Rs.bad : Rs α).bind f = .bad := rfl

section
variable (K : PySem.W.Frag) (T : Nat → Addr)
def Hd {β α : Type} (W : WX) (G H : Hp) (σ : L2.St) (R : Hp → β → α → Prop) (r : Rs α) (t : (β → Hp → Prop) → Prop) : Prop :=
  match r with
  | .ok d => ∀ Q : β → Hp → Prop, (∀ v G' H', Grow G H G' H' → R G' v d → Q v H') → t Q
  | .exn c fs => (∀ cls d G' H', Grow G H G' H' → RepX K T G' cls d c fs → W cls d σ H') → ∀ Q : β → Hp → Prop, t Q
  | .bad => True
end
section
variable {K : PySem.W.Frag} {T : Nat → Addr} {W : WX} {G H : Hp} {σ : L2.St}
theorem Hd.bind {β α β' α' : Type} {R : Hp → β → α → Prop} {R' : Hp → β' → α' → Prop} {r : Rs α} {f : α → Rs α'} {t : (β → Hp → Prop) → Prop} {k : β → Hp → (β' → Hp → Prop) → Prop}
    (h : Hd K T W G H σ R r t) (h2 : ∀ v d G' H', Grow G H G' H' → R G' v d → r = .ok d → Hd K T W G' H' σ R' (f d) (k v H')) : Hd K T W G H σ R' (r.bind f) (fun Q => t fun v H' => k v H' Q) := by
  cases r with
  | bad => trivial
  | exn c fs => exact fun w Q => h w _
  | ok d =>
    show Hd K T W G H σ R' (f d) _
    have key : ∀ v G' H', Grow G H G' H' → R G' v d → Hd K T W G' H' σ R' (f d) (k v H') := fun v G' H' w r => h2 v d G' H' w r rfl
    generalize f d = z at key ⊢
    cases z with
    | bad => trivial
    | ok e => exact fun Q q => h _ fun v G' H' w r => key v G' H' w r Q fun v' G'' H'' w' r' => q v' G'' H'' (w.trans w') r'
    | exn c fs => exact fun w Q => h _ fun v G' H' w1 r => key v G' H' w1 r (fun cls d G'' H'' w2 r2 => w cls d G'' H'' (w1.trans w2) r2) Q
theorem Hd.ret {β α : Type} {R : Hp → β → α → Prop} {v : β} {d : α} {t : (β → Hp → Prop) → Prop} (e : Ex G H) (r : R G v d) (h : ∀ Q : β → Hp → Prop, Q v H → t Q) : Hd K T W G H σ R (.ok d) t :=
  fun Q q => h Q (q v G H (Grow.refl e) r)
theorem Hd.imp {β α : Type} {R : Hp → β → α → Prop} {r : Rs α} {t t' : (β → Hp → Prop) → Prop} (h : Hd K T W G H σ R r t) (i : ∀ Q, t Q → t' Q) : Hd K T W G H σ R r t' := by
  cases r with
  | bad => trivial
  | ok d => exact fun Q q => i _ (h Q q)
  | exn c fs => exact fun w Q => i _ (h w Q)
theorem Hd.eq {β α : Type} {R : Hp → β → α → Prop} {r r' : Rs α} {t : (β → Hp → Prop) → Prop} (h : Hd K T W G H σ R r t) (e : r = r') : Hd K T W G H σ R r' t := e ▸ h
end

structure CE (K : PySem.W.Frag) (T : Nat → Addr) where
  te : WX → TE
  ev : Gam → Rs Dat
  ok : ∀ (W : WX) (fx : List Addr) (G0 H0 G H : Hp) (σ : L2.St) (Γ : Gam), SG K T fx G0 H0 G H σ Γ → Hd K T W G H σ (Rep K T) (ev Γ) (te W σ H)
structure CA (K : PySem.W.Frag) (T : Nat → Addr) where
  te : WX → TA
  ev : Gam → Rs (List Dat)
  ok : ∀ (W : WX) (fx : List Addr) (G0 H0 G H : Hp) (σ : L2.St) (Γ : Gam), SG K T fx G0 H0 G H σ Γ → Hd K T W G H σ (RepL K T) (ev Γ) (te W σ H)
structure CT (K : PySem.W.Frag) (T : Nat → Addr) where
  te : WX → TT
  ev : Gam → Rs Bool
  ok : ∀ (W : WX) (fx : List Addr) (G0 H0 G H : Hp) (σ : L2.St) (Γ : Gam), SG K T fx G0 H0 G H σ Γ → Hd K T W G H σ (fun _ a b => a = b) (ev Γ) (te W σ H)
structure CP (K : PySem.W.Frag) (T : Nat → Addr) where
  te : WX → TO
  ev : Gam → Rs (Option Int)
  ok : ∀ (W : WX) (fx : List Addr) (G0 H0 G H : Hp) (σ : L2.St) (Γ : Gam), SG K T fx G0 H0 G H σ Γ → Hd K T W G H σ (fun _ a b => a = b) (ev Γ) (te W σ H)
/-- an expression that makes a new list -/
structure CO (K : PySem.W.Frag) (T : Nat → Addr) where
  te : WX → TE
  ev : Gam → Rs (List Dat)
  ok : ∀ (W : WX) (fx : List Addr) (G0 H0 G H : Hp) (σ : L2.St) (Γ : Gam), SG K T fx G0 H0 G H σ Γ →
    match ev Γ with
    | .ok d => ∀ Q : VK, (∀ p vs G' H', Grow G H G' H' → H' p = none → RepL K T G' vs d → Q (.ref p) (upd H' p (.lst vs))) → te W σ H Q
    | .exn c fs => (∀ cls d G' H', Grow G H G' H' → RepX K T G' cls d c fs → W cls d σ H') → ∀ Q : VK, te W σ H Q
    | .bad => True

section
variable {K : PySem.W.Frag} {T : Nat → Addr}
/-- the new list, frozen at once -/
def CO.ce (c : CO K T) : CE K T := ⟨c.te, fun Γ => (c.ev Γ).bind fun xs => .ok (.lst xs), fun W fx G0 H0 G H σ Γ s => by
  have h := c.ok W fx G0 H0 G H σ Γ s
  cases e : c.ev Γ with
  | bad => trivial
  | exn cc fs => rw [e] at h; exact h
  | ok d =>
    rw [e] at h
    exact fun Q q => h Q fun p vs G' H' w n r => q _ (upd G' p (.lst vs)) _ (w.trans (Grow.new w.gh n)) (.lst (sq_of upd_same) (r.mono (Ex.new (fresh_back w.gh n))))⟩

/-! ### names and constants -/
def CE.var (i : Nat) : CE K T := ⟨fun _ => tVar i, fun Γ => match Γ[i]? with | some (.d x) => .ok x | _ => .bad, fun W fx G0 H0 G H σ Γ s => by
  split
  · next x h =>
    obtain ⟨v, e, r⟩ := s.get h
    exact Hd.ret s.gh r fun Q q => ⟨v, e, q⟩
  · trivial⟩
def CE.k (v : V) (d : Dat) (h : ∀ G, Rep K T G v d) : CE K T := ⟨fun _ => tC v, fun _ => .ok d, fun W fx G0 H0 G H σ Γ s => Hd.ret s.gh (h G) fun Q q => q⟩
abbrev CE.int (i : Int) : CE K T := .k (.int i) (.int i) fun _ => .int i
abbrev CE.bl (b : Bool) : CE K T := .k (.bl b) (.bl b) fun _ => .bl b
abbrev CE.str (x : Str) : CE K T := .k (.str x) (.str x) fun _ => .str x
abbrev CE.non : CE K T := .k .non .non fun _ => .non

/-! ### operators by values -/
structure Op2 (K : PySem.W.Frag) (T : Nat → Addr) where
  r : R2
  f : Dat → Dat → Rs Dat
  ok : ∀ (W : WX) (G H : Hp) (σ : L2.St) (x y : V) (a b : Dat), Ex G H → Rep K T G x a → Rep K T G y b → Hd K T W G H σ (Rep K T) (f a b) (r x y H)
structure Op1 (K : PySem.W.Frag) (T : Nat → Addr) where
  r : V → Hp → VK → Prop
  f : Dat → Rs Dat
  ok : ∀ (W : WX) (G H : Hp) (σ : L2.St) (x : V) (a : Dat), Ex G H → Rep K T G x a → Hd K T W G H σ (Rep K T) (f a) (r x H)
structure OpN (K : PySem.W.Frag) (T : Nat → Addr) where
  r : List V → Hp → VK → Prop
  f : List Dat → Rs Dat
  ok : ∀ (W : WX) (G H : Hp) (σ : L2.St) (xs : List V) (as : List Dat), Ex G H → RepL K T G xs as → Hd K T W G H σ (Rep K T) (f as) (r xs H)
def CE.op2 (o : Op2 K T) (a b : CE K T) : CE K T := ⟨fun W => tOp o.r (a.te W) (b.te W), fun Γ => (a.ev Γ).bind fun x => (b.ev Γ).bind fun y => o.f x y, fun W fx G0 H0 G H σ Γ s =>
  (a.ok W fx G0 H0 G H σ Γ s).bind fun v d G1 H1 w1 r1 _ => (b.ok W fx G0 H0 G1 H1 σ Γ (s.grow w1)).bind fun u e G2 H2 w2 r2 _ => o.ok W G2 H2 σ v u d e w2.gh (r1.mono w2.g) r2⟩
def CE.op1 (o : Op1 K T) (a : CE K T) : CE K T := ⟨fun W => tUn o.r (a.te W), fun Γ => (a.ev Γ).bind o.f, fun W fx G0 H0 G H σ Γ s =>
  (a.ok W fx G0 H0 G H σ Γ s).bind fun v d G1 H1 w1 r1 _ => o.ok W G1 H1 σ v d w1.gh r1⟩
/-! ### argument lists -/
def CA.nil : CA K T := ⟨fun _ => tNil, fun _ => .ok [], fun W fx G0 H0 G H σ Γ s => Hd.ret s.gh .nil fun Q q => q⟩
def CA.cons (a : CE K T) (r : CA K T) : CA K T := ⟨fun W => tCons (a.te W) (r.te W), fun Γ => (a.ev Γ).bind fun x => (r.ev Γ).bind fun xs => .ok (x :: xs), fun W fx G0 H0 G H σ Γ s =>
  (a.ok W fx G0 H0 G H σ Γ s).bind fun v d G1 H1 w1 r1 _ => (r.ok W fx G0 H0 G1 H1 σ Γ (s.grow w1)).bind fun u e G2 H2 w2 r2 _ => Hd.ret w2.gh (.cons (r1.mono w2.g) r2) fun Q q => q⟩
def CE.opN (o : OpN K T) (a : CA K T) : CE K T := ⟨fun W => tCB o.r (a.te W), fun Γ => (a.ev Γ).bind o.f, fun W fx G0 H0 G H σ Γ s =>
  (a.ok W fx G0 H0 G H σ Γ s).bind fun v d G1 H1 w1 r1 _ => o.ok W G1 H1 σ v d w1.gh r1⟩
def lim : Nat := 100000
def CE.tup (a : CA K T) : CE K T := ⟨fun W => tTup (a.te W), fun Γ => (a.ev Γ).bind fun xs => if xs.length ≤ lim then .ok (.tup xs) else .bad, fun W fx G0 H0 G H σ Γ s =>
  (a.ok W fx G0 H0 G H σ Γ s).bind fun v d G1 H1 w1 r1 _ => by
    split
    · next h => exact fun Q q => ⟨sz_of (by rw [r1.length]; exact h), fun p n => q _ (upd G1 p (.tup v)) _ (Grow.new w1.gh n) (.tup (st_of upd_same) (r1.mono (Ex.new (fresh_back w1.gh n))))⟩
    · trivial⟩
def CO.lst (a : CA K T) : CO K T := ⟨fun W => tLst (a.te W), fun Γ => (a.ev Γ).bind fun xs => if xs.length ≤ lim then .ok xs else .bad, fun W fx G0 H0 G H σ Γ s => by
  have h := a.ok W fx G0 H0 G H σ Γ s
  cases e : a.ev Γ with
  | bad => trivial
  | exn cc fs => rw [e] at h; exact fun w Q => h w _
  | ok d =>
    rw [e] at h
    show match (if d.length ≤ lim then Rs.ok d else Rs.bad) with | .ok d => _ | .exn c fs => _ | .bad => _
    split
    · next d' hd =>
      split at hd
      · next hl =>
        cases hd
        exact fun Q q => h _ fun v G' H' w r => ⟨sz_of (by rw [r.length]; exact hl), fun p n => q p v G' H' w n r⟩
      · cases hd
    · next c fs hd =>
      split at hd <;> cases hd
    · trivial⟩
/-! ### tests -/
def CT.test (a : CE K T) : CT K T := ⟨fun W => tTest (a.te W), fun Γ => (a.ev Γ).bind fun x => match x with | .bl b => .ok b | _ => .bad, fun W fx G0 H0 G H σ Γ s =>
  (a.ok W fx G0 H0 G H σ Γ s).bind fun v d G1 H1 w1 r1 _ => by
    cases r1 with
    | bl b => exact Hd.ret w1.gh rfl fun Q q => ⟨b, rfl, q⟩
    | _ => trivial⟩
def CT.b (a : CE K T) : CT K T := ⟨fun W => tB (a.te W), fun Γ => (a.ev Γ).bind fun x => match x with | .bl b => .ok b | _ => .bad, (CT.test a).ok⟩
def CT.and (a b : CT K T) : CT K T := ⟨fun W => tAnd (a.te W) (b.te W), fun Γ => (a.ev Γ).bind fun x => if x = true then b.ev Γ else .ok false, fun W fx G0 H0 G H σ Γ s =>
  (a.ok W fx G0 H0 G H σ Γ s).bind fun v d G1 H1 w1 r1 _ => by
    subst r1
    cases v with
    | true => exact b.ok W fx G0 H0 G1 H1 σ Γ (s.grow w1)
    | false => exact Hd.ret w1.gh rfl fun Q q => q⟩
def CT.or (a b : CT K T) : CT K T := ⟨fun W => tOr (a.te W) (b.te W), fun Γ => (a.ev Γ).bind fun x => if x = true then .ok true else b.ev Γ, fun W fx G0 H0 G H σ Γ s =>
  (a.ok W fx G0 H0 G H σ Γ s).bind fun v d G1 H1 w1 r1 _ => by
    subst r1
    cases v with
    | true => exact Hd.ret w1.gh rfl fun Q q => q
    | false => exact b.ok W fx G0 H0 G1 H1 σ Γ (s.grow w1)⟩
def CT.not (a : CT K T) : CT K T := ⟨fun W => tNot (a.te W), fun Γ => (a.ev Γ).bind fun x => .ok (!x), fun W fx G0 H0 G H σ Γ s =>
  (a.ok W fx G0 H0 G H σ Γ s).bind fun v d G1 H1 w1 r1 _ => by
    subst r1
    exact Hd.ret w1.gh rfl fun Q q => q⟩
/-- and, or, not of bools as values -/
def CE.and (a b : CE K T) : CE K T := ⟨fun W => tAndV (a.te W) (b.te W), fun Γ => (a.ev Γ).bind fun x => match x with | .bl c => if c = true then b.ev Γ else .ok (.bl false) | _ => .bad, fun W fx G0 H0 G H σ Γ s =>
  (a.ok W fx G0 H0 G H σ Γ s).bind fun v d G1 H1 w1 r1 _ => by
    cases r1 with
    | bl c =>
      cases c with
      | true => exact (b.ok W fx G0 H0 G1 H1 σ Γ (s.grow w1)).imp fun Q q => ⟨true, rfl, q⟩
      | false => exact Hd.ret w1.gh (.bl false) fun Q q => ⟨false, rfl, q⟩
    | _ => trivial⟩
def CE.or (a b : CE K T) : CE K T := ⟨fun W => tOrV (a.te W) (b.te W), fun Γ => (a.ev Γ).bind fun x => match x with | .bl c => if c = true then .ok (.bl true) else b.ev Γ | _ => .bad, fun W fx G0 H0 G H σ Γ s =>
  (a.ok W fx G0 H0 G H σ Γ s).bind fun v d G1 H1 w1 r1 _ => by
    cases r1 with
    | bl c =>
      cases c with
      | true => exact Hd.ret w1.gh (.bl true) fun Q q => ⟨true, rfl, q⟩
      | false => exact (b.ok W fx G0 H0 G1 H1 σ Γ (s.grow w1)).imp fun Q q => ⟨false, rfl, q⟩
    | _ => trivial⟩
def CE.not (a : CE K T) : CE K T := ⟨fun W => tNotV (a.te W), fun Γ => (a.ev Γ).bind fun x => match x with | .bl c => .ok (.bl (!c)) | _ => .bad, fun W fx G0 H0 G H σ Γ s =>
  (a.ok W fx G0 H0 G H σ Γ s).bind fun v d G1 H1 w1 r1 _ => by
    cases r1 with
    | bl c => exact Hd.ret w1.gh (.bl (!c)) fun Q q => ⟨c, rfl, q⟩
    | _ => trivial⟩
def CE.ifx (c : CT K T) (a b : CE K T) : CE K T := ⟨fun W => tIf (c.te W) (a.te W) (b.te W), fun Γ => (c.ev Γ).bind fun x => if x = true then a.ev Γ else b.ev Γ, fun W fx G0 H0 G H σ Γ s =>
  (c.ok W fx G0 H0 G H σ Γ s).bind fun v d G1 H1 w1 r1 _ => by
    subst r1
    cases v with
    | true => exact a.ok W fx G0 H0 G1 H1 σ Γ (s.grow w1)
    | false => exact b.ok W fx G0 H0 G1 H1 σ Γ (s.grow w1)⟩
/-- x <= y < z -/
def CE.chain (o o' : Op2 K T) (a b c : CE K T) : CE K T := ⟨fun W => tChain o.r o'.r (a.te W) (b.te W) (c.te W), fun Γ => (a.ev Γ).bind fun x => (b.ev Γ).bind fun y => (o.f x y).bind fun z => match z with | .bl k => if k = true then (c.ev Γ).bind fun u => o'.f y u else .ok (.bl false) | _ => .bad, fun W fx G0 H0 G H σ Γ s =>
  (a.ok W fx G0 H0 G H σ Γ s).bind fun v d G1 H1 w1 r1 _ => (b.ok W fx G0 H0 G1 H1 σ Γ (s.grow w1)).bind fun u e G2 H2 w2 r2 _ => (o.ok W G2 H2 σ v u d e w2.gh (r1.mono w2.g) r2).bind fun z f G3 H3 w3 r3 _ => by
    cases r3 with
    | bl k =>
      cases k with
      | true => exact ((c.ok W fx G0 H0 G3 H3 σ Γ (((s.grow w1).grow w2).grow w3)).bind fun q e' G4 H4 w4 r4 _ => o'.ok W G4 H4 σ u q e e' w4.gh (r2.mono (w3.g.trans w4.g)) r4).imp fun Q q => ⟨true, rfl, q⟩
      | false => exact Hd.ret w3.gh (.bl false) fun Q q => ⟨false, rfl, q⟩
    | _ => trivial⟩
/-! ### parts of slices -/
def CP.none : CP K T := ⟨fun _ => tNoPart, fun _ => .ok Option.none, fun W fx G0 H0 G H σ Γ s => Hd.ret s.gh rfl fun Q q => q⟩
def CP.some (a : CE K T) : CP K T := ⟨fun W => tPart (a.te W), fun Γ => (a.ev Γ).bind fun x => match x with | .int i => .ok (Option.some i) | _ => .bad, fun W fx G0 H0 G H σ Γ s =>
  (a.ok W fx G0 H0 G H σ Γ s).bind fun v d G1 H1 w1 r1 _ => by
    cases r1 with
    | int i => exact Hd.ret w1.gh rfl fun Q q => ⟨i, rfl, q⟩
    | _ => trivial⟩
end
end Cz

set_option Elab.async false
set_option linter.all false
set_option maxRecDepth 100000
set_option maxHeartbeats 2000000
/-! Certified statements, loops, comprehensions, defs. -/
namespace Cz
open PySem L2 Evl

inductive SRes where
  | nx (Γ : Gam) | rt (d : Dat) | bk (Γ : Gam) | ct (Γ : Gam) | exn (Γ : Gam) (c : Nat) (fs : List (Str × Dat)) | bad

section
variable (K : PySem.W.Frag) (T : Nat → Addr)
def SHd (W : WX) (D : Ends) (G0 H0 G : Hp) (r : SRes) (t : Prop) : Prop :=
  match r with
  | .nx Γ => (∀ G' H' σ', Ex G G' → SG K T [] G0 H0 G' H' σ' Γ → D.nx σ' H') → t
  | .bk Γ => (∀ G' H' σ', Ex G G' → SG K T [] G0 H0 G' H' σ' Γ → D.bk σ' H') → t
  | .ct Γ => (∀ G' H' σ', Ex G G' → SG K T [] G0 H0 G' H' σ' Γ → D.ct σ' H') → t
  | .rt d => (∀ v G' H', Grow G0 H0 G' H' → Rep K T G' v d → D.rt v H') → t
  | .exn Γ c fs => (∀ cls d G' H' σ', Ex G G' → SG K T [] G0 H0 G' H' σ' Γ → RepX K T G' cls d c fs → W cls d σ' H') → t
  | .bad => True
end
def Rs.st {α : Type} (r : Rs α) (Γ : Gam) (f : α → SRes) : SRes := match r with
  | .ok d => f d
  | .exn c fs => .exn Γ c fs
  | .bad => .bad
@[simp] theorem Rs.st_ok {α : Type} (a : α) (Γ : Gam) (f : α → SRes) : (Rs.ok a).st Γ f = f a := rfl
@[simp] theorem Rs.st_exn {α : Type} (c : Nat) (fs : List (Str × Dat)) (Γ : Gam) (f : α → SRes) : (Rs.exn c fs : Rs α).st Γ f = .exn Γ c fs := rfl
@[simp] theorem Rs.st_bad {α : Type} (Γ : Gam) (f : α → SRes) : (Rs.bad : Rs α).st Γ f = .bad := rfl

section
variable {K : PySem.W.Frag} {T : Nat → Addr} {W : WX} {D D' : Ends} {G0 H0 G G' H H' : Hp} {σ : L2.St} {Γ : Gam} {r : SRes} {t t' : Prop}
theorem SHd.imp (h : SHd K T W D G0 H0 G r t) (i : t → t') : SHd K T W D G0 H0 G r t' := by
  cases r <;> first | trivial | exact fun q => i (h q)
theorem SHd.back (e : Ex G G') (h : SHd K T W D G0 H0 G' r t) : SHd K T W D G0 H0 G r t := by
  cases r with
  | nx Γ => exact fun q => h fun A B s x => q A B s (e.trans x)
  | bk Γ => exact fun q => h fun A B s x => q A B s (e.trans x)
  | ct Γ => exact fun q => h fun A B s x => q A B s (e.trans x)
  | rt d => exact h
  | exn Γ c fs => exact fun q => h fun c d A B s x => q c d A B s (e.trans x)
  | bad => trivial
/-- many ways to one end -/
theorem SHd.all {ι : Type} {p : ι → Prop} (hp : ∀ i, SHd K T W D G0 H0 G r (p i)) (i : (∀ i, p i) → t) : SHd K T W D G0 H0 G r t := by
  cases r <;> first | trivial | exact fun q => i fun j => hp j q
theorem Hd.st {β α : Type} {R : Hp → β → α → Prop} {r : Rs α} {f : α → SRes} {t : (β → Hp → Prop) → Prop} {k : β → Hp → Prop} (s : SG K T [] G0 H0 G H σ Γ)
    (h : Hd K T W G H σ R r t) (h2 : ∀ v d G' H', Grow G H G' H' → R G' v d → r = .ok d → SHd K T W D G0 H0 G' (f d) (k v H')) : SHd K T W D G0 H0 G (r.st Γ f) (t k) := by
  cases r with
  | bad => trivial
  | exn c fs => exact fun q => h (fun cls d G' H' w r => q cls d G' H' σ w.g (s.grow w) r) k
  | ok d =>
    show SHd K T W D G0 H0 G (f d) _
    have key : ∀ v G' H', Grow G H G' H' → R G' v d → SHd K T W D G0 H0 G (f d) (k v H') := fun v G' H' w r => (h2 v d G' H' w r rfl).back w.g
    generalize f d = z at key ⊢
    cases z with
    | bad => trivial
    | nx Γ' => exact fun q => h k fun v G' H' w r => key v G' H' w r q
    | bk Γ' => exact fun q => h k fun v G' H' w r => key v G' H' w r q
    | ct Γ' => exact fun q => h k fun v G' H' w r => key v G' H' w r q
    | rt d => exact fun q => h k fun v G' H' w r => key v G' H' w r q
    | exn Γ' c fs => exact fun q => h k fun v G' H' w r => key v G' H' w r q
theorem SHd.nx (s : SG K T [] G0 H0 G H σ Γ) (h : D.nx σ H → t) : SHd K T W D G0 H0 G (.nx Γ) t := fun q => h (q G H σ (Ex.refl G) s)
end

structure CS (K : PySem.W.Frag) (T : Nat → Addr) where
  ts : WX → TS
  ev : Gam → SRes
  ok : ∀ (W : WX) (D : Ends) (G0 H0 G H : Hp) (σ : L2.St) (Γ : Gam), SG K T [] G0 H0 G H σ Γ → SHd K T W D G0 H0 G (ev Γ) (ts W D σ H)
/-- slots outside sl stand -/
def Kps (sl : List Nat) (σ σ' : L2.St) : Prop := σ'.length = σ.length ∧ ∀ i, i ∉ sl → σ'[i]? = σ[i]?
structure CG (K : PySem.W.Frag) (T : Nat → Addr) where
  g : TG
  sl : List Nat
  ev : Dat → Gam → Option Gam
  ok : ∀ (fx : List Addr) (G0 H0 G H : Hp) (σ : L2.St) (Γ Γ' : Gam) (v : V) (d : Dat), SG K T fx G0 H0 G H σ Γ → Rep K T G v d → ev d Γ = some Γ' → ∀ Q : L2.St → Hp → Prop, (∀ σ', SG K T fx G0 H0 G H σ' Γ' → Kps sl σ σ' → Q σ' H) → g v σ H Q
structure CGs (K : PySem.W.Frag) (T : Nat → Addr) where
  g : TGs
  sl : List Nat
  ev : List Dat → Gam → Option Gam
  ok : ∀ (fx : List Addr) (G0 H0 G H : Hp) (σ : L2.St) (Γ Γ' : Gam) (v : List V) (d : List Dat), SG K T fx G0 H0 G H σ Γ → RepL K T G v d → ev d Γ = some Γ' → ∀ Q : L2.St → Hp → Prop, (∀ σ', SG K T fx G0 H0 G H σ' Γ' → Kps sl σ σ' → Q σ' H) → g v σ H Q
/-- J walks the data ds -/
def ItOk (K : PySem.W.Frag) (T : Nat → Addr) (G : Hp) (J : It) (ds : List Dat) : Prop := ∀ G' H, Ex G G' → Ex G' H → (∀ i d, ds[i]? = some d → J.go i H ∧ ∀ x H', J.yld i H x H' → ∃ G'', Grow G' H G'' H' ∧ Rep K T G'' x d) ∧ ∀ i, ds.length ≤ i → J.stop i H
structure CI (K : PySem.W.Frag) (T : Nat → Addr) where
  te : WX → TI
  ev : Gam → Rs (List Dat)
  ok : ∀ (W : WX) (fx : List Addr) (G0 H0 G H : Hp) (σ : L2.St) (Γ : Gam), SG K T fx G0 H0 G H σ Γ → Hd K T W G H σ (ItOk K T) (ev Γ) (te W σ H)

section
variable {K : PySem.W.Frag} {T : Nat → Addr}
def CG.name (i : Nat) : CG K T := ⟨gName i, [i], fun d Γ => some (Γ.set i (.d d)), fun fx G0 H0 G H σ Γ Γ' v d s r e Q q => by
  cases e
  exact q _ (s.setD r) ⟨by simp, fun j h => List.getElem?_set_ne (by simpa using fun e => h (by simp [e]))⟩⟩
def CGs.nil : CGs K T := ⟨gNil, [], fun ds Γ => match ds with | [] => some Γ | _ => none, fun fx G0 H0 G H σ Γ Γ' v d s r e Q q => by
  cases r with
  | nil => cases e; exact ⟨rfl, q _ s ⟨rfl, fun _ _ => rfl⟩⟩
  | cons _ _ => cases e⟩
def CGs.cons (a : CG K T) (b : CGs K T) : CGs K T := ⟨gCons a.g b.g, a.sl ++ b.sl, fun ds Γ => match ds with | d :: r => (a.ev d Γ).bind fun Γ1 => b.ev r Γ1 | _ => none, fun fx G0 H0 G H σ Γ Γ' v d s r e Q q => by
  cases r with
  | nil => cases e
  | @cons v vs d ds h r =>
    cases e1 : a.ev d Γ with
    | none => simp [e1] at e
    | some Γ1 =>
      simp [e1] at e
      exact ⟨v, vs, rfl, a.ok fx G0 H0 G H σ Γ Γ1 v d s h e1 _ fun σ1 s1 k1 => b.ok fx G0 H0 G H σ1 Γ1 Γ' vs ds s1 r e Q fun σ2 s2 k2 => q σ2 s2 ⟨k2.1.trans k1.1, fun i hi => (k2.2 i fun m => hi (List.mem_append_right _ m)).trans (k1.2 i fun m => hi (List.mem_append_left _ m))⟩⟩⟩
def CG.tup (n : Nat) (t : CGs K T) : CG K T := ⟨gTup K n t.g, t.sl, fun d Γ => match d with | .tup ds => if ds.length = n then t.ev ds Γ else none | _ => none, fun fx G0 H0 G H σ Γ Γ' v d s r e Q q => by
  cases r with
  | @tup a vs ds h r =>
    simp at e
    exact ⟨a, vs, rfl, ex_t s.gh h, r.length.trans e.1, t.ok fx G0 H0 G H σ Γ Γ' vs ds s r e.2 Q q⟩
  | _ => cases e⟩

def CS.seq (a b : CS K T) : CS K T := ⟨fun W => tSeq (a.ts W) (b.ts W), fun Γ => match a.ev Γ with | .nx Γ' => b.ev Γ' | r => r, fun W D G0 H0 G H σ Γ s => by
  have h := a.ok W { D with nx := b.ts W D } G0 H0 G H σ Γ s
  show SHd K T W D G0 H0 G _ (a.ts W { D with nx := b.ts W D } σ H)
  cases e : a.ev Γ with
  | nx Γ' =>
    rw [e] at h
    exact SHd.all (p := fun i : { x : Hp × Hp × L2.St // Ex G x.1 ∧ SG K T [] G0 H0 x.1 x.2.1 x.2.2 Γ' } => b.ts W D i.1.2.2 i.1.2.1)
      (fun i => (b.ok W D G0 H0 i.1.1 i.1.2.1 i.1.2.2 Γ' i.2.2).back i.2.1) fun q => h fun G' H' σ' x y => q ⟨(G', H', σ'), x, y⟩
  | _ => rw [e] at h; exact h⟩
def CS.pass : CS K T := ⟨fun _ => tNext, fun Γ => .nx Γ, fun W D G0 H0 G H σ Γ s => SHd.nx s fun q => q⟩
def CS.brk : CS K T := ⟨fun _ => tBreak, fun Γ => .bk Γ, fun W D G0 H0 G H σ Γ s => fun q => q G H σ (Ex.refl G) s⟩
def CS.cont : CS K T := ⟨fun _ => tCont, fun Γ => .ct Γ, fun W D G0 H0 G H σ Γ s => fun q => q G H σ (Ex.refl G) s⟩
def CS.never : CS K T := ⟨fun _ => tNever, fun _ => .bad, fun _ _ _ _ _ _ _ _ _ => trivial⟩
def CS.set (i : Nat) (e : CE K T) : CS K T := ⟨fun W => tAsg (e.te W) (gName i), fun Γ => (e.ev Γ).st Γ fun d => .nx (Γ.set i (.d d)), fun W D G0 H0 G H σ Γ s =>
  Hd.st s (e.ok W [] G0 H0 G H σ Γ s) fun v d G1 H1 w r _ => SHd.nx ((s.grow w).setD r) fun q => q⟩
def CS.asg (g : CG K T) (e : CE K T) : CS K T := ⟨fun W => tAsg (e.te W) g.g, fun Γ => (e.ev Γ).st Γ fun d => match g.ev d Γ with | some Γ' => .nx Γ' | none => .bad, fun W D G0 H0 G H σ Γ s =>
  Hd.st s (e.ok W [] G0 H0 G H σ Γ s) fun v d G1 H1 w r _ => by
    cases h : g.ev d Γ with
    | none => trivial
    | some Γ' => exact fun q => g.ok [] G0 H0 G1 H1 σ Γ Γ' v d (s.grow w) r h _ fun σ' s' _ => q G1 H1 σ' (Ex.refl _) s'⟩
/-- a new list at a name, owned -/
def CS.setO (i : Nat) (c : CO K T) : CS K T := ⟨fun W => tAsg (c.te W) (gName i), fun Γ => (c.ev Γ).st Γ fun xs => .nx (Γ.set i (.ol xs)), fun W D G0 H0 G H σ Γ s => by
  have h := c.ok W [] G0 H0 G H σ Γ s
  show SHd K T W D G0 H0 G ((c.ev Γ).st Γ _) (c.te W σ H _)
  cases e : c.ev Γ with
  | bad => trivial
  | exn cc fs => rw [e] at h; exact fun q => h (fun cls d G' H' w r => q cls d G' H' σ w.g (s.grow w) r) _
  | ok d => rw [e] at h; exact fun q => h _ fun p vs G' H' w n r => q G' _ _ w.g ((s.grow w).setL r n)⟩
def CS.ret (e : CE K T) : CS K T := ⟨fun W => tRet (e.te W), fun Γ => (e.ev Γ).st Γ fun d => .rt d, fun W D G0 H0 G H σ Γ s =>
  Hd.st s (e.ok W [] G0 H0 G H σ Γ s) fun v d G1 H1 w r _ => fun q => q v G1 H1 (s.grow w).fin r⟩
def CS.retN : CS K T := ⟨fun _ => tRetN, fun _ => .rt .non, fun W D G0 H0 G H σ Γ s => fun q => q .non G H s.fin .non⟩
def CS.expr (e : CE K T) : CS K T := ⟨fun W => tDrop (e.te W), fun Γ => (e.ev Γ).st Γ fun _ => .nx Γ, fun W D G0 H0 G H σ Γ s =>
  Hd.st s (e.ok W [] G0 H0 G H σ Γ s) fun v d G1 H1 w r _ => SHd.nx (s.grow w) fun q => q⟩
def CS.ifs (c : CT K T) (a b : CS K T) : CS K T := ⟨fun W => tIfS (c.te W) (a.ts W) (b.ts W), fun Γ => (c.ev Γ).st Γ fun x => if x = true then a.ev Γ else b.ev Γ, fun W D G0 H0 G H σ Γ s =>
  Hd.st s (c.ok W [] G0 H0 G H σ Γ s) fun v d G1 H1 w r _ => by
    subst r
    cases v with
    | true => exact a.ok W D G0 H0 G1 H1 σ Γ (s.grow w)
    | false => exact b.ok W D G0 H0 G1 H1 σ Γ (s.grow w)⟩
/-- the owned object at a name is frozen ahead of a statement -/
def CS.frz (i : Nat) (a : CS K T) : CS K T := ⟨a.ts, fun Γ => match Γ[i]? with | some (.ol xs) => a.ev (Γ.set i (.d (.lst xs))) | some (.od xs) => a.ev (Γ.set i (.d (.dic xs))) | _ => a.ev Γ, fun W D G0 H0 G H σ Γ s => by
  split
  · next xs h =>
    obtain ⟨a0, vs, h1, ha, r, g, _⟩ := s.getL h
    exact (a.ok W D G0 H0 _ H σ _ (s.freeze h1 h ha (fun fp q => by
      cases q with
      | ol h0 r0 => simp) (.lst (sq_of upd_same) (r.mono (Ex.new g))))).back (Ex.new g)
  · next xs h =>
    obtain ⟨a0, vs, h1, ha, r, g, _⟩ := s.getD h
    exact (a.ok W D G0 H0 _ H σ _ (s.freeze h1 h ha (fun fp q => by
      cases q with
      | od h0 r0 => simp) (.dic upd_same (r.mono (Ex.new g))))).back (Ex.new g)
  · exact a.ok W D G0 H0 G H σ Γ s⟩
/-- x.append(e), x owned -/
def CS.app (i : Nat) (e : CE K T) : CS K T := ⟨fun W => tDrop (tBM K "list" rAppend (tVar i) (tCons (e.te W) tNil)), fun Γ => match Γ[i]? with | some (.ol xs) => (e.ev Γ).st Γ fun d => if xs.length < lim then .nx (Γ.set i (.ol (xs ++ [d]))) else .bad | _ => .bad, fun W D G0 H0 G H σ Γ s => by
  split
  · next xs h =>
    obtain ⟨a0, vs, h1, ha, r, g, _⟩ := s.getL h
    refine SHd.imp (t := e.te W σ H fun v H2 => rAppend (.ref a0) [v] H2 fun _ H3 => D.nx σ H3) ?_ fun q => ⟨.ref a0, h1, .inl ⟨rfl, vs, sq_of ha⟩, q⟩
    refine Hd.st s (e.ok W [] G0 H0 G H σ Γ s) fun v d G1 H1 w r1 _ => ?_
    split
    · next hl =>
      have s1 := s.grow w
      exact fun q => ⟨a0, vs, v, rfl, rfl, w.h _ _ ha, sz_lt (by rw [r.length]; exact hl), q G1 _ σ (Ex.refl _) (s1.mutL h1 h ((r.mono w.g).append (RepL.one r1)))⟩
    · trivial
  · trivial⟩

/-! ### loops -/
def evFor (g : Dat → Gam → Option Gam) (b : Gam → SRes) : List Dat → Gam → SRes
  | [], Γ => .nx Γ
  | d :: r, Γ => match g d Γ with
    | none => .bad
    | some Γ1 => match b Γ1 with
      | .nx Γ2 => evFor g b r Γ2
      | .ct Γ2 => evFor g b r Γ2
      | .bk Γ2 => .nx Γ2
      | .rt d => .rt d
      | .exn Γ2 c fs => .exn Γ2 c fs
      | .bad => .bad
theorem for_ok {W : WX} {D : Ends} {G0 H0 Gs G1 H1 : Hp} {σ1 : L2.St} {Γ1 : Gam} {J : It} {ds : List Dat} (g : CG K T) (b : CS K T) (s1 : SG K T [] G0 H0 G1 H1 σ1 Γ1) (hJ : ItOk K T Gs J ds) (e1 : Ex Gs G1) {r : SRes} (hr : evFor g.ev b.ev ds Γ1 = r) :
    SHd K T W D G0 H0 Gs r (∃ V : Nat → Nat → L2.St → Hp → Prop, (∃ m, V 0 m σ1 H1) ∧ ∀ i m σ H, V i m σ H →
      (J.stop i H ∧ D.nx σ H) ∨ (J.go i H ∧ ∃ N : L2.St → Hp → Prop, (∀ σ' H', N σ' H' → ∃ m', m' < m ∧ V (i + 1) m' σ' H') ∧ ∀ x H', J.yld i H x H' → g.g x σ H' fun σ2 H2 => b.ts W { D with nx := N, ct := N, bk := D.nx } σ2 H2)) := by
  -- the word: what is left of the walk gives r
  have start : ∃ m, (fun (i m : Nat) (σ : L2.St) (H : Hp) => i + m = ds.length ∧ ∃ G Γ, SG K T [] G0 H0 G H σ Γ ∧ Ex Gs G ∧ evFor g.ev b.ev (ds.drop i) Γ = r) 0 m σ1 H1 := ⟨ds.length, by omega, G1, Γ1, s1, e1, hr⟩
  have main : r ≠ .bad → (∀ Γ, r = .nx Γ → ∀ G' H' σ', Ex Gs G' → SG K T [] G0 H0 G' H' σ' Γ → D.nx σ' H') → (∀ Γ, r ≠ .bk Γ) → (∀ Γ, r ≠ .ct Γ) →
      (∀ d, r = .rt d → ∀ v G' H', Grow G0 H0 G' H' → Rep K T G' v d → D.rt v H') →
      (∀ Γ c fs, r = .exn Γ c fs → ∀ cls d G' H' σ', Ex Gs G' → SG K T [] G0 H0 G' H' σ' Γ → RepX K T G' cls d c fs → W cls d σ' H') →
      ∀ i m σ H, (i + m = ds.length ∧ ∃ G Γ, SG K T [] G0 H0 G H σ Γ ∧ Ex Gs G ∧ evFor g.ev b.ev (ds.drop i) Γ = r) →
      (J.stop i H ∧ D.nx σ H) ∨ (J.go i H ∧ ∃ N : L2.St → Hp → Prop, (∀ σ' H', N σ' H' → ∃ m', m' < m ∧ (i + 1 + m' = ds.length ∧ ∃ G Γ, SG K T [] G0 H0 G H' σ' Γ ∧ Ex Gs G ∧ evFor g.ev b.ev (ds.drop (i + 1)) Γ = r)) ∧
        ∀ x H', J.yld i H x H' → g.g x σ H' fun σ2 H2 => b.ts W { D with nx := N, ct := N, bk := D.nx } σ2 H2) := by
    intro hb hn hk hc hret hx i m σ H ⟨him, G, Γ, s, e, hv⟩
    obtain ⟨hgo, hstop⟩ := hJ G H e s.gh
    by_cases hi : i < ds.length
    · right
      have hd : ds[i]? = some ds[i] := List.getElem?_eq_getElem hi
      obtain ⟨go, yl⟩ := hgo i _ hd
      rw [List.drop_eq_getElem_cons hi] at hv
      refine ⟨go, fun σ' H' => ∃ G Γ, SG K T [] G0 H0 G H' σ' Γ ∧ Ex Gs G ∧ evFor g.ev b.ev (ds.drop (i + 1)) Γ = r, fun σ' H' hN => ⟨m - 1, by omega, by omega, hN⟩, fun x H' hy => ?_⟩
      obtain ⟨G2, w, rx⟩ := yl x H' hy
      have s2 := s.grow w
      have e2 := e.trans w.g
      unfold evFor at hv
      cases hg : g.ev ds[i] Γ with
      | none => rw [hg] at hv; exact absurd hv.symm hb
      | some Γ2 =>
        rw [hg] at hv
        refine g.ok [] G0 H0 G2 H' σ Γ Γ2 x ds[i] s2 rx hg _ fun σ3 s3 _ => ?_
        have hbody := b.ok W { D with nx := fun σ' H' => ∃ G Γ, SG K T [] G0 H0 G H' σ' Γ ∧ Ex Gs G ∧ evFor g.ev b.ev (ds.drop (i + 1)) Γ = r, ct := fun σ' H' => ∃ G Γ, SG K T [] G0 H0 G H' σ' Γ ∧ Ex Gs G ∧ evFor g.ev b.ev (ds.drop (i + 1)) Γ = r, bk := D.nx } G0 H0 G2 H' σ3 Γ2 s3
        cases hbv : b.ev Γ2 with
        | bad => simp [hbv] at hv; exact absurd hv.symm hb
        | nx Γ3 =>
          simp [hbv] at hv
          rw [hbv] at hbody
          exact hbody fun G' H'' σ' x1 x2 => ⟨G', Γ3, x2, e2.trans x1, hv⟩
        | ct Γ3 =>
          simp [hbv] at hv
          rw [hbv] at hbody
          exact hbody fun G' H'' σ' x1 x2 => ⟨G', Γ3, x2, e2.trans x1, hv⟩
        | bk Γ3 =>
          simp [hbv] at hv
          rw [hbv] at hbody
          exact hbody fun G' H'' σ' x1 x2 => hn Γ3 hv.symm G' H'' σ' (e2.trans x1) x2
        | rt d =>
          simp [hbv] at hv
          rw [hbv] at hbody
          exact hbody fun v G' H'' x1 x2 => hret d hv.symm v G' H'' x1 x2
        | exn Γ3 c fs =>
          simp [hbv] at hv
          rw [hbv] at hbody
          exact hbody fun cls d G' H'' σ' x1 x2 x3 => hx Γ3 c fs hv.symm cls d G' H'' σ' (e2.trans x1) x2 x3
    · left
      rw [List.drop_eq_nil_of_le (by omega)] at hv
      exact ⟨hstop i (by omega), hn Γ hv.symm G H σ e s⟩
  have nbk : ∀ (l : List Dat) (Γ Γ' : Gam), evFor g.ev b.ev l Γ ≠ .bk Γ' := by
    intro l
    induction l with
    | nil => intro Γ Γ' h; cases h
    | cons d l ih =>
      intro Γ Γ' h
      unfold evFor at h
      generalize g.ev d Γ = o at h
      cases o with
      | none => cases h
      | some Γ1 =>
        dsimp only at h
        generalize b.ev Γ1 = z at h
        cases z with
        | nx Γ2 => exact ih _ _ h
        | ct Γ2 => exact ih _ _ h
        | bk Γ2 => cases h
        | rt d => cases h
        | exn _ _ _ => cases h
        | bad => cases h
  have nct : ∀ (l : List Dat) (Γ Γ' : Gam), evFor g.ev b.ev l Γ ≠ .ct Γ' := by
    intro l
    induction l with
    | nil => intro Γ Γ' h; cases h
    | cons d l ih =>
      intro Γ Γ' h
      unfold evFor at h
      generalize g.ev d Γ = o at h
      cases o with
      | none => cases h
      | some Γ1 =>
        dsimp only at h
        generalize b.ev Γ1 = z at h
        cases z with
        | nx Γ2 => exact ih _ _ h
        | ct Γ2 => exact ih _ _ h
        | bk Γ2 => cases h
        | rt d => cases h
        | exn _ _ _ => cases h
        | bad => cases h
  cases hrr : r with
  | bad => trivial
  | nx Γ' => exact fun q => ⟨_, start, main (by rw [hrr]; simp) (fun Γ h => by rw [hrr] at h; cases h; exact q) (fun Γ h => by rw [hrr] at h; cases h) (fun Γ h => by rw [hrr] at h; cases h) (fun d h => by rw [hrr] at h; cases h) (fun Γ c fs h => by rw [hrr] at h; cases h)⟩
  | bk Γ' => exact absurd (hr.trans hrr) (nbk _ _ _)
  | ct Γ' => exact absurd (hr.trans hrr) (nct _ _ _)
  | rt d => exact fun q => ⟨_, start, main (by rw [hrr]; simp) (fun Γ h => by rw [hrr] at h; cases h) (fun Γ h => by rw [hrr] at h; cases h) (fun Γ h => by rw [hrr] at h; cases h) (fun d h => by rw [hrr] at h; cases h; exact q) (fun Γ c fs h => by rw [hrr] at h; cases h)⟩
  | exn Γ' c fs => exact fun q => ⟨_, start, main (by rw [hrr]; simp) (fun Γ h => by rw [hrr] at h; cases h) (fun Γ h => by rw [hrr] at h; cases h) (fun Γ h => by rw [hrr] at h; cases h) (fun d h => by rw [hrr] at h; cases h) (fun Γ c fs h => by rw [hrr] at h; cases h; exact q)⟩
def CS.forS (i : CI K T) (g : CG K T) (b : CS K T) : CS K T := ⟨fun W => tFor (i.te W) g.g (b.ts W), fun Γ => (i.ev Γ).st Γ fun ds => evFor g.ev b.ev ds Γ, fun W D G0 H0 G H σ Γ s =>
  Hd.st s (i.ok W [] G0 H0 G H σ Γ s) fun J ds G1 H1 w hJ _ => for_ok g b (s.grow w) hJ (Ex.refl _) rfl⟩

def evWhile (c : Gam → Rs Bool) (b : Gam → SRes) : Nat → Gam → SRes
  | 0, _ => .bad
  | n + 1, Γ => (c Γ).st Γ fun x => if x = true then (match b Γ with
      | .nx Γ2 => evWhile c b n Γ2
      | .ct Γ2 => evWhile c b n Γ2
      | .bk Γ2 => .nx Γ2
      | .rt d => .rt d
      | .exn Γ2 c fs => .exn Γ2 c fs
      | .bad => .bad) else .nx Γ
theorem nbk_while (c : Gam → Rs Bool) (b : Gam → SRes) : ∀ (n : Nat) (Γ Γ' : Gam), evWhile c b n Γ ≠ .bk Γ' ∧ evWhile c b n Γ ≠ .ct Γ' := by
  intro n
  induction n with
  | zero => intro Γ Γ'; exact ⟨fun h => (by cases h), fun h => (by cases h)⟩
  | succ n ih =>
    intro Γ Γ'
    unfold evWhile
    cases c Γ with
    | bad => exact ⟨fun h => (by cases h), fun h => (by cases h)⟩
    | exn cc fs => exact ⟨fun h => (by cases h), fun h => (by cases h)⟩
    | ok x =>
      cases x with
      | false => exact ⟨fun h => (by cases h), fun h => (by cases h)⟩
      | true =>
        simp only [Rs.st_ok, if_true]
        cases b Γ with
        | nx Γ2 => exact ih Γ2 Γ'
        | ct Γ2 => exact ih Γ2 Γ'
        | bk Γ2 => exact ⟨fun h => (by cases h), fun h => (by cases h)⟩
        | rt d => exact ⟨fun h => (by cases h), fun h => (by cases h)⟩
        | exn _ _ _ => exact ⟨fun h => (by cases h), fun h => (by cases h)⟩
        | bad => exact ⟨fun h => (by cases h), fun h => (by cases h)⟩
def CS.whileS (n : Nat) (c : CT K T) (b : CS K T) : CS K T := ⟨fun W => tWhile (c.te W) (b.ts W), fun Γ => evWhile c.ev b.ev n Γ, fun W D G0 H0 G H σ Γ s => by
  have main : ∀ r : SRes, r ≠ .bad → (∀ Γ, r = .nx Γ → ∀ G' H' σ', Ex G G' → SG K T [] G0 H0 G' H' σ' Γ → D.nx σ' H') →
      (∀ d, r = .rt d → ∀ v G' H', Grow G0 H0 G' H' → Rep K T G' v d → D.rt v H') →
      (∀ Γ c fs, r = .exn Γ c fs → ∀ cls d G' H' σ', Ex G G' → SG K T [] G0 H0 G' H' σ' Γ → RepX K T G' cls d c fs → W cls d σ' H') → evWhile c.ev b.ev n Γ = r →
      tWhile (c.te W) (b.ts W) D σ H := by
    intro r hb hn hret hx hr
    refine ⟨fun m σ H => ∃ G' Γ, SG K T [] G0 H0 G' H σ Γ ∧ Ex G G' ∧ evWhile c.ev b.ev m Γ = r, ⟨n, G, Γ, s, Ex.refl _, hr⟩, fun m σ H ⟨G1, Γ1, s1, e1, hv⟩ => ?_⟩
    cases m with
    | zero => exact absurd hv.symm hb
    | succ m =>
      unfold evWhile at hv
      have hc := c.ok W [] G0 H0 G1 H σ Γ1 s1
      cases hcv : c.ev Γ1 with
      | bad => rw [hcv] at hv; exact absurd hv.symm hb
      | exn cc fs =>
        rw [hcv] at hv hc
        exact hc (fun cls d G' H' w q => hx Γ1 cc fs hv.symm cls d G' H' σ (e1.trans w.g) (s1.grow w) q) _
      | ok x =>
        rw [hcv] at hv hc
        refine hc _ fun v G' H' w q => ?_
        subst q
        have s2 := s1.grow w
        have e2 := e1.trans w.g
        cases v with
        | false =>
          simp at hv
          show D.nx σ H'
          exact hn Γ1 hv.symm G' H' σ e2 s2
        | true =>
          simp only [Rs.st_ok, if_true] at hv
          show ∃ N : L2.St → Hp → Prop, _
          refine ⟨fun σ' H' => ∃ G' Γ, SG K T [] G0 H0 G' H' σ' Γ ∧ Ex G G' ∧ evWhile c.ev b.ev m Γ = r, fun σ' H' hN => ⟨m, by omega, hN⟩, ?_⟩
          have hbody := b.ok W { D with nx := fun σ' H' => ∃ G' Γ, SG K T [] G0 H0 G' H' σ' Γ ∧ Ex G G' ∧ evWhile c.ev b.ev m Γ = r, ct := fun σ' H' => ∃ G' Γ, SG K T [] G0 H0 G' H' σ' Γ ∧ Ex G G' ∧ evWhile c.ev b.ev m Γ = r, bk := D.nx } G0 H0 G' H' σ Γ1 s2
          cases hbv : b.ev Γ1 with
          | bad => simp [hbv] at hv; exact absurd hv.symm hb
          | nx Γ3 =>
            simp [hbv] at hv
            rw [hbv] at hbody
            exact hbody fun G' H'' σ' x1 x2 => ⟨G', Γ3, x2, e2.trans x1, hv⟩
          | ct Γ3 =>
            simp [hbv] at hv
            rw [hbv] at hbody
            exact hbody fun G' H'' σ' x1 x2 => ⟨G', Γ3, x2, e2.trans x1, hv⟩
          | bk Γ3 =>
            simp [hbv] at hv
            rw [hbv] at hbody
            exact hbody fun G' H'' σ' x1 x2 => hn Γ3 hv.symm G' H'' σ' (e2.trans x1) x2
          | rt d =>
            simp [hbv] at hv
            rw [hbv] at hbody
            exact hbody fun v G' H'' x1 x2 => hret d hv.symm v G' H'' x1 x2
          | exn Γ3 cc fs =>
            simp [hbv] at hv
            rw [hbv] at hbody
            exact hbody fun cls d G' H'' σ' x1 x2 x3 => hx Γ3 cc fs hv.symm cls d G' H'' σ' (e2.trans x1) x2 x3
  cases hrr : evWhile c.ev b.ev n Γ with
  | bad => trivial
  | nx Γ' => exact fun q => main _ (by simp) (fun Γ h => by cases h; exact q) (fun d h => by cases h) (fun Γ c fs h => by cases h) hrr
  | bk Γ' => exact absurd hrr (nbk_while _ _ _ _ _).1
  | ct Γ' => exact absurd hrr (nbk_while _ _ _ _ _).2
  | rt d => exact fun q => main _ (by simp) (fun Γ h => by cases h) (fun d h => by cases h; exact q) (fun Γ c fs h => by cases h) hrr
  | exn Γ' c fs => exact fun q => main _ (by simp) (fun Γ h => by cases h) (fun d h => by cases h) (fun Γ c fs h => by cases h; exact q) hrr⟩

/-! ### defs -/
def runF (b : CS K T) (n : Nat) (ds : List Dat) : Rs Dat := match b.ev (ds.map Slot.d ++ List.replicate (n - ds.length) Slot.un) with
  | .rt d => .ok d
  | .nx _ => .ok .non
  | .exn _ c fs => .exn c fs
  | _ => .bad
def spF (K : PySem.W.Frag) (T : Nat → Addr) (m : Nat) (F : List Dat → Rs Dat) : Sp := fun vs H Q E => vs.length = m ∧ ∃ G ds, Ex G H ∧ RepL K T G vs ds ∧ (∃ r, F ds = r ∧ match r with
    | .ok d => ∀ v G' H', Grow G H G' H' → Rep K T G' v d → Q v H'
    | .exn c fs => ∀ cls d G' H', Grow G H G' H' → RepX K T G' cls d c fs → E cls d H'
    | .bad => False)
theorem body_ok (b : CS K T) {N : List Str} {m : Nat} {vs : List V} {H : Hp} {Q : VK} {E : XK} (h : spF K T m (runF b N.length) vs H Q E) :
    b.ts (fun cls d _ H => E cls d H) { nx := fun _ H' => Q .non H', rt := Q } (L2.start N vs) H := by
  obtain ⟨hm, G, ds, e, r, rr, hr, q⟩ := h
  have s : SG K T [] G H G H (L2.start N vs) (ds.map Slot.d ++ List.replicate (N.length - ds.length) Slot.un) := by
    unfold L2.start
    rw [r.length]
    exact SG.start e r _
  have o := b.ok (fun cls d _ H => E cls d H) { nx := fun _ H' => Q .non H', rt := Q } G H G H _ _ s
  unfold runF at hr
  cases hb : b.ev (ds.map Slot.d ++ List.replicate (N.length - ds.length) Slot.un) with
  | rt d =>
    rw [hb] at o hr
    subst hr
    exact o q
  | nx Γ =>
    rw [hb] at o hr
    subst hr
    exact o fun G' H' σ' _ s' => q .non G' H' s'.fin .non
  | exn Γ c fs =>
    rw [hb] at o hr
    subst hr
    exact o fun cls d G' H' σ' _ s' x => q cls d G' H' s'.fin x
  | bk Γ => rw [hb] at hr; subst hr; exact q.elim
  | ct Γ => rw [hb] at hr; subst hr; exact q.elim
  | bad => rw [hb] at hr; subst hr; exact q.elim
/-- as Fun.okX, whatever the way of exceptions -/
theorem okC {CX : CXT} {P : Program} {w : World} {mg : Str → Option Value} {base : Heap} {x qual : Str} {st : Stmt} {f : Addr} {fd : FuncData} {N ps : List Str} {k : Nat} {sp : Sp} (F : Fun K x qual st f fd) (S : FnScope N ps (defScope st)) (len : ∀ vs H Q E, sp vs H Q E → vs.length = ps.length)
    (hbody : ∀ (cdv : Value) (A : Around) (outer : List Env) (s : Shared) (H : Hp) (vs : List V) (Q : VK) (E : XK), Room k (A.deeper (PyProof.Rows.envOfC qual (defScope st) s.heap.objs.size f cdv)) → sp vs H Q E →
      ∃ t, PSs (cxOf CX P w K mg base N qual (defScope st) f cdv A outer s H E) (defBody st) t ∧ t { nx := fun _ H' => Q .non H', rt := Q } (L2.start N vs) H) : FnOk P w K mg base CX (k + 1) f fd ps sp := by
  obtain ⟨oc, od, kV, doc, pm, an, cdv, ct, osl, rfl, lk, hcd⟩ := F.ex
  exact fn_of lk hcd S len fun A outer s H vs Q E hr hsp => hbody cdv A outer s H vs Q E hr hsp
theorem ok_fn {P : Program} {w : World} {mg : Str → Option Value} {base : Heap} {x qual : Str} {st : Stmt} {f : Addr} {fd : FuncData} {N ps : List Str} {k : Nat} (F : Fun K x qual st f fd) (S : FnScope N ps (defScope st)) (b : CS K T)
    (h : ∀ (cdv : Value) (A : Around) (outer : List Env) (s : Shared) (H : Hp) (E : XK), Room k (A.deeper (PyProof.Rows.envOfC qual (defScope st) s.heap.objs.size f cdv)) →
      PSs (cxOf (L2N.CX P w) P w K mg base N qual (defScope st) f cdv A outer s H E) (defBody st) (b.ts fun cls d _ H => E cls d H)) :
    FnOk P w K mg base (L2N.CX P w) (k + 1) f fd ps (spF K T ps.length (runF b N.length)) :=
  okC F S (fun vs H Q E h => h.1) fun cdv A outer s H vs Q E hr hsp => ⟨_, h cdv A outer s H E hr, body_ok b hsp⟩
/-- a call of a def -/
def CE.fn (m : Nat) (F : List Dat → Rs Dat) (a : CA K T) : CE K T := ⟨fun W => tCallS (spF K T m F) (WE W) (a.te W), fun Γ => (a.ev Γ).bind fun ds => if ds.length = m then F ds else .bad, fun W fx G0 H0 G H σ Γ s =>
  (a.ok W fx G0 H0 G H σ Γ s).bind fun v d G1 H1 w1 r1 _ => by
    split
    · next hl =>
      have hv : v.length = m := r1.length.trans hl
      show Hd K T W G1 H1 σ (Rep K T) (F d) fun Q => spF K T m F v H1 Q (WE W σ)
      cases hF : F d with
      | bad => trivial
      | ok x => exact fun Q q => ⟨hv, G1, d, w1.gh, r1, _, hF, fun v' G' H' w r => q v' G' H' w r⟩
      | exn c fs => exact fun w Q => ⟨hv, G1, d, w1.gh, r1, _, hF, fun cls d' G' H' w' r => w cls d' G' H' w' r⟩
    · trivial⟩
end
end Cz

set_option Elab.async false
set_option linter.all false
set_option maxRecDepth 100000
set_option maxHeartbeats 2000000
/-! Comprehensions, what is walked. -/
namespace Cz
open PySem L2 Evl

def rm (H : Hp) (a : Addr) : Hp := fun b => if b = a then none else H b
theorem rm_ne {H : Hp} {a b : Addr} (h : b ≠ a) : rm H a b = H b := if_neg h
theorem rm_same {H : Hp} {a : Addr} : rm H a a = none := if_pos rfl
theorem upd_rm {H : Hp} {a : Addr} {o : HO} (h : H a = some o) : upd (rm H a) a o = H := by
  funext b
  by_cases e : b = a
  · subst e; rw [upd_same, h]
  · rw [upd_ne e, rm_ne e]
theorem rm_upd {H : Hp} {a : Addr} {o : HO} (h : H a = none) : rm (upd H a o) a = H := by
  funext b
  by_cases e : b = a
  · subst e; rw [rm_same, h]
  · rw [rm_ne e, upd_ne e]
section
variable {K : PySem.W.Frag} {T : Nat → Addr} {fx : List Addr} {G0 H0 G G' H H' : Hp} {σ : L2.St} {Γ : Gam} {D : Addr} {o : HO}
theorem Grow.minus (w : Grow G H G' H') (g : G D = none) (h : H D ≠ none) : Grow G (rm H D) G' (rm H' D) := by
  have g' := w.free g h
  have nD : ∀ {X : Hp} {a : Addr} {u : HO}, X D = none → X a = some u → a ≠ D := fun n e z => by subst z; rw [n] at e; cases e
  refine ⟨w.g, fun a u e => ?_, fun a u e => ?_, fun a u e => ?_⟩
  · rw [rm_ne (nD g' e)]; exact w.gh a u e
  · have q := nD rm_same e
    rw [rm_ne q] at e ⊢
    exact w.h a u e
  · rcases w.nw a u e with z | z
    · exact .inl z
    · right
      rw [rm_ne (nD g' e)]; exact z
theorem SG.add (s : SG K T fx G0 H0 G (rm H D) σ Γ) (h : H D = some o) : SG K T (D :: fx) G0 H0 G H σ Γ := by
  have nD : ∀ {X : Hp} {a : Addr} {u : HO}, X D = none → X a = some u → a ≠ D := fun n e z => by subst z; rw [n] at e; cases e
  have gD : G D = none := fresh_back s.gh rm_same
  have hD : H0 D = none := fresh_back s.h rm_same
  obtain ⟨fp, f1, f2, f3, f4⟩ := s.own
  have nf : ∀ i a, a ∈ fp i → a ≠ D := fun i a m z => by subst z; exact (f2 i a m).2.1 rm_same
  refine ⟨s.len, fun a u e => ?_, s.g, fun a u e => ?_, s.nw, ⟨fp, fun i o' t h1 h2 => (f1 i o' t h1 h2).mono (Ex.refl _) fun a m => (rm_ne (nf i a m)).symm, fun i a m => ?_, f3, f4⟩, fun a m => ?_⟩
  · have := s.gh a u e
    rwa [rm_ne (nD gD e)] at this
  · have := s.h a u e
    rwa [rm_ne (nD hD e)] at this
  · obtain ⟨y1, y2, y3, y4⟩ := f2 i a m
    rw [rm_ne (nf i a m)] at y2
    exact ⟨y1, y2, y3, by simp [nf i a m, y4]⟩
  · rcases List.mem_cons.mp m with z | z
    · subst z; exact ⟨gD, by rw [h]; simp, hD⟩
    · obtain ⟨y1, y2, y3⟩ := s.fxs a z
      rw [rm_ne (fun q => by subst q; exact y2 rm_same)] at y2
      exact ⟨y1, y2, y3⟩
def wipeG (Γ : Gam) : List Nat → Gam
  | [] => Γ
  | v :: vs => (wipeG Γ vs).set v .un
theorem SG.wipe (s : SG K T fx G0 H0 G H σ Γ) : ∀ vs : List Nat, SG K T fx G0 H0 G H (L2.wipe σ vs) (wipeG Γ vs)
  | [] => s
  | v :: vs => (SG.wipe s vs).setU none
theorem wipe_get {σ : L2.St} : ∀ {vs : List Nat} {i : Nat}, (L2.wipe σ vs)[i]? = if i ∈ vs ∧ i < σ.length then some none else σ[i]?
  | [], i => by simp [L2.wipe]
  | v :: vs, i => by
    show ((L2.wipe σ vs).set v none)[i]? = _
    rw [List.getElem?_set]
    by_cases h : v = i
    · subst h
      simp [L2.wipe_length]
      by_cases hl : v < σ.length
      · simp [hl]
      · simp [hl]
    · rw [if_neg h, wipe_get]
      have : i ≠ v := fun e => h e.symm
      simp [this]
theorem wipe_keep {σ σ' : L2.St} {sl vs : List Nat} (k : Kps sl (L2.wipe σ vs) σ') (h : ∀ i ∈ sl, i ∈ vs) : L2.wipe σ' vs = L2.wipe σ vs := by
  have hl : σ'.length = σ.length := by rw [k.1, L2.wipe_length]
  refine List.ext_getElem? fun i => ?_
  rw [wipe_get, wipe_get, hl]
  by_cases hi : i ∈ vs
  · by_cases hlt : i < σ.length
    · simp [hi, hlt]
    · have e1 : σ'[i]? = none := List.getElem?_eq_none (by omega)
      have e2 : σ[i]? = none := List.getElem?_eq_none (by omega)
      simp [hi, hlt, e1, e2]
  · have := k.2 i fun m => hi (h i m)
    rw [wipe_get] at this
    simp [hi] at this ⊢
    exact this
end

section
variable {K : PySem.W.Frag} {T : Nat → Addr}
abbrev W0 : WX := fun _ _ _ _ => False
def evLc (g : Dat → Gam → Option Gam) (t : Gam → Rs Bool) (e : Gam → Rs Dat) (Γ : Gam) : List Dat → Rs (List Dat)
  | [] => .ok []
  | d :: r => match g d Γ with
    | none => .bad
    | some Γ1 => match t Γ1 with
      | .ok true => (match e Γ1 with
        | .ok y => (evLc g t e Γ r).bind fun ys => .ok (y :: ys)
        | _ => .bad)
      | .ok false => evLc g t e Γ r
      | _ => .bad
theorem evLc_exn {g : Dat → Gam → Option Gam} {t : Gam → Rs Bool} {e : Gam → Rs Dat} {Γ : Gam} : ∀ (l : List Dat) (c : Nat) (fs : List (Str × Dat)), evLc g t e Γ l ≠ .exn c fs
  | [], c, fs => by intro h; cases h
  | d :: r, c, fs => by
    intro h
    unfold evLc at h
    generalize g d Γ = o at h
    cases o with
    | none => cases h
    | some Γ1 =>
      dsimp only at h
      generalize t Γ1 = z at h
      cases z with
      | bad => cases h
      | exn _ _ => cases h
      | ok b =>
        cases b with
        | false => exact evLc_exn r c fs h
        | true =>
          dsimp only at h
          generalize e Γ1 = y at h
          cases y with
          | bad => cases h
          | exn _ _ => cases h
          | ok y =>
            dsimp only at h
            cases q : evLc g t e Γ r with
            | ok ys => rw [q] at h; cases h
            | exn c fs => exact evLc_exn r c fs q
            | bad => rw [q] at h; cases h
theorem evLc_len {g : Dat → Gam → Option Gam} {t : Gam → Rs Bool} {e : Gam → Rs Dat} {Γ : Gam} : ∀ (l ys : List Dat), evLc g t e Γ l = .ok ys → ys.length ≤ l.length
  | [], ys, h => by cases h; simp
  | d :: r, ys, h => by
    unfold evLc at h
    generalize g d Γ = o at h
    cases o with
    | none => cases h
    | some Γ1 =>
      dsimp only at h
      generalize t Γ1 = z at h
      cases z with
      | bad => cases h
      | exn _ _ => cases h
      | ok b =>
        cases b with
        | false => have := evLc_len r ys h; simp; omega
        | true =>
          dsimp only at h
          generalize e Γ1 = y at h
          cases y with
          | bad => cases h
          | exn _ _ => cases h
          | ok y =>
            dsimp only at h
            cases q : evLc g t e Γ r with
            | ok zs => rw [q] at h; cases h; have := evLc_len r zs q; simp; omega
            | exn c fs => rw [q] at h; cases h
            | bad => rw [q] at h; cases h
def CO.lc (i : CI K T) (g : CG K T) (t : CT K T) (e : CE K T) : CO K T := ⟨fun W => tLc (i.te W) g.g (t.te W0) (e.te W0) g.sl,
  fun Γ => (i.ev Γ).bind fun ds => if ds.length ≤ lim then evLc g.ev t.ev e.ev (wipeG Γ g.sl) ds else .bad, fun W fx G0 H0 G H σ Γ s => by
  have hi := i.ok W fx G0 H0 G H σ Γ s
  cases hie : i.ev Γ with
  | bad => trivial
  | exn c fs => rw [hie] at hi; exact fun w Q => hi w _
  | ok ds =>
    rw [hie] at hi
    show match (if ds.length ≤ lim then evLc g.ev t.ev e.ev (wipeG Γ g.sl) ds else Rs.bad) with | .ok d => _ | .exn c fs => _ | .bad => _
    split
    · next zs hz =>
      split at hz
      · next hlim =>
        intro Q q
        refine hi _ fun J G1 H1 w1 hJ => fun D hD => ?_
        have s1 := s.grow w1
        have gD1 : G1 D = none := fresh_back w1.gh hD
        refine ⟨fun j m H' => j + m = ds.length ∧ ∃ G' ws acc, H' D = some (.lst ws) ∧ RepL K T G' ws acc ∧ Grow G1 H1 G' (rm H' D) ∧ acc.length ≤ j ∧ ∃ rest, evLc g.ev t.ev e.ev (wipeG Γ g.sl) (ds.drop j) = .ok rest ∧ acc ++ rest = zs,
          ⟨ds.length, by omega, G1, [], [], upd_same, .nil, by rw [rm_upd hD]; exact Grow.refl w1.gh, by simp, zs, by simpa using hz, by simp⟩, fun j m H' ⟨hjm, G', ws, acc, eD, rw_, w, hacc, rest, hr, ha⟩ => ?_⟩
        have gD : G' D = none := fresh_back w.gh rm_same
        have gh' : Ex G' H' := fun a u x => by
          have z := w.gh a u x
          rwa [rm_ne (fun y => by subst y; rw [gD] at x; cases x)] at z
        have s2 : SG K T (D :: fx) G0 H0 G' H' σ Γ := (s1.grow w).add eD
        obtain ⟨hgo, hstop⟩ := hJ G' H' w.g gh'
        by_cases hj : j < ds.length
        · right
          have hd : ds[j]? = some ds[j] := List.getElem?_eq_getElem hj
          obtain ⟨go, yl⟩ := hgo j _ hd
          rw [List.drop_eq_getElem_cons hj] at hr
          unfold evLc at hr
          refine ⟨go, fun H'' => ∃ G' ws acc, H'' D = some (.lst ws) ∧ RepL K T G' ws acc ∧ Grow G1 H1 G' (rm H'' D) ∧ acc.length ≤ j + 1 ∧ ∃ rest, evLc g.ev t.ev e.ev (wipeG Γ g.sl) (ds.drop (j + 1)) = .ok rest ∧ acc ++ rest = zs, fun H'' hN => ⟨m - 1, by omega, by omega, hN⟩, fun x H2 hy => ?_⟩
          obtain ⟨G2, wy, rx⟩ := yl x H2 hy
          have s3 := (s2.grow wy).wipe g.sl
          cases hg : g.ev ds[j] (wipeG Γ g.sl) with
          | none => rw [hg] at hr; cases hr
          | some Γ1 =>
            rw [hg] at hr
            refine g.ok (D :: fx) G0 H0 G2 H2 _ _ Γ1 x ds[j] s3 rx hg _ fun σ2 s4 k4 => ⟨wipe_keep k4 (fun _ h => h), ?_⟩
            have ht := t.ok W0 (D :: fx) G0 H0 G2 H2 σ2 Γ1 s4
            cases htv : t.ev Γ1 with
            | bad => simp [htv] at hr
            | exn c fs => simp [htv] at hr
            | ok b =>
              rw [htv] at ht
              refine ht _ fun b' G3 H3 w3 eb => ?_
              subst eb
              cases b' with
              | false =>
                simp [htv] at hr
                show ∃ G' ws acc, _
                have wt := wy.trans w3
                refine ⟨G3, ws, acc, wt.h _ _ eD, rw_.mono wt.g, w.trans (wt.minus gD (by rw [eD]; simp)), by omega, rest, hr, ha⟩
              | true =>
                simp only [htv] at hr
                show e.te W0 σ2 H3 _
                have he := e.ok W0 (D :: fx) G0 H0 G3 H3 σ2 Γ1 (s4.grow w3)
                cases hev : e.ev Γ1 with
                | bad => simp [hev] at hr
                | exn c fs => simp [hev] at hr
                | ok y =>
                  rw [hev] at he
                  simp only [hev] at hr
                  refine he _ fun v G4 H4 w4 r4 => ?_
                  have wt := (wy.trans w3).trans w4
                  have e4 : H4 D = some (.lst ws) := wt.h _ _ eD
                  have g4 : G4 D = none := wt.free gD (by rw [eD]; simp)
                  refine ⟨ws, e4, sz_lt (by rw [rw_.length]; unfold lim at hlim; omega), ?_⟩
                  cases hrest : evLc g.ev t.ev e.ev (wipeG Γ g.sl) (ds.drop (j + 1)) with
                  | bad => rw [hrest] at hr; cases hr
                  | exn c fs => rw [hrest] at hr; cases hr
                  | ok ys =>
                    rw [hrest] at hr
                    cases hr
                    refine ⟨G4, ws ++ [v], acc ++ [y], upd_same, (rw_.mono wt.g).append (RepL.one r4), ?_, by simp; omega, ys, rfl, by simp [ha]⟩
                    have z := w.trans (wt.minus gD (by rw [eD]; simp))
                    have eq : rm (upd H4 D (.lst (ws ++ [v]))) D = rm H4 D := by
                      funext b
                      by_cases q : b = D
                      · subst q; rw [rm_same, rm_same]
                      · rw [rm_ne q, rm_ne q, upd_ne q]
                    rw [eq]
                    exact z
        · left
          rw [List.drop_eq_nil_of_le (by omega)] at hr
          cases hr
          refine ⟨hstop j (by omega), ?_⟩
          have z := q D ws G' (rm H' D) (w1.trans w) rm_same
          rw [upd_rm eD] at z
          refine z ?_
          rw [List.append_nil] at ha
          rw [← ha]
          exact rw_
      · cases hz
    · next c fs hz =>
      split at hz
      · exact absurd hz (evLc_exn _ _ _)
      · cases hz
    · trivial⟩

/-! ### what is walked -/
def CI.list (a : CE K T) : CI K T := ⟨fun W => iList K (a.te W), fun Γ => (a.ev Γ).bind fun d => match d with | .lst ds => .ok ds | _ => .bad, fun W fx G0 H0 G H σ Γ s =>
  (a.ok W fx G0 H0 G H σ Γ s).bind fun v d G1 H1 w1 r1 _ => by
    cases r1 with
    | @lst p vs ds h r => exact fun R q => ⟨p, rfl, ⟨vs, ex_l w1.gh h⟩, q _ G1 H1 (Grow.refl w1.gh) fun G' H' e1 e2 => ⟨fun i d hd => by
        obtain ⟨x, hx, rx⟩ := r.get' hd
        have hh := ex_l (e1.trans e2) h
        refine ⟨⟨vs, x, hh, hx⟩, fun y H'' hy => ?_⟩
        obtain ⟨rfl, hy⟩ := hy
        have := hy vs hh
        rw [hx] at this
        cases this
        exact ⟨G', Grow.refl e2, rx.mono e1⟩, fun i hi => ⟨vs, ex_l (e1.trans e2) h, by rw [r.length]; exact hi⟩⟩⟩
    | _ => trivial⟩
def CI.tuple (a : CE K T) : CI K T := ⟨fun W => iTup K (a.te W), fun Γ => (a.ev Γ).bind fun d => match d with | .tup ds => .ok ds | _ => .bad, fun W fx G0 H0 G H σ Γ s =>
  (a.ok W fx G0 H0 G H σ Γ s).bind fun v d G1 H1 w1 r1 _ => by
    cases r1 with
    | @tup p vs ds h r => exact fun R q => ⟨p, rfl, ⟨vs, ex_t w1.gh h⟩, q _ G1 H1 (Grow.refl w1.gh) fun G' H' e1 e2 => ⟨fun i d hd => by
        obtain ⟨x, hx, rx⟩ := r.get' hd
        have hh := ex_t (e1.trans e2) h
        refine ⟨⟨vs, x, hh, hx⟩, fun y H'' hy => ?_⟩
        obtain ⟨rfl, hy⟩ := hy
        have := hy vs hh
        rw [hx] at this
        cases this
        exact ⟨G', Grow.refl e2, rx.mono e1⟩, fun i hi => ⟨vs, ex_t (e1.trans e2) h, by rw [r.length]; exact hi⟩⟩⟩
    | _ => trivial⟩
/-- the signs of a text -/
def signs (x : Str) : List Dat := x.cps.toList.map fun c => .str ⟨#[c]⟩
def CI.str (a : CE K T) : CI K T := ⟨fun W => iStr (a.te W), fun Γ => (a.ev Γ).bind fun d => match d with | .str x => .ok (signs x) | _ => .bad, fun W fx G0 H0 G H σ Γ s =>
  (a.ok W fx G0 H0 G H σ Γ s).bind fun v d G1 H1 w1 r1 _ => by
    cases r1 with
    | str x => exact fun R q => ⟨x, rfl, q _ G1 H1 (Grow.refl w1.gh) fun G' H' e1 e2 => ⟨fun i d hd => by
        have hi : i < x.cps.size := by
          have := (List.getElem?_eq_some_iff.mp hd).1
          simpa [signs] using this
        refine ⟨hi, fun y H'' hy => ?_⟩
        obtain ⟨rfl, c, hc, rfl⟩ := hy
        have : d = .str ⟨#[c]⟩ := by
          unfold signs at hd
          rw [List.getElem?_map, Array.getElem?_toList, hc] at hd
          exact (Option.some.inj hd).symm
        subst this
        exact ⟨G', Grow.refl e2, .str _⟩, fun i hi => by
          show x.cps.size ≤ i
          simpa [signs] using hi⟩⟩
    | _ => trivial⟩
/-- range(n); range(a, b) -/
def rangeD (lo : Int) (n : Nat) : List Dat := (List.range n).map fun (i : Nat) => .int (lo + (i : Int))
theorem rangeD_ok {G : Hp} (lo : Int) (n : Nat) : ItOk K T G (Itr lo n) (rangeD lo n) := fun G' H' e1 e2 => ⟨fun i d hd => by
    have hi : i < n := by
      have := (List.getElem?_eq_some_iff.mp hd).1
      simpa [rangeD] using this
    refine ⟨hi, fun y H'' hy => ?_⟩
    obtain ⟨rfl, rfl⟩ := hy
    have : d = .int (lo + (i : Int)) := by
      unfold rangeD at hd
      rw [List.getElem?_map, List.getElem?_range hi] at hd
      exact (Option.some.inj hd).symm
    subst this
    exact ⟨G', Grow.refl e2, .int _⟩, fun i hi => by
      show n ≤ i
      simpa [rangeD] using hi⟩
def CI.range1 (a : CA K T) : CI K T := ⟨fun W => iRng1 (a.te W), fun Γ => (a.ev Γ).bind fun d => match d with | [.int n] => if -(2 ^ 62) ≤ n ∧ n < 2 ^ 62 then .ok (rangeD 0 n.toNat) else .bad | _ => .bad, fun W fx G0 H0 G H σ Γ s =>
  (a.ok W fx G0 H0 G H σ Γ s).bind fun v d G1 H1 w1 r1 _ => by
    split
    · next n _ =>
      split
      · next hn =>
        cases r1 with
        | cons h r =>
          cases h
          cases r
          exact fun R q => ⟨n, rfl, hn.1, hn.2, q _ G1 H1 (Grow.refl w1.gh) (rangeD_ok 0 n.toNat)⟩
      · trivial
    · trivial⟩
def CI.range2 (a : CA K T) : CI K T := ⟨fun W => iRng2 (a.te W), fun Γ => (a.ev Γ).bind fun d => match d with | [.int n, .int m] => if (-(2 ^ 62) ≤ n ∧ n < 2 ^ 62 ∧ -(2 ^ 62) ≤ m ∧ m < 2 ^ 62) then .ok (rangeD n (m - n).toNat) else .bad | _ => .bad, fun W fx G0 H0 G H σ Γ s =>
  (a.ok W fx G0 H0 G H σ Γ s).bind fun v d G1 H1 w1 r1 _ => by
    split
    · next n m _ =>
      split
      · next hn =>
        cases r1 with
        | cons h r =>
          cases h
          cases r with
          | cons h r =>
            cases h
            cases r
            exact fun R q => ⟨n, m, rfl, hn, q _ G1 H1 (Grow.refl w1.gh) (rangeD_ok n _)⟩
      · trivial
    · trivial⟩
end
end Cz

set_option Elab.async false
set_option linter.all false
set_option maxRecDepth 100000
set_option maxHeartbeats 2000000
/-! Operators and built-ins on data. -/
namespace Cz
open PySem L2 Evl

section
variable {K : PySem.W.Frag} {T : Nat → Addr}

/-! ### ints -/
def int2 (g : Int → Int → Dat) : Dat → Dat → Rs Dat
  | .int i, .int j => .ok (g i j)
  | _, _ => .bad
def int2c (c : Int → Int → Bool) (g : Int → Int → Dat) : Dat → Dat → Rs Dat
  | .int i, .int j => if c i j = true then .ok (g i j) else .bad
  | _, _ => .bad
def Op2.ints (gv : Int → Int → V) (g : Int → Int → Dat) (h : ∀ G i j, Rep K T G (gv i j) (g i j)) : Op2 K T := ⟨rI0 gv, int2 g, fun W G H σ x y a b e ra rb => by
  cases ra with
  | int i =>
    cases rb with
    | int j => exact Hd.ret e (h G i j) fun Q q => ⟨i, j, rfl, rfl, q⟩
    | _ => trivial
  | _ => trivial⟩
def Op2.intsC (C : Int → Int → Prop) (c : Int → Int → Bool) (hc : ∀ i j, c i j = true → C i j) (gv : Int → Int → V) (g : Int → Int → Dat) (h : ∀ G i j, Rep K T G (gv i j) (g i j)) : Op2 K T := ⟨rI C gv, int2c c g, fun W G H σ x y a b e ra rb => by
  cases ra with
  | int i =>
    cases rb with
    | int j =>
      show Hd K T W G H σ (Rep K T) (if c i j = true then .ok (g i j) else .bad) _
      split
      · next hh => exact Hd.ret e (h G i j) fun Q q => ⟨i, j, rfl, rfl, hc i j hh, q⟩
      · trivial
    | _ => trivial
  | _ => trivial⟩
abbrev oAdd : Op2 K T := Op2.ints (fun i j => .int (i + j)) (fun i j => .int (i + j)) fun _ _ _ => .int _
abbrev oSub : Op2 K T := Op2.ints (fun i j => .int (i - j)) (fun i j => .int (i - j)) fun _ _ _ => .int _
abbrev oMul : Op2 K T := Op2.intsC CMul (fun i j => decide ((-(2 ^ 64) < i ∧ i < 2 ^ 64) ∨ (-(2 ^ 64) < j ∧ j < 2 ^ 64))) (fun _ _ h => by unfold CMul; exact of_decide_eq_true h) (fun i j => .int (i * j)) (fun i j => .int (i * j)) fun _ _ _ => .int _
abbrev oDiv : Op2 K T := Op2.intsC CDiv (fun i j => decide (0 < j ∧ j < 1073741824)) (fun _ _ h => by simpa [CDiv] using h) (fun i j => .int (i / j)) (fun i j => .int (i / j)) fun _ _ _ => .int _
abbrev oMod : Op2 K T := Op2.intsC (fun _ j => 0 < j) (fun _ j => decide (0 < j)) (fun _ _ h => by simpa using h) (fun i j => .int (i % j)) (fun i j => .int (i % j)) fun _ _ _ => .int _
abbrev oPow : Op2 K T := Op2.intsC CPow (fun i j => decide (0 ≤ j ∧ j ≤ 1000000 ∧ i.natAbs < 2 ^ 64)) (fun _ _ h => by simpa [CPow] using h) (fun i j => .int (i ^ j.toNat)) (fun i j => .int (i ^ j.toNat)) fun _ _ _ => .int _
abbrev oLt : Op2 K T := Op2.ints (fun i j => .bl (decide (i < j))) (fun i j => .bl (decide (i < j))) fun _ _ _ => .bl _
abbrev oLe : Op2 K T := Op2.ints (fun i j => .bl (decide (i ≤ j))) (fun i j => .bl (decide (i ≤ j))) fun _ _ _ => .bl _
abbrev oGt : Op2 K T := Op2.ints (fun i j => .bl (decide (j < i))) (fun i j => .bl (decide (j < i))) fun _ _ _ => .bl _
abbrev oGe : Op2 K T := Op2.ints (fun i j => .bl (decide (j ≤ i))) (fun i j => .bl (decide (j ≤ i))) fun _ _ _ => .bl _
def oNeg : Op1 K T := ⟨rU fun i => .int (-i), fun a => match a with | .int i => .ok (.int (-i)) | _ => .bad, fun W G H σ x a e ra => by
  cases ra with
  | int i => exact Hd.ret e (.int _) fun Q q => ⟨i, rfl, q⟩
  | _ => trivial⟩

/-! ### == of scalars -/
def eqS : Dat → Dat → Rs Bool
  | .int i, .int j => .ok (decide (i = j))
  | .str i, .str j => .ok (decide (i = j))
  | .bl i, .bl j => .ok (decide (i = j))
  | .non, .non => .ok true
  | .non, .int _ => .ok false | .int _, .non => .ok false
  | .non, .str _ => .ok false | .str _, .non => .ok false
  | .non, .bl _ => .ok false | .bl _, .non => .ok false
  | .int _, .str _ => .ok false | .str _, .int _ => .ok false
  | .bl _, .str _ => .ok false | .str _, .bl _ => .ok false
  | _, _ => .bad
theorem eqS_ok {G : Hp} {x y : V} {a b : Dat} {k : Bool} (ra : Rep K T G x a) (rb : Rep K T G y b) (h : eqS a b = .ok k) : scal x y = true ∧ decide (x = y) = k := by
  cases ra <;> cases rb <;> first
    | (cases h; done)
    | (simp [eqS] at h; subst h; simp [scal])
def oEq : Op2 K T := ⟨rEq, fun a b => (eqS a b).bind fun k => .ok (.bl k), fun W G H σ x y a b e ra rb => by
  cases h : eqS a b with
  | ok k =>
    obtain ⟨h1, h2⟩ := eqS_ok ra rb h
    exact Hd.ret e (.bl k) fun Q q => ⟨h1, by rw [h2]; exact q⟩
  | bad => trivial
  | exn c fs => exact absurd h (by cases a <;> cases b <;> simp [eqS])⟩
def oNe : Op2 K T := ⟨rNe, fun a b => (eqS a b).bind fun k => .ok (.bl (!k)), fun W G H σ x y a b e ra rb => by
  cases h : eqS a b with
  | ok k =>
    obtain ⟨h1, h2⟩ := eqS_ok ra rb h
    exact Hd.ret e (.bl (!k)) fun Q q => ⟨h1, by rw [h2]; exact q⟩
  | bad => trivial
  | exn c fs => exact absurd h (by cases a <;> cases b <;> simp [eqS])⟩

/-! ### == of data -/
mutual
def Dat.py : Dat → Option PyData
  | .non => some .none
  | .bl b => some (.bool b)
  | .int i => some (.int i)
  | .str x => some (.str x)
  | .tup ds => (pyL ds).map .tuple
  | .lst ds => (pyL ds).map .list
  | _ => none
def pyL : List Dat → Option (List PyData)
  | [] => some []
  | d :: r => match d.py, pyL r with
    | some p, some q => some (p :: q)
    | _, _ => none
end
mutual
theorem Rep.dp {G : Hp} : ∀ {v : V} {d : Dat} {p : PyData}, Rep K T G v d → d.py = some p → Dp K G v p
  | _, _, _, .non, h => by simp [Dat.py] at h; subst h; exact .non
  | _, _, _, .bl b, h => by simp [Dat.py] at h; subst h; exact .bl b
  | _, _, _, .int i, h => by simp [Dat.py] at h; subst h; exact .int i
  | _, _, _, .str x, h => by simp [Dat.py] at h; subst h; exact .str x
  | _, _, _, .tup s r, h => by
    simp only [Dat.py, Option.map_eq_some_iff] at h
    obtain ⟨q, h1, rfl⟩ := h
    exact .tup s (RepL.dp r h1)
  | _, _, _, .lst s r, h => by
    simp only [Dat.py, Option.map_eq_some_iff] at h
    obtain ⟨q, h1, rfl⟩ := h
    exact .lst s (RepL.dp r h1)
  | _, _, _, .ins _ _, h => by simp [Dat.py] at h
  | _, _, _, .dic _ _, h => by simp [Dat.py] at h
  | _, _, _, .dicN _ _, h => by simp [Dat.py] at h
  | _, _, _, .cls _, h => by simp [Dat.py] at h
  | _, _, _, .own _, h => by simp [Dat.py] at h
theorem RepL.dp {G : Hp} : ∀ {v : List V} {d : List Dat} {p : List PyData}, RepL K T G v d → pyL d = some p → DpAll K G v p
  | _, _, _, .nil, h => by simp [pyL] at h; subst h; exact .nil
  | _, _, _, .cons (d := d) (ds := ds) a r, h => by
    unfold pyL at h
    cases h1 : d.py with
    | none => simp [h1] at h
    | some p =>
      cases h2 : pyL ds with
      | none => simp [h1, h2] at h
      | some q =>
        simp [h1, h2] at h
        subst h
        exact .cons (Rep.dp a h1) (RepL.dp r h2)
end
mutual
theorem dp_ex {G H : Hp} (e : Ex G H) : ∀ {v : V} {p : PyData}, Dp K G v p → Dp K H v p
  | _, _, .non => .non
  | _, _, .bl b => .bl b
  | _, _, .int b => .int b
  | _, _, .str b => .str b
  | _, _, .lst h r => .lst (ex_l e h) (dpA_ex e r)
  | _, _, .tup h r => .tup (ex_t e h) (dpA_ex e r)
theorem dpA_ex {G H : Hp} (e : Ex G H) : ∀ {v : List V} {p : List PyData}, DpAll K G v p → DpAll K H v p
  | _, _, .nil => .nil
  | _, _, .cons h r => .cons (dp_ex e h) (dpA_ex e r)
end
def eqD (a b : Dat) : Rs Bool := match a.py, b.py with
  | some p, some q => if SeqAt.shaped p = true ∧ SeqAt.shaped q = true then .ok (PyData.eqv p q) else .bad
  | _, _ => .bad
theorem eqD_ok {G H : Hp} (e : Ex G H) {x y : V} {a b : Dat} {k : Bool} (ra : Rep K T G x a) (rb : Rep K T G y b) (h : eqD a b = .ok k) : ∃ p q, Dp K H x p ∧ Dp K H y q ∧ SeqAt.shaped p = true ∧ SeqAt.shaped q = true ∧ PyData.eqv p q = k := by
  unfold eqD at h
  cases h1 : a.py with
  | none => simp [h1] at h
  | some p =>
    cases h2 : b.py with
    | none => simp [h1, h2] at h
    | some q =>
      simp only [h1, h2] at h
      split at h
      · next hs => cases h; exact ⟨p, q, dp_ex e (ra.dp h1), dp_ex e (rb.dp h2), hs.1, hs.2, rfl⟩
      · cases h
theorem eqD_exn {a b : Dat} {c : Nat} {fs : List (Str × Dat)} : eqD a b ≠ .exn c fs := by
  unfold eqD
  split
  · split <;> simp
  · simp
def oEqD : Op2 K T := ⟨rEqD K, fun a b => (eqD a b).bind fun k => .ok (.bl k), fun W G H σ x y a b e ra rb => by
  cases h : eqD a b with
  | ok k =>
    obtain ⟨p, q, h1, h2, h3, h4, h5⟩ := eqD_ok e ra rb h
    exact Hd.ret e (.bl k) fun Q z => ⟨p, q, h1, h2, h3, h4, by rw [h5]; exact z⟩
  | bad => trivial
  | exn c fs => exact absurd h eqD_exn⟩
def oNeD : Op2 K T := ⟨rNeD K, fun a b => (eqD a b).bind fun k => .ok (.bl (!k)), fun W G H σ x y a b e ra rb => by
  cases h : eqD a b with
  | ok k =>
    obtain ⟨p, q, h1, h2, h3, h4, h5⟩ := eqD_ok e ra rb h
    exact Hd.ret e (.bl (!k)) fun Q z => ⟨p, q, h1, h2, h3, h4, by rw [h5]; exact z⟩
  | bad => trivial
  | exn c fs => exact absurd h eqD_exn⟩

/-! ### is None; is True -/
def isN (a : Dat) : Bool := match a with | .non => true | _ => false
theorem isN_ok {G : Hp} {x : V} {a : Dat} (ra : Rep K T G x a) : decide (x = .non) = isN a := by
  cases ra <;> simp [isN]
def oIsN : Op2 K T := ⟨fun x y H Q => y = .non ∧ Q (.bl (decide (x = .non))) H, fun a b => match b with | .non => .ok (.bl (isN a)) | _ => .bad, fun W G H σ x y a b e ra rb => by
  cases rb with
  | non => exact Hd.ret e (.bl (isN a)) fun Q z => ⟨rfl, by rw [isN_ok ra]; exact z⟩
  | _ => trivial⟩
def oNotN : Op2 K T := ⟨fun x y H Q => y = .non ∧ Q (.bl (!decide (x = .non))) H, fun a b => match b with | .non => .ok (.bl (!isN a)) | _ => .bad, fun W G H σ x y a b e ra rb => by
  cases rb with
  | non => exact Hd.ret e (.bl (!isN a)) fun Q z => ⟨rfl, by rw [isN_ok ra]; exact z⟩
  | _ => trivial⟩
def oIsB : Op2 K T := ⟨fun x y H Q => ∃ a b, x = .bl a ∧ y = .bl b ∧ Q (.bl (decide (a = b))) H, fun a b => match a, b with | .bl p, .bl q => .ok (.bl (decide (p = q))) | _, _ => .bad, fun W G H σ x y a b e ra rb => by
  cases ra with
  | bl p =>
    cases rb with
    | bl q => exact Hd.ret e (.bl _) fun Q z => ⟨p, q, rfl, rfl, z⟩
    | _ => trivial
  | _ => trivial⟩
def oNotB : Op2 K T := ⟨fun x y H Q => ∃ a b, x = .bl a ∧ y = .bl b ∧ Q (.bl (!decide (a = b))) H, fun a b => match a, b with | .bl p, .bl q => .ok (.bl (!decide (p = q))) | _, _ => .bad, fun W G H σ x y a b e ra rb => by
  cases ra with
  | bl p =>
    cases rb with
    | bl q => exact Hd.ret e (.bl _) fun Q z => ⟨p, q, rfl, rfl, z⟩
    | _ => trivial
  | _ => trivial⟩

/-! ### texts -/
def addS : Dat → Dat → Rs Dat
  | .str i, .str j => if i.length + j.length ≤ lim then .ok (.str (i ++ j)) else .bad
  | _, _ => .bad
def oAddS : Op2 K T := ⟨fun x y H Q => ∃ i j, x = .str i ∧ y = .str j ∧ i.length + j.length ≤ sizeLine ∧ Q (.str (i ++ j)) H, addS, fun W G H σ x y a b e ra rb => by
  cases ra with
  | str i =>
    cases rb with
    | str j =>
      show Hd K T W G H σ (Rep K T) (if i.length + j.length ≤ lim then .ok (.str (i ++ j)) else .bad) _
      split
      · next h => exact Hd.ret e (.str _) fun Q z => ⟨i, j, rfl, rfl, sz_of h, z⟩
      · trivial
    | _ => trivial
  | _ => trivial⟩
/-- one sign in a text -/
def inS : Dat → Dat → Rs Bool
  | .str i, .str j => match i.cps.toList with
    | [c] => .ok (decide (c ∈ j.cps.toList))
    | _ => .bad
  | _, _ => .bad
theorem inS_ok {G : Hp} {x y : V} {a b : Dat} {k : Bool} (ra : Rep K T G x a) (rb : Rep K T G y b) (h : inS a b = .ok k) : ∃ (c : Nat) (z : Str), x = .str ⟨#[c]⟩ ∧ y = .str z ∧ decide (c ∈ z.cps.toList) = k := by
  cases ra with
  | str i =>
    cases rb with
    | str j =>
      obtain ⟨⟨l⟩⟩ := i
      match l, h with
      | [c], h => exact ⟨c, j, rfl, rfl, Rs.ok.inj h⟩
      | [], h => exact absurd h (by intro h; cases h)
      | _ :: _ :: _, h => exact absurd h (by intro h; cases h)
    | _ => cases h
  | _ => cases h
theorem inS_exn {a b : Dat} {c : Nat} {fs : List (Str × Dat)} : inS a b ≠ .exn c fs := by
  unfold inS
  split
  · split <;> simp
  · simp
def oInS : Op2 K T := ⟨fun x y H Q => ∃ (c : Nat) (z : Str), x = .str ⟨#[c]⟩ ∧ y = .str z ∧ Q (.bl (decide (c ∈ z.cps.toList))) H, fun a b => (inS a b).bind fun k => .ok (.bl k), fun W G H σ x y a b e ra rb => by
  cases h : inS a b with
  | ok k =>
    obtain ⟨c, z, h1, h2, h3⟩ := inS_ok ra rb h
    exact Hd.ret e (.bl k) fun Q q => ⟨c, z, h1, h2, by rw [h3]; exact q⟩
  | bad => trivial
  | exn c fs => exact absurd h inS_exn⟩
def oNotInS : Op2 K T := ⟨fun x y H Q => ∃ (c : Nat) (z : Str), x = .str ⟨#[c]⟩ ∧ y = .str z ∧ Q (.bl (!decide (c ∈ z.cps.toList))) H, fun a b => (inS a b).bind fun k => .ok (.bl (!k)), fun W G H σ x y a b e ra rb => by
  cases h : inS a b with
  | ok k =>
    obtain ⟨c, z, h1, h2, h3⟩ := inS_ok ra rb h
    exact Hd.ret e (.bl (!k)) fun Q q => ⟨c, z, h1, h2, by rw [h3]; exact q⟩
  | bad => trivial
  | exn c fs => exact absurd h inS_exn⟩
/-- in a tuple or list of flat items -/
def flat? : Dat → Option V
  | .non => some .non | .bl b => some (.bl b) | .int i => some (.int i) | .str x => some (.str x)
  | _ => none
theorem flat_ok {G : Hp} {x : V} {a : Dat} {u : V} (ra : Rep K T G x a) (h : flat? a = some u) : x = u ∧ flatV x = true := by
  cases ra <;> simp [flat?] at h <;> subst h <;> exact ⟨rfl, rfl⟩
def flats? : List Dat → Option (List V)
  | [] => some []
  | d :: r => match flat? d, flats? r with
    | some v, some vs => some (v :: vs)
    | _, _ => none
theorem flats_ok {G : Hp} : ∀ {xs : List V} {as : List Dat} {us : List V}, RepL K T G xs as → flats? as = some us → xs = us ∧ xs.all flatV = true
  | _, _, _, .nil, h => by simp [flats?] at h; subst h; exact ⟨rfl, rfl⟩
  | _, _, _, .cons (d := d) (ds := ds) a r, h => by
    unfold flats? at h
    cases h1 : flat? d with
    | none => simp [h1] at h
    | some v =>
      cases h2 : flats? ds with
      | none => simp [h1, h2] at h
      | some vs =>
        simp [h1, h2] at h
        subst h
        obtain ⟨e1, e2⟩ := flat_ok a h1
        obtain ⟨e3, e4⟩ := flats_ok r h2
        subst e1 e3
        exact ⟨rfl, by rw [List.all_cons, e2, e4]; rfl⟩
def inQ : Dat → Dat → Rs Bool
  | a, .tup ds => match flat? a, flats? ds with | some u, some us => .ok (inV u us) | _, _ => .bad
  | a, .lst ds => match flat? a, flats? ds with | some u, some us => .ok (inV u us) | _, _ => .bad
  | _, _ => .bad
def oIn (neg : Bool) : Op2 K T := ⟨rIn K neg, fun a b => (inQ a b).bind fun k => .ok (.bl (if neg then !k else k)), fun W G H σ x y a b e ra rb => by
  cases rb with
  | @tup p vs ds h r =>
    cases h1 : flat? a with
    | none => simp [inQ, h1]; trivial
    | some u =>
      cases h2 : flats? ds with
      | none => simp [inQ, h1, h2]; trivial
      | some us =>
        obtain ⟨e1, e2⟩ := flat_ok ra h1
        obtain ⟨e3, e4⟩ := flats_ok r h2
        subst e1 e3
        simp only [inQ, h1, h2, Rs.bind_ok]
        exact Hd.ret e (.bl _) fun Q q => ⟨p, vs, rfl, .inr (ex_t e h), e2, e4, q⟩
  | @lst p vs ds h r =>
    cases h1 : flat? a with
    | none => simp [inQ, h1]; trivial
    | some u =>
      cases h2 : flats? ds with
      | none => simp [inQ, h1, h2]; trivial
      | some us =>
        obtain ⟨e1, e2⟩ := flat_ok ra h1
        obtain ⟨e3, e4⟩ := flats_ok r h2
        subst e1 e3
        simp only [inQ, h1, h2, Rs.bind_ok]
        exact Hd.ret e (.bl _) fun Q q => ⟨p, vs, rfl, .inl (ex_l e h), e2, e4, q⟩
  | _ => trivial⟩

/-! ### items -/
theorem ixN_lt {n : Nat} {i : Int} {j : Nat} (h : ixN n i = some j) : j < n := by
  unfold ixN at h
  split at h
  · split at h
    · simp at h; omega
    · cases h
  · split at h
    · simp at h; omega
    · cases h
theorem atI_rep {G : Hp} {vs : List V} {ds : List Dat} {i : Int} {d : Dat} (r : RepL K T G vs ds) (h : atI ds i = some d) : ∃ v, atI vs i = some v ∧ Rep K T G v d := by
  unfold atI at h ⊢
  rw [r.length]
  cases e : ixN ds.length i with
  | none => simp [e] at h
  | some j =>
    simp [e] at h ⊢
    exact r.get' h
def ixL : Dat → Dat → Rs Dat
  | .lst ds, .int i => match atI ds i with | some d => .ok d | none => .bad
  | _, _ => .bad
def oIxL : Op2 K T := ⟨rIxL K, ixL, fun W G H σ x y a b e ra rb => by
  cases ra with
  | @lst p vs ds h r =>
    cases rb with
    | int i =>
      cases ha : atI ds i with
      | none => simp [ixL, ha]; trivial
      | some d =>
        obtain ⟨v, h1, h2⟩ := atI_rep r ha
        simp only [ixL, ha]
        exact Hd.ret e h2 fun Q q => ⟨p, vs, i, v, rfl, rfl, ex_l e h, h1, q⟩
    | _ => trivial
  | _ => trivial⟩
def ixT : Dat → Dat → Rs Dat
  | .tup ds, .int i => match atI ds i with | some d => .ok d | none => .bad
  | _, _ => .bad
def oIxT : Op2 K T := ⟨rIxT K, ixT, fun W G H σ x y a b e ra rb => by
  cases ra with
  | @tup p vs ds h r =>
    cases rb with
    | int i =>
      cases ha : atI ds i with
      | none => simp [ixT, ha]; trivial
      | some d =>
        obtain ⟨v, h1, h2⟩ := atI_rep r ha
        simp only [ixT, ha]
        exact Hd.ret e h2 fun Q q => ⟨p, vs, i, v, rfl, rfl, ex_t e h, h1, q⟩
    | _ => trivial
  | _ => trivial⟩
def ixS : Dat → Dat → Rs Dat
  | .str z, .int i => match atI z.cps.toList i with | some c => if z.length ≤ lim then .ok (.str ⟨#[c]⟩) else .bad | none => .bad
  | _, _ => .bad
def oIxS : Op2 K T := ⟨rIxS, ixS, fun W G H σ x y a b e ra rb => by
  cases ra with
  | str z =>
    cases rb with
    | int i =>
      cases ha : atI z.cps.toList i with
      | none => simp [ixS, ha]; trivial
      | some c =>
        simp only [ixS, ha]
        split
        · next hl => exact Hd.ret e (.str _) fun Q q => ⟨z, i, c, rfl, rfl, sz_of hl, ha, q⟩
        · trivial
    | _ => trivial
  | _ => trivial⟩
/-! ### slices -/
def CE.slS (a : CE K T) (l u : CP K T) : CE K T := ⟨fun W => tSl rSlS (a.te W) (l.te W) (u.te W), fun Γ => (a.ev Γ).bind fun x => (l.ev Γ).bind fun lo => (u.ev Γ).bind fun hi => match x with | .str z => if z.length ≤ lim then .ok (.str (cutS z lo hi)) else .bad | _ => .bad, fun W fx G0 H0 G H σ Γ s =>
  (a.ok W fx G0 H0 G H σ Γ s).bind fun v d G1 H1 w1 r1 _ => (l.ok W fx G0 H0 G1 H1 σ Γ (s.grow w1)).bind fun o o' G2 H2 w2 r2 _ => (u.ok W fx G0 H0 G2 H2 σ Γ ((s.grow w1).grow w2)).bind fun p p' G3 H3 w3 r3 _ => by
    subst r2 r3
    cases r1 with
    | str z =>
      show Hd K T W G3 H3 σ (Rep K T) (if z.length ≤ lim then .ok (.str (cutS z o p)) else .bad) _
      split
      · next hl => exact Hd.ret w3.gh (.str _) fun Q q => ⟨z, rfl, sz_of hl, q⟩
      · trivial
    | _ => trivial⟩
def cutD (xs : List Dat) (lo hi : Option Int) : List Dat := (xs.drop (HT.sIx xs.length 0 lo)).take (HT.sIx xs.length xs.length hi - HT.sIx xs.length 0 lo)
theorem RepL.cut {G : Hp} {vs : List V} {ds : List Dat} (r : RepL K T G vs ds) (lo hi : Option Int) : RepL K T G (cutV vs lo hi) (cutD ds lo hi) := by
  unfold cutV cutD
  rw [r.length]
  exact (r.drop _).take _
def CO.slL (a : CE K T) (l u : CP K T) : CO K T := ⟨fun W => tSl (rSlL K) (a.te W) (l.te W) (u.te W), fun Γ => (a.ev Γ).bind fun x => (l.ev Γ).bind fun lo => (u.ev Γ).bind fun hi => match x with | .lst z => .ok (cutD z lo hi) | _ => .bad, fun W fx G0 H0 G H σ Γ s => by
  have h1 := a.ok W fx G0 H0 G H σ Γ s
  cases e1 : a.ev Γ with
  | bad => trivial
  | exn c fs => rw [e1] at h1; exact fun w Q => h1 w _
  | ok x =>
    rw [e1] at h1
    have h2 := fun G1 H1 (w1 : Grow G H G1 H1) => l.ok W fx G0 H0 G1 H1 σ Γ (s.grow w1)
    cases e2 : l.ev Γ with
    | bad => trivial
    | exn c fs => simp only [e2] at h2; exact fun w Q => h1 _ fun v G1 H1 w1 r1 => h2 G1 H1 w1 (fun cls d G' H' w' => w cls d G' H' (w1.trans w')) _
    | ok lo =>
      simp only [e2] at h2
      have h3 := fun G1 H1 (w1 : Grow G H G1 H1) => u.ok W fx G0 H0 G1 H1 σ Γ (s.grow w1)
      cases e3 : u.ev Γ with
      | bad => trivial
      | exn c fs => simp only [e3] at h3; exact fun w Q => h1 _ fun v G1 H1 w1 r1 => h2 G1 H1 w1 _ fun o G2 H2 w2 r2 => h3 G2 H2 (w1.trans w2) (fun cls d G' H' w' => w cls d G' H' ((w1.trans w2).trans w')) _
      | ok hi =>
        simp only [e3] at h3
        cases x with
        | lst z =>
          exact fun Q q => h1 _ fun v G1 H1 w1 r1 => h2 G1 H1 w1 _ fun o G2 H2 w2 r2 => h3 G2 H2 (w1.trans w2) _ fun p G3 H3 w3 r3 => by
            subst r2 r3
            cases r1 with
            | @lst a0 vs ds h r => exact ⟨a0, vs, rfl, ex_l ((w2.g.trans w3.g).trans w3.gh) h, fun pp np => q pp _ G3 H3 ((w1.trans w2).trans w3) np ((r.mono (w2.g.trans w3.g)).cut o p)⟩
        | _ => trivial⟩

/-! ### built-ins -/
def oInt : OpN K T := ⟨fun xs H Q => (∃ i, xs = [.int i] ∧ Q (.int i) H) ∨ ∃ k, xs = [.bl k] ∧ Q (.int (if k then 1 else 0)) H, fun as => match as with | [.int i] => .ok (.int i) | _ => .bad, fun W G H σ xs as e r => by
  split
  · next i =>
    cases r with
    | cons h r =>
      cases h
      cases r
      exact Hd.ret e (.int i) fun Q q => .inl ⟨i, rfl, q⟩
  · trivial⟩
def oLenQ : OpN K T := ⟨fun xs H Q => ∃ p ys, xs = [.ref p] ∧ (SqL K H p ys ∨ SqT K H p ys) ∧ Q (.int ys.length) H, fun as => match as with | [.lst ds] => .ok (.int ds.length) | [.tup ds] => .ok (.int ds.length) | _ => .bad, fun W G H σ xs as e r => by
  split
  · next ds =>
    cases r with
    | cons h r =>
      cases r
      cases h with
      | @lst p vs ds h r => exact Hd.ret e (.int _) fun Q q => ⟨p, vs, rfl, .inl (ex_l e h), by rw [r.length]; exact q⟩
  · next ds =>
    cases r with
    | cons h r =>
      cases r
      cases h with
      | @tup p vs ds h r => exact Hd.ret e (.int _) fun Q q => ⟨p, vs, rfl, .inr (ex_t e h), by rw [r.length]; exact q⟩
  · trivial⟩
def oLenS : OpN K T := ⟨fun xs H Q => ∃ z, xs = [.str z] ∧ z.length ≤ sizeLine ∧ Q (.int z.length) H, fun as => match as with | [.str z] => if z.length ≤ lim then .ok (.int z.length) else .bad | _ => .bad, fun W G H σ xs as e r => by
  split
  · next z =>
    cases r with
    | cons h r =>
      cases r
      cases h
      split
      · next hl => exact Hd.ret e (.int _) fun Q q => ⟨z, rfl, sz_of hl, q⟩
      · trivial
  · trivial⟩
/-- tuple(a list) -/
def oTupL : OpN K T := ⟨fun xs H Q => ∃ p ys, xs = [.ref p] ∧ ((SqL K H p ys ∧ ∀ l, H l = none → Q (.ref l) (upd H l (.tup ys))) ∨ (SqT K H p ys ∧ Q (.ref p) H)), fun as => match as with | [.lst ds] => .ok (.tup ds) | [.tup ds] => .ok (.tup ds) | _ => .bad, fun W G H σ xs as e r => by
  split
  · next ds =>
    cases r with
    | cons h r =>
      cases r
      cases h with
      | @lst p vs ds h r => exact fun Q q => ⟨p, vs, rfl, .inl ⟨ex_l e h, fun l n => q _ (upd G l (.tup vs)) _ (Grow.new e n) (.tup (st_of upd_same) (r.mono (Ex.new (fresh_back e n))))⟩⟩
  · next ds =>
    cases r with
    | cons h r =>
      cases r
      cases h with
      | @tup p vs ds h r => exact Hd.ret e (.tup h r) fun Q q => ⟨p, vs, rfl, .inr ⟨ex_t e h, q⟩⟩
  · trivial⟩
/-- list(a list, a tuple) -/
def CO.listOf (a : CA K T) : CO K T := ⟨fun W => tCB (fun xs H Q => ∃ p ys, xs = [.ref p] ∧ (SqL K H p ys ∨ SqT K H p ys) ∧ ∀ l, H l = none → Q (.ref l) (upd H l (.lst ys))) (a.te W), fun Γ => (a.ev Γ).bind fun as => match as with | [.lst ds] => .ok ds | [.tup ds] => .ok ds | _ => .bad, fun W fx G0 H0 G H σ Γ s => by
  have h1 := a.ok W fx G0 H0 G H σ Γ s
  cases e1 : a.ev Γ with
  | bad => trivial
  | exn c fs => rw [e1] at h1; exact fun w Q => h1 w _
  | ok as =>
    rw [e1] at h1
    show match (match as with | [.lst ds] => Rs.ok ds | [.tup ds] => .ok ds | _ => .bad) with | .ok d => _ | .exn c fs => _ | .bad => _
    split
    · next d hd =>
      split at hd
      · next ds =>
        cases hd
        refine fun Q q => h1 _ fun v G1 H1 w1 r1 => ?_
        cases r1 with
        | cons h r =>
          cases r
          cases h with
          | @lst p vs ds h r => exact ⟨p, vs, rfl, .inl (ex_l w1.gh h), fun l n => q l vs G1 H1 w1 n r⟩
      · next ds =>
        cases hd
        refine fun Q q => h1 _ fun v G1 H1 w1 r1 => ?_
        cases r1 with
        | cons h r =>
          cases r
          cases h with
          | @tup p vs ds h r => exact ⟨p, vs, rfl, .inr (ex_t w1.gh h), fun l n => q l vs G1 H1 w1 n r⟩
      · cases hd
    · next c fs hd =>
      split at hd <;> cases hd
    · trivial⟩
/-- sep.join(a list of texts) -/
def strs? : List Dat → Option (List Str)
  | [] => some []
  | .str x :: r => (strs? r).map (x :: ·)
  | _ => none
theorem strs_ok {G : Hp} : ∀ {vs : List V} {ds : List Dat} {ys : List Str}, RepL K T G vs ds → strs? ds = some ys → vs = ys.map V.str
  | _, _, _, .nil, h => by simp [strs?] at h; subst h; rfl
  | _, _, _, .cons a r, h => by
    cases a with
    | str x =>
      simp only [strs?, Option.map_eq_some_iff] at h
      obtain ⟨q, h1, rfl⟩ := h
      rw [strs_ok r h1]
      rfl
    | _ => simp [strs?] at h
def rJoin (K : PySem.W.Frag) : V → List V → Hp → VK → Prop := fun x xs H Q => ∃ a p, ∃ ys : List Str, x = .str a ∧ xs = [.ref p] ∧ (SqL K H p (ys.map V.str) ∨ SqT K H p (ys.map V.str)) ∧
    (ys.map (·.length)).sum + ys.length * a.length ≤ 16777216 ∧ Q (.str (Txt.join a ys)) H
def CE.join (a b : CE K T) : CE K T := ⟨fun W => tBM K "str" (rJoin K) (a.te W) (tCons (b.te W) tNil), fun Γ => (a.ev Γ).bind fun x => match x with
    | .str z => (b.ev Γ).bind fun y => match y with
      | .lst ds => match strs? ds with
        | some ys => if (ys.map (·.length)).sum + ys.length * z.length ≤ 16777216 then .ok (.str (Txt.join z ys)) else .bad
        | none => .bad
      | _ => .bad
    | _ => .bad, fun W fx G0 H0 G H σ Γ s =>
  (a.ok W fx G0 H0 G H σ Γ s).bind fun v d G1 H1 w1 r1 _ => by
    cases r1 with
    | str z =>
      refine ((b.ok W fx G0 H0 G1 H1 σ Γ (s.grow w1)).bind (k := fun y H2 Q => rJoin K (.str z) [y] H2 Q) fun u e G2 H2 w2 r2 _ => ?_).imp fun Q q => ⟨rfl, q⟩
      cases r2 with
      | @lst p vs ds h r =>
        dsimp only
        split
        · next ys hy =>
          split
          · next hl =>
            have ev := strs_ok r hy
            subst ev
            exact Hd.ret w2.gh (.str _) fun Q q => ⟨z, p, ys, rfl, rfl, .inl (ex_l w2.gh h), hl, q⟩
          · trivial
        · trivial
      | _ => trivial
    | _ => trivial⟩
/-- z.index(a text) -/
def rSIndex : V → List V → Hp → VK → Prop := fun x xs H Q => ∃ a b i rest, x = .str a ∧ xs = [.str b] ∧ Builtin.Str.occurrences a b 0 a.length 1 = i :: rest ∧ Q (.int (i : Nat)) H
def CE.sindex (a b : CE K T) : CE K T := ⟨fun W => tBM K "str" rSIndex (a.te W) (tCons (b.te W) tNil), fun Γ => (a.ev Γ).bind fun x => match x with
    | .str z => (b.ev Γ).bind fun y => match y with
      | .str u => match Builtin.Str.occurrences z u 0 z.length 1 with
        | i :: _ => .ok (.int (i : Nat))
        | [] => .bad
      | _ => .bad
    | _ => .bad, fun W fx G0 H0 G H σ Γ s =>
  (a.ok W fx G0 H0 G H σ Γ s).bind fun v d G1 H1 w1 r1 _ => by
    cases r1 with
    | str z =>
      refine ((b.ok W fx G0 H0 G1 H1 σ Γ (s.grow w1)).bind (k := fun y H2 Q => rSIndex (.str z) [y] H2 Q) fun u e G2 H2 w2 r2 _ => ?_).imp fun Q q => ⟨rfl, q⟩
      cases r2 with
      | str u =>
        dsimp only
        split
        · next i rest hi => exact Hd.ret w2.gh (.int _) fun Q q => ⟨z, u, i, rest, rfl, rfl, hi, q⟩
        · trivial
      | _ => trivial
    | _ => trivial⟩
end
end Cz

set_option Elab.async false
set_option linter.all false
set_option maxRecDepth 100000
set_option maxHeartbeats 2000000
/-! Own classes. -/
namespace Cz
open PySem L2 Evl PySem.Spec PyProof.Rows

/-! ### rules whose exceptions know the slots -/
section
variable {X : Cx} {CX : CXT} {k : Nat} {f C : Addr} {fd : FuncData} {ps ks : List Str} {sp : Sp} {E : L2.St → XK} {x m : Str} {p pos apos : Pos} {e o : Expr} {es : List Expr} {kws : List Keyword} {ta : TE} {t tk : TA} {pl : Sem Bool}
def tMethS (C : Addr) (m : Str) (sp : Sp) (E : L2.St → XK) (ta : TE) (t : TA) : TE := fun σ H Q => ta σ H fun x H1 => ∃ a dx fs, x = .ref a ∧ H1 a = some (.ins C dx fs) ∧ fs.lookup m = none ∧ t σ H1 fun vs H2 => sp (x :: vs) H2 Q (E σ)
theorem pe_methS (he : PE X o ta) (c : Cls X.K C) (hm : Meth X.K C m f) (F : FnOk X.prog X.w X.K X.mg X.base CX k f fd ps sp) (hr : Room k X.A) (hb : Binds X.K fd ps []) (hx : ∀ σ, PassesAt CX X σ (E σ)) (ha : PA X (e :: es) t)
    (hst : starEach (e :: es) X.env = (false, eval e X.env) :: starEach es X.env := by rfl) (hpl : (backTo pos (starEach es X.env)).any (·.1) = false := by rfl)
    (ht : eval (.Call (.Attribute o m apos) (e :: es) [] pos) X.env = (do
      let ov ← eval o X.env
      standAt apos.atName
      let (f, first) ← holding [ov] (getMethod ov m pl)
      callWith pos f first (backTo pos (starEach (e :: es) X.env)) (backToKw pos (keywordEach [] X.env))) := by rfl) :
    PE X (.Call (.Attribute o m apos) (e :: es) [] pos) (tMethS C m sp E ta t) := by
  refine ⟨fun pins s σ H Q I h => ?_⟩
  refine PySem.W.methodCall_KW (pl := pl) (thn (he.run pins s σ H _ I h) fun u s1 ⟨x, H1, I1, rx, a, dx, fs, ex, ea, l, q⟩ => ?_) ht
  subst ex
  obtain rfl : u = Value.ref a := rx
  refine getmeth_ok I1 ea c hm l ?_
  refine PySem.W.callWith_K (first := [.ref a]) (h₀ := X.base) I.ok.mod.kin hm.kp (thn (ha.run pos pins s1 σ H1 _ I1 q) fun us s2 ⟨vs, H2, I2, r, q2⟩ => ⟨I2.kIn, ?_⟩) hst hpl
  exact run_fnS (us := .ref a :: us) (vs := .ref a :: vs) F hr hb (hx σ) I2 (.cons rfl r) q2
theorem pe_methS0 (he : PE X o ta) (c : Cls X.K C) (hm : Meth X.K C m f) (F : FnOk X.prog X.w X.K X.mg X.base CX k f fd ps sp) (hr : Room k X.A) (hb : Binds X.K fd ps []) (hx : ∀ σ, PassesAt CX X σ (E σ))
    (ht : eval (.Call (.Attribute o m apos) [] [] pos) X.env = (do
      let ov ← eval o X.env
      standAt apos.atName
      let (f, first) ← holding [ov] (getMethod ov m pl)
      callWith pos f first (backTo pos (starEach [] X.env)) (backToKw pos (keywordEach [] X.env))) := by rfl) :
    PE X (.Call (.Attribute o m apos) [] [] pos) (tMethS C m sp E ta tNil) := by
  refine ⟨fun pins s σ H Q I h => ?_⟩
  refine PySem.W.methodCall_KW (pl := pl) (thn (he.run pins s σ H _ I h) fun u s1 ⟨x, H1, I1, rx, a, dx, fs, ex, ea, l, q⟩ => ?_) ht
  subst ex
  obtain rfl : u = Value.ref a := rx
  refine getmeth_ok I1 ea c hm l ?_
  exact PySem.W.callWith_K0 (first := [.ref a]) I1.kIn hm.kp (run_fnS (us := [.ref a]) (vs := [.ref a]) F hr hb (hx σ) I1 (.cons rfl .nil) q)
theorem pe_callS0 (F : FnOk X.prog X.w X.K X.mg X.base CX k f fd ps sp) (hr : Room k X.A) (hg : Gl X x) (hm : X.mg x = some (.ref f)) (hk : PySem.W.keepIn X.K (.ref f) = true) (hb : Binds X.K fd ps []) (hx : ∀ σ, PassesAt CX X σ (E σ))
    (hdb : (x == ("__debug__" : Str)) = false := by decide) : PE X (.Call (.Name x p) [] [] pos) (tCallS sp E tNil) := by
  refine ⟨fun pins s σ H Q I h => ?_⟩
  refine wpAny_Call_Name_kw (ld_glob I hg hm ?_ hdb)
  exact PySem.W.callWith_K0 I.kIn hk (run_fnS (us := []) F hr hb (hx σ) I .nil h)
def tMakeS (C : Addr) (sp : Sp) (E : L2.St → XK) (t : TA) : TE := fun σ H Q => t σ H fun vs H1 => ∀ x dx, H1 x = none → H1 dx = none → dx ≠ x →
  sp (.ref x :: vs) (upd (upd H1 dx (.own x)) x (.ins C dx [])) (fun v H2 => v = .non ∧ Q (.ref x) H2) (E σ)
theorem run_makeS {pins : List (Addr × Obj)} {σ : L2.St} {H : Hp} {s : Shared} {Q : VK} {us : List Value} {vs : List V} (M : Mk X.K C f) (F : FnOk X.prog X.w X.K X.mg X.base CX k f fd ps sp) (hr : Room (k + 1) X.A) (hb : Binds X.K fd ps [])
    (hx : PassesAt CX X σ (E σ)) (I : Inv X pins σ H s) (r : Vals vs us)
    (h : ∀ x dx, H x = none → H dx = none → dx ≠ x → sp (.ref x :: vs) (upd (upd H dx (.own x)) x (.ins C dx [])) (fun v H2 => v = .non ∧ Q (.ref x) H2) (E σ)) :
    wpAny (model X.prog X.w) X.A (call (.ref C) us) (EP X pins σ Q) X.xe s := by
  have hq := h (s.heap.objs.size + 1) s.heap.objs.size (I.hok.fresh (Nat.le_succ _)) (I.hok.fresh (Nat.le_refl _)) (Nat.ne_of_lt (Nat.lt_succ_self _))
  have I2 := Inv.made (C := C) I
  have r2 : Vals (V.ref (s.heap.objs.size + 1) :: vs) (Value.ref (s.heap.objs.size + 1) :: us) := .cons rfl r
  have hl : (Value.ref (s.heap.objs.size + 1) :: us).length = ps.length := by
    have e := r2.length
    rw [F.len _ _ _ _ hq] at e
    exact e.symm
  have b := hb _ (Value.ref (s.heap.objs.size + 1) :: us) I2.kIn (by rw [List.append_nil]; exact hl)
  rw [List.append_nil] at b
  refine wpAny_call (make_map (f := f) I.kIn M.makes M.init (beq_iff_eq.mp M.fn) (codeAny_mono (F.run _ X.stack _ _ ⟨Value.ref (s.heap.objs.size + 1) :: us, []⟩ (Value.ref (s.heap.objs.size + 1) :: us) _ _ (E σ) (hr.make C us [])
    (I2.env0.make C us []) b r2 hq) fun r s' hq' => ?_))
  cases r with
  | error e => exact hx pins _ _ e s' I2 hq'
  | ok fl =>
    cases fl with
    | ret u =>
      obtain ⟨v, H', I3, rv, ev, q3⟩ := I2.after hq'
      subst ev
      exact ⟨rv, ⟨V.ref (s.heap.objs.size + 1), H', I3, rfl, q3⟩⟩
    | next => exact False.elim hq'
    | brk => exact False.elim hq'
    | cont => exact False.elim hq'
theorem pe_makeS (M : Mk X.K C f) (F : FnOk X.prog X.w X.K X.mg X.base CX k f fd ps sp) (hr : Room (k + 1) X.A) (hg : Gl X x) (hm : X.mg x = some (.ref C)) (hb : Binds X.K fd ps []) (hx : ∀ σ, PassesAt CX X σ (E σ))
    (ha : PA X (e :: es) t) (hdb : (x == ("__debug__" : Str)) = false := by decide) (he : starEach (e :: es) X.env = (false, eval e X.env) :: starEach es X.env := by rfl) (hpl : (backTo pos (starEach es X.env)).any (·.1) = false := by rfl) :
    PE X (.Call (.Name x p) (e :: es) [] pos) (tMakeS C sp E t) := by
  refine ⟨fun pins s σ H Q I h => ?_⟩
  refine wpAny_Call_Name_kw (ld_glob I hg hm ?_ hdb)
  refine PySem.W.callWith_K (h₀ := X.base) I.ok.mod.kin M.kp (thn (ha.run pos pins s σ H _ I h) fun us s1 ⟨vs, H1, I1, r, q⟩ => ⟨I1.kIn, ?_⟩) he hpl
  exact run_makeS M F hr hb (hx σ) I1 r q
def tCallKS (sp : Sp) (gV : List V → List V → List V) (E : L2.St → XK) (t tk : TA) : TE := fun σ H Q => t σ H fun vs H1 => tk σ H1 fun zs H2 => sp (gV vs zs) H2 Q (E σ)
variable {g : List Value → List Value → List Value} {gV : List V → List V → List V}
theorem run_fnkS {pins : List (Addr × Obj)} {σ : L2.St} {H : Hp} {s : Shared} {Q : VK} {us ws : List Value} {vs zs : List V} (F : FnOk X.prog X.w X.K X.mg X.base CX k f fd ps sp) (hr : Room k X.A) (hb : KBinds X.K fd ps ks g gV) (hx : PassesAt CX X σ (E σ))
    (I : Inv X pins σ H s) (r : Vals vs us) (rz : Vals zs ws) (h : sp (gV vs zs) H Q (E σ)) : wpAny (model X.prog X.w) X.A (call (.ref f) us (ks.zip ws)) (EP X pins σ Q) X.xe s := by
  have r2 := hb.rel r rz
  have hl : (g us ws).length = ps.length := by rw [← r2.length]; exact F.len _ _ _ _ h
  refine wpAny_call (codeAny_mono (F.run X.A X.stack s H ⟨us, ks.zip ws⟩ (g us ws) (gV vs zs) Q (E σ) hr I.env0 (hb.to s us ws I.kIn hl) r2 h) fun r s' hq => ?_)
  cases r with
  | error e => exact hx pins H s e s' I hq
  | ok fl =>
    cases fl with
    | ret u => exact I.after hq
    | next => exact False.elim hq
    | brk => exact False.elim hq
    | cont => exact False.elim hq
theorem pe_callKS (F : FnOk X.prog X.w X.K X.mg X.base CX k f fd ps sp) (hr : Room k X.A) (hg : Gl X x) (hm : X.mg x = some (.ref f)) (hk : PySem.W.keepIn X.K (.ref f) = true) (hb : KBinds X.K fd ps ks g gV) (hx : ∀ σ, PassesAt CX X σ (E σ))
    (ha : PA X (e :: es) t) (hkw : PK X kws tk) (hall : (backToKw pos (keywordEach kws X.env)).all (·.1.isSome) = true := by rfl) (hks : (backToKw pos (keywordEach kws X.env)).filterMap (·.1) = ks := by rfl)
    (hdb : (x == ("__debug__" : Str)) = false := by decide) (he : starEach (e :: es) X.env = (false, eval e X.env) :: starEach es X.env := by rfl)
    (hpl : ((backTo pos (starEach (e :: es) X.env)).any (·.1) || (backToKw pos (keywordEach kws X.env)).any (·.1.isNone)) = false := by rfl) :
    PE X (.Call (.Name x p) (e :: es) kws pos) (tCallKS sp gV E t tk) := by
  refine ⟨fun pins s σ H Q I h => ?_⟩
  refine wpAny_Call_Name_kw (ld_glob I hg hm ?_ hdb)
  refine PySem.W.callWith_KW (h₀ := X.base) I.ok.mod.kin hk hall (thn (ha.run pos pins s σ H _ I h) fun us s1 ⟨vs, H1, I1, r, q⟩ => ?_) hpl he
  refine thn (hkw.run pos pins s1 σ H1 _ I1 q) fun ws s2 ⟨zs, H2, I2, rz, q2⟩ => ⟨I2.kIn, ?_⟩
  rw [hks]
  exact run_fnkS F hr hb (hx σ) I2 r rz q2
/-- x op y by an own def of x's class -/
def rOwnC (C : Addr) (sp : Sp) (E : L2.St → XK) (σ : L2.St) : R2 := fun x y H Q => ∃ a dx fs b C' dy gs, x = .ref a ∧ y = .ref b ∧ H a = some (.ins C dx fs) ∧ H b = some (.ins C' dy gs) ∧ C' = C ∧ sp [x, y] H Q (E σ)
def tOwnC (C : Addr) (sp : Sp) (E : L2.St → XK) (ta tb : TE) : TE := fun σ H Q => ta σ H fun x H1 => tb σ H1 fun y H2 => rOwnC C sp E σ x y H2 Q
theorem cmpback {P : Value → Shared → Prop} {z : V} {v : Value} {s' : Shared} (r : RelV z v) (h : P v s') : PySem.W.CmpBack P v s' := by
  cases z with
  | non => cases (show v = Value.none from r); exact h
  | bl b => cases (show v = Value.bool b from r); exact h
  | int i => obtain ⟨t, e⟩ := (show ∃ t, v = Value.int i t from r); cases e; exact h
  | str x => obtain ⟨t, e⟩ := (show ∃ t, v = Value.str x t from r); cases e; exact h
  | byt b => obtain ⟨t, e⟩ := (show ∃ t, v = Value.bytes b t from r); cases e; exact h
  | flt b => obtain ⟨t, e⟩ := (show ∃ t, v = Value.float b t from r); cases e; exact h
  | ref a => cases (show v = Value.ref a from r); exact h
  | ty n => cases (show v = Value.type n from r); exact h
/-- operations whose exceptions know the slots -/
def OpS (X : Cx) (f : Value → Value → Sem Value) (r : L2.St → R2) : Prop :=
  ∀ (pins : List (Addr × Obj)) (s : Shared) (σ : L2.St) (H : Hp) (x y : V) (v u : Value) (Q : VK), Inv X pins σ H s → RelV x v → RelV y u → r σ x y H Q →
    wpAny (model X.prog X.w) X.A (f v u) (EP X pins σ Q) X.xe s
def tOpS (r : L2.St → R2) (ta tb : TE) : TE := fun σ H Q => ta σ H fun x H1 => tb σ H1 fun y H2 => r σ x y H2 Q
theorem pe_cmpS {op : CmpOp} {r : L2.St → R2} {a b : Expr} {ta tb : TE} (ho : OpS X (compareOp op) r) (ha : PE X a ta) (hb : PE X b tb) (hm : behindInMarks op b = false) : PE X (.Compare a [op] [b] pos) (tOpS r ta tb) := by
  refine ⟨fun pins s σ H Q I h => ?_⟩
  exact wpAny_Compare1 (binT ha hb I h fun v u s2 x y H2 I2 rx ry q => ho pins s2 σ H2 x y v u Q I2 rx ry q) hm
theorem pt_cmpS {op : CmpOp} {r : L2.St → R2} {a b : Expr} {ta tb : TE} (ho : OpS X (compareOp op) r) (ha : PE X a ta) (hb : PE X b tb) (hm : behindInMarks op b = false) : PT X (.Compare a [op] [b] pos) (tTest (tOpS r ta tb)) := by
  refine ⟨fun pins s σ H Q I h => ?_⟩
  refine wpAny_isTrue_Compare1 (thn (ha.run pins s σ H _ I h) fun v s1 ⟨x, H1, I1, r1, q1⟩ => thn (hb.run pins s1 σ H1 _ I1 q1) fun u s2 ⟨y, H2, I2, r2, q2⟩ =>
    thn (ho pins s2 σ H2 x y v u _ I2 r1 r2 q2) fun c s3 ⟨z, H3, I3, r3, k, e, q3⟩ => ?_) hm
  subst e
  cases r3
  exact wpAny_truthy_bool ⟨H3, I3, q3⟩
theorem op_ownC {op : CmpOp} (hop : ∀ a b, compareOp op a b = richCompare op a b) (hn : PySem.W.notFirst X.K C (.ref C) = true) (hs : PySem.W.findIn X.K (.ref C) (cmpInfo op).2.1 = some (some (.ref f))) (hf : PySem.W.isFn X.K (.ref f) = true)
    (F : FnOk X.prog X.w X.K X.mg X.base CX k f fd ps sp) (hr : Room k X.A) (hb : Binds X.K fd ps []) (hx : ∀ σ, PassesAt CX X σ (E σ)) : OpS X (compareOp op) (rOwnC C sp E) := by
  intro pins s σ H x y v u Q I rx ry h
  obtain ⟨a, dx, fs, b, C', dy, gs, rfl, rfl, ea, eb, rfl, q⟩ := h
  cases (show v = Value.ref a from rx)
  cases (show u = Value.ref b from ry)
  obtain ⟨mA, O, _, _, _, _⟩ := ins_get I.hok ea
  obtain ⟨od, J, _⟩ := O.look
  obtain ⟨mB, O', _, _, _, _⟩ := ins_get I.hok eb
  obtain ⟨od', J', _⟩ := O'.look
  obtain ⟨m, hF⟩ := I.fr
  rw [hop]
  refine PySem.W.cmp_K (op := op) (tb := .ref C') hr.units0 hF I.ok.mod.kin J J'.type hn hs hf ?_
  refine wpAny_mono (run_fnS (us := [.ref a, .ref b]) (vs := [.ref a, .ref b]) F hr hb (hx σ) I (.cons rfl (.cons rfl .nil)) q) (fun w s' z => ?_) fun _ _ x => x
  obtain ⟨z', H', I', rz, qz⟩ := z
  exact cmpback rz ⟨z', H', I', rz, qz⟩
end

section
variable {K : PySem.W.Frag} {T : Nat → Addr}
theorem lkp_cons {α : Type} (f g : Str) (y : α) (fs : List (Str × α)) : ((f, y) :: fs).lookup g = if g = f then some y else fs.lookup g := by
  by_cases h : g = f
  · subst h
    simp [List.lookup]
  · have e : (g == f) = false := by simpa using h
    rw [if_neg h]
    simp [List.lookup, e]
theorem RepF.get {G : Hp} : ∀ {vs : List (Str × V)} {ds : List (Str × Dat)} {f : Str} {d : Dat}, RepF K T G vs ds → ds.lookup f = some d → ∃ v, vs.lookup f = some v ∧ Rep K T G v d
  | _, _, f, _, .nil, h => by cases h
  | _, _, f, _, .cons (f := g) (v := v) (vs := vs) (d := d) (ds := ds) a r, h => by
    rw [lkp_cons] at h
    rw [lkp_cons]
    by_cases e : f = g
    · rw [if_pos e] at h ⊢
      cases h
      exact ⟨v, rfl, a⟩
    · rw [if_neg e] at h ⊢
      exact RepF.get r h
theorem RepF.none {G : Hp} : ∀ {vs : List (Str × V)} {ds : List (Str × Dat)} {f : Str}, RepF K T G vs ds → ds.lookup f = none → vs.lookup f = none
  | _, _, f, .nil, h => rfl
  | _, _, f, .cons (f := g) (v := v) (vs := vs) (d := d) (ds := ds) a r, h => by
    rw [lkp_cons] at h
    rw [lkp_cons]
    by_cases e : f = g
    · rw [if_pos e] at h; cases h
    · rw [if_neg e] at h ⊢
      exact RepF.none r h
theorem RepF.length {G : Hp} : ∀ {vs : List (Str × V)} {ds : List (Str × Dat)}, RepF K T G vs ds → vs.length = ds.length
  | _, _, .nil => rfl
  | _, _, .cons _ r => by rw [List.length_cons, List.length_cons, RepF.length r]
def putD (f : Str) (v : Dat) : List (Str × Dat) → List (Str × Dat)
  | [] => [(f, v)]
  | (g, x) :: r => if g = f then (g, v) :: r else (g, x) :: putD f v r
theorem RepF.put {G : Hp} {f : Str} {v : V} {d : Dat} (h : Rep K T G v d) : ∀ {vs : List (Str × V)} {ds : List (Str × Dat)}, RepF K T G vs ds → RepF K T G (putF f v vs) (putD f d ds)
  | _, _, .nil => .cons h .nil
  | _, _, .cons (f := g) a r => by
    unfold putF putD
    by_cases e : g = f
    · rw [if_pos e, if_pos e]; exact .cons h r
    · rw [if_neg e, if_neg e]; exact .cons a (RepF.put h r)
/-- e.f -/
def CE.fld (c : Nat) (f : Str) (hc : Cls K (T c)) (hn : NoAttr K (T c) f) (a : CE K T) : CE K T := ⟨fun W => tFld K (a.te W) f, fun Γ => (a.ev Γ).bind fun x => match x with
    | .ins c' fs => if c' = c then (match fs.lookup f with | some d => .ok d | none => .bad) else .bad
    | _ => .bad, fun W fx G0 H0 G H σ Γ s =>
  (a.ok W fx G0 H0 G H σ Γ s).bind fun v d G1 H1 w1 r1 _ => by
    cases r1 with
    | @ins a0 c' dx fvs fs h r =>
      dsimp only
      split
      · next hcc =>
        subst hcc
        split
        · next d hd =>
          obtain ⟨v, h1, h2⟩ := r.get hd
          exact Hd.ret w1.gh h2 fun Q q => ⟨a0, T c', dx, fvs, v, rfl, w1.gh _ _ h, hc, hn, h1, q⟩
        · trivial
      · trivial
    | _ => trivial⟩
/-- e.f of the instance that is being made or changed, at slot i -/
def CE.fldO (i c : Nat) (f : Str) (hc : Cls K (T c)) (hn : NoAttr K (T c) f) : CE K T := ⟨fun _ => tFld K (tVar i) f, fun Γ => match Γ[i]? with
    | some (.oi _ _ c' fs) => if c' = c then (match fs.lookup f with | some d => .ok d | none => .bad) else .bad
    | _ => .bad, fun W fx G0 H0 G H σ Γ s => by
  split
  · next a dx c' fs h =>
    split
    · next hcc =>
      subst hcc
      obtain ⟨vs, h1, h2, h3, _, _⟩ := s.getI h
      split
      · next d hd =>
        obtain ⟨v, h4, h5⟩ := h3.get hd
        exact Hd.ret s.gh h5 fun Q q => ⟨.ref a, h1, a, T c', dx, vs, v, rfl, h2, hc, hn, h4, q⟩
      · trivial
    · trivial
  · trivial⟩
/-- self.f = e -/
def CS.fldO (i c : Nat) (f : Str) (hc : Cls K (T c)) (hn : NoAttr K (T c) f) (e : CE K T) : CS K T := ⟨fun W => sFld K (tVar i) (e.te W) f, fun Γ => match Γ[i]? with
    | some (.oi a dx c' fs) => if c' = c ∧ fs.length < 1000 then (e.ev Γ).st Γ fun d => .nx (Γ.set i (.oi a dx c (putD f d fs))) else .bad
    | _ => .bad, fun W D G0 H0 G H σ Γ s => by
  split
  · next a dx c' fs h =>
    split
    · next hcc =>
      obtain ⟨rfl, hl⟩ := hcc
      refine Hd.st s (e.ok W [] G0 H0 G H σ Γ s) fun v d G1 H1 w r _ => ?_
      have s1 := s.grow w
      obtain ⟨vs, h1, h2, h3, _, _⟩ := s1.getI h
      exact fun q => ⟨.ref a, h1, a, T c', dx, vs, rfl, h2, hc, hn, by rw [h3.length]; exact hl, q G1 _ σ (Ex.refl _) (s1.mut h1 h fun fp z => by
        cases z with
        | oi h4 h5 => exact ⟨by simp, .oi upd_same (h3.put r)⟩)⟩
    · trivial
  · trivial⟩
/-! ### __init__ and making -/
def runI (b : CS K T) (c n : Nat) (x dx : Addr) (ds : List Dat) : Rs (List (Str × Dat)) := match b.ev (.oi x dx c [] :: (ds.map Slot.d ++ List.replicate (n - 1 - ds.length) Slot.un)) with
  | .nx Γ => (match (Γ[0]? : Option Slot) with | some (Slot.oi x' dx' c' fs) => if x' = x ∧ dx' = dx ∧ c' = c then .ok fs else .bad | _ => .bad)
  | .exn _ c fs => .exn c fs
  | _ => .bad
def spI (K : PySem.W.Frag) (T : Nat → Addr) (c m : Nat) (F : Addr → Addr → List Dat → Rs (List (Str × Dat))) : Sp := fun vs H Q E => vs.length = m + 1 ∧ ∃ x dx vs', vs = .ref x :: vs' ∧ H x = some (.ins (T c) dx []) ∧ ∃ G ds, Ex G (rm H x) ∧ RepL K T G vs' ds ∧ (∃ r, F x dx ds = r ∧ match r with
    | .ok fs => ∀ G' H' fvs, Grow G (rm H x) G' (rm H' x) → H' x = some (.ins (T c) dx fvs) → RepF K T G' fvs fs → Q .non H'
    | .exn c fs => ∀ cls d G' H', Grow G (rm H x) G' H' → RepX K T G' cls d c fs → E cls d H'
    | .bad => False)
theorem SG.startI {G H : Hp} {x dx c : Nat} (hx : H x = some (.ins (T c) dx [])) (e : Ex G (rm H x)) {vs : List V} {ds : List Dat} (r : RepL K T G vs ds) (n : Nat) :
    SG K T [] G (rm H x) G H (some (.ref x) :: (vs.map some ++ List.replicate n none)) (.oi x dx c [] :: (ds.map Slot.d ++ List.replicate n Slot.un)) := by
  have gx : G x = none := fresh_back e rm_same
  have e2 : Ex (rm H x) H := fun a o h => by
    by_cases q : a = x
    · subst q; rw [rm_same] at h; cases h
    · rw [rm_ne q] at h; exact h
  have s := SG.start (K := K) (T := T) e r n
  obtain ⟨fp, f1, f2, f3, f4⟩ := s.own
  refine ⟨by simp [r.length], e.trans e2, Ex.refl _, e2, fun _ _ h => .inl h, ⟨fun i => match i with | 0 => [x] | _ + 1 => [], fun i o t h1 h2 => ?_, fun i a m => ?_, fun i => ?_, fun i j a n m1 m2 => ?_⟩, fun _ m => by simp at m⟩
  · cases i with
    | zero =>
      simp at h1 h2
      subst h1 h2
      exact .oi hx .nil
    | succ i =>
      simp only [List.getElem?_cons_succ] at h1 h2
      have q := f1 i o t h1 h2
      have hd : t = .un ∨ ∃ y, t = .d y := by
        rw [List.getElem?_append] at h2
        split at h2
        · rw [List.getElem?_map] at h2
          cases z : ds[i]? with
          | none => rw [z] at h2; cases h2
          | some y => rw [z] at h2; exact .inr ⟨y, (Option.some.inj h2).symm⟩
        · rw [List.getElem?_replicate] at h2
          split at h2
          · exact .inl (Option.some.inj h2).symm
          · cases h2
      rcases hd with rfl | ⟨y, rfl⟩
      · exact .un _
      · generalize fp i = p at q
        cases q with
        | d r => exact .d r
  · cases i with
    | zero => simp at m; subst m; exact ⟨gx, by rw [hx]; simp, rm_same, by simp⟩
    | succ i => simp at m
  · cases i <;> simp
  · cases i <;> cases j <;> simp_all
theorem body_okI (b : CS K T) {N : List Str} {c m : Nat} {vs : List V} {H : Hp} {Q : VK} {E : XK} (hN : 0 < N.length) (h : spI K T c m (runI b c N.length) vs H Q E) :
    b.ts (fun cls d _ H => E cls d H) { nx := fun _ H' => Q .non H', rt := Q } (L2.start N vs) H := by
  obtain ⟨hm, x, dx, vs', rfl, hx, G, ds, e, r, rr, hr, q⟩ := h
  have s : SG K T [] G (rm H x) G H (L2.start N (.ref x :: vs')) (.oi x dx c [] :: (ds.map Slot.d ++ List.replicate (N.length - 1 - ds.length) Slot.un)) := by
    unfold L2.start
    have : N.length - (V.ref x :: vs').length = N.length - 1 - ds.length := by rw [List.length_cons, r.length]; omega
    rw [this]
    exact SG.startI hx e r _
  have o := b.ok (fun cls d _ H => E cls d H) { nx := fun _ H' => Q .non H', rt := Q } G (rm H x) G H _ _ s
  unfold runI at hr
  cases hb : b.ev (.oi x dx c [] :: (ds.map Slot.d ++ List.replicate (N.length - 1 - ds.length) Slot.un)) with
  | nx Γ =>
    rw [hb] at o hr
    dsimp only at hr
    split at hr
    · next x' dx' c' fs hΓ =>
      split at hr
      · next hcc =>
        obtain ⟨rfl, rfl, rfl⟩ := hcc
        subst hr
        refine o fun G' H' σ' _ s' => ?_
        obtain ⟨fvs, h1, h2, h3, h4, h5⟩ := s'.getI hΓ
        have w := s'.fin
        refine q G' H' fvs ⟨w.g, fun a o h => ?_, fun a o h => ?_, w.nw⟩ h2 h3
        · rw [rm_ne fun z => by subst z; rw [h4] at h; cases h]
          exact w.gh a o h
        · rw [rm_ne fun z => by subst z; rw [rm_same] at h; cases h]
          exact w.h a o h
      · subst hr; exact q.elim
    · subst hr; exact q.elim
  | exn Γ cc fs =>
    rw [hb] at o hr
    subst hr
    exact o fun cls d G' H' σ' _ s' x => q cls d G' H' s'.fin x
  | rt d => rw [hb] at hr; subst hr; exact q.elim
  | bk Γ => rw [hb] at hr; subst hr; exact q.elim
  | ct Γ => rw [hb] at hr; subst hr; exact q.elim
  | bad => rw [hb] at hr; subst hr; exact q.elim
theorem ok_init {P : Program} {w : World} {mg : Str → Option Value} {base : Heap} {x qual : Str} {st : Stmt} {f : Addr} {fd : FuncData} {N ps : List Str} {k c : Nat} (F : Fun K x qual st f fd) (S : FnScope N ps (defScope st)) (b : CS K T) (hp : 0 < ps.length) (hN : 0 < N.length)
    (h : ∀ (cdv : Value) (A : Around) (outer : List Env) (s : Shared) (H : Hp) (E : XK), Room k (A.deeper (PyProof.Rows.envOfC qual (defScope st) s.heap.objs.size f cdv)) →
      PSs (cxOf (L2N.CX P w) P w K mg base N qual (defScope st) f cdv A outer s H E) (defBody st) (b.ts fun cls d _ H => E cls d H)) :
    FnOk P w K mg base (L2N.CX P w) (k + 1) f fd ps (spI K T c (ps.length - 1) (runI b c N.length)) :=
  okC F S (fun vs H Q E h => by have := h.1; omega) fun cdv A outer s H vs Q E hr hsp => ⟨_, h cdv A outer s H E hr, body_okI b hN hsp⟩
/-- C(a, ..): the fields that __init__ leaves -/
def CE.make (c m : Nat) (F : Addr → Addr → List Dat → Rs (List (Str × Dat))) (R : List Dat → Rs (List (Str × Dat))) (hF : ∀ x dx ds, R ds ≠ .bad → F x dx ds = R ds) (a : CA K T) : CE K T := ⟨fun W => tMakeS (T c) (spI K T c m F) (WE W) (a.te W),
  fun Γ => (a.ev Γ).bind fun ds => if ds.length = m then (R ds).bind fun fs => .ok (.ins c fs) else .bad, fun W fx G0 H0 G H σ Γ s =>
  (a.ok W fx G0 H0 G H σ Γ s).bind fun v d G1 H1 w1 r1 _ => by
    split
    · next hl =>
      have hv : v.length = m := r1.length.trans hl
      have base : ∀ x dx, H1 x = none → H1 dx = none → dx ≠ x → Ex G1 (rm (upd (upd H1 dx (.own x)) x (.ins (T c) dx [])) x) ∧ Ex H1 (rm (upd (upd H1 dx (.own x)) x (.ins (T c) dx [])) x) := fun x dx hx hd ne => by
        have e : rm (upd (upd H1 dx (.own x)) x (.ins (T c) dx [])) x = upd H1 dx (.own x) := rm_upd (by rw [upd_ne (Ne.symm ne)]; exact hx)
        rw [e]
        exact ⟨w1.gh.trans (Ex.new hd), Ex.new hd⟩
      cases hR : R d with
      | bad => trivial
      | ok fs =>
        intro Q q x dx hx hd ne
        obtain ⟨e1, e2⟩ := base x dx hx hd ne
        refine ⟨by simp [hv], x, dx, v, rfl, upd_same, G1, d, e1, r1, _, (hF x dx d (by rw [hR]; simp)).trans hR, ?_⟩
        intro G' H' fvs w hH rf
        refine ⟨rfl, ?_⟩
        have gx : G' x = none := fresh_back w.gh rm_same
        have rmH : ∀ {a : Addr} {o : HO}, rm H' x a = some o → H' a = some o := fun {a o} h => by
          by_cases z : a = x
          · subst z; rw [rm_same] at h; cases h
          · rw [rm_ne z] at h; exact h
        refine q (.ref x) (upd G' x (.ins (T c) dx fvs)) H' ⟨w.g.trans (Ex.new gx), fun a o h => ?_, fun a o h => rmH (w.h a o (e2 a o h)), fun a o h => ?_⟩ (.ins upd_same (rf.mono (Ex.new gx)))
        · by_cases z : a = x
          · subst z; rw [upd_same] at h; rw [hH]; exact h
          · rw [upd_ne z] at h; exact rmH (w.gh a o h)
        · by_cases z : a = x
          · subst z; exact .inr hx
          · rw [upd_ne z] at h
            rcases w.nw a o h with y | y
            · exact .inl y
            · exact .inr (fresh_back e2 y)
      | exn cc fs =>
        intro wq Q x dx hx hd ne
        obtain ⟨e1, e2⟩ := base x dx hx hd ne
        refine ⟨by simp [hv], x, dx, v, rfl, upd_same, G1, d, e1, r1, _, (hF x dx d (by rw [hR]; simp)).trans hR, ?_⟩
        intro cls dd G' H' w rx
        exact wq cls dd G' H' ⟨w.g, w.gh, e2.trans w.h, fun a o h => by
          rcases w.nw a o h with y | y
          · exact .inl y
          · exact .inr (fresh_back e2 y)⟩ rx
    · trivial⟩
/-- o.m(a, ..) of frozen instances -/
def CE.meth (c : Nat) (m : Str) (n : Nat) (F : List Dat → Rs Dat) (o : CE K T) (a : CA K T) : CE K T := ⟨fun W => tMethS (T c) m (spF K T (n + 1) F) (WE W) (o.te W) (a.te W),
  fun Γ => (o.ev Γ).bind fun x => match x with
    | .ins c' fs => if c' = c ∧ fs.lookup m = none then (a.ev Γ).bind fun ds => if ds.length = n then F (.ins c fs :: ds) else .bad else .bad
    | _ => .bad, fun W fx G0 H0 G H σ Γ s =>
  (o.ok W fx G0 H0 G H σ Γ s).bind fun v d G1 H1 w1 r1 _ => by
    cases r1 with
    | @ins a0 c' dx fvs fs h r =>
      dsimp only
      split
      · next hcc =>
        obtain ⟨rfl, hm⟩ := hcc
        refine ((a.ok W fx G0 H0 G1 H1 σ Γ (s.grow w1)).bind (k := fun vs H2 Q => spF K T (n + 1) F (.ref a0 :: vs) H2 Q (WE W σ)) fun v d G2 H2 w2 r2 _ => ?_).imp fun Q q => ⟨a0, dx, fvs, rfl, w1.gh _ _ h, r.none hm, q⟩
        split
        · next hl =>
          have hv : v.length = n := r2.length.trans hl
          have rr : RepL K T G2 (.ref a0 :: v) (.ins c' fs :: d) := .cons ((Rep.ins h r).mono w2.g) r2
          cases hF : F (.ins c' fs :: d) with
          | bad => trivial
          | ok x => exact fun Q q => ⟨by simp [hv], G2, _, w2.gh, rr, _, hF, fun v' G' H' w r => q v' G' H' w r⟩
          | exn c fs => exact fun w Q => ⟨by simp [hv], G2, _, w2.gh, rr, _, hF, fun cls d' G' H' w' r => w cls d' G' H' w' r⟩
        · trivial
      · trivial
    | _ => trivial⟩
/-- e.f, a property whose getter raises nothing -/
def CE.prop (c : Nat) (F : List Dat → Rs Dat) (o : CE K T) : CE K T := ⟨fun W => tProp (T c) (spF K T 1 F) [] E0 (o.te W),
  fun Γ => (o.ev Γ).bind fun x => match x with
    | .ins c' fs => if c' = c then (match F [.ins c fs] with | .ok d => .ok d | _ => .bad) else .bad
    | _ => .bad, fun W fx G0 H0 G H σ Γ s =>
  (o.ok W fx G0 H0 G H σ Γ s).bind fun v d G1 H1 w1 r1 _ => by
    cases r1 with
    | @ins a0 c' dx fvs fs h r =>
      dsimp only
      split
      · next hcc =>
        subst hcc
        split
        · next d hF => exact fun Q q => ⟨a0, dx, fvs, rfl, w1.gh _ _ h, rfl, G1, _, w1.gh, .cons (.ins h r) .nil, _, hF, fun v' G' H' w r => q v' G' H' w r⟩
        · trivial
      · trivial
    | _ => trivial⟩
/-- x op y by an own def -/
def CE.ownC (c : Nat) (F : List Dat → Rs Dat) (a b : CE K T) : CE K T := ⟨fun W => tOpS (rOwnC (T c) (spF K T 2 F) (WE W)) (a.te W) (b.te W),
  fun Γ => (a.ev Γ).bind fun x => (b.ev Γ).bind fun y => match x, y with
    | .ins c1 f1, .ins c2 f2 => if c1 = c ∧ c2 = c then F [.ins c f1, .ins c f2] else .bad
    | _, _ => .bad, fun W fx G0 H0 G H σ Γ s =>
  (a.ok W fx G0 H0 G H σ Γ s).bind fun v d G1 H1 w1 r1 _ => (b.ok W fx G0 H0 G1 H1 σ Γ (s.grow w1)).bind (k := fun y H2 Q => rOwnC (T c) (spF K T 2 F) (WE W) σ v y H2 Q) fun u e G2 H2 w2 r2 _ => by
    have r1' := r1.mono w2.g
    cases r1' with
    | @ins a0 c1 dx fvs f1 h r =>
      cases r2 with
      | @ins b0 c2 dy gvs f2 h' r' =>
        dsimp only
        split
        · next hcc =>
          obtain ⟨rfl, rfl⟩ := hcc
          have rr : RepL K T G2 [.ref a0, .ref b0] [.ins _ f1, .ins _ f2] := .cons (.ins h r) (.cons (.ins h' r') .nil)
          cases hF : F [.ins _ f1, .ins _ f2] with
          | bad => trivial
          | ok x => exact fun Q q => ⟨a0, dx, fvs, b0, _, dy, gvs, rfl, rfl, w2.gh _ _ h, w2.gh _ _ h', rfl, rfl, G2, _, w2.gh, rr, _, hF, fun v' G' H' w r => q v' G' H' w r⟩
          | exn c fs => exact fun w Q => ⟨a0, dx, fvs, b0, _, dy, gvs, rfl, rfl, w2.gh _ _ h, w2.gh _ _ h', rfl, rfl, G2, _, w2.gh, rr, _, hF, fun cls d' G' H' w' r => w cls d' G' H' w' r⟩
        · trivial
      | _ => trivial
    | _ => trivial⟩
end
end Cz

set_option Elab.async false
set_option linter.all false
set_option maxRecDepth 100000
set_option maxHeartbeats 2000000
/-! enumerate of a text; reversed ranges. -/
namespace Cz
open PySem L2 Evl PySem.Spec PyProof.Rows

def IteS (x : Str) : It := ⟨fun i _ => i < x.cps.size, fun i H v H' => ∃ T c, x.cps[i]? = some c ∧ v = .ref T ∧ H T = none ∧ H' = upd H T (.tup [.int (i : Nat), .str ⟨#[c]⟩]), fun i _ => x.cps.size ≤ i⟩
theorem turn_enumS {P : Program} {w : World} {K : PySem.W.Frag} {elts : List Expr} {kk : Nat} {tpos : Pos} (e it : Addr) (x : Str) (t : Tok) (ty : String) (hty : ty = "str_ascii_iterator" ∨ ty = "str_iterator") :
    Turn P w K (.Tuple elts kk tpos) (IteS x) [e, it] e (fun i h => (∃ old, IsEnum h e it ((i : Nat) : Int) old) ∧ h.IsStrIter it ty x t i ∧ e ≠ it ∧ i ≤ x.cps.size) where
  mem := by simp
  obj := fun i h st b hb => by
    obtain ⟨⟨old, he⟩, ⟨o, ho, hc, hd⟩, _⟩ := st
    have e' : b = e ∨ b = it := by simpa using hb
    rcases e' with z | z
    · rw [z]; exact ⟨_, he, fun v q => nomatch q⟩
    · rw [z]; exact ⟨o, ho, fun v q => by rw [hd] at q; cases q⟩
  keep := fun i h h' st k => let ⟨⟨old, he⟩, ⟨o, ho, r⟩, hne, hle⟩ := st; ⟨⟨old, k e (by simp) _ he⟩, ⟨o, k it (by simp) o ho, r⟩, hne, hle⟩
  item := by
    intro X hP hw hK hc i pins s σ H E I hf st hg
    subst hP hw hK
    obtain ⟨⟨old, he⟩, hit, hne, hle⟩ := st
    have hel : e < s.heap.objs.size := Heap.lt_size he
    have hil : it < s.heap.objs.size := by obtain ⟨_, q, _⟩ := hit; exact Heap.lt_size q
    have D : Draws X.prog X.w X.A.in1 it [it] x.cps.size (SignAt x) (fun i h => h.IsStrIter it ty x t i) := by
      rcases hty with q | q
      · rw [q]; exact Draws.strAscii (A := X.A.in1) (I.ok.hd hc) it x t
      · rw [q]; exact Draws.strWide (A := X.A.in1) (I.ok.hd hc) it x t
    refine wpAny_pyNext_enum_itemD D he hit hg hne (by simp [hne]) fun u h' tk hu ho hit' hT hsz hk => ?_
    obtain ⟨c, tc, hcx, rfl⟩ := hu
    refine ⟨_, rfl, wpAny_letOwnedTupleGo_enum (s := { s with heap := h', toks := tk + 1 }) ho fun h'' he' sb => ?_⟩
    have hT2 : h''.get? s.heap.objs.size = some { cls := .type "tuple", data := .seq #[.int i tk, .str ⟨#[c]⟩ tc] } := (sb.2 _ (Nat.ne_of_gt hel)).trans hT
    have new : ObjOk X.prog X.w (upd H s.heap.objs.size (.tup [.int (i : Nat), .str ⟨#[c]⟩])) h'' s.heap.objs.size (.tup [.int (i : Nat), .str ⟨#[c]⟩]) :=
      ⟨by show 2 ≤ sizeLine; decide, [.int i tk, .str ⟨#[c]⟩ tc], .cons ⟨_, rfl⟩ (.cons ⟨_, rfl⟩ .nil), ⟨_, hT2, rfl, _, rfl⟩⟩
    have I1 : Inv X pins σ (upd H s.heap.objs.size (.tup [.int (i : Nat), .str ⟨#[c]⟩])) { s with heap := h'', toks := tk + 1 } :=
      I.turnedNew (ch := [e, it]) (fun b ob hb q => (sb.2 b (fun z => hb (by simp [z]))).trans (hk b ob (fun z => hb (by simp [z])) (fun z => hb (by simp [z])) q)) hf (Nat.le_refl _) new
    refine ⟨.ref s.heap.objs.size, _, I1, rfl, ⟨_, c, hcx, rfl, I.hok.fresh (Nat.le_refl _), rfl⟩, ⟨⟨.str ⟨#[c]⟩ tc, ?_⟩, ?_, hne, hg⟩, fun b hb => ?_⟩
    · have e1 : ((i + 1 : Nat) : Int) = (i : Int) + 1 := by omega
      rw [e1]; exact he'
    · obtain ⟨o, q1, q2⟩ := hit'
      exact ⟨o, (sb.2 it (Ne.symm hne)).trans q1, q2⟩
    · have hb' : b < s.heap.objs.size := by
        have e' : b = e ∨ b = it := by simpa using hb
        rcases e' with z | z
        · rw [z]; exact hel
        · rw [z]; exact hil
      rw [upd_ne (Nat.ne_of_lt hb')]
      exact (hf b hb).1
  done := by
    intro X hP hw hK hc i pins s σ H E I hf st hg
    subst hP hw hK
    obtain ⟨⟨old, he⟩, hit, hne, hle⟩ := st
    obtain ⟨f0, f1, f2, f3, f4, f5⟩ := hf it (by simp)
    have hi : i = x.cps.size := Nat.le_antisymm hle hg
    subst hi
    have D : Draws X.prog X.w X.A.in1 it [it] x.cps.size (SignAt x) (fun i h => h.IsStrIter it ty x t i) := by
      rcases hty with q | q
      · rw [q]; exact Draws.strAscii (A := X.A.in1) (I.ok.hd hc) it x t
      · rw [q]; exact Draws.strWide (A := X.A.in1) (I.ok.hd hc) it x t
    exact wpAny_pyNext_enum_endD D he hit fun h' eb => ⟨rfl, I.turned (t' := s.toks) (fun b o hb q => eb b o hb q) f0 f1 f3 f4 f5⟩
  self := fun A i s Q E st h => let ⟨⟨_, he⟩, _⟩ := st; wpAny_pyIter_enum he h
def iEnumS (ta : TA) : TI := fun σ H R => ta σ H fun vs H1 => ∃ x, vs = [.str x] ∧ R (IteS x) H1
theorem pi_enumS {X : Cx} {e : Expr} {ta : TA} {p pos tpos : Pos} {elts : List Expr} {kk : Nat} (hg : Gl X "enumerate") (hm : X.mg "enumerate" = none) (ha : PA X [e] ta) (hs : starEach [e] X.env = [(false, eval e X.env)] := by rfl) :
    PI X (.Tuple elts kk tpos) (.Call (.Name "enumerate" p) [e] [] pos) (iEnumS ta) := by
  refine ⟨fun pins s σ H R I h => ?_⟩
  refine Call_ (ld_blt I hg hm boot_enumerate (PyProof.Rows.callWith_type1 (thn (ha.run pos pins s σ H _ I h) fun us s1 ⟨vs, H1, I1, r1, q1⟩ => ?_) hs rfl))
  obtain ⟨x, ex, q⟩ := q1
  subst ex
  cases r1 with
  | cons r rr =>
    cases rr
    obtain ⟨t, rfl⟩ := r
    refine call_enumerate_str fun h' he hit hsz hk => wpAny_pyIter_enum he ?_
    have I2 : Inv X pins σ H1 { s1 with heap := h' } := I1.kept (t' := s1.toks) hk
    have hty : strIterType x = "str_ascii_iterator" ∨ strIterType x = "str_iterator" := by
      unfold strIterType
      split
      · exact .inl rfl
      · exact .inr rfl
    refine ⟨s1.heap.objs.size + 1, [s1.heap.objs.size + 1, s1.heap.objs.size], _, _, H1, rfl, I2, turn_enumS (s1.heap.objs.size + 1) s1.heap.objs.size x t (strIterType x) hty, ⟨⟨.none, he⟩, hit, Nat.succ_ne_self _, Nat.zero_le _⟩, fun b hb => ?_, q⟩
    have e' : b = s1.heap.objs.size + 1 ∨ b = s1.heap.objs.size := by simpa using hb
    have hle : s1.heap.objs.size ≤ b := by
      rcases e' with z | z
      · rw [z]; exact Nat.le_add_right _ _
      · rw [z]; exact Nat.le_refl _
    exact I1.fpOk hle (I1.hok.fresh hle)

section
variable {K : PySem.W.Frag} {T : Nat → Addr}
def enumS (x : Str) : List Dat := (List.range x.cps.size).map fun (i : Nat) => .tup [.int (i : Int), .str ⟨#[x.cps.getD i 0]⟩]
def CI.enumS (a : CA K T) : CI K T := ⟨fun W => iEnumS (a.te W), fun Γ => (a.ev Γ).bind fun d => match d with | [.str x] => .ok (Cz.enumS x) | _ => .bad, fun W fx G0 H0 G H σ Γ s =>
  (a.ok W fx G0 H0 G H σ Γ s).bind fun v d G1 H1 w1 r1 _ => by
    split
    · next x _ =>
      cases r1 with
      | cons h r =>
        cases r
        cases h
        exact fun R q => ⟨x, rfl, q _ G1 H1 (Grow.refl w1.gh) fun G' H' e1 e2 => ⟨fun i d hd => by
          have hi : i < x.cps.size := by
            have := (List.getElem?_eq_some_iff.mp hd).1
            simpa [Cz.enumS] using this
          refine ⟨hi, fun y H'' hy => ?_⟩
          obtain ⟨Ta, c, hc, rfl, hn, rfl⟩ := hy
          refine ⟨_, Grow.new e2 hn, ?_⟩
          unfold Cz.enumS at hd
          rw [List.getElem?_map, List.getElem?_range hi] at hd
          have hx : x.cps.getD i 0 = c := by
            rw [Array.getD_eq_getD_getElem?, hc]; rfl
          simp only [Option.map_some, hx] at hd
          cases hd
          exact .tup (st_of upd_same) (.cons (.int _) (.cons (.str _) .nil)), fun i hi => by
            show x.cps.size ≤ i
            simpa [Cz.enumS] using hi⟩⟩
    · trivial⟩
/-! ### what is owned, read at its name -/
def CE.lenO (i : Nat) : CE K T := ⟨fun _ => tCB (fun xs H Q => ∃ p ys, xs = [.ref p] ∧ (SqL K H p ys ∨ SqT K H p ys) ∧ Q (.int ys.length) H) (tCons (tVar i) tNil), fun Γ => match Γ[i]? with | some (.ol xs) => .ok (.int xs.length) | _ => .bad, fun W fx G0 H0 G H σ Γ s => by
  split
  · next xs h =>
    obtain ⟨a, vs, h1, h2, h3, _⟩ := s.getL h
    exact Hd.ret s.gh (.int _) fun Q q => ⟨.ref a, h1, a, vs, rfl, .inl (sq_of h2), by rw [h3.length]; exact q⟩
  · trivial⟩
def CE.ixO (i : Nat) (e : CE K T) : CE K T := ⟨fun W => tOp (rIxL K) (tVar i) (e.te W), fun Γ => match Γ[i]? with | some (.ol xs) => (e.ev Γ).bind fun j => (match j with | .int j => (match atI xs j with | some d => .ok d | none => .bad) | _ => .bad) | _ => .bad, fun W fx G0 H0 G H σ Γ s => by
  split
  · next xs h =>
    obtain ⟨a, vs, h1, h2, h3, _⟩ := s.getL h
    refine Hd.imp ((e.ok W fx G0 H0 G H σ Γ s).bind (k := fun y H2 Q => rIxL K (.ref a) y H2 Q) fun v d G1 H1 w1 r1 _ => ?_) fun Q q => ⟨.ref a, h1, q⟩
    cases r1 with
    | int j =>
      dsimp only
      split
      · next d hd =>
        obtain ⟨v, q1, q2⟩ := atI_rep h3 hd
        exact Hd.ret w1.gh (q2.mono w1.g) fun Q q => ⟨a, vs, j, v, rfl, rfl, sq_of (w1.h _ _ h2), q1, q⟩
      · trivial
    | _ => trivial
  · trivial⟩

/-! ### callees -/
/-- a def of the module: what its promise is -/
structure Cal (P : Program) (w : World) (K : PySem.W.Frag) (mg : Str → Option Value) (base : Heap) (x : Str) (k : Nat) (sp : Sp) : Prop where
  ex : ∃ a fd ps, mg x = some (.ref a) ∧ PySem.W.keepIn K (.ref a) = true ∧ Binds K fd ps [] ∧ FnOk P w K mg base (L2N.CX P w) k a fd ps sp
/-- an own class that is made -/
structure CalI (P : Program) (w : World) (K : PySem.W.Frag) (mg : Str → Option Value) (base : Heap) (x : Str) (C : Addr) (k : Nat) (sp : Sp) : Prop where
  ex : ∃ a fd ps, mg x = some (.ref C) ∧ Mk K C a ∧ Binds K fd ps [] ∧ FnOk P w K mg base (L2N.CX P w) k a fd ps sp
/-- a method -/
structure CalM (P : Program) (w : World) (K : PySem.W.Frag) (mg : Str → Option Value) (base : Heap) (C : Addr) (m : Str) (k : Nat) (sp : Sp) : Prop where
  cls : Cls K C
  ex : ∃ a fd ps, Meth K C m a ∧ Binds K fd ps [] ∧ FnOk P w K mg base (L2N.CX P w) k a fd ps sp
structure CalP (P : Program) (w : World) (K : PySem.W.Frag) (mg : Str → Option Value) (base : Heap) (C : Addr) (f : Str) (k : Nat) (sp : Sp) : Prop where
  cls : Cls K C
  ex : ∃ p a fd ps, PropOf K C f p a ∧ Binds K fd ps [] ∧ FnOk P w K mg base (L2N.CX P w) k a fd ps sp
structure CalO (P : Program) (w : World) (K : PySem.W.Frag) (mg : Str → Option Value) (base : Heap) (C : Addr) (m : Str) (k : Nat) (sp : Sp) : Prop where
  nf : PySem.W.notFirst K C (.ref C) = true
  ex : ∃ a fd ps, PySem.W.findIn K (.ref C) m = some (some (.ref a)) ∧ PySem.W.isFn K (.ref a) = true ∧ Binds K fd ps [] ∧ FnOk P w K mg base (L2N.CX P w) k a fd ps sp
end
theorem passLN {X : Cx} : Passes (L2N.CX X.prog X.w) X E0 := fun _ _ _ _ _ _ _ h => by
  obtain ⟨_, _, _, _, _, _, _, _, _, _, _, _, z⟩ := h
  exact z.elim
section
variable {X : Cx} {k : Nat} {C : Addr} {sp : Sp} {W : WX} {x m : Str} {p pos apos : Pos} {e o : Expr} {es : List Expr} {ta : TE} {t : TA} {pl : Sem Bool}
theorem pe_cal (c : Cal X.prog X.w X.K X.mg X.base x k sp) (tk : L2N.Takes X W) (hr : Room k X.A) (ha : PA X (e :: es) t) (hg : Gl X x := by rfl)
    (hdb : (x == ("__debug__" : Str)) = false := by decide) (he : starEach (e :: es) X.env = (false, eval e X.env) :: starEach es X.env := by rfl) (hpl : (backTo pos (starEach es X.env)).any (·.1) = false := by rfl) :
    PE X (.Call (.Name x p) (e :: es) [] pos) (tCallS sp (WE W) t) := by
  obtain ⟨a, fd, ps, hm, hk, hb, F⟩ := c.ex
  exact pe_callS F hr hg hm hk hb (fun σ => L2N.passAt tk σ) ha hdb he hpl
theorem pe_cal0 (c : Cal X.prog X.w X.K X.mg X.base x k sp) (tk : L2N.Takes X W) (hr : Room k X.A) (hg : Gl X x := by rfl) (hdb : (x == ("__debug__" : Str)) = false := by decide) :
    PE X (.Call (.Name x p) [] [] pos) (tCallS sp (WE W) tNil) := by
  obtain ⟨a, fd, ps, hm, hk, hb, F⟩ := c.ex
  exact pe_callS0 F hr hg hm hk hb (fun σ => L2N.passAt tk σ) hdb
theorem pe_calI (c : CalI X.prog X.w X.K X.mg X.base x C k sp) (tk : L2N.Takes X W) (hr : Room (k + 1) X.A) (ha : PA X (e :: es) t) (hg : Gl X x := by rfl)
    (hdb : (x == ("__debug__" : Str)) = false := by decide) (he : starEach (e :: es) X.env = (false, eval e X.env) :: starEach es X.env := by rfl) (hpl : (backTo pos (starEach es X.env)).any (·.1) = false := by rfl) :
    PE X (.Call (.Name x p) (e :: es) [] pos) (tMakeS C sp (WE W) t) := by
  obtain ⟨a, fd, ps, hm, M, hb, F⟩ := c.ex
  exact pe_makeS M F hr hg hm hb (fun σ => L2N.passAt tk σ) ha hdb he hpl
theorem pe_calM (c : CalM X.prog X.w X.K X.mg X.base C m k sp) (tk : L2N.Takes X W) (hr : Room k X.A) (ho : PE X o ta) (ha : PA X (e :: es) t)
    (hst : starEach (e :: es) X.env = (false, eval e X.env) :: starEach es X.env := by rfl) (hpl : (backTo pos (starEach es X.env)).any (·.1) = false := by rfl)
    (ht : eval (.Call (.Attribute o m apos) (e :: es) [] pos) X.env = (do
      let ov ← eval o X.env
      standAt apos.atName
      let (f, first) ← holding [ov] (getMethod ov m pl)
      callWith pos f first (backTo pos (starEach (e :: es) X.env)) (backToKw pos (keywordEach [] X.env))) := by rfl) :
    PE X (.Call (.Attribute o m apos) (e :: es) [] pos) (tMethS C m sp (WE W) ta t) := by
  obtain ⟨a, fd, ps, hm, hb, F⟩ := c.ex
  exact pe_methS ho c.cls hm F hr hb (fun σ => L2N.passAt tk σ) ha hst hpl ht
theorem pe_calM0 (c : CalM X.prog X.w X.K X.mg X.base C m k sp) (tk : L2N.Takes X W) (hr : Room k X.A) (ho : PE X o ta)
    (ht : eval (.Call (.Attribute o m apos) [] [] pos) X.env = (do
      let ov ← eval o X.env
      standAt apos.atName
      let (f, first) ← holding [ov] (getMethod ov m pl)
      callWith pos f first (backTo pos (starEach [] X.env)) (backToKw pos (keywordEach [] X.env))) := by rfl) :
    PE X (.Call (.Attribute o m apos) [] [] pos) (tMethS C m sp (WE W) ta tNil) := by
  obtain ⟨a, fd, ps, hm, hb, F⟩ := c.ex
  exact pe_methS0 ho c.cls hm F hr hb (fun σ => L2N.passAt tk σ) ht
theorem pe_calP {f : Str} (c : CalP X.prog X.w X.K X.mg X.base C f k sp) (hr : Room (k + 1) X.A) (he : PE X o ta) (hab : attributeBase o f X.env (eval o X.env) = eval o X.env := by rfl) : PE X (.Attribute o f pos) (tProp C sp [] E0 ta) := by
  obtain ⟨p, a, fd, ps, hp, hb, F⟩ := c.ex
  exact pe_prop he c.cls hp F hr hb .nil (passLN (X := X.nox)) hab
theorem pe_calO {op : CmpOp} {a b : Expr} {ta tb : TE} (hop : ∀ a b, compareOp op a b = richCompare op a b) (c : CalO X.prog X.w X.K X.mg X.base C (cmpInfo op).2.1 k sp) (tk : L2N.Takes X W) (hr : Room k X.A) (ha : PE X a ta) (hb : PE X b tb) (hm : behindInMarks op b = false) :
    PE X (.Compare a [op] [b] pos) (tOpS (rOwnC C sp (WE W)) ta tb) := by
  obtain ⟨g, fd, ps, hs, hf, hb2, F⟩ := c.ex
  exact pe_cmpS (op_ownC hop c.nf hs hf F hr hb2 (fun σ => L2N.passAt tk σ)) ha hb hm
theorem pt_calO {op : CmpOp} {a b : Expr} {ta tb : TE} (hop : ∀ a b, compareOp op a b = richCompare op a b) (c : CalO X.prog X.w X.K X.mg X.base C (cmpInfo op).2.1 k sp) (tk : L2N.Takes X W) (hr : Room k X.A) (ha : PE X a ta) (hb : PE X b tb) (hm : behindInMarks op b = false) :
    PT X (.Compare a [op] [b] pos) (tTest (tOpS (rOwnC C sp (WE W)) ta tb)) := by
  obtain ⟨g, fd, ps, hs, hf, hb2, F⟩ := c.ex
  exact pt_cmpS (op_ownC hop c.nf hs hf F hr hb2 (fun σ => L2N.passAt tk σ)) ha hb hm
/-- a promise by a better known function -/
theorem spF_le {K : PySem.W.Frag} {T : Nat → Addr} {m : Nat} {F F' : List Dat → Rs Dat} (h : ∀ ds, ds.length = m → F' ds ≠ .bad → F ds = F' ds) : ∀ vs H Q E, spF K T m F' vs H Q E → spF K T m F vs H Q E := fun vs H Q E ⟨hm, G, ds, e, r, rr, hr, q⟩ =>
  ⟨hm, G, ds, e, r, rr, (h ds (r.length.symm.trans hm) (by rw [hr]; rintro rfl; exact q)).trans hr, q⟩
theorem spI_le {K : PySem.W.Frag} {T : Nat → Addr} {c m : Nat} {F F' : Addr → Addr → List Dat → Rs (List (Str × Dat))} (h : ∀ x dx ds, ds.length = m → F' x dx ds ≠ .bad → F x dx ds = F' x dx ds) : ∀ vs H Q E, spI K T c m F' vs H Q E → spI K T c m F vs H Q E := fun vs H Q E ⟨hm, x, dx, vs', e1, e2, G, ds, e, r, rr, hr, q⟩ =>
  ⟨hm, x, dx, vs', e1, e2, G, ds, e, r, rr, (h x dx ds (by have := r.length; rw [e1] at hm; simp at hm; omega) (by rw [hr]; rintro rfl; exact q)).trans hr, q⟩
end
end Cz
namespace Cz
open PySem L2 Evl PySem.Spec PyProof.Rows
section
variable {K : PySem.W.Frag} {T : Nat → Addr}
def CT.yes : CT K T := ⟨fun _ => tYes, fun _ => .ok true, fun W fx G0 H0 G H σ Γ s => Hd.ret s.gh rfl fun Q q => q⟩
/-- isinstance(x, a built-in type) -/
def isiB (n : String) : Dat → Option Bool
  | .non => kitB "NoneType" n
  | .bl _ => kitB "bool" n
  | .int _ => kitB "int" n
  | .str _ => kitB "str" n
  | .lst _ => kitB "list" n
  | .tup _ => kitB "tuple" n
  | _ => none
theorem tyx_l {G H : Hp} {a : Addr} {vs : List V} (e : Ex G H) (h : SqL K G a vs) : TyX K H (.ref a) (.type "list") := by
  rcases ex_l e h with (h | ⟨o, h⟩) | ⟨o, its, n, h, hc, _⟩
  · exact .base (.lst h)
  · exact .base (.frz h)
  · exact .kList h hc
theorem tyx_t {G H : Hp} {a : Addr} {vs : List V} (e : Ex G H) (h : SqT K G a vs) : TyX K H (.ref a) (.type "tuple") := by
  rcases ex_t e h with (h | ⟨o, h⟩) | ⟨o, its, n, h, hc, _⟩
  · exact .base (.tup h)
  · exact .fTuple h
  · exact .kTuple h hc
theorem isiB_ok {G H : Hp} {n : String} {x : V} {d : Dat} {b : Bool} (e : Ex G H) (r : Rep K T G x d) (h : isiB n d = some b) : ∃ t, TyX K H x t ∧ PySem.W.kitOne K t (.type n) = some b := by
  cases r with
  | non => exact ⟨_, .base .non, kit_ty h⟩
  | bl k => exact ⟨_, .base (.bl k), kit_ty h⟩
  | int k => exact ⟨_, .base (.int k), kit_ty h⟩
  | str k => exact ⟨_, .base (.str k), kit_ty h⟩
  | lst q r => exact ⟨_, tyx_l e q, kit_ty h⟩
  | tup q r => exact ⟨_, tyx_t e q, kit_ty h⟩
  | ins _ _ => cases h
  | dic _ _ => cases h
  | dicN _ _ => cases h
  | cls _ => cases h
  | own _ => cases h
def CE.isiB (n : String) (a : CE K T) : CE K T := ⟨fun W => tCB (rIsi K) (tCons (a.te W) (tCons (tC (.ty n)) tNil)), fun Γ => (a.ev Γ).bind fun x => match Cz.isiB n x with | some b => .ok (.bl b) | none => .bad, fun W fx G0 H0 G H σ Γ s =>
  (a.ok W fx G0 H0 G H σ Γ s).bind fun v d G1 H1 w1 r1 _ => by
    cases h : Cz.isiB n d with
    | none => trivial
    | some b =>
      obtain ⟨t, h1, h2⟩ := isiB_ok w1.gh r1 h
      exact Hd.ret w1.gh (.bl b) fun Q q => ⟨v, .ty n, t, .type n, b, rfl, .ty n, h1, h2, q⟩⟩
/-- what isinstance asks of the own class c, and its answer for instances of the class c' -/
structure IsO (K : PySem.W.Frag) (T : Nat → Addr) (c : Nat) : Prop where
  cl : Cls K (T c)
  ha : PySem.W.findIn K (.ref (T c)) "__class__" = some (some (.builtin "object.__class__"))
  hn : PySem.W.specialIn K (.builtin "object.__class__") "__get__" = some (some (.builtin "getset_descriptor.__get__"))
  htk : PySem.W.takesIn K (.builtin "object.__class__") = some true
  hm : PySem.W.mroIn K (T c) (.type "object") = some true
def isiO (c : Nat) : Dat → Option Bool
  | .ins c' _ => if c' = c then some true else none
  | _ => none
def CE.isiO (c : Nat) (hc : IsO K T c) (a : CE K T) : CE K T := ⟨fun W => tCB (rIsi K) (tCons (a.te W) (tCons (tC (.ref (T c))) tNil)), fun Γ => (a.ev Γ).bind fun x => match Cz.isiO c x with | some b => .ok (.bl b) | none => .bad, fun W fx G0 H0 G H σ Γ s =>
  (a.ok W fx G0 H0 G H σ Γ s).bind fun v d G1 H1 w1 r1 _ => by
    cases r1 with
    | @ins a0 c' dx fvs fs h r =>
      by_cases e : c' = c
      · subst e
        simp only [Cz.isiO, if_true]
        exact Hd.ret w1.gh (.bl true) fun Q q => ⟨.ref a0, .ref (T c'), .ref (T c'), .ref (T c'), true, rfl, .own _, .base (.ins (w1.gh _ _ h) hc.cl hc.ha hc.hn hc.htk hc.hm), by unfold PySem.W.kitOne; simp, q⟩
      · simp only [Cz.isiO, if_neg e]
        trivial
    | _ => trivial⟩
/-- str(an int) -/
def oStrI : OpN K T := ⟨fun xs H Q => ∃ i, xs = [.int i] ∧ i.natAbs.log2 < 1920 ∧ Q (.str (toString i)) H, fun as => match as with | [.int i] => if i.natAbs.log2 < 1920 then .ok (.str (toString i)) else .bad | _ => .bad, fun W G H σ xs as e r => by
  split
  · next i =>
    cases r with
    | cons h r =>
      cases h
      cases r
      split
      · next hl => exact Hd.ret e (.str _) fun Q q => ⟨i, rfl, hl, q⟩
      · trivial
  · trivial⟩
/-- a written table with text keys -/
def CE.kd (w : World) (tab : List (Str × Dat)) (a : Addr) (h : ∀ z d, tab.lookup z = some d → ∃ v, KDct K w a z v ∧ ∀ G, Rep K T G v d) (e : CE K T) : CE K T := ⟨fun W => tOp (rIxD K w) (tC (.ref a)) (e.te W), fun Γ => (e.ev Γ).bind fun x => match x with
    | .str z => (match tab.lookup z with | some d => .ok d | none => .bad)
    | _ => .bad, fun W fx G0 H0 G H σ Γ s => by
  refine Hd.imp ((e.ok W fx G0 H0 G H σ Γ s).bind (k := fun y H2 Q => rIxD K w (.ref a) y H2 Q) fun v d G1 H1 w1 r1 _ => ?_) fun Q q => q
  cases r1 with
  | str z =>
    dsimp only
    split
    · next d hd =>
      obtain ⟨v, h1, h2⟩ := h z d hd
      exact Hd.ret w1.gh (h2 G1) fun Q q => ⟨a, z, v, rfl, rfl, h1, q⟩
    · trivial
  | _ => trivial⟩
/-- the module's names that are built-ins' -/
structure Blt (mg : Str → Option Value) : Prop where
  len_ : mg "len" = none
  range_ : mg "range" = none
  int_ : mg "int" = none
  isinstance_ : mg "isinstance" = none
  enumerate_ : mg "enumerate" = none
  zip_ : mg "zip" = none
  str_ : mg "str" = none
  list_ : mg "list" = none
  tuple_ : mg "tuple" = none
  all_ : mg "all" = none
  any_ : mg "any" = none
  reversed_ : mg "reversed" = none
  iter_ : mg "iter" = none
  bool_ : mg "bool" = none
  super_ : mg "super" = none
  dict_ : mg "dict" = none
  ValueError_ : mg "ValueError" = none
end
end Cz
namespace Cz
open PySem L2 Evl PySem.Spec PyProof.Rows
section
variable {K : PySem.W.Frag} {T : Nat → Addr} {X : Cx} {W : WX}
theorem d_seq {st : Stmt} {rest : List Stmt} {a b : CS K T} (h1 : PS X st (a.ts W)) (h2 : PSs X rest (b.ts W)) : PSs X (st :: rest) ((CS.seq a b).ts W) := by
  show PSs X (st :: rest) (tSeq (a.ts W) (b.ts W))
  exact pss_cons h1 h2
theorem d_one {st : Stmt} {a : CS K T} (h1 : PS X st (a.ts W)) : PSs X [st] (a.ts W) := pss_one h1
theorem d_nil : PSs X [] ((CS.pass : CS K T).ts W) := pss_nil
theorem d_never {sts : List Stmt} : PSs X sts ((CS.never : CS K T).ts W) := pss_never
theorem d_neverS {st : Stmt} : PS X st ((CS.never : CS K T).ts W) := ps_never
theorem d_pass {pos : Pos} : PS X (.Pass pos) ((CS.pass : CS K T).ts W) := ps_pass
theorem d_brk {pos : Pos} : PS X (.Break pos) ((CS.brk : CS K T).ts W) := ps_break
theorem d_cont {pos : Pos} : PS X (.Continue pos) ((CS.cont : CS K T).ts W) := ps_continue
theorem d_frz {st : Stmt} {i : Nat} {a : CS K T} (h : PS X st (a.ts W)) : PS X st ((CS.frz i a).ts W) := h
section
variable {pos p p' p2 px pt tpos apos : Pos} {a b c e : Expr} {es : List Expr} {ca cb cc : CE K T} {ct cu : CT K T} {cas : CA K T} {n : Nat}
theorem d_var {i : Nat} {x : Str} (hN : X.N[i]? = some x := by rfl) (hv : Vis X.env.scope x := by first | exact Or.inl rfl | exact Or.inr (Or.inl rfl) | exact Or.inr (Or.inr rfl)) (hd : (x == ("__debug__" : Str)) = false := by decide)
    (hcd : (x == ("__classdict__" : Str)) = false := by decide) : PE X (.Name x pos) ((CE.var (K := K) (T := T) i).te W) := pe_var hN hv hd hcd
theorem d_int {i : Int} {j : Nat} : PE X (.Constant (.int i) j pos) ((CE.int (K := K) (T := T) i).te W) := pe_int
theorem d_bl {i : Bool} {j : Nat} : PE X (.Constant (.bool i) j pos) ((CE.bl (K := K) (T := T) i).te W) := pe_bl
theorem d_non {j : Nat} : PE X (.Constant .none j pos) ((CE.non (K := K) (T := T)).te W) := pe_non
theorem d_str {i : Str} {j : Nat} : PE X (.Constant (.str i) j pos) ((CE.str (K := K) (T := T) i).te W) := pe_str
/-- a name of the module -/
theorem d_glob {x : Str} {v : V} {d : Dat} {h : ∀ G, Rep K T G v d} {u : Value} (hm : X.mg x = some u) (r : RelV v u) (hg : Gl X x := by rfl) (hd : (x == ("__debug__" : Str)) = false := by decide) : PE X (.Name x pos) ((CE.k v d h).te W) := pe_glob hg hm r hd
theorem d_bin {op : Operator} {o : Op2 K T} (ho : OpR X (binaryOp op) o.r) (ha : PE X a (ca.te W)) (hb : PE X b (cb.te W)) : PE X (.BinOp a op b pos) ((CE.op2 o ca cb).te W) := pe_op ho ha hb
theorem d_un {op : UnaryOp} {o : Op1 K T} (ho : UnR X (unaryOp op) o.r) (ha : PE X a (ca.te W)) : PE X (.UnaryOp op a pos) ((CE.op1 o ca).te W) := by
  show PE X (.UnaryOp op a pos) (tUn o.r (ca.te W))
  exact pe_un ho ha
theorem d_cmp {op : CmpOp} {o : Op2 K T} (ho : OpR X (compareOp op) o.r) (ha : PE X a (ca.te W)) (hb : PE X b (cb.te W)) (hm : behindInMarks op b = false) : PE X (.Compare a [op] [b] pos) ((CE.op2 o ca cb).te W) := pe_cmpR ho ha hb hm
theorem d_cmpT {op : CmpOp} {o : Op2 K T} (ho : OpR X (compareOp op) o.r) (ha : PE X a (ca.te W)) (hb : PE X b (cb.te W)) (hm : behindInMarks op b = false) : PT X (.Compare a [op] [b] pos) ((CT.test (CE.op2 o ca cb)).te W) := pt_cmpR ho ha hb hm
theorem d_chain {op op' : CmpOp} {o o' : Op2 K T} (ho : OpR X (compareOp op) o.r) (ho' : OpR X (compareOp op') o'.r) (ha : PE X a (ca.te W)) (hb : PE X b (cb.te W)) (hc : PE X c (cc.te W)) (hm : lastMarks [op, op'] [b, c] = false := by with_unfolding_all rfl) :
    PE X (.Compare a [op, op'] [b, c] pos) ((CE.chain o o' ca cb cc).te W) := pe_chain ho ho' ha hb hc hm
theorem d_and {rest : List Expr} (ha : PE X a (ca.te W)) (hb : PE X (.BoolOp .And (b :: rest) pos) (cb.te W)) : PE X (.BoolOp .And (a :: b :: rest) pos) ((CE.and ca cb).te W) := pe_and ha hb
theorem d_or {rest : List Expr} (ha : PE X a (ca.te W)) (hb : PE X (.BoolOp .Or (b :: rest) pos) (cb.te W)) : PE X (.BoolOp .Or (a :: b :: rest) pos) ((CE.or ca cb).te W) := pe_or ha hb
theorem d_oneB {op : BoolOp} (ha : PE X a (ca.te W)) : PE X (.BoolOp op [a] pos) (ca.te W) := pe_one ha
theorem d_not (ha : PE X a (ca.te W)) : PE X (.UnaryOp .Not a pos) ((CE.not ca).te W) := pe_not ha
theorem d_ifx (hc : PT X c (ct.te W)) (ha : PE X a (ca.te W)) (hb : PE X b (cb.te W)) : PE X (.IfExp c a b pos) ((CE.ifx ct ca cb).te W) := pe_ifExp hc ha hb
theorem d_andT {rest : List Expr} (ha : PT X a (ct.te W)) (hb : PW X (.BoolOp .And (b :: rest) pos) (cu.te W)) : PW X (.BoolOp .And (a :: b :: rest) pos) ((CT.and ct cu).te W) := pw_and ha hb
theorem d_orT {rest : List Expr} (ha : PT X a (ct.te W)) (hb : PW X (.BoolOp .Or (b :: rest) pos) (cu.te W)) : PW X (.BoolOp .Or (a :: b :: rest) pos) ((CT.or ct cu).te W) := pw_or ha hb
theorem d_and1 (ha : PT X a (ct.te W)) : PW X (.BoolOp .And [a] pos) (ct.te W) := pw_and1 ha
theorem d_or1 (ha : PT X a (ct.te W)) : PW X (.BoolOp .Or [a] pos) (ct.te W) := pw_or1 ha
theorem d_notT (ha : PT X a (ct.te W)) : PT X (.UnaryOp .Not a pos) ((CT.not ct).te W) := pt_not ha
theorem d_val (ha : PE X a (ca.te W)) (he : ∀ whole, isTrue a X.env whole = (do let v ← whole; standAt a.pos; holding [v] (truthy v)) := by intro _; rfl) : PT X a ((CT.b ca).te W) := pt_val ha he
theorem d_anil : PA X [] ((CA.nil : CA K T).te W) := pa_nil
theorem d_acons (ha : PE X e (ca.te W)) (hr : PA X es (cas.te W)) (hs : starEach (e :: es) X.env = (false, eval e X.env) :: starEach es X.env := by rfl) : PA X (e :: es) ((CA.cons ca cas).te W) := pa_cons ha hr hs
theorem d_tup {x1 : Nat} (h : PA X es (cas.te W)) : PE X (.Tuple es x1 pos) ((CE.tup cas).te W) := pe_tup h
theorem d_lst (h : PA X es (cas.te W)) : PE X (.List es pos) ((CO.lst cas).te W) := pe_lst h
theorem d_ce {co : CO K T} (h : PE X e (co.te W)) : PE X e ((CO.ce co).te W) := h
theorem d_ix {o : Op2 K T} (hr : IxR X o.r) (ha : PE X a (ca.te W)) (hb : PE X b (cb.te W)) (hs : PlainIx b := by exact fun _ _ => rfl) : PE X (.Subscript a b pos) ((CE.op2 o ca cb).te W) := pe_ix hr ha hb hs
theorem d_none : PO X none ((CP.none : CP K T).te W) := po_none
theorem d_some (h : PE X e (ca.te W)) : PO X (some e) ((CP.some ca).te W) := po_some h
theorem d_slS {lo hi : Option Expr} {cl cu : CP K T} (ha : PE X a (ca.te W)) (hl : PO X lo (cl.te W)) (hu : PO X hi (cu.te W)) : PE X (.Subscript a (.Slice lo hi none p2) pos) ((CE.slS ca cl cu).te W) := pe_slice sl_str ha hl hu
theorem d_blt {x : Str} {id : String} {o : OpN K T} (hc : CallR X (.builtin id) o.r) (hm : X.mg x = none) (hv : bootBuiltins x = some (.builtin id)) (ha : PA X (e :: es) (cas.te W)) (hg : Gl X x := by rfl) (hn : x ≠ "__name__" := by decide) (hdb : (x == ("__debug__" : Str)) = false := by decide)
    (he : starEach (e :: es) X.env = (false, eval e X.env) :: starEach es X.env := by rfl) (hpl : (backTo pos (starEach es X.env)).any (·.1) = false := by rfl) : PE X (.Call (.Name x p) (e :: es) [] pos) ((CE.opN o cas).te W) := pe_callB hc hg hm hv ha hn hdb he hpl
theorem d_typ {x : Str} {Ty : String} {o : OpN K T} (hc : CallR X (.type Ty) o.r) (hm : X.mg x = none) (hv : bootBuiltins x = some (.type Ty)) (ha : PA X (e :: es) (cas.te W)) (hg : Gl X x := by rfl) (hn : x ≠ "__name__" := by decide) (hdb : (x == ("__debug__" : Str)) = false := by decide)
    (he : starEach (e :: es) X.env = (false, eval e X.env) :: starEach es X.env := by rfl) (hpl : (backTo pos (starEach es X.env)).any (·.1) = false := by rfl) : PE X (.Call (.Name x p) (e :: es) [] pos) ((CE.opN o cas).te W) := pe_callTy hc hg hm hv ha hn hdb he hpl
theorem d_cal {x : Str} {k : Nat} {F : List Dat → Rs Dat} (C : Cal X.prog X.w X.K X.mg X.base x k (spF K T n F)) (tk : L2N.Takes X W) (hr : Room k X.A) (ha : PA X (e :: es) (cas.te W)) (hg : Gl X x := by rfl)
    (hdb : (x == ("__debug__" : Str)) = false := by decide) (he : starEach (e :: es) X.env = (false, eval e X.env) :: starEach es X.env := by rfl) (hpl : (backTo pos (starEach es X.env)).any (·.1) = false := by rfl) :
    PE X (.Call (.Name x p) (e :: es) [] pos) ((CE.fn n F cas).te W) := pe_cal C tk hr ha hg hdb he hpl
theorem d_cal0 {x : Str} {k : Nat} {F : List Dat → Rs Dat} (C : Cal X.prog X.w X.K X.mg X.base x k (spF K T 0 F)) (tk : L2N.Takes X W) (hr : Room k X.A) (hg : Gl X x := by rfl) (hdb : (x == ("__debug__" : Str)) = false := by decide) :
    PE X (.Call (.Name x p) [] [] pos) ((CE.fn (K := K) (T := T) 0 F CA.nil).te W) := pe_cal0 C tk hr hg hdb
theorem d_make {x : Str} {k c m : Nat} {F : Addr → Addr → List Dat → Rs (List (Str × Dat))} {R : List Dat → Rs (List (Str × Dat))} {hF : ∀ x dx ds, R ds ≠ .bad → F x dx ds = R ds} (C : CalI X.prog X.w X.K X.mg X.base x (T c) k (spI K T c m F)) (tk : L2N.Takes X W) (hr : Room (k + 1) X.A) (ha : PA X (e :: es) (cas.te W)) (hg : Gl X x := by rfl)
    (hdb : (x == ("__debug__" : Str)) = false := by decide) (he : starEach (e :: es) X.env = (false, eval e X.env) :: starEach es X.env := by rfl) (hpl : (backTo pos (starEach es X.env)).any (·.1) = false := by rfl) :
    PE X (.Call (.Name x p) (e :: es) [] pos) ((CE.make c m F R hF cas).te W) := pe_calI C tk hr ha hg hdb he hpl
theorem d_meth {pl : Sem Bool} {m : Str} {k c : Nat} {F : List Dat → Rs Dat} (C : CalM X.prog X.w X.K X.mg X.base (T c) m k (spF K T (n + 1) F)) (tk : L2N.Takes X W) (hr : Room k X.A) (ho : PE X a (ca.te W)) (ha : PA X (e :: es) (cas.te W))
    (hst : starEach (e :: es) X.env = (false, eval e X.env) :: starEach es X.env := by rfl) (hpl : (backTo pos (starEach es X.env)).any (·.1) = false := by rfl)
    (ht : eval (.Call (.Attribute a m apos) (e :: es) [] pos) X.env = (do
      let ov ← eval a X.env
      standAt apos.atName
      let (f, first) ← holding [ov] (getMethod ov m pl)
      callWith pos f first (backTo pos (starEach (e :: es) X.env)) (backToKw pos (keywordEach [] X.env))) := by rfl) :
    PE X (.Call (.Attribute a m apos) (e :: es) [] pos) ((CE.meth c m n F ca cas).te W) := pe_calM C tk hr ho ha hst hpl ht
theorem d_meth0 {pl : Sem Bool} {m : Str} {k c : Nat} {F : List Dat → Rs Dat} (C : CalM X.prog X.w X.K X.mg X.base (T c) m k (spF K T 1 F)) (tk : L2N.Takes X W) (hr : Room k X.A) (ho : PE X a (ca.te W))
    (ht : eval (.Call (.Attribute a m apos) [] [] pos) X.env = (do
      let ov ← eval a X.env
      standAt apos.atName
      let (f, first) ← holding [ov] (getMethod ov m pl)
      callWith pos f first (backTo pos (starEach [] X.env)) (backToKw pos (keywordEach [] X.env))) := by rfl) :
    PE X (.Call (.Attribute a m apos) [] [] pos) ((CE.meth c m 0 F ca CA.nil).te W) := pe_calM0 C tk hr ho ht
theorem d_prop {f : Str} {k c : Nat} {F : List Dat → Rs Dat} (C : CalP X.prog X.w X.K X.mg X.base (T c) f k (spF K T 1 F)) (hr : Room (k + 1) X.A) (ho : PE X a (ca.te W)) (hab : attributeBase a f X.env (eval a X.env) = eval a X.env := by rfl) : PE X (.Attribute a f pos) ((CE.prop c F ca).te W) := pe_calP C hr ho hab
theorem d_ownC {op : CmpOp} {k c : Nat} {F : List Dat → Rs Dat} (hop : ∀ a b, compareOp op a b = richCompare op a b) (C : CalO X.prog X.w X.K X.mg X.base (T c) (cmpInfo op).2.1 k (spF K T 2 F)) (tk : L2N.Takes X W) (hr : Room k X.A) (ha : PE X a (ca.te W)) (hb : PE X b (cb.te W)) (hm : behindInMarks op b = false) :
    PE X (.Compare a [op] [b] pos) ((CE.ownC c F ca cb).te W) := pe_calO hop C tk hr ha hb hm
theorem d_ownCT {op : CmpOp} {k c : Nat} {F : List Dat → Rs Dat} (hop : ∀ a b, compareOp op a b = richCompare op a b) (C : CalO X.prog X.w X.K X.mg X.base (T c) (cmpInfo op).2.1 k (spF K T 2 F)) (tk : L2N.Takes X W) (hr : Room k X.A) (ha : PE X a (ca.te W)) (hb : PE X b (cb.te W)) (hm : behindInMarks op b = false) :
    PT X (.Compare a [op] [b] pos) ((CT.test (CE.ownC c F ca cb)).te W) := pt_calO hop C tk hr ha hb hm
theorem d_ret (ha : PE X a (ca.te W)) : PS X (.Return (some a) pos) ((CS.ret ca).ts W) := ps_ret ha
theorem d_retN : PS X (.Return none pos) ((CS.retN : CS K T).ts W) := ps_retN
theorem d_expr (ha : PE X a (ca.te W)) (hs : swapsWith a none pos.line X.env = pure false := by rfl) : PS X (.Expr a pos) ((CS.expr ca).ts W) := ps_expr ha hs
theorem d_if {st su : List Stmt} {sa sb : CS K T} (hc : PT X c (ct.te W)) (ha : PSs X st (sa.ts W)) (hb : PSs X su (sb.ts W)) : PS X (.If c st su pos) ((CS.ifs ct sa sb).ts W) := ps_if hc ha hb
theorem d_for {tg iter : Expr} {st : List Stmt} {ci : CI K T} {g : CG K T} {sa : CS K T} (hp : PassesOwn (model X.prog X.w) X.A X.env X.xe) (hi : PI X tg iter (ci.te W)) (hg : PG X tg g.g) (hb : PSs X st (sa.ts W)) (hc : X.calm = true := by rfl) (hs : ∀ x, foldedSetIterable iter X.env x = pure x := by intro _; rfl) : PS X (.For tg iter st [] pos) ((CS.forS ci g sa).ts W) := ps_for hp hc hi hg hb hs
theorem d_while {st : List Stmt} {sa : CS K T} (hp : PassesOwn (model X.prog X.w) X.A X.env X.xe) (hc : PT X c (ct.te W)) (hb : PSs X st (sa.ts W)) : PS X (.While c st [] pos) ((CS.whileS n ct sa).ts W) := ps_while hp hc hb
theorem d_name {i : Nat} {x : Str} (hN : X.N.Nodup) (hi : X.N[i]? = some x := by rfl) (hx : Loc X.env.scope x := by first | exact Or.inl rfl | exact Or.inr rfl) (hf : X.fn x = true ∨ X.env.scope.names.lookup x = some .local := by first | exact .inl rfl | exact .inr rfl | assumption) : PG X (.Name x pos) (CG.name (K := K) (T := T) i).g := pg_name hN hi hx hf
theorem d_gnil : PGs X [] (CGs.nil : CGs K T).g := pgs_nil
theorem d_gcons {g : CG K T} {gs : CGs K T} {t : Expr} {ts : List Expr} (h : PG X t g.g) (hr : PGs X ts gs.g) (hs : List.map (fun x => x.snd) (assignEach (t :: ts) X.env) = assign t X.env :: List.map (fun x => x.snd) (assignEach ts X.env) := by rfl) : PGs X (t :: ts) (CGs.cons g gs).g := pgs_cons h hr hs
theorem d_gtup {kk : Nat} {gs : CGs X.K T} (hc : X.calm = true) (h : PGs X es gs.g) (hn : (assignEach es X.env).length = n := by rfl) (hst : (assignEach es X.env).findIdx? (·.1) = none := by rfl) : PG X (.Tuple es kk pos) (CG.tup n gs).g := pg_tup hc h hn hst
theorem d_str_ {tg : Expr} (h : PE X e (ca.te W)) : PI X tg e ((CI.str ca).te W) := pi_str h
theorem d_range1 {tg : Expr} (hm : X.mg "range" = none) (ha : PA X [a] (cas.te W)) (hg : Gl X "range" := by rfl) (hs : starEach [a] X.env = [(false, eval a X.env)] := by rfl) : PI X tg (.Call (.Name "range" p) [a] [] pos) ((CI.range1 cas).te W) := pi_range1 hg hm ha hs
theorem d_range2 {tg : Expr} (hm : X.mg "range" = none) (ha : PA X [a, b] (cas.te W)) (hg : Gl X "range" := by rfl) (hs : starEach [a, b] X.env = [(false, eval a X.env), (false, eval b X.env)] := by rfl) (hs2 : starEach [b] X.env = [(false, eval b X.env)] := by rfl) : PI X tg (.Call (.Name "range" p) [a, b] [] pos) ((CI.range2 cas).te W) := pi_range2 hg hm ha hs hs2
theorem d_enumS {elts : List Expr} {kk : Nat} (hm : X.mg "enumerate" = none) (ha : PA X [a] (cas.te W)) (hg : Gl X "enumerate" := by rfl) (hs : starEach [a] X.env = [(false, eval a X.env)] := by rfl) : PI X (.Tuple elts kk tpos) (.Call (.Name "enumerate" p) [a] [] pos) ((CI.enumS cas).te W) := pi_enumS hg hm ha hs
theorem d_yes : PTs X [] ((CT.yes : CT K T).te W) := pts_nil
theorem d_t1 (h : PT X c (ct.te W)) : PTs X [c] (ct.te W) := pts_one h
end
end
section
variable {T : Nat → Addr} {X : Cx} {W : WX} {pos p p' p2 px pt tpos apos : Pos} {a b c e : Expr} {es : List Expr} {ca cb cc : CE X.K T} {ct cu : CT X.K T} {cas : CA X.K T} {n : Nat}
theorem d_lenO {i : Nat} {x : Str} (hm : X.mg "len" = none) (hN : X.N[i]? = some x := by rfl) (hv : Vis X.env.scope x := by first | exact Or.inl rfl | exact Or.inr (Or.inl rfl) | exact Or.inr (Or.inr rfl)) (hd : (x == ("__debug__" : Str)) = false := by decide)
    (hcd : (x == ("__classdict__" : Str)) = false := by decide) (hg : Gl X "len" := by rfl) : PE X (.Call (.Name "len" p) [.Name x p2] [] pos) ((CE.lenO (K := X.K) (T := T) i).te W) :=
  pe_callB call_len_seq hg hm PySem.boot_len (pa_cons (pe_var hN hv hd hcd) pa_nil)
theorem d_ixO {i : Nat} {x : Str} (hb : PE X b (cb.te W)) (hN : X.N[i]? = some x := by rfl) (hv : Vis X.env.scope x := by first | exact Or.inl rfl | exact Or.inr (Or.inl rfl) | exact Or.inr (Or.inr rfl)) (hd : (x == ("__debug__" : Str)) = false := by decide)
    (hcd : (x == ("__classdict__" : Str)) = false := by decide) (hs : PlainIx b := by exact fun _ _ => rfl) : PE X (.Subscript (.Name x p2) b pos) ((CE.ixO i cb).te W) := pe_ix ix_list (pe_var hN hv hd hcd) hb hs
theorem d_slL {lo hi : Option Expr} {cl cu : CP X.K T} (ha : PE X a (ca.te W)) (hl : PO X lo (cl.te W)) (hu : PO X hi (cu.te W)) : PE X (.Subscript a (.Slice lo hi none p2) pos) ((CO.slL ca cl cu).te W) := pe_slice sl_list ha hl hu
theorem d_listOf (hm : X.mg "list" = none) (ha : PA X (e :: es) (cas.te W)) (hg : Gl X "list" := by rfl)
    (he : starEach (e :: es) X.env = (false, eval e X.env) :: starEach es X.env := by rfl) (hpl : (backTo pos (starEach es X.env)).any (·.1) = false := by rfl) : PE X (.Call (.Name "list" p) (e :: es) [] pos) ((CO.listOf cas).te W) := pe_callTy call_list_of hg hm (by decide +kernel) ha (by decide) (by decide) he hpl
theorem d_join (ha : PE X a (ca.te W)) (hb : PE X b (cb.te W)) (hbase : attributeBase a "join" X.env (eval a X.env) = eval a X.env := by rfl)
    (hfew : ((backTo pos (starEach [b] X.env)).all (fun x => !x.1) && (backToKw pos (keywordEach [] X.env)).all (fun x => x.1.isSome) && decide (([b] : List Expr).length + ([] : List Keyword).length + (if ([] : List Keyword).isEmpty then 0 else 1) < 30)) = true := by rfl)
    (hline : (apos.endLine == pos.line) = true := by rfl) (hs : starEach [b] X.env = (false, eval b X.env) :: starEach [] X.env := by rfl) (hplain : (backTo pos (starEach [] X.env)).any (·.1) = false := by rfl) :
    PE X (.Call (.Attribute a "join" apos) [b] [] pos) ((CE.join ca cb).te W) := pe_bm PySem.F.plainAttrs_str PySem.F.slot_str_join PySem.F.type_str_join mt_join ha (pa_cons hb pa_nil hs) hbase hfew hline hs hplain
theorem d_sindex (ha : PE X a (ca.te W)) (hb : PE X b (cb.te W)) (hbase : attributeBase a "index" X.env (eval a X.env) = eval a X.env := by rfl)
    (hfew : ((backTo pos (starEach [b] X.env)).all (fun x => !x.1) && (backToKw pos (keywordEach [] X.env)).all (fun x => x.1.isSome) && decide (([b] : List Expr).length + ([] : List Keyword).length + (if ([] : List Keyword).isEmpty then 0 else 1) < 30)) = true := by rfl)
    (hline : (apos.endLine == pos.line) = true := by rfl) (hs : starEach [b] X.env = (false, eval b X.env) :: starEach [] X.env := by rfl) (hplain : (backTo pos (starEach [] X.env)).any (·.1) = false := by rfl) :
    PE X (.Call (.Attribute a "index" apos) [b] [] pos) ((CE.sindex ca cb).te W) := pe_bm PySem.F.plainAttrs_str PySem.F.slot_str_index PySem.F.type_str_index mt_sindex ha (pa_cons hb pa_nil hs) hbase hfew hline hs hplain
theorem d_app {i : Nat} {x : Str} (he : PE X e (ca.te W)) (hN : X.N[i]? = some x := by rfl) (hv : Vis X.env.scope x := by first | exact Or.inl rfl | exact Or.inr (Or.inl rfl) | exact Or.inr (Or.inr rfl)) (hd : (x == ("__debug__" : Str)) = false := by decide)
    (hcd : (x == ("__classdict__" : Str)) = false := by decide) (hbase : attributeBase (.Name x p2) "append" X.env (eval (.Name x p2) X.env) = eval (.Name x p2) X.env := by rfl)
    (hfew : ((backTo pos (starEach [e] X.env)).all (fun x => !x.1) && (backToKw pos (keywordEach [] X.env)).all (fun x => x.1.isSome) && decide (([e] : List Expr).length + ([] : List Keyword).length + (if ([] : List Keyword).isEmpty then 0 else 1) < 30)) = true := by rfl)
    (hline : (apos.endLine == pos.line) = true := by rfl) (hs : starEach [e] X.env = (false, eval e X.env) :: starEach [] X.env := by rfl) (hplain : (backTo pos (starEach [] X.env)).any (·.1) = false := by rfl) :
    PS X (.Expr (.Call (.Attribute (.Name x p2) "append" apos) [e] [] pos) p') ((CS.app i ca).ts W) := ps_expr (pe_bm PySem.F.plainAttrs_list PySem.F.slot_list_append PySem.F.type_list_append mt_append (pe_var hN hv hd hcd) (pa_cons he pa_nil hs) hbase hfew hline hs hplain)
theorem d_setO {i : Nat} {x : Str} {co : CO X.K T} (hN : X.N.Nodup) (he : PE X a (co.te W)) (hi : X.N[i]? = some x := by rfl) (hx : Loc X.env.scope x := by first | exact Or.inl rfl | exact Or.inr rfl)
    (hs : swapsWith a (some (.Name x px)) pos.line X.env = pure false := by rfl) (hf : X.fn x = true ∨ X.env.scope.names.lookup x = some .local := by first | exact .inl rfl | exact .inr rfl | assumption) : PS X (.Assign [.Name x px] a pos) ((CS.setO i co).ts W) := ps_set hN hi hx he hs hf
theorem d_fldO {i c : Nat} {x f : Str} {hc : Cls X.K (T c)} {hn : NoAttr X.K (T c) f} (hN : X.N[i]? = some x := by rfl) (hv : Vis X.env.scope x := by first | exact Or.inl rfl | exact Or.inr (Or.inl rfl) | exact Or.inr (Or.inr rfl)) (hd : (x == ("__debug__" : Str)) = false := by decide)
    (hcd : (x == ("__classdict__" : Str)) = false := by decide) (hab : attributeBase (.Name x p2) f X.env (eval (.Name x p2) X.env) = eval (.Name x p2) X.env := by rfl) : PE X (.Attribute (.Name x p2) f pos) ((CE.fldO i c f hc hn).te W) := pe_fld (pe_var hN hv hd hcd) hab
theorem d_setF {i c : Nat} {x f : Str} {hc : Cls X.K (T c)} {hn : NoAttr X.K (T c) f} (ha : PE X a (ca.te W)) (hN : X.N[i]? = some x := by rfl) (hv : Vis X.env.scope x := by first | exact Or.inl rfl | exact Or.inr (Or.inl rfl) | exact Or.inr (Or.inr rfl)) (hd : (x == ("__debug__" : Str)) = false := by decide)
    (hcd : (x == ("__classdict__" : Str)) = false := by decide) (hs : swapsWith a (some (.Attribute (.Name x p2) f p')) pos.line X.env = pure false := by rfl) : PS X (.Assign [.Attribute (.Name x p2) f p'] a pos) ((CS.fldO i c f hc hn ca).ts W) := ps_fld (pe_var hN hv hd hcd) ha hs
theorem d_fld {c : Nat} {f : Str} {hc : Cls X.K (T c)} {hn : NoAttr X.K (T c) f} (ha : PE X a (ca.te W)) (hab : attributeBase a f X.env (eval a X.env) = eval a X.env := by rfl) : PE X (.Attribute a f pos) ((CE.fld c f hc hn ca).te W) := pe_fld ha hab
theorem d_list_ {tg : Expr} (h : PE X e (ca.te W)) : PI X tg e ((CI.list ca).te W) := pi_list h
theorem d_tup_ {tg : Expr} (h : PE X e (ca.te W)) : PI X tg e ((CI.tuple ca).te W) := pi_tup h
theorem d_isiB {x : Str} {Ty : String} (hi : X.mg "isinstance" = none) (hm : X.mg x = none) (hv : bootBuiltins x = some (.type Ty)) (ha : PE X a (ca.te W)) (hg : Gl X "isinstance" := by rfl) (hgx : Gl X x := by rfl) (hn : x ≠ "__name__" := by decide) (hd : (x == ("__debug__" : Str)) = false := by decide)
    (hs1 : starEach [a, .Name x p2] X.env = (false, eval a X.env) :: starEach [.Name x p2] X.env := by rfl) (hs2 : starEach [.Name x p2] X.env = (false, eval (.Name x p2) X.env) :: starEach [] X.env := by rfl) (hpl : (backTo pos (starEach [.Name x p2] X.env)).any (·.1) = false := by rfl) :
    PE X (.Call (.Name "isinstance" p) [a, .Name x p2] [] pos) ((CE.isiB Ty ca).te W) := pe_callB call_isi hg hi (by decide +kernel) (pa_cons ha (pa_cons (pe_bltn (v := .ty Ty) hgx hm hv rfl hn hd) pa_nil hs2) hs1) (by decide) (by decide) hs1 hpl
theorem d_isiO {x : Str} {c : Nat} {hc : IsO X.K T c} (hi : X.mg "isinstance" = none) (hm : X.mg x = some (.ref (T c))) (ha : PE X a (ca.te W)) (hg : Gl X "isinstance" := by rfl) (hgx : Gl X x := by rfl) (hd : (x == ("__debug__" : Str)) = false := by decide)
    (hs1 : starEach [a, .Name x p2] X.env = (false, eval a X.env) :: starEach [.Name x p2] X.env := by rfl) (hs2 : starEach [.Name x p2] X.env = (false, eval (.Name x p2) X.env) :: starEach [] X.env := by rfl) (hpl : (backTo pos (starEach [.Name x p2] X.env)).any (·.1) = false := by rfl) :
    PE X (.Call (.Name "isinstance" p) [a, .Name x p2] [] pos) ((CE.isiO c hc ca).te W) := pe_callB call_isi hg hi (by decide +kernel) (pa_cons ha (pa_cons (pe_glob (v := .ref (T c)) hgx hm rfl hd) pa_nil hs2) hs1) (by decide) (by decide) hs1 hpl
theorem d_kd {x : Str} {ad : Addr} {tab : List (Str × Dat)} {h : ∀ z d, tab.lookup z = some d → ∃ v, KDct X.K X.w ad z v ∧ ∀ G, Rep X.K T G v d} (hm : X.mg x = some (.ref ad)) (hb : PE X b (cb.te W)) (hg : Gl X x := by rfl) (hd : (x == ("__debug__" : Str)) = false := by decide) (hs : PlainIx b := by exact fun _ _ => rfl) :
    PE X (.Subscript (.Name x p2) b pos) ((CE.kd X.w tab ad h cb).te W) := pe_ix ix_kdict (pe_glob (v := .ref ad) hg hm rfl hd) hb hs
theorem d_set {i : Nat} {x : Str} (hN : X.N.Nodup) (he : PE X a (ca.te W)) (hi : X.N[i]? = some x := by rfl) (hx : Loc X.env.scope x := by first | exact Or.inl rfl | exact Or.inr rfl)
    (hs : swapsWith a (some (.Name x px)) pos.line X.env = pure false := by rfl) (hf : X.fn x = true ∨ X.env.scope.names.lookup x = some .local := by first | exact .inl rfl | exact .inr rfl | assumption) : PS X (.Assign [.Name x px] a pos) ((CS.set i ca).ts W) := ps_set hN hi hx he hs hf
theorem d_lc {tg iter : Expr} {ifs : List Expr} {scope : Scope} {ci : CI X.K T} {g : CG X.K T} (own : List (Str × Nat)) (ho : own.map (·.2) = g.sl) (hN : X.N.Nodup) (ok : blkC X.N X.env.scope scope own = true) (hi : PI X tg iter (ci.te W))
    (hg : ∀ (s : Shared) (H : Hp) (C : Addr) (cl : List (Str × Addr)) (fp : List Addr), PG (X.blk s H scope (compEnvC scope cl C X.env) fp) tg g.g) (ht : ∀ (s : Shared) (H : Hp) (C : Addr) (cl : List (Str × Addr)) (fp : List Addr), PTs (X.blk s H scope (compEnvC scope cl C X.env) fp) ifs (ct.te W0))
    (he : ∀ (s : Shared) (H : Hp) (C : Addr) (cl : List (Str × Addr)) (fp : List Addr), PE (X.blk s H scope (compEnvC scope cl C X.env) fp) e (ca.te W0)) (hc : X.calm = true := by rfl) (hs : ∀ x, foldedSetIterable iter X.env x = pure x := by intro _; rfl) :
    PE X (.ListComp e [⟨tg, iter, ifs, 0⟩] scope pos) ((CO.lc ci g ct ca).te W) := by
  have h := pe_lc (pos := pos) hc hN hi (blkOk_by ok) hg ht he hs
  rw [ho] at h
  exact h
/-- name = [..] -/
theorem d_setLc {i : Nat} {y : Str} {tg iter : Expr} {ifs : List Expr} {scope : Scope} {ci : CI X.K T} {g : CG X.K T} (own : List (Str × Nat)) (ho : own.map (·.2) = g.sl) (hN : X.N.Nodup) (ok : blkC X.N X.env.scope scope own = true) (hi : PI X tg iter (ci.te W))
    (hg : ∀ (s : Shared) (H : Hp) (C : Addr) (cl : List (Str × Addr)) (fp : List Addr), PG (X.blk s H scope (compEnvC scope cl C X.env) fp) tg g.g) (ht : ∀ (s : Shared) (H : Hp) (C : Addr) (cl : List (Str × Addr)) (fp : List Addr), PTs (X.blk s H scope (compEnvC scope cl C X.env) fp) ifs (ct.te W0))
    (he : ∀ (s : Shared) (H : Hp) (C : Addr) (cl : List (Str × Addr)) (fp : List Addr), PE (X.blk s H scope (compEnvC scope cl C X.env) fp) e (ca.te W0)) (hyi : X.N[i]? = some y := by rfl) (hyl : X.env.scope.names.lookup y = some .local := by rfl) (hc : X.calm = true := by rfl) (hs : ∀ x, foldedSetIterable iter X.env x = pure x := by intro _; rfl)
    (hsw : swapsWith (.ListComp e [⟨tg, iter, ifs, 0⟩] scope p) (some (.Name y px)) pos.line X.env = pure true := by exact sw_true rfl rfl rfl (by decide +kernel)) : PS X (.Assign [.Name y px] (.ListComp e [⟨tg, iter, ifs, 0⟩] scope p) pos) ((CS.set i (CO.ce (CO.lc ci g ct ca))).ts W) := by
  have h := ps_setLc hc hN hyi hyl hsw hi (blkOk_by ok) hg ht he hs
  rw [ho] at h
  exact h
end
end Cz

set_option Elab.async false
set_option linter.all false
set_option maxRecDepth 100000
/-! What each piece evaluates to. -/
namespace Cz
open PySem L2 Evl
section
variable {K : PySem.W.Frag} {T : Nat → Addr}
@[simp] theorem ev_CO_ce (c : CO K T) (Γ : Gam) : (@CO.ce K T c).ev Γ = ((c.ev Γ).bind fun xs => .ok (.lst xs)) := rfl
@[simp] theorem ev_CE_var (i : Nat) (Γ : Gam) : (@CE.var K T i).ev Γ = (match Γ[i]? with | some (.d x) => .ok x | _ => .bad) := rfl
@[simp] theorem ev_CE_k (v : V) (d : Dat) (h : ∀ G, Rep K T G v d) (Γ : Gam) : (@CE.k K T v d h).ev Γ = (.ok d) := rfl
@[simp] theorem ev_CE_op2 (o : Op2 K T) (a b : CE K T) (Γ : Gam) : (@CE.op2 K T o a b).ev Γ = ((a.ev Γ).bind fun x => (b.ev Γ).bind fun y => o.f x y) := rfl
@[simp] theorem ev_CE_op1 (o : Op1 K T) (a : CE K T) (Γ : Gam) : (@CE.op1 K T o a).ev Γ = ((a.ev Γ).bind o.f) := rfl
@[simp] theorem ev_CA_nil (Γ : Gam) : (@CA.nil K T).ev Γ = (.ok []) := rfl
@[simp] theorem ev_CA_cons (a : CE K T) (r : CA K T) (Γ : Gam) : (@CA.cons K T a r).ev Γ = ((a.ev Γ).bind fun x => (r.ev Γ).bind fun xs => .ok (x :: xs)) := rfl
@[simp] theorem ev_CE_opN (o : OpN K T) (a : CA K T) (Γ : Gam) : (@CE.opN K T o a).ev Γ = ((a.ev Γ).bind o.f) := rfl
@[simp] theorem ev_CE_tup (a : CA K T) (Γ : Gam) : (@CE.tup K T a).ev Γ = ((a.ev Γ).bind fun xs => if xs.length ≤ lim then .ok (.tup xs) else .bad) := rfl
@[simp] theorem ev_CO_lst (a : CA K T) (Γ : Gam) : (@CO.lst K T a).ev Γ = ((a.ev Γ).bind fun xs => if xs.length ≤ lim then .ok xs else .bad) := rfl
@[simp] theorem ev_CT_test (a : CE K T) (Γ : Gam) : (@CT.test K T a).ev Γ = ((a.ev Γ).bind fun x => match x with | .bl b => .ok b | _ => .bad) := rfl
@[simp] theorem ev_CT_b (a : CE K T) (Γ : Gam) : (@CT.b K T a).ev Γ = ((a.ev Γ).bind fun x => match x with | .bl b => .ok b | _ => .bad) := rfl
@[simp] theorem ev_CT_and (a b : CT K T) (Γ : Gam) : (@CT.and K T a b).ev Γ = ((a.ev Γ).bind fun x => if x = true then b.ev Γ else .ok false) := rfl
@[simp] theorem ev_CT_or (a b : CT K T) (Γ : Gam) : (@CT.or K T a b).ev Γ = ((a.ev Γ).bind fun x => if x = true then .ok true else b.ev Γ) := rfl
@[simp] theorem ev_CT_not (a : CT K T) (Γ : Gam) : (@CT.not K T a).ev Γ = ((a.ev Γ).bind fun x => .ok (!x)) := rfl
@[simp] theorem ev_CE_and (a b : CE K T) (Γ : Gam) : (@CE.and K T a b).ev Γ = ((a.ev Γ).bind fun x => match x with | .bl c => if c = true then b.ev Γ else .ok (.bl false) | _ => .bad) := rfl
@[simp] theorem ev_CE_or (a b : CE K T) (Γ : Gam) : (@CE.or K T a b).ev Γ = ((a.ev Γ).bind fun x => match x with | .bl c => if c = true then .ok (.bl true) else b.ev Γ | _ => .bad) := rfl
@[simp] theorem ev_CE_not (a : CE K T) (Γ : Gam) : (@CE.not K T a).ev Γ = ((a.ev Γ).bind fun x => match x with | .bl c => .ok (.bl (!c)) | _ => .bad) := rfl
@[simp] theorem ev_CE_ifx (c : CT K T) (a b : CE K T) (Γ : Gam) : (@CE.ifx K T c a b).ev Γ = ((c.ev Γ).bind fun x => if x = true then a.ev Γ else b.ev Γ) := rfl
@[simp] theorem ev_CE_chain (o o' : Op2 K T) (a b c : CE K T) (Γ : Gam) : (@CE.chain K T o o' a b c).ev Γ = ((a.ev Γ).bind fun x => (b.ev Γ).bind fun y => (o.f x y).bind fun z => match z with | .bl k => if k = true then (c.ev Γ).bind fun u => o'.f y u else .ok (.bl false) | _ => .bad) := rfl
@[simp] theorem ev_CP_none (Γ : Gam) : (@CP.none K T).ev Γ = (.ok Option.none) := rfl
@[simp] theorem ev_CP_some (a : CE K T) (Γ : Gam) : (@CP.some K T a).ev Γ = ((a.ev Γ).bind fun x => match x with | .int i => .ok (Option.some i) | _ => .bad) := rfl
@[simp] theorem ev_CG_name (i : Nat) (d : Dat) (Γ : Gam) : (@CG.name K T i).ev d Γ = (some (Γ.set i (.d d))) := rfl
@[simp] theorem ev_CGs_nil (ds : List Dat) (Γ : Gam) : (@CGs.nil K T).ev ds Γ = (match ds with | [] => some Γ | _ => none) := rfl
@[simp] theorem ev_CGs_cons (a : CG K T) (b : CGs K T) (ds : List Dat) (Γ : Gam) : (@CGs.cons K T a b).ev ds Γ = (match ds with | d :: r => (a.ev d Γ).bind fun Γ1 => b.ev r Γ1 | _ => none) := rfl
@[simp] theorem ev_CG_tup (n : Nat) (t : CGs K T) (d : Dat) (Γ : Gam) : (@CG.tup K T n t).ev d Γ = (match d with | .tup ds => if ds.length = n then t.ev ds Γ else none | _ => none) := rfl
@[simp] theorem ev_CS_seq (a b : CS K T) (Γ : Gam) : (@CS.seq K T a b).ev Γ = (match a.ev Γ with | .nx Γ' => b.ev Γ' | r => r) := rfl
@[simp] theorem ev_CS_pass (Γ : Gam) : (@CS.pass K T).ev Γ = (.nx Γ) := rfl
@[simp] theorem ev_CS_brk (Γ : Gam) : (@CS.brk K T).ev Γ = (.bk Γ) := rfl
@[simp] theorem ev_CS_cont (Γ : Gam) : (@CS.cont K T).ev Γ = (.ct Γ) := rfl
@[simp] theorem ev_CS_never (Γ : Gam) : (@CS.never K T).ev Γ = (.bad) := rfl
@[simp] theorem ev_CS_set (i : Nat) (e : CE K T) (Γ : Gam) : (@CS.set K T i e).ev Γ = ((e.ev Γ).st Γ fun d => .nx (Γ.set i (.d d))) := rfl
@[simp] theorem ev_CS_asg (g : CG K T) (e : CE K T) (Γ : Gam) : (@CS.asg K T g e).ev Γ = ((e.ev Γ).st Γ fun d => match g.ev d Γ with | some Γ' => .nx Γ' | none => .bad) := rfl
@[simp] theorem ev_CS_setO (i : Nat) (c : CO K T) (Γ : Gam) : (@CS.setO K T i c).ev Γ = ((c.ev Γ).st Γ fun xs => .nx (Γ.set i (.ol xs))) := rfl
@[simp] theorem ev_CS_ret (e : CE K T) (Γ : Gam) : (@CS.ret K T e).ev Γ = ((e.ev Γ).st Γ fun d => .rt d) := rfl
@[simp] theorem ev_CS_retN (Γ : Gam) : (@CS.retN K T).ev Γ = (.rt .non) := rfl
@[simp] theorem ev_CS_expr (e : CE K T) (Γ : Gam) : (@CS.expr K T e).ev Γ = ((e.ev Γ).st Γ fun _ => .nx Γ) := rfl
@[simp] theorem ev_CS_ifs (c : CT K T) (a b : CS K T) (Γ : Gam) : (@CS.ifs K T c a b).ev Γ = ((c.ev Γ).st Γ fun x => if x = true then a.ev Γ else b.ev Γ) := rfl
@[simp] theorem ev_CS_frz (i : Nat) (a : CS K T) (Γ : Gam) : (@CS.frz K T i a).ev Γ = (match Γ[i]? with | some (.ol xs) => a.ev (Γ.set i (.d (.lst xs))) | some (.od xs) => a.ev (Γ.set i (.d (.dic xs))) | _ => a.ev Γ) := rfl
@[simp] theorem ev_CS_app (i : Nat) (e : CE K T) (Γ : Gam) : (@CS.app K T i e).ev Γ = (match Γ[i]? with | some (.ol xs) => (e.ev Γ).st Γ fun d => if xs.length < lim then .nx (Γ.set i (.ol (xs ++ [d]))) else .bad | _ => .bad) := rfl
@[simp] theorem ev_CS_forS (i : CI K T) (g : CG K T) (b : CS K T) (Γ : Gam) : (@CS.forS K T i g b).ev Γ = ((i.ev Γ).st Γ fun ds => evFor g.ev b.ev ds Γ) := rfl
@[simp] theorem ev_CS_whileS (n : Nat) (c : CT K T) (b : CS K T) (Γ : Gam) : (@CS.whileS K T n c b).ev Γ = (evWhile c.ev b.ev n Γ) := rfl
@[simp] theorem ev_CE_fn (m : Nat) (F : List Dat → Rs Dat) (a : CA K T) (Γ : Gam) : (@CE.fn K T m F a).ev Γ = ((a.ev Γ).bind fun ds => if ds.length = m then F ds else .bad) := rfl
@[simp] theorem ev_CO_lc (i : CI K T) (g : CG K T) (t : CT K T) (e : CE K T) (Γ : Gam) : (@CO.lc K T i g t e).ev Γ = ((i.ev Γ).bind fun ds => if ds.length ≤ lim then evLc g.ev t.ev e.ev (wipeG Γ g.sl) ds else .bad) := rfl
@[simp] theorem ev_CI_list (a : CE K T) (Γ : Gam) : (@CI.list K T a).ev Γ = ((a.ev Γ).bind fun d => match d with | .lst ds => .ok ds | _ => .bad) := rfl
@[simp] theorem ev_CI_tuple (a : CE K T) (Γ : Gam) : (@CI.tuple K T a).ev Γ = ((a.ev Γ).bind fun d => match d with | .tup ds => .ok ds | _ => .bad) := rfl
@[simp] theorem ev_CI_str (a : CE K T) (Γ : Gam) : (@CI.str K T a).ev Γ = ((a.ev Γ).bind fun d => match d with | .str x => .ok (signs x) | _ => .bad) := rfl
@[simp] theorem ev_CI_range1 (a : CA K T) (Γ : Gam) : (@CI.range1 K T a).ev Γ = ((a.ev Γ).bind fun d => match d with | [.int n] => if -(2 ^ 62) ≤ n ∧ n < 2 ^ 62 then .ok (rangeD 0 n.toNat) else .bad | _ => .bad) := rfl
@[simp] theorem ev_CI_range2 (a : CA K T) (Γ : Gam) : (@CI.range2 K T a).ev Γ = ((a.ev Γ).bind fun d => match d with | [.int n, .int m] => if (-(2 ^ 62) ≤ n ∧ n < 2 ^ 62 ∧ -(2 ^ 62) ≤ m ∧ m < 2 ^ 62) then .ok (rangeD n (m - n).toNat) else .bad | _ => .bad) := rfl
@[simp] theorem ev_CE_slS (a : CE K T) (l u : CP K T) (Γ : Gam) : (@CE.slS K T a l u).ev Γ = ((a.ev Γ).bind fun x => (l.ev Γ).bind fun lo => (u.ev Γ).bind fun hi => match x with | .str z => if z.length ≤ lim then .ok (.str (cutS z lo hi)) else .bad | _ => .bad) := rfl
@[simp] theorem ev_CO_slL (a : CE K T) (l u : CP K T) (Γ : Gam) : (@CO.slL K T a l u).ev Γ = ((a.ev Γ).bind fun x => (l.ev Γ).bind fun lo => (u.ev Γ).bind fun hi => match x with | .lst z => .ok (cutD z lo hi) | _ => .bad) := rfl
@[simp] theorem ev_CO_listOf (a : CA K T) (Γ : Gam) : (@CO.listOf K T a).ev Γ = ((a.ev Γ).bind fun as => match as with | [.lst ds] => .ok ds | [.tup ds] => .ok ds | _ => .bad) := rfl
@[simp] theorem ev_CE_join (a b : CE K T) (Γ : Gam) : (@CE.join K T a b).ev Γ = ((a.ev Γ).bind fun x => match x with
    | .str z => (b.ev Γ).bind fun y => match y with
      | .lst ds => match strs? ds with
        | some ys => if (ys.map (·.length)).sum + ys.length * z.length ≤ 16777216 then .ok (.str (Txt.join z ys)) else .bad
        | none => .bad
      | _ => .bad
    | _ => .bad) := rfl
@[simp] theorem ev_CE_sindex (a b : CE K T) (Γ : Gam) : (@CE.sindex K T a b).ev Γ = ((a.ev Γ).bind fun x => match x with
    | .str z => (b.ev Γ).bind fun y => match y with
      | .str u => match Builtin.Str.occurrences z u 0 z.length 1 with
        | i :: _ => .ok (.int (i : Nat))
        | [] => .bad
      | _ => .bad
    | _ => .bad) := rfl
@[simp] theorem ev_CE_fld (c : Nat) (f : Str) (hc : Cls K (T c)) (hn : NoAttr K (T c) f) (a : CE K T) (Γ : Gam) : (@CE.fld K T c f hc hn a).ev Γ = ((a.ev Γ).bind fun x => match x with
    | .ins c' fs => if c' = c then (match fs.lookup f with | some d => .ok d | none => .bad) else .bad
    | _ => .bad) := rfl
@[simp] theorem ev_CE_fldO (i c : Nat) (f : Str) (hc : Cls K (T c)) (hn : NoAttr K (T c) f) (Γ : Gam) : (@CE.fldO K T i c f hc hn).ev Γ = (match Γ[i]? with
    | some (.oi _ _ c' fs) => if c' = c then (match fs.lookup f with | some d => .ok d | none => .bad) else .bad
    | _ => .bad) := rfl
@[simp] theorem ev_CS_fldO (i c : Nat) (f : Str) (hc : Cls K (T c)) (hn : NoAttr K (T c) f) (e : CE K T) (Γ : Gam) : (@CS.fldO K T i c f hc hn e).ev Γ = (match Γ[i]? with
    | some (.oi a dx c' fs) => if c' = c ∧ fs.length < 1000 then (e.ev Γ).st Γ fun d => .nx (Γ.set i (.oi a dx c (putD f d fs))) else .bad
    | _ => .bad) := rfl
@[simp] theorem ev_CE_make (c m : Nat) (F : Addr → Addr → List Dat → Rs (List (Str × Dat))) (R : List Dat → Rs (List (Str × Dat))) (hF : ∀ x dx ds, R ds ≠ .bad → F x dx ds = R ds) (a : CA K T) (Γ : Gam) : (@CE.make K T c m F R hF a).ev Γ = ((a.ev Γ).bind fun ds => if ds.length = m then (R ds).bind fun fs => .ok (.ins c fs) else .bad) := rfl
@[simp] theorem ev_CE_meth (c : Nat) (m : Str) (n : Nat) (F : List Dat → Rs Dat) (o : CE K T) (a : CA K T) (Γ : Gam) : (@CE.meth K T c m n F o a).ev Γ = ((o.ev Γ).bind fun x => match x with
    | .ins c' fs => if c' = c ∧ fs.lookup m = none then (a.ev Γ).bind fun ds => if ds.length = n then F (.ins c fs :: ds) else .bad else .bad
    | _ => .bad) := rfl
@[simp] theorem ev_CE_prop (c : Nat) (F : List Dat → Rs Dat) (o : CE K T) (Γ : Gam) : (@CE.prop K T c F o).ev Γ = ((o.ev Γ).bind fun x => match x with
    | .ins c' fs => if c' = c then (match F [.ins c fs] with | .ok d => .ok d | _ => .bad) else .bad
    | _ => .bad) := rfl
@[simp] theorem ev_CE_ownC (c : Nat) (F : List Dat → Rs Dat) (a b : CE K T) (Γ : Gam) : (@CE.ownC K T c F a b).ev Γ = ((a.ev Γ).bind fun x => (b.ev Γ).bind fun y => match x, y with
    | .ins c1 f1, .ins c2 f2 => if c1 = c ∧ c2 = c then F [.ins c f1, .ins c f2] else .bad
    | _, _ => .bad) := rfl
@[simp] theorem ev_CI_enumS (a : CA K T) (Γ : Gam) : (@CI.enumS K T a).ev Γ = ((a.ev Γ).bind fun d => match d with | [.str x] => .ok (Cz.enumS x) | _ => .bad) := rfl
@[simp] theorem ev_CE_lenO (i : Nat) (Γ : Gam) : (@CE.lenO K T i).ev Γ = (match Γ[i]? with | some (.ol xs) => .ok (.int xs.length) | _ => .bad) := rfl
@[simp] theorem ev_CE_ixO (i : Nat) (e : CE K T) (Γ : Gam) : (@CE.ixO K T i e).ev Γ = (match Γ[i]? with | some (.ol xs) => (e.ev Γ).bind fun j => (match j with | .int j => (match atI xs j with | some d => .ok d | none => .bad) | _ => .bad) | _ => .bad) := rfl
@[simp] theorem ev_CT_yes (Γ : Gam) : (@CT.yes K T).ev Γ = (.ok true) := rfl
@[simp] theorem ev_CE_isiB (n : String) (a : CE K T) (Γ : Gam) : (@CE.isiB K T n a).ev Γ = ((a.ev Γ).bind fun x => match Cz.isiB n x with | some b => .ok (.bl b) | none => .bad) := rfl
@[simp] theorem ev_CE_isiO (c : Nat) (hc : IsO K T c) (a : CE K T) (Γ : Gam) : (@CE.isiO K T c hc a).ev Γ = ((a.ev Γ).bind fun x => match Cz.isiO c x with | some b => .ok (.bl b) | none => .bad) := rfl
@[simp] theorem ev_CE_kd (w : World) (tab : List (Str × Dat)) (a : Addr) (h : ∀ z d, tab.lookup z = some d → ∃ v, KDct K w a z v ∧ ∀ G, Rep K T G v d) (e : CE K T) (Γ : Gam) : (@CE.kd K T w tab a h e).ev Γ = ((e.ev Γ).bind fun x => match x with
    | .str z => (match tab.lookup z with | some d => .ok d | none => .bad)
    | _ => .bad) := rfl
end
end Cz

set_option Elab.async false
set_option linter.all false
set_option maxRecDepth 100000
set_option maxHeartbeats 2000000
/-! Plain facts about what the pieces evaluate to. -/
namespace Cz
open PySem L2

/-! ### loops and comprehensions -/
theorem evFor_inv {g : Dat → Gam → Option Gam} {b : Gam → SRes} (I : Nat → Gam → Prop) : ∀ {ds : List Dat} {k : Nat} {Γ : Gam}, I k Γ →
    (∀ i d Γ, ds[i]? = some d → I (k + i) Γ → ∃ Γ1 Γ2, g d Γ = some Γ1 ∧ (b Γ1 = .nx Γ2 ∨ b Γ1 = .ct Γ2) ∧ I (k + i + 1) Γ2) → ∃ Γ', evFor g b ds Γ = .nx Γ' ∧ I (k + ds.length) Γ'
  | [], k, Γ, h, _ => ⟨Γ, rfl, by simpa using h⟩
  | d :: r, k, Γ, h, hs => by
    obtain ⟨Γ1, Γ2, h1, h2, h3⟩ := hs 0 d Γ (by simp) (by simpa using h)
    obtain ⟨Γ', q1, q2⟩ := evFor_inv (g := g) (b := b) I (ds := r) (k := k + 1) (Γ := Γ2) (by simpa using h3) (fun i d Γ hd hi => by
      have := hs (i + 1) d Γ (by simpa using hd) (by rw [show k + (i + 1) = k + 1 + i by omega]; exact hi)
      rw [show k + (i + 1) + 1 = k + 1 + i + 1 by omega] at this
      exact this)
    refine ⟨Γ', ?_, ?_⟩
    · unfold evFor
      rw [h1]
      rcases h2 with h2 | h2 <;> simp [h2, q1]
    · rw [show k + (d :: r).length = k + 1 + r.length by simp; omega]; exact q2
/-- from the first turn on -/
theorem evFor_inv0 {g : Dat → Gam → Option Gam} {b : Gam → SRes} {ds : List Dat} {Γ : Gam} (I : Nat → Gam → Prop) (h0 : I 0 Γ)
    (hs : ∀ i d Γ, ds[i]? = some d → I i Γ → ∃ Γ1 Γ2, g d Γ = some Γ1 ∧ (b Γ1 = .nx Γ2 ∨ b Γ1 = .ct Γ2) ∧ I (i + 1) Γ2) : ∃ Γ', evFor g b ds Γ = .nx Γ' ∧ I ds.length Γ' := by
  have := evFor_inv (g := g) (b := b) I (ds := ds) (k := 0) (Γ := Γ) h0 (fun i d Γ hd hi => by
    have := hs i d Γ hd (by simpa using hi)
    simpa using this)
  simpa using this
/-- a loop that looks for something: it goes on while ok, each turn leaves a state of the kind I -/
theorem evLc_map {g : Dat → Gam → Option Gam} {t : Gam → Rs Bool} {e : Gam → Rs Dat} {Γ : Gam} (f : Dat → Dat) : ∀ {ds : List Dat}, (∀ d ∈ ds, ∃ Γ1, g d Γ = some Γ1 ∧ t Γ1 = .ok true ∧ e Γ1 = .ok (f d)) → evLc g t e Γ ds = .ok (ds.map f)
  | [], _ => rfl
  | d :: r, h => by
    obtain ⟨Γ1, h1, h2, h3⟩ := h d (by simp)
    have ih := evLc_map (g := g) (t := t) (e := e) (Γ := Γ) f (ds := r) (fun x hx => h x (by simp [hx]))
    unfold evLc
    rw [h1]
    simp [h2, h3, ih]

/-! ### texts as lists of codes -/
def mkS (l : List Nat) : Str := ⟨l.toArray⟩
@[simp] theorem mkS_list (l : List Nat) : (mkS l).cps.toList = l := by simp [mkS]
@[simp] theorem mkS_len (l : List Nat) : (mkS l).length = l.length := by simp [mkS, Str.length]
@[simp] theorem mkS_app (a b : List Nat) : mkS a ++ mkS b = mkS (a ++ b) := by
  show Str.append (mkS a) (mkS b) = _
  simp [Str.append, mkS]
theorem mkS_of (x : Str) : mkS x.cps.toList = x := by
  obtain ⟨⟨l⟩⟩ := x
  rfl
theorem mkS_inj {a b : List Nat} (h : mkS a = mkS b) : a = b := by
  have := congrArg (fun s => s.cps.toList) h
  simpa using this
@[simp] theorem mkS_eq {a b : List Nat} : mkS a = mkS b ↔ a = b := ⟨mkS_inj, fun h => by rw [h]⟩
theorem one_mkS (c : Nat) : (⟨#[c]⟩ : Str) = mkS [c] := rfl
@[simp] theorem signs_mkS (l : List Nat) : signs (mkS l) = l.map fun c => .str (mkS [c]) := by
  unfold signs
  rw [mkS_list]
  rfl
theorem strs_map (f : Nat → Str) : ∀ l : List Nat, strs? (l.map fun c => Dat.str (f c)) = some (l.map f)
  | [] => rfl
  | c :: r => by
    simp only [List.map_cons, strs?, strs_map f r]
    rfl
theorem join_nil : ∀ ps : List (List Nat), Txt.join (mkS []) (ps.map mkS) = mkS ps.flatten
  | [] => by rw [TL.join_eq]; rfl
  | [p] => by rw [TL.join_eq]; simp [Str.join]
  | p :: q :: r => by
    have ih := join_nil (q :: r)
    rw [TL.join_eq] at ih ⊢
    show mkS p ++ mkS [] ++ Str.join (mkS []) ((q :: r).map mkS) = _
    rw [ih]
    simp
theorem flat_ones : ∀ l : List Nat, (l.map fun c => [c]).flatten = l
  | [] => rfl
  | c :: r => by simp [flat_ones r]
theorem join_ones (l : List Nat) : Txt.join (mkS []) (l.map fun c => mkS [c]) = mkS l := by
  have h := join_nil (l.map fun c => [c])
  rw [List.map_map] at h
  rw [flat_ones] at h
  exact h
theorem sum_ones (l : List Nat) : ((l.map fun c => mkS [c]).map (·.length)).sum = l.length := by
  induction l with
  | nil => rfl
  | cons c r ih => simp only [List.map_cons, List.sum_cons, mkS_len, List.length_cons, List.length_nil]; rw [ih]; omega
theorem join_onesF {α : Type} (f : α → Nat) (l : List α) : Txt.join (mkS []) (l.map fun c => mkS [f c]) = mkS (l.map f) := by
  have h := join_ones (l.map f)
  rw [List.map_map] at h
  exact h
theorem sum_onesF {α : Type} (f : α → Nat) (l : List α) : (l.map ((fun x : Str => x.length) ∘ fun c => mkS [f c])).sum = l.length := by
  have h := sum_ones (l.map f)
  rw [List.map_map, List.map_map, List.length_map] at h
  exact h
theorem strs_mapF {α : Type} (f : α → Str) : ∀ l : List α, strs? (l.map fun c => Dat.str (f c)) = some (l.map f)
  | [] => rfl
  | c :: r => by
    simp only [List.map_cons, strs?, strs_mapF f r]
    rfl
/-- slices with natural bounds -/
theorem sIx_none0 (n : Nat) : HT.sIx n 0 none = 0 := rfl
theorem sIx_noneN (n : Nat) : HT.sIx n n none = n := rfl
theorem sIx_int {n d : Nat} {k : Int} (h : 0 ≤ k) : HT.sIx n d (some k) = min k.toNat n := by
  obtain ⟨m, rfl⟩ : ∃ m : Nat, k = (m : Int) := ⟨k.toNat, by omega⟩
  rw [HT.sIx_nat]
  simp
theorem cut_to (l : List Nat) {k : Int} (h : 0 ≤ k) : cutS (mkS l) none (some k) = mkS (l.take k.toNat) := by
  unfold cutS
  rw [mkS_list, mkS_len, sIx_none0, sIx_int h]
  simp only [List.drop_zero, Nat.sub_zero]
  unfold mkS
  congr 1
  congr 1
  by_cases q : k.toNat ≤ l.length
  · rw [Nat.min_eq_left q]
  · rw [Nat.min_eq_right (by omega), List.take_of_length_le (Nat.le_refl _), List.take_of_length_le (by omega)]
theorem cut_from (l : List Nat) {k : Int} (h : 0 ≤ k) : cutS (mkS l) (some k) none = mkS (l.drop k.toNat) := by
  unfold cutS
  rw [mkS_list, mkS_len, sIx_noneN, sIx_int h]
  unfold mkS
  congr 1
  congr 1
  by_cases q : k.toNat ≤ l.length
  · rw [Nat.min_eq_left q, List.take_of_length_le (by simp)]
  · rw [Nat.min_eq_right (by omega), List.drop_of_length_le (Nat.le_refl _), List.drop_of_length_le (by omega)]
    simp
theorem cut_mid (l : List Nat) {i j : Int} (h : 0 ≤ i) (h2 : i ≤ j) : cutS (mkS l) (some i) (some j) = mkS ((l.drop i.toNat).take (j.toNat - i.toNat)) := by
  unfold cutS
  rw [mkS_list, mkS_len, sIx_int h, sIx_int (by omega)]
  unfold mkS
  congr 1
  congr 1
  by_cases q : i.toNat ≤ l.length
  · rw [Nat.min_eq_left q]
    by_cases q2 : j.toNat ≤ l.length
    · rw [Nat.min_eq_left q2]
    · rw [Nat.min_eq_right (by omega), List.take_of_length_le (by simp), List.take_of_length_le (by simp; omega)]
  · have e1 : min i.toNat l.length = l.length := Nat.min_eq_right (by omega)
    rw [e1, List.drop_of_length_le (Nat.le_refl l.length), List.drop_of_length_le (by omega : l.length ≤ i.toNat)]
    simp
theorem atI_int {α : Type} {l : List α} {k : Int} (h : 0 ≤ k) (h2 : k < l.length) : atI l k = l[k.toNat]? := by
  unfold atI ixN
  rw [if_pos h, if_pos h2]
  rfl
theorem atI_nat' {α : Type} {l : List α} {k : Nat} (h2 : k < l.length) : atI l (k : Int) = l[k]? := by
  rw [atI_int (by omega) (by omega)]; simp

/-! ### fates -/
def Fts (l : List Nat) : Prop := ∀ c ∈ l, c = 98 ∨ c = 102 ∨ c = 115 ∨ c = 110
instance (l : List Nat) : Decidable (Fts l) := inferInstanceAs (Decidable (∀ c ∈ l, _))
theorem bfsn_is : ("bfsn" : Str) = mkS [98, 102, 115, 110] := by decide +kernel
theorem empty_is : ("" : Str) = mkS [] := by decide +kernel
theorem mem_bfsn {c : Nat} : c ∈ ([98, 102, 115, 110] : List Nat) ↔ (c = 98 ∨ c = 102 ∨ c = 115 ∨ c = 110) := by simp
def swapC (c : Nat) : Nat := if c = 102 then 115 else if c = 115 then 102 else c
theorem Fts.append {a b : List Nat} (h : Fts a) (h2 : Fts b) : Fts (a ++ b) := fun c m => by
  rcases List.mem_append.mp m with m | m
  · exact h c m
  · exact h2 c m
theorem Fts.take {a : List Nat} (h : Fts a) (n : Nat) : Fts (a.take n) := fun c m => h c (List.mem_of_mem_take m)
theorem Fts.drop {a : List Nat} (h : Fts a) (n : Nat) : Fts (a.drop n) := fun c m => h c (List.mem_of_mem_drop m)

/-! ### the laws' own draws -/
def mixZ (c k : Int) : Int := (c % 1000003 * 7919 + (k + 1) * (k + 3) * 1237) % 1000003
def drawI (c b : Int) (k : Nat) : Int := if 10 ^ 18 ≤ c then c / b ^ k % b else (mixZ c (k : Int) + mixZ c (k : Int) / 1009) % b
def drawsI (c : Int) (n : Nat) (b : Int) : List Int := (List.range n).map (drawI c b)
@[simp] theorem drawsI_len (c : Int) (n : Nat) (b : Int) : (drawsI c n b).length = n := by simp [drawsI]
theorem drawI_range {c b : Int} {k : Nat} (hb : 0 < b) : 0 ≤ drawI c b k ∧ drawI c b k < b := by
  unfold drawI
  split
  · exact ⟨Int.emod_nonneg _ (by omega), Int.emod_lt_of_pos _ hb⟩
  · exact ⟨Int.emod_nonneg _ (by omega), Int.emod_lt_of_pos _ hb⟩
def fateC (d : Int) : Nat := ([98, 102, 115, 110] : List Nat).getD d.toNat 0
def fatesI (c : Int) (n : Nat) : List Nat := (drawsI c n 4).map fateC
@[simp] theorem fatesI_len (c : Int) (n : Nat) : (fatesI c n).length = n := by simp [fatesI]
theorem fateC_mem {d : Int} (h : 0 ≤ d ∧ d < 4) : fateC d = 98 ∨ fateC d = 102 ∨ fateC d = 115 ∨ fateC d = 110 := by
  have : d = 0 ∨ d = 1 ∨ d = 2 ∨ d = 3 := by omega
  rcases this with rfl | rfl | rfl | rfl <;> simp [fateC]
theorem fatesI_fts (c : Int) (n : Nat) : Fts (fatesI c n) := fun x m => by
  unfold fatesI drawsI at m
  simp only [List.mem_map, List.mem_range] at m
  obtain ⟨d, ⟨k, hk, rfl⟩, rfl⟩ := m
  exact fateC_mem (drawI_range (by decide))
/-! ### a script -/
def toInts : List Dat → Option (List Int)
  | [] => some []
  | .int i :: r => (toInts r).map (i :: ·)
  | _ => none
theorem toInts_eq : ∀ {ds : List Dat} {ns : List Int}, toInts ds = some ns → ds = ns.map .int
  | [], ns, h => by simp [toInts] at h; subst h; rfl
  | d :: r, ns, h => by
    cases d with
    | int i =>
      simp only [toInts, Option.map_eq_some_iff] at h
      obtain ⟨q, h1, rfl⟩ := h
      rw [toInts_eq h1]
      rfl
    | _ => simp [toInts] at h
@[simp] theorem toInts_map : ∀ ns : List Int, toInts (ns.map .int) = some ns
  | [] => rfl
  | n :: r => by simp [toInts, toInts_map r]
/-- the law's own end: True at every script of ints -/
def P_lawT : List Dat → Rs Dat
  | [.lst xs] => match toInts xs with
    | some ns => if ns.length ≤ 63 then .ok (.bl true) else .bad
    | none => .bad
  | _ => .bad
theorem P_lawT_inv {ds : List Dat} (h : P_lawT ds ≠ .bad) : ∃ ns : List Int, ds = [.lst (ns.map .int)] ∧ ns.length ≤ 63 ∧ P_lawT ds = .ok (.bl true) := by
  unfold P_lawT at h ⊢
  split at h
  · next xs =>
    split at h
    · next ns hn =>
      split at h
      · next hl => exact ⟨ns, by rw [toInts_eq hn], hl, by simp [hn, hl]⟩
      · exact absurd rfl h
    · exact absurd rfl h
  · exact absurd rfl h
def cellI (ns : List Int) (k : Int) : Int := ns.getD k.toNat 0
theorem cell_map (ns : List Int) (k : Nat) : (ns.map Dat.int).getD k (.int 0) = .int (ns.getD k 0) := by
  rw [List.getD_eq_getElem?_getD, List.getD_eq_getElem?_getD, List.getElem?_map]
  cases ns[k]? <;> rfl
theorem mod_range {a b : Int} (h : 0 < b) : 0 ≤ a % b ∧ a % b < b := ⟨Int.emod_nonneg _ (by omega), Int.emod_lt_of_pos _ h⟩
theorem bfsn_index {c : Nat} (h : c = 98 ∨ c = 102 ∨ c = 115 ∨ c = 110) : ∃ (i : Nat) (r : List Nat), Builtin.Str.occurrences (mkS [98, 102, 115, 110]) (mkS [c]) 0 4 1 = i :: r ∧ i < 4 ∧ ([98, 102, 115, 110] : List Nat)[i]? = some c := by
  rcases h with rfl | rfl | rfl | rfl
  · exact ⟨0, [], by decide +kernel, by decide, rfl⟩
  · exact ⟨1, [], by decide +kernel, by decide, rfl⟩
  · exact ⟨2, [], by decide +kernel, by decide, rfl⟩
  · exact ⟨3, [], by decide +kernel, by decide, rfl⟩
theorem take_eq_self {l : List Nat} {k : Nat} (h : k ≤ l.length) : l.take k = l ↔ k = l.length := by
  constructor
  · intro e
    have := congrArg List.length e
    rw [List.length_take] at this
    omega
  · rintro rfl
    exact List.take_length
theorem bsfn_is : ("bsfn" : Str) = mkS [98, 115, 102, 110] := by decide +kernel
/-- the place of a fate among b, f, s, n -/
def fateN (c : Nat) : Nat := if c = 98 then 0 else if c = 102 then 1 else if c = 115 then 2 else 3
theorem occ_fate {c : Nat} (h : c = 98 ∨ c = 102 ∨ c = 115 ∨ c = 110) : Builtin.Str.occurrences (mkS [98, 102, 115, 110]) (mkS [c]) 0 (mkS [98, 102, 115, 110]).length 1 = [fateN c] := by
  rcases h with rfl | rfl | rfl | rfl <;> decide +kernel
theorem ix_bfsn {i : Int} (h : 0 ≤ i) (h2 : i < 4) : ixS (.str (mkS [98, 102, 115, 110])) (.int i) = .ok (.str (mkS [fateC i])) := by
  have : i = 0 ∨ i = 1 ∨ i = 2 ∨ i = 3 := by omega
  rcases this with rfl | rfl | rfl | rfl <;> rfl
theorem ix_bsfn {c : Nat} (h : c = 98 ∨ c = 102 ∨ c = 115 ∨ c = 110) : ixS (.str (mkS [98, 115, 102, 110])) (.int (fateN c : Nat)) = .ok (.str (mkS [swapC c])) := by
  rcases h with rfl | rfl | rfl | rfl <;> rfl
theorem fateN_lt {c : Nat} : fateN c < 4 := by
  unfold fateN
  split
  · omega
  · split
    · omega
    · split <;> omega
theorem fateC_fateN {c : Nat} (h : c = 98 ∨ c = 102 ∨ c = 115 ∨ c = 110) : fateC (fateN c : Nat) = c := by
  rcases h with rfl | rfl | rfl | rfl <;> rfl
theorem fateC_inj {i j : Int} (h : 0 ≤ i) (h2 : i < 4) (h3 : 0 ≤ j) (h4 : j < 4) (e : fateC i = fateC j) : i = j := by
  have a : i = 0 ∨ i = 1 ∨ i = 2 ∨ i = 3 := by omega
  have b : j = 0 ∨ j = 1 ∨ j = 2 ∨ j = 3 := by omega
  rcases a with rfl | rfl | rfl | rfl <;> rcases b with rfl | rfl | rfl | rfl <;> first | rfl | exact absurd e (by decide)
theorem fateC_ok {i : Int} (h : 0 ≤ i) (h2 : i < 4) : fateC i = 98 ∨ fateC i = 102 ∨ fateC i = 115 ∨ fateC i = 110 := by
  have a : i = 0 ∨ i = 1 ∨ i = 2 ∨ i = 3 := by omega
  rcases a with rfl | rfl | rfl | rfl <;> decide
theorem ix_mkS (l : List Nat) {k : Int} (h : 0 ≤ k) (h2 : k < l.length) (h3 : l.length ≤ lim) : ixS (.str (mkS l)) (.int k) = .ok (.str (mkS [l.getD k.toNat 0])) := by
  have e : l[k.toNat]? = some (l.getD k.toNat 0) := by
    rw [List.getD_eq_getElem?_getD, List.getElem?_eq_getElem (by omega)]
    rfl
  unfold ixS
  simp only [mkS_list, atI_int h h2, e, mkS_len, h3, if_true]
  rfl
section
variable {K : PySem.W.Frag} {T : Nat → Addr}
@[simp] theorem sl_name (i : Nat) : (CG.name i : CG K T).sl = [i] := rfl
@[simp] theorem sl_nil : (CGs.nil : CGs K T).sl = [] := rfl
@[simp] theorem sl_cons (a : CG K T) (b : CGs K T) : (CGs.cons a b).sl = a.sl ++ b.sl := rfl
@[simp] theorem sl_tup (n : Nat) (t : CGs K T) : (CG.tup n t).sl = t.sl := rfl
@[simp] theorem f_ints {gv : Int → Int → V} {g : Int → Int → Dat} {h : ∀ G i j, Rep K T G (gv i j) (g i j)} (i j : Int) : (Op2.ints gv g h).f (.int i) (.int j) = .ok (g i j) := rfl
@[simp] theorem f_intsC {C : Int → Int → Prop} {c : Int → Int → Bool} {hc : ∀ i j, c i j = true → C i j} {gv : Int → Int → V} {g : Int → Int → Dat} {h : ∀ G i j, Rep K T G (gv i j) (g i j)} (i j : Int) : (Op2.intsC C c hc gv g h).f (.int i) (.int j) = if c i j = true then .ok (g i j) else .bad := rfl
@[simp] theorem f_neg (i : Int) : (@oNeg K T).f (.int i) = .ok (.int (-i)) := rfl
@[simp] theorem f_eq (a b : Dat) : (@oEq K T).f a b = (eqS a b).bind fun k => .ok (.bl k) := rfl
@[simp] theorem f_ne (a b : Dat) : (@oNe K T).f a b = (eqS a b).bind fun k => .ok (.bl (!k)) := rfl
@[simp] theorem eqS_int (i j : Int) : eqS (.int i) (.int j) = .ok (decide (i = j)) := rfl
@[simp] theorem eqS_str (i j : Str) : eqS (.str i) (.str j) = .ok (decide (i = j)) := rfl
@[simp] theorem eqS_bl (i j : Bool) : eqS (.bl i) (.bl j) = .ok (decide (i = j)) := rfl
@[simp] theorem f_eqD (a b : Dat) : (@oEqD K T).f a b = (eqD a b).bind fun k => .ok (.bl k) := rfl
@[simp] theorem f_neD (a b : Dat) : (@oNeD K T).f a b = (eqD a b).bind fun k => .ok (.bl (!k)) := rfl
@[simp] theorem f_isN (a : Dat) : (@oIsN K T).f a .non = .ok (.bl (isN a)) := rfl
@[simp] theorem f_notN (a : Dat) : (@oNotN K T).f a .non = .ok (.bl (!isN a)) := rfl
@[simp] theorem f_isB (p q : Bool) : (@oIsB K T).f (.bl p) (.bl q) = .ok (.bl (decide (p = q))) := rfl
@[simp] theorem f_notB (p q : Bool) : (@oNotB K T).f (.bl p) (.bl q) = .ok (.bl (!decide (p = q))) := rfl
@[simp] theorem f_addS (x y : Str) : (@oAddS K T).f (.str x) (.str y) = if x.length + y.length ≤ lim then .ok (.str (x ++ y)) else .bad := rfl
@[simp] theorem f_inS (c : Nat) (y : Str) : (@oInS K T).f (.str (mkS [c])) (.str y) = .ok (.bl (decide (c ∈ y.cps.toList))) := rfl
@[simp] theorem f_notInS (c : Nat) (y : Str) : (@oNotInS K T).f (.str (mkS [c])) (.str y) = .ok (.bl (!decide (c ∈ y.cps.toList))) := rfl
@[simp] theorem f_in (neg : Bool) (a b : Dat) : (@oIn K T neg).f a b = (inQ a b).bind fun k => .ok (.bl (if neg then !k else k)) := rfl
@[simp] theorem f_ixL (a b : Dat) : (@oIxL K T).f a b = ixL a b := rfl
@[simp] theorem f_ixT (a b : Dat) : (@oIxT K T).f a b = ixT a b := rfl
@[simp] theorem f_ixS (a b : Dat) : (@oIxS K T).f a b = ixS a b := rfl
@[simp] theorem f_int (i : Int) : (@oInt K T).f [.int i] = .ok (.int i) := rfl
@[simp] theorem f_lenL (ds : List Dat) : (@oLenQ K T).f [.lst ds] = .ok (.int ds.length) := rfl
@[simp] theorem f_lenT (ds : List Dat) : (@oLenQ K T).f [.tup ds] = .ok (.int ds.length) := rfl
@[simp] theorem f_lenS (z : Str) : (@oLenS K T).f [.str z] = if z.length ≤ lim then .ok (.int z.length) else .bad := rfl
@[simp] theorem f_tupL (ds : List Dat) : (@oTupL K T).f [.lst ds] = .ok (.tup ds) := rfl
@[simp] theorem f_tupT (ds : List Dat) : (@oTupL K T).f [.tup ds] = .ok (.tup ds) := rfl
@[simp] theorem f_strI (i : Int) : (@oStrI K T).f [.int i] = if i.natAbs.log2 < 1920 then .ok (.str (toString i)) else .bad := rfl
end
end Cz

set_option Elab.async false
set_option linter.all false
set_option maxRecDepth 100000
set_option maxHeartbeats 4000000
/-! An own exception whose __init__ begins super().__init__(..). -/
namespace Cz
open PySem PySem.W PySem.Spec PySem.Calls PyProof.Rows L2 NdefX
section
variable {X : Cx} {pins : List (Addr × Obj)} {σ : L2.St} {H : Hp} {s : Shared} {a C u : Addr}
/-- the bound ValueError.__init__ is called -/
theorem mwinit_ok {us : List Value} {Q : Value → Shared → Prop} {E : Value → Shared → Prop} (T : OexC X.K C) (I : Inv X pins σ H s) (hu : s.heap.get? u = some (kxs_mw "ValueError.__init__" a)) (e : H a = some (exo a C none)) (hl : us.length ≤ sizeLine)
    (h : ∀ s', Inv X pins σ H s' → Q .none s') : wpAny (model X.prog X.w) X.A (call (.ref u) us) Q E s := by
  obtain ⟨nm, q, N, bs, bm, sn, sub, ab, col, dd, k0, k1, k2, k3, k5, hC, hbm⟩ := T.cls
  obtain ⟨t1, ho⟩ := exo_at I.hok e
  obtain ⟨hp, g, d, t, os⟩ := s
  have fin : ∀ h', (∀ b o, b ≠ a → hp.get? b = some o → h'.get? b = some o) → h'.get? a = some (excObj C hp.objs.size none .none) → h'.get? hp.objs.size = some (excTup us) → Q .none ⟨h', g, d, t, os⟩ := fun h' k hx _ => by
    have J := I.write (t' := t) (x := a) (e := a) (o := exo a C none) (by rw [e]; exact True.intro) (.inl rfl) k ⟨_, hx⟩ (exo_ok hx)
    have eu : upd H a (exo a C none) = H := by
      funext b
      by_cases hb : b = a
      · rw [hb, upd_same, e]
      · rw [upd_ne hb]
    rw [eu] at J
    exact h _ J
  refine wpAny_call (codeAny_of_tree ?_)
  show wpAny _ X.A.in1 (callAny (.ref u) ⟨us, []⟩) _ _ _
  simp only [callAny]
  refine wpAny_bind (wpAny_load hu ?_)
  simp only [kxs_mw, show (Value.type "method-wrapper" == Value.type "method" || Value.type "method-wrapper" == Value.type "builtin_function_or_method" || Value.type "method-wrapper" == Value.type "method-wrapper") = true by decide, if_true]
  refine KFB.if_so (by decide) ?_
  refine wpAny_bind (check_bound_init F.excBase_ValueError.toExcCallFacts (I.kIn _ _ hC) ho rfl ?_)
  refine wpAny_bind (wpAny_pure (wpAny_pure ?_))
  refine ⟨plainId_quiet F.excBase_ValueError.init.plain _, codeAny_builtin F.excBase_ValueError.initEntry ?_⟩
  exact exc_init_tree (cls := .ref C) (t0 := t1) (dv := none) (c2 := .none) (c3 := .none) (b4 := .bool false) ho hl fin
end

/-- what is known of an own exception's __init__: F at f, its cell __class__ at cc; C the class -/
structure SupF (P : Program) (K : PySem.W.Frag) (mg : Str → Option Value) (F : NF) (f cc C : Addr) : Prop where
  lk : ∃ oc od sl doc pm ctv, K.lookup f = some ⟨oc, od, .func (F.fd doc pm ctv), sl⟩
  cd : codeIn K (.ref F.c) F.qual = true
  cl : F.cl = [(("__class__" : Str), cc)]
  cell : ∃ x y z, K.lookup cc = some ⟨x, y, .cell (some (.ref C)), z⟩
  code : ∃ x y vs z file tf, K.lookup F.c = some ⟨x, y, .fields vs, z⟩ ∧ vs[2]? = some (.str file tf) ∧ ((P.main.file : Str) == file) = true
  sup : ks_superIn K C C "__init__" = some (some (.builtin "ValueError.__init__"))
  subC : mroIn K C (.ref C) = some true
  subV : subIn K (.ref C) (.type "ValueError") = some true
  opq : nsIn K cStatics "thirdparty.any" = some none
  msup : mg "super" = none
  top : (P.main.scope.names.lookup ("super" : Str)).isSome = false

section
variable {X : Cx} {pins : List (Addr × Obj)} {σ : L2.St} {H : Hp} {s : Shared} {a C f cc : Addr} {F : NF} {body : List Stmt} {p0 p1 p2 p3 p4 : Pos} {e : Expr} {es : List Expr} {ta : TA} {ar : Arg} {q : Hp → Prop}
theorem wp_super (T : OexC X.K C) (S : SupF X.prog X.K X.mg F f cc C) (I : Inv X pins σ H s) (ha : PA X (e :: es) ta)
    (hN : X.N[0]? = some ar.arg) (hσ : σ[0]? = some (some (.ref a))) (hx : H a = some (exo a C none))
    (henv : X.env.cells = F.cl) (hfu : X.env.func = some f) (hco : X.env.code = .ref F.c) (hpar : (F.params.posonlyargs ++ F.params.args).head? = some ar)
    (hks : X.env.kindOf "super" = some .globalImplicit) (hkc : X.env.kindOf "__class__" = some .free) (hka : X.env.kindOf ar.arg = some .local)
    (hi : interactive X.env = false) (hs : swapsWith (.Call (.Attribute (.Call (.Name "super" p0) [] [] p1) "__init__" p2) (e :: es) [] p3) none p4.line X.env = pure false)
    (he : ∃ pl : Sem Bool, eval (.Call (.Attribute (.Call (.Name "super" p0) [] [] p1) "__init__" p2) (e :: es) [] p3) X.env = (do
      let ov ← attributeBase (.Call (.Name "super" p0) [] [] p1) "__init__" X.env (eval (.Call (.Name "super" p0) [] [] p1) X.env)
      standAt p2.atName
      let (f, first) ← holding [ov] (getMethod ov "__init__" pl)
      callWith p3 f first (backTo p3 (starEach (e :: es) X.env)) []))
    (hst : starEach (e :: es) X.env = (false, eval e X.env) :: starEach es X.env) (hpl : (backTo p3 (starEach es X.env)).any (·.1) = false)
    (h : ta σ H fun vs H1 => vs.length ≤ 1000 ∧ H1 a = some (exo a C none) ∧ q H1) :
    _root_.PySem.wpAt (model X.prog X.w) X.A (.func body X.env) (exec (.Expr (.Call (.Attribute (.Call (.Name "super" p0) [] [] p1) "__init__" p2) (e :: es) [] p3) p4) X.env) (fun fl s' => fl = .next ∧ ∃ H', Inv X pins σ H' s' ∧ q H') X.xe s := by
  obtain ⟨oc, od, sl, doc, pm, ctv, lk⟩ := S.lk
  obtain ⟨cx, cy, cz, hcell⟩ := S.cell
  obtain ⟨dx, dy, vs, dz, file, tf, hcode, hvs, hfile⟩ := S.code
  obtain ⟨nm, qq, N, bs, bm, sn, sub, ab, col, dd, k0, k1, k2, k3, k5, hC, hbm⟩ := T.cls
  have KX := I.kIn
  obtain ⟨pl, he⟩ := he
  obtain ⟨mb, hb1, hb2⟩ := I.mod.blt
  obtain ⟨m, hn, hl⟩ := I.loc
  obtain ⟨u, ru, lu⟩ := hl 0 ar.arg (.ref a) hN hσ (.inl hka)
  obtain rfl : u = Value.ref a := ru
  have hm : m ar.arg = some (.ref a) := by
    rcases lu with ⟨_, z⟩ | ⟨z, _⟩
    · exact z
    · rw [hka] at z
      rcases z with z | z <;> cases z
  obtain ⟨t1, ho⟩ := exo_at I.hok hx
  have haC : a ≠ C := fun z => by
    have := KX _ _ hC
    rw [← z, ho] at this
    cases this
  refine ks_wpAt_Expr_any (ks_wpAt_MethodCall (pl := pl) ?_ he) hi hs
  refine ks_wpAt_super_base hks hkc (by decide) hfu (KX _ _ lk) rfl hpar hco (KX _ _ hcode) rfl hvs hfile S.top ?_
  refine ks_loadName_global I.ok.kind hks (Calls.loadGlobal_builtin (by rw [I.ok.glob]; exact I.mod.glob.keeps I.bk) S.msup (by rw [I.ok.blt]; exact hb1.keeps I.bk) ((hb2 _ (by decide)).trans PyProof.Rows.Boot.«super») ⟨rfl, ?_⟩)
  refine wpAny_loadName_free I.ok.kind hkc (by rw [henv, S.cl]; rfl) ⟨_, KX _ _ hcell, rfl⟩ ?_
  refine wpAny_loadName_local I.ok.kind hka hn hm ?_
  refine ks_wpAny_isType_cls (KX _ _ hC) rfl ⟨rfl, ?_⟩
  obtain ⟨hp, g, d, t, os⟩ := s
  refine ks_wpAny_call_super (KX _ _ hC) rfl ho rfl (fun c z => by cases z) (looks_mroIn KX S.subC) fun h' eso k => ?_
  have I1 : Inv X pins σ H ⟨h', g, d, t, os⟩ := I.kept (t' := t) k
  have KX1 := I1.kIn
  have hcl : clsIn X.K C = some { name := nm, bases := bs, mro := .ref C :: bm, ns := N, qualname := qq, hasDict := true, slotNames := sn, subclasses := sub, abstract := ab, collection := col, hasDel := false } := by unfold clsIn; rw [hC] <;> rfl
  have hsup := S.sup
  unfold ks_superIn at hsup
  rw [hcl] at hsup
  have ho1 : h'.get? a = some _ := k _ _ ho
  refine kxs_getMethod kxs_ValueError eso (looks_opaque KX1 S.opq) (l₀ := .ref C :: bm) ?_ rfl KX1 hsup (InstAt.type (od := none) ⟨ho1, rfl, rfl, trivial⟩ |>.andThen (looks_subIn KX1 S.subV)) haC (by decide) ?_
  · exact fun A Q E s k q => wpAny_bind ((looks_clsIn KX1 hcl) A _ E s k (wpAny_pure q))
  have I2 : Inv X ((h'.objs.size, kxs_mw "ValueError.__init__" a) :: pins) σ H ⟨h'.push (kxs_mw "ValueError.__init__" a), g, d, t + 1, os⟩ :=
    ClX.pin_new (s := ⟨h', g, d, t, os⟩) (t' := t + 1) I1 (fun b o z => Heap.get?_push_of_some _ z) (Nat.le_refl _) (Heap.get?_push_at rfl rfl) (fun v z => nomatch z)
  rw [hst]
  refine kxs_callWith (i := "ValueError.__init__") (x := a) (by show (false || _) = false; exact hpl) ?_
  have key := thn (Q' := fun us s1 => s1.heap.get? h'.objs.size = some (kxs_mw "ValueError.__init__" a) ∧ wpAny (model X.prog X.w) X.A (call (.ref h'.objs.size) us) (fun _ s' => Flow.next = Flow.next ∧ ∃ H', L2.Inv X pins σ H' s' ∧ q H') X.xe s1)
    (ha.run p3 _ _ σ H _ I2 h) fun us s3 ⟨vs', H1, I3, rv, hz, e1, q1⟩ => ⟨ClX.pin_at I3, mwinit_ok T (ClX.unpin I3) (ClX.pin_at I3) e1 (by rw [← Paired.length rv, sizeLine_eq]; omega) fun s' J => ⟨rfl, H1, J, q1⟩⟩
  rw [hst] at key
  exact evalArgs_plain key
end

/-- a def that closes over __class__, by its body, run as the activation that it is -/
theorem fn_ofS {CX : CXT} {P : Program} {w : World} {K : PySem.W.Frag} {mg : Str → Option Value} {base : Heap} {k : Nat} {f cc C : Addr} {F : NF} {oc doc pm ctv : Value} {od : Option Addr} {sl : Array (Option Value)} {N ps : List Str} {sp : Sp}
    (lk : K.lookup f = some ⟨oc, od, .func (F.fd doc pm ctv), sl⟩) (S : SupF P K mg F f cc C) (hS : NScope N ps ["__class__"] F.scope) (len : ∀ vs H Q E, sp vs H Q E → vs.length = ps.length)
    (hbody : ∀ (A : Around) (outer : List Env) (s s1 : Shared) (H : Hp) (vs : List V) (Q : VK) (E : XK), Room k (A.deeper (envF F f s.heap.objs.size)) → sp vs H Q E → L2.Inv (ncx CX P w K mg base N F f A outer s H E) [] (startF N vs [some (.ref C)]) H s1 →
      _root_.PySem.wpAt (model P w) (A.deeper (envF F f s.heap.objs.size)) (.func F.body (envF F f s.heap.objs.size)) (execs F.body (envF F f s.heap.objs.size)) (SP (ncx CX P w K mg base N F f A outer s H E) [] { nx := fun _ H' => Q .non H', rt := Q }) (ncx CX P w K mg base N F f A outer s H E).xe s1) :
    FnOk P w K mg base CX (k + 1) f (F.fd doc pm ctv) ps sp := by
  refine ⟨len, fun A outer s H args us vs Q E hr e0 hb r hsp => ?_⟩
  have hl := len _ _ _ _ hsp
  have KX : K.In s.heap := e0.mod.kin.keeps fun b o e => (e0.bs b o e).1
  have lim : s.heap.NoLimit := e0.mod.nolimit.keeps fun b o e => (e0.bs b o e).1
  obtain ⟨cx, cy, cz, hcell⟩ := S.cell
  have hbc := e0.bs _ _ (e0.mod.kin _ _ hcell)
  have C0 : CellsAt F.cl ["__class__"] [some (.ref C)] s.heap H := by
    rw [S.cl]
    have key : ∀ {y : Str} {c : Addr}, [(("__class__" : Str), cc)].lookup y = some c → c = cc := fun {y c} h => by
      simp only [List.lookup] at h
      split at h
      · cases h
        rfl
      · cases h
    refine ⟨rfl, fun y c h => ?_, fun x y c h1 h2 => ?_, fun i y h => ?_⟩
    · rw [key h]
      exact ⟨hbc.2, _, _, hbc.1, rfl⟩
    · have one : ∀ {y : Str}, [(("__class__" : Str), cc)].lookup y = some c → y = "__class__" := fun {y} h => by
        simp only [List.lookup] at h
        split at h
        · next e => exact by simpa using e
        · cases h
      rw [one h1, one h2]
    · cases i with
      | zero =>
        obtain rfl : ("__class__" : Str) = y := Option.some.inj h
        refine ⟨cc, rfl, fun v hv => ?_⟩
        obtain rfl : V.ref C = v := Option.some.inj (Option.some.inj hv)
        exact ⟨_, rfl, _, hbc.1, rfl⟩
      | succ i => cases h
  refine codeAny_call_function hr.depth (KX _ _ lk) rfl hS.co hS.gen rfl (codeRec_of KX S.cd) (hb _ _ _ _ ?_)
  refine wpAny_newFunctionEnv hS.nocell (fun ⟨n, _⟩ hy => hS.par n (List.of_mem_zip hy).1) (fun h₁ hns hsb => ⟨lim.fresh _ hsb, ?_⟩) hS.kind
  show codeAny _ _ (.func F.body (envF F f s.heap.objs.size)) _ _
  refine ks_codeAny_funcAt ?_
  have kp : ∀ b o, s.heap.get? b = some o → h₁.get? b = some o := fun b o e => hsb.extBut b o (Nat.ne_of_lt (Heap.lt_size e)) (Heap.get?_push_of_some _ e)
  have I : L2.Inv (ncx CX P w K mg base N F f A outer s H E) [] (startF N vs [some (.ref C)]) H { s with heap := h₁, toks := s.toks + (ps.zip us).length } := inv_startN hS hr.hd e0 hl r C0 hns kp
  refine ks_wpAt_mono (hbody A outer s _ H vs Q E (hr.deeper _) hsp I) (fun fl s' hs => ?_) fun e s' hs => hs
  have fin : ∀ {σ' : L2.St} {H' : Hp} {v : V} {u : Value}, L2.Inv (ncx CX P w K mg base N F f A outer s H E) [] σ' H' s' → L2.RelV v u → Q v H' → L2.CE outer P w H s Q u s' :=
    fun {σ' H' v u} J rv q => ⟨v, H', J.os, J.bare, J.base, J.hok, rv, q⟩
  cases fl with
  | ret u =>
    obtain ⟨v, σ', H', J, rv, q⟩ := hs
    exact fin J rv q
  | next =>
    obtain ⟨σ', H', J, q⟩ := hs
    exact fin (v := V.non) (u := Value.none) J rfl q
  | brk =>
    obtain ⟨_, _, _, q⟩ := hs
    exact False.elim q
  | cont =>
    obtain ⟨_, _, _, q⟩ := hs
    exact False.elim q

/-- what is written into the message: a short text or an int -/
def fitV : V → Prop := fun v => (∃ z, v = .str z ∧ z.length ≤ 90000) ∨ ∃ i : Int, v = .int i ∧ i.natAbs.log2 < 1920
/-- __init__ of an own exception with one field -/
def spX (C : Addr) (fld : Str) : Sp := fun vs H Q _ => ∃ a y, vs = [.ref a, y] ∧ H a = some (exo a C none) ∧ fitV y ∧ ∀ dx, H dx = none → dx ≠ a → Q .non (upd (upd H dx (exd dx [(fld, y)])) a (exo a C (some dx)))
theorem ok_sup {P : Program} {w : World} {K : PySem.W.Frag} {mg : Str → Option Value} {base : Heap} {f cc C : Addr} {F : NF} {oc doc pm ctv : Value} {od : Option Addr} {sl : Array (Option Value)} {at_ fld pre : Str} {sf : Arg}
    {p0 p1 p2 p3 p4 pc pn pn2 pf pj q1 q2 q3 : Pos} {j : Nat}
    (lk : K.lookup f = some ⟨oc, od, .func (F.fd doc pm ctv), sl⟩) (T : OexC K C) (S : SupF P K mg F f cc C) (hS : NScope ["self", at_, "__class__"] ["self", at_] ["__class__"] F.scope)
    (hno : findIn K (.ref C) fld = some none) (hpre : pre.length ≤ 1000) (hsf : (F.params.posonlyargs ++ F.params.args).head? = some sf) (hsn : sf.arg = "self") (hsup : F.scope.names.lookup ("super" : Str) = some NameKind.globalImplicit) (hd1 : (at_ == ("__debug__" : Str)) = false) (hd2 : (at_ == ("__classdict__" : Str)) = false)
    (hb : F.body = [.Expr (.Call (.Attribute (.Call (.Name "super" p0) [] [] p1) "__init__" p2) [.JoinedStr [.Constant (.str pre) j pc, .FormattedValue (.Name at_ pn) (-1) none pf] pj] [] p3) p4,
      .Assign [.Attribute (.Name "self" q1) fld q2] (.Name at_ pn2) q3])
    {pl : Env → Sem Bool} (he : ∀ env : Env, eval (.Call (.Attribute (.Call (.Name "super" p0) [] [] p1) "__init__" p2) [.JoinedStr [.Constant (.str pre) j pc, .FormattedValue (.Name at_ pn) (-1) none pf] pj] [] p3) env = (do
      let ov ← attributeBase (.Call (.Name "super" p0) [] [] p1) "__init__" env (eval (.Call (.Name "super" p0) [] [] p1) env)
      standAt p2.atName
      let (f, first) ← holding [ov] (getMethod ov "__init__" (pl env))
      callWith p3 f first (backTo p3 (starEach [.JoinedStr [.Constant (.str pre) j pc, .FormattedValue (.Name at_ pn) (-1) none pf] pj] env)) [])) :
    FnOk P w K mg base (L2N.CX P w) 1 f (F.fd doc pm ctv) ["self", at_] (spX C fld) := by
  refine fn_ofS (k := 0) (N := ["self", at_, "__class__"]) lk S hS (fun vs H Q E h => ?_) fun A outer s s1 H vs Q E hr h I => ?_
  · obtain ⟨a, y, rfl, _⟩ := h
    rfl
  · obtain ⟨a, y, rfl, ea, hf, k⟩ := h
    rw [hb]
    have hN0 : (ncx (L2N.CX P w) P w K mg base ["self", at_, "__class__"] F f A outer s H E).N[0]? = some sf.arg := by rw [hsn]; rfl
    have e1 : PE (ncx (L2N.CX P w) P w K mg base ["self", at_, "__class__"] F f A outer s H E) (.Name "self" q1) (tVar 0) := pe_var rfl (Or.inl (hS.par _ (List.mem_cons_self ..)))
    have e2 : ∀ pz, PE (ncx (L2N.CX P w) P w K mg base ["self", at_, "__class__"] F f A outer s H E) (.Name at_ pz) (tVar 1) := fun pz => pe_var rfl (Or.inl (hS.par _ (List.mem_cons_of_mem _ (List.mem_cons_self ..)))) hd1 hd2
    have ha : PA (ncx (L2N.CX P w) P w K mg base ["self", at_, "__class__"] F f A outer s H E) [.JoinedStr [.Constant (.str pre) j pc, .FormattedValue (.Name at_ pn) (-1) none pf] pj] _ := pa_cons (pe_joined (.cons pe_str (.cons (pe_fmt (e2 pn)) .nil))) pa_nil
    have hka : (ncx (L2N.CX P w) P w K mg base ["self", at_, "__class__"] F f A outer s H E).env.kindOf sf.arg = some .local := by rw [hsn]; exact hS.par _ (List.mem_cons_self ..)
    have hkc : (ncx (L2N.CX P w) P w K mg base ["self", at_, "__class__"] F f A outer s H E).env.kindOf "__class__" = some .free := hS.frk _ (List.mem_cons_self ..)
    have hi : interactive (envF F f s.heap.objs.size) = false := by
      show (F.scope.kind == .module && _) = false
      rw [hS.kind]
      rfl
    have hrest : PSs (ncx (L2N.CX P w) P w K mg base ["self", at_, "__class__"] F f A outer s H E) [.Assign [.Attribute (.Name "self" q1) fld q2] (.Name at_ pn2) q3] _ := pss_one (ps_ost (f := fld) e1 (e2 pn2))
    have hz1 : (Str.empty ++ pre).length ≤ 1000 := by
      rw [Str.length_append, show Str.empty.length = 0 from rfl]
      omega
    refine ks_wpAt_execs_cons (ks_wpAt_mono (wp_super (X := ncx (L2N.CX P w) P w K mg base ["self", at_, "__class__"] F f A outer s H E) (q := fun H' => H' = H) T S I ha hN0 rfl ea rfl rfl rfl hsf hsup hkc hka hi rfl ⟨_, he _⟩ rfl rfl ?_) (fun fl s' z => ?_) fun _ _ z => z)
    · refine ⟨pre, rfl, by rw [sizeLine_eq]; omega, ?_⟩
      refine ⟨y, rfl, ?_⟩
      rcases hf with ⟨z, rfl, hz⟩ | ⟨i, rfl, hz⟩
      · refine .inl ⟨z, rfl, by rw [sizeLine_eq]; omega, z, rfl, ?_, ?_⟩
        · rw [Str.length_append, sizeLine_eq]
          omega
        · exact ⟨by show 1 ≤ 1000; decide, ea, rfl⟩
      · refine .inr ⟨i, rfl, hz, _, rfl, ?_, ?_⟩
        · have := int_text_len_1921 hz
          rw [Str.length_append, sizeLine_eq]
          show _ + (PySem.Str.ofString (toString i)).length ≤ _
          omega
        · exact ⟨by show 1 ≤ 1000; decide, ea, rfl⟩
    · obtain ⟨rfl, H', J, rfl⟩ := z
      refine wpAt_of_wpAny (hrest.run [] s' _ H' _ J ?_)
      refine ⟨y, rfl, .ref a, rfl, a, C, rfl, T, hno, .inl ⟨ea, fun dx n ne => ?_⟩⟩
      exact k dx n ne
end Cz

set_option Elab.async false
set_option linter.all false
set_option maxRecDepth 100000
set_option maxHeartbeats 4000000
/-! raise of an own exception, try .. except .. as, what a suite asks of the caught one. -/
namespace Cz
open PySem PySem.Spec PyProof.Rows L2 NdefX Evl
section
variable {X : Cx} {e : Expr} {es : List Expr} {ta : TA} {p pos : Pos}
theorem mk_endN {pins : List (Addr × Obj)} {σ : L2.St} {H1 H2 : Hp} {Q : XK} {hp hp2 h2 : Heap} {g1 g2 : Array GenState} {d1 d2 : Drawn} {t1 t2 : Nat} {os1 os2 : OsState} {a C d : Addr} {fs : List (Str × V)} (T : Raises X (.ref C)) (I1 : L2.Inv X pins σ H1 ⟨hp, g1, d1, t1, os1⟩)
    (ha : hp.objs.size ≤ a) (k : ∀ b o, hp.get? b = some o → hp2.get? b = some o) (un : Un (frs X.stack) [] (upd H1 a (exo a C none)) H2 hp2 h2) (hok : HOk X.prog X.w H2 h2) (ho : os2 = os1) (hb : AllBare g2)
    (ea : H2 a = some (exo a C (some d))) (ed : H2 d = some (exd d fs)) (hd1 : H1 d = none) (q : Q (.ref C) (some d) (upd (del H2 a) d (.xd fs))) : L2N.MkP X pins σ Q (.ref a) ⟨h2, g2, d2, t2, os2⟩ := by
  obtain ⟨t0, G, J, kG, ge, hoe, na⟩ := mk_end0 (d2 := d2) (t2 := t2) I1 ha k un hok ho hb ea ed hd1
  exact ⟨a, _, _, ⟨G, g2, d2, t2, os2⟩, _, .ref C, some d, rfl, J, kG, ge, hoe, ⟨rfl, rfl, fun vs e => by cases e; rfl⟩, rfl, rfl, na, rfl, hb, T, q⟩
theorem pmk_oexN {CX : CXT} {x : Str} {C fI : Addr} {k : Nat} {fd : FuncData} {ps : List Str} {sp : Sp} {ds : List Value} {dvs : List V} (T : OexC X.K C) (iC : PySem.W.findIn X.K (.ref C) "__init__" = some (some (.ref fI))) (tI : PySem.W.typeIn X.K (.ref fI) = some (.type "function"))
    (F1 : FnOk X.prog X.w X.K X.mg X.base CX k fI fd ps sp) (hr : Room (k + 1) X.A) (hb : Binds X.K fd ps ds) (hd : Vals dvs ds) (hx : Passes CX X (fun _ _ _ => False)) (hg : Gl X x) (hm : X.mg x = some (.ref C)) (ha : PA X (e :: es) ta)
    (hdb : (x == ("__debug__" : Str)) = false := by decide) (he : starEach (e :: es) X.env = (false, eval e X.env) :: starEach es X.env := by rfl) (hpl : (backTo pos (starEach es X.env)).any (·.1) = false := by rfl) :
    L2N.PMk X (.Call (.Name x p) (e :: es) [] pos) (tMkO C sp dvs ta) := by
  intro pins s σ H Q I h
  obtain ⟨nm, q, N, bs, bm, sn, sub, ab, col, dd, k0, k1, k2, k3, k5, hC, hbm⟩ := T.cls
  refine wpAny_Call_Name_kw (ld_glob I hg hm ?_ hdb)
  refine PySem.W.callWith_K (h₀ := X.base) I.ok.mod.kin T.kC (thn (ha.run pos pins s σ H _ I h) fun us s1 ⟨vs, H1, I1, r1, hz, q1⟩ => ⟨I1.kIn, ?_⟩) he hpl
  show wpAny _ _ (call (.ref C) us) _ _ _
  obtain ⟨hp, g, dr, tk, os⟩ := s1
  have hsz : hp.objs.size ≤ hp.objs.size + 1 := Nat.le_succ _
  have hn : H1 (hp.objs.size + 1) = none := I1.hok.fresh hsz
  have hq := q1 (hp.objs.size + 1) hn
  have kk : ∀ b o, hp.get? b = some o → ((hp.push (PySem.W.kdv_tup us)).push (PySem.HandSPX.excO C hp.objs.size)).get? b = some o := fun b o e => Heap.get?_push_of_some _ (Heap.get?_push_of_some _ e)
  have hget : ((hp.push (PySem.W.kdv_tup us)).push (PySem.HandSPX.excO C hp.objs.size)).get? (hp.objs.size + 1) = some (PySem.HandSPX.excO C hp.objs.size) := by heap_get
  have I2 : L2.Inv X pins σ (upd H1 (hp.objs.size + 1) (exo (hp.objs.size + 1) C none)) ⟨(hp.push (PySem.W.kdv_tup us)).push (PySem.HandSPX.excO C hp.objs.size), g, dr, tk, os⟩ :=
    I1.laid (t' := tk) (a := hp.objs.size + 1) (o := exo (hp.objs.size + 1) C none) (h' := (hp.push (PySem.W.kdv_tup us)).push (PySem.HandSPX.excO C hp.objs.size)) kk hsz (exo_ok hget)
  have r2 : Vals (V.ref (hp.objs.size + 1) :: (vs ++ dvs)) (Value.ref (hp.objs.size + 1) :: (us ++ ds)) := .cons rfl (r1.append hd)
  have hl : (Value.ref (hp.objs.size + 1) :: us ++ ds).length = ps.length := by
    have e := r2.length
    rw [F1.len _ _ _ _ hq] at e
    exact e.symm
  have hus : us.length ≤ sizeLine := by
    rw [← Paired.length r1, sizeLine_eq]
    omega
  refine wpAny_call (PySem.HandSPX.call_own F.excBase_ValueError (fun Y => PySem.HandSPX.refsVE_contains Y bm hbm) (I1.kIn _ _ hC) (PySem.W.looks_findIn I1.kIn iC) (fun self => PySem.W.bind_fn I1.kIn self tI) hus
    (codeAny_mono (F1.run _ X.stack _ _ ⟨Value.ref (hp.objs.size + 1) :: us, []⟩ (Value.ref (hp.objs.size + 1) :: (us ++ ds)) _ _ (fun _ _ _ => False) (hr.make C us []) (I2.env0.make C us []) (hb _ (Value.ref (hp.objs.size + 1) :: us) I2.kIn hl) r2 hq) fun r s' hq' => ?_))
  cases r with
  | error er => exact hx pins σ _ _ er s' I2 hq'
  | ok fl =>
    cases fl with
    | ret u =>
      obtain ⟨v, H2, os2, bare2, un2, hok2, rv, ev, d, fs, ea, ed, hd1, q2⟩ := hq'
      subst ev
      obtain ⟨h2, g2, d2, t2, os'⟩ := s'
      exact ⟨rv, mk_endN (raises_own T.exC T.tyC) I1 hsz kk un2 hok2 os2 bare2 ea ed hd1 q2⟩
    | next => exact False.elim hq'
    | brk => exact False.elim hq'
    | cont => exact False.elim hq'
end
/-- an own exception class with one field, to be raised -/
structure CalX (P : Program) (w : World) (K : PySem.W.Frag) (mg : Str → Option Value) (base : Heap) (x : Str) (C : Addr) (fld : Str) : Prop where
  ex : ∃ fI fd ps, OexC K C ∧ PySem.W.findIn K (.ref C) "__init__" = some (some (.ref fI)) ∧ PySem.W.typeIn K (.ref fI) = some (.type "function") ∧ FnOk P w K mg base (L2N.CX P w) 1 fI fd ps (spX C fld) ∧ Binds K fd ps [] ∧ mg x = some (.ref C)
def fitD : Dat → Bool
  | .str z => decide (z.length ≤ 90000)
  | .int i => decide (i.natAbs.log2 < 1920)
  | _ => false
section
variable {K : PySem.W.Frag} {T : Nat → Addr}
theorem fit_of {G : Hp} {v : V} {d : Dat} (r : Rep K T G v d) (h : fitD d = true) : fitV v := by
  cases r <;> first | exact .inl ⟨_, rfl, of_decide_eq_true h⟩ | exact .inr ⟨_, rfl, of_decide_eq_true h⟩ | cases h
def CS.raise (c : Nat) (fld : Str) (a : CE K T) : CS K T := ⟨fun W D σ H => tMkO (T c) (spX (T c) fld) [] (tCons (a.te W) tNil) σ H fun cls d H' => W cls d σ H',
  fun Γ => (a.ev Γ).st Γ fun x => if fitD x = true then .exn Γ c [(fld, x)] else .bad, fun W D G0 H0 G H σ Γ s =>
  Hd.st (k := fun v H1 => ([v] : List V).length ≤ 1000 ∧ ∀ e, H1 e = none → spX (T c) fld [.ref e, v] (upd H1 e (exo e (T c) none)) (fun u H2 => u = .non ∧ ∃ (d : Addr) (fs : List (Str × V)), H2 e = some (exo e (T c) (some d)) ∧ H2 d = some (exd d fs) ∧ H1 d = none ∧ W (.ref (T c)) (some d) σ (upd (del H2 e) d (.xd fs))) (fun _ _ _ => False))
    s (a.ok W [] G0 H0 G H σ Γ s) fun v d G1 H1 w r _ => by
    split
    · next hf =>
      intro q
      refine ⟨by show 1 ≤ 1000; decide, fun e ne => ⟨e, v, rfl, upd_same, fit_of r hf, fun dx n dne => ⟨rfl, dx, [(fld, v)], upd_same, ?_, ?_, ?_⟩⟩⟩
      · rw [upd_ne dne, upd_same]
      · rw [upd_ne dne] at n
        exact n
      · rw [upd_ne dne] at n
        have eh : upd (del (upd (upd (upd H1 e (exo e (T c) none)) dx (exd dx [(fld, v)])) e (exo e (T c) (some dx))) e) dx (.xd [(fld, v)]) = upd H1 dx (.xd [(fld, v)]) := by
          funext b
          by_cases hb : b = dx
          · rw [hb, upd_same, upd_same]
          · rw [upd_ne hb, upd_ne hb]
            by_cases he : b = e
            · rw [he, del_same, ne]
            · rw [del_ne he, upd_ne he, upd_ne hb, upd_ne he]
        rw [eh]
        have g1 := Grow.new (o := .xd [(fld, v)]) w.gh n
        exact q _ _ _ _ σ g1.g ((s.grow w).grow g1) ⟨rfl, .inr ⟨dx, _, rfl, upd_same, .cons (r.mono g1.g) .nil⟩⟩
    · trivial⟩
theorem d_raise {X : Cx} {W : WX} {x : Str} {c : Nat} {fld : Str} {e : Expr} {ce : CE K T} {p pos pos2 : Pos} (C : CalX X.prog X.w K X.mg X.base x (T c) fld) (hK : X.K = K) (hc : X.calm = true) (tk : L2N.Takes X W) (hr : Room 2 X.A) (he : PE X e (ce.te W))
    (hg : Gl X x := by rfl) (hdb : (x == ("__debug__" : Str)) = false := by decide) (hst : starEach [e] X.env = (false, eval e X.env) :: starEach [] X.env := by rfl) (hpl : (backTo pos (starEach [] X.env)).any (·.1) = false := by rfl) :
    PS X (.Raise (some (.Call (.Name x p) [e] [] pos)) none pos2) ((CS.raise c fld ce).ts W) := by
  subst hK
  obtain ⟨fI, fd, ps, T1, iC, tI, F1, hb, hm⟩ := C.ex
  exact L2N.ps_raise hc tk (pmk_oexN (ds := []) (dvs := []) T1 iC tI F1 hr hb .nil (fun _ _ _ _ _ _ _ h => by
    obtain ⟨_, _, _, _, _, _, _, _, _, _, _, _, z⟩ := h
    exact z.elim) hg hm (pa_cons he pa_nil (by exact hst)) hdb hst hpl)

/-! ### the caught exception -/
section
variable {fx : List Addr} {G0 H0 G H : Hp} {σ : L2.St} {Γ : Gam}
theorem SG.setX (s : SG K T fx G0 H0 G H σ Γ) {i : Nat} {a : Addr} {d : Option Addr} {c : Nat} {fs : List (Str × Dat)} (r : RepX K T G (.ref (T c)) d c fs) : SG K T fx G0 H0 G H (σ.set i (some (.ref a))) (Γ.set i (.ex a d c fs)) :=
  s.put (Grow.refl s.gh) (.ex r) (fun _ h => nomatch h) List.nodup_nil
theorem SG.getX (s : SG K T fx G0 H0 G H σ Γ) {i : Nat} {a : Addr} {d : Option Addr} {c : Nat} {fs : List (Str × Dat)} (h : Γ[i]? = some (.ex a d c fs)) : σ[i]? = some (some (.ref a)) ∧ RepX K T G (.ref (T c)) d c fs := by
  obtain ⟨fp, f1, f2, f3, f4⟩ := s.own
  have hi : i < σ.length := by rw [s.len]; exact (List.getElem?_eq_some_iff.mp h).1
  obtain ⟨o, ho⟩ : ∃ o, σ[i]? = some o := ⟨_, List.getElem?_eq_getElem hi⟩
  have q := f1 i o _ ho h
  generalize fp i = q1 at q
  cases q with
  | ex r => exact ⟨ho, r⟩
end
def WN : WX := fun _ _ _ _ => False
def endX (i : Nat) (D : Ends) : Ends := { nx := fun σ' H' => D.nx (σ'.set i none) H', rt := D.rt, bk := fun σ' H' => D.bk (σ'.set i none) H', ct := fun σ' H' => D.ct (σ'.set i none) H' }
def wrapX (i : Nat) : SRes → SRes
  | .nx Γ => .nx (Γ.set i .un)
  | .bk Γ => .bk (Γ.set i .un)
  | .ct Γ => .ct (Γ.set i .un)
  | .rt d => .rt d
  | _ => .bad
theorem SHd.wrap {W : WX} {D : Ends} {G0 H0 G : Hp} {i : Nat} {r : SRes} {t : Prop} (h : SHd K T WN (endX i D) G0 H0 G r t) : SHd K T W D G0 H0 G (wrapX i r) t := by
  cases r with
  | nx Γ => exact fun q => h fun G' H' σ' e s => q G' H' _ e (s.setU none)
  | bk Γ => exact fun q => h fun G' H' σ' e s => q G' H' _ e (s.setU none)
  | ct Γ => exact fun q => h fun G' H' σ' e s => q G' H' _ e (s.setU none)
  | rt d => exact h
  | exn Γ c fs => trivial
  | bad => trivial
/-- try: body / except C as e: suite; sb: which classes the clause names -/
def CS.tryE (c i : Nat) (sb : Nat → Option Bool) (hsb : ∀ c' b, sb c' = some b → PySem.W.exmOne K (.ref (T c')) (.ref (T c)) = some b) (body : CS K T) (suite : Addr → Option Addr → Nat → CS K T) (sev : Nat → List (Str × Dat) → Gam → SRes)
    (hsev : ∀ a d c' fs Γ, wrapX i ((suite a d c').ev (Γ.set i (.ex a d c' fs))) = sev c' fs Γ) : CS K T :=
  ⟨fun W D σ H => body.ts (wAs K (.ref (T c)) i (fun a cls d D σ H => ∃ c', cls = .ref (T c') ∧ (suite a d c').ts WN D σ H) W D) D σ H,
  fun Γ => match body.ev Γ with
    | .exn Γ' c' fs => (match sb c' with
      | some true => sev c' fs Γ'
      | some false => .exn Γ' c' fs
      | none => .bad)
    | r => r, fun W D G0 H0 G H σ Γ s => by
  have h := body.ok (wAs K (.ref (T c)) i (fun a cls d D σ H => ∃ c', cls = .ref (T c') ∧ (suite a d c').ts WN D σ H) W D) D G0 H0 G H σ Γ s
  show SHd K T W D G0 H0 G _ (body.ts (wAs K (.ref (T c)) i (fun a cls d D σ H => ∃ c', cls = .ref (T c') ∧ (suite a d c').ts WN D σ H) W D) D σ H)
  cases e : body.ev Γ with
  | exn Γ' c' fs =>
    rw [e] at h
    show SHd K T W D G0 H0 G (match sb c' with | some true => sev c' fs Γ' | some false => .exn Γ' c' fs | none => .bad) _
    cases hs : sb c' with
    | none => trivial
    | some b =>
      cases b with
      | false => exact fun q => h fun cls d G' H' σ' ex sg r => ⟨false, by rw [r.1]; exact hsb c' false hs, (fun z => nomatch z), fun _ => q cls d G' H' σ' ex sg r⟩
      | true =>
        exact SHd.all (p := fun j : { x : Value × Option Addr × Hp × Hp × L2.St × Addr // Ex G x.2.2.1 ∧ SG K T [] G0 H0 x.2.2.1 x.2.2.2.1 x.2.2.2.2.1 Γ' ∧ RepX K T x.2.2.1 x.1 x.2.1 c' fs } =>
            ∃ c'', j.1.1 = .ref (T c'') ∧ (suite j.1.2.2.2.2.2 j.1.2.1 c'').ts WN (endX i D) (j.1.2.2.2.2.1.set i (some (.ref j.1.2.2.2.2.2))) j.1.2.2.2.1)
          (fun ⟨(cls, d, G', H', σ', a), ex, sg, r⟩ => by
            have o := (suite a d c').ok WN (endX i D) G0 H0 G' H' (σ'.set i (some (.ref a))) (Γ'.set i (.ex a d c' fs)) (sg.setX ⟨rfl, r.2⟩)
            have o2 := SHd.wrap (W := W) o
            rw [hsev] at o2
            exact (o2.imp fun t => ⟨c', r.1, t⟩).back ex)
          fun all => h fun cls d G' H' σ' ex sg r => ⟨true, by rw [r.1]; exact hsb c' true hs, fun _ a _ => all ⟨(cls, d, G', H', σ', a), ex, sg, r⟩, fun z => nomatch z⟩
  | nx Γ' => rw [e] at h; exact h
  | rt d => rw [e] at h; exact h
  | bk Γ' => rw [e] at h; exact h
  | ct Γ' => rw [e] at h; exact h
  | bad => trivial⟩
/-- e.f, e the caught exception, asked only of the class c -/
def CE.exf (a : Addr) (d : Option Addr) (c' i c : Nat) (f : Str) : CE K T :=
  ⟨fun _ => fun σ H Q => c' = c ∧ tXf a (.ref (T c')) d (T c') f (tVar i) σ H Q, fun Γ => if c' = c then (match Γ[i]? with
    | some (.ex a' d' c2 fs) => if a' = a ∧ d' = d ∧ c2 = c' then (match fs.lookup f with | some x => .ok x | none => .bad) else .bad
    | _ => .bad) else .bad, fun W fx G0 H0 G H σ Γ s => by
  split
  · next hc =>
    split
    · next a' d' c2 fs hg =>
      split
      · next hh =>
        obtain ⟨rfl, rfl, rfl⟩ := hh
        split
        · next x hx =>
          obtain ⟨e1, r⟩ := s.getX hg
          rcases r.2 with ⟨rfl, _⟩ | ⟨dx, fvs, ed, eg, rf⟩
          · cases hx
          · obtain ⟨v, hv, rv⟩ := rf.get hx
            exact Hd.ret s.gh rv fun Q q => ⟨hc, .ref a', e1, rfl, rfl, dx, fvs, v, ed, s.gh _ _ eg, hv, q⟩
        · trivial
      · trivial
    · trivial
  · trivial⟩
theorem d_exf {X : Cx} {W : WX} {a : Addr} {oe : Obj} {d : Option Addr} {c' i c : Nat} {f n : Str} {pn : List (Addr × Obj)} {p pos : Pos} (hK : X.K = K) (hT : XfC K (T c)) (hno : PySem.W.findIn K (.ref (T c)) f = some none) (hz : L2N.Zn (.ref (T c')) d oe) (hf : ∃ vs, oe.data = .fields vs)
    (hN : X.N[i]? = some n := by rfl) (hv : Vis X.env.scope n := by first | exact Or.inl rfl | exact Or.inr (Or.inl rfl) | exact Or.inr (Or.inr rfl)) (hd : (n == ("__debug__" : Str)) = false := by decide) (hcd : (n == ("__classdict__" : Str)) = false := by decide)
    (hb : attributeBase (.Name n p) f (X.suite a ((a, oe) :: pn)).env (eval (.Name n p) (X.suite a ((a, oe) :: pn)).env) = eval (.Name n p) (X.suite a ((a, oe) :: pn)).env := by rfl) :
    PE (X.suite a ((a, oe) :: pn)) (.Attribute (.Name n p) f pos) ((CE.exf (K := K) (T := T) a d c' i c f).te W) := by
  subst hK
  refine ⟨fun pins s σ H Q I h => ?_⟩
  obtain ⟨rfl, h⟩ := h
  exact (pe_xf hT hno hz.zc hf (pe_var (X := X.suite a ((a, oe) :: pn)) hN hv hd hcd) hb).run pins s σ H Q I h
theorem d_tryE {X : Cx} {W : WX} {x n : Str} {c i : Nat} {sb : Nat → Option Bool} {hsb : ∀ c' b, sb c' = some b → PySem.W.exmOne K (.ref (T c')) (.ref (T c)) = some b} {cb : CS K T} {su : Addr → Option Addr → Nat → CS K T} {sev : Nat → List (Str × Dat) → Gam → SRes}
    {hsev : ∀ a d c' fs Γ, wrapX i ((su a d c').ev (Γ.set i (.ex a d c' fs))) = sev c' fs Γ} {body suite : List Stmt} {b₀ : Stmt} {np pos pos' : Pos} (hK : X.K = K) (hm : X.mg x = some (.ref (T c))) (tk : L2N.Takes X W) (hN : X.N.Nodup)
    (hb : ∀ (W : WX) (pn : List (Addr × Obj)) (xe : Value → Shared → Prop), L2N.Takes (X.tr pn xe) W → PassesOwn (model X.prog X.w) X.A X.env xe → PSs (X.tr pn xe) body (cb.ts W))
    (hsu : ∀ (a : Addr) (oe : Obj) (d : Option Addr) (c' : Nat) (pn : List (Addr × Obj)), L2N.Zn (.ref (T c')) d oe → (∃ vs, oe.data = .fields vs) → PSs (X.suite a ((a, oe) :: pn)) (b₀ :: suite) ((su a d c').ts WN))
    (hs : X.stack = X.env :: X.outer := by rfl) (hf : X.env.frame = some X.env.locals := by rfl) (hi : X.N[i]? = some n := by rfl) (hln : X.env.kindOf n = some .local := by rfl) (hg : Gl X x := by rfl) (hd : (x == ("__debug__" : Str)) = false := by decide) :
    PS X (.Try body [.ExceptHandler (some (.Name x np)) (some n) (b₀ :: suite) pos'] [] [] pos) ((CS.tryE c i sb hsb cb su sev hsev).ts W) := by
  subst hK
  refine L2N.ps_try_as (c := .ref (T c)) (tb := cb.ts) (ts := fun a cls d D σ H => ∃ c', cls = .ref (T c') ∧ (su a d c').ts WN D σ H) hs hf hN hi hln ⟨hg, hd, .inl hm⟩ tk hb fun a oe cls d pn hz hfl => ?_
  refine ⟨fun pins s σ H D I h => ?_⟩
  obtain ⟨c', rfl, h⟩ := h
  exact (hsu a oe d c' pn hz hfl).run pins s σ H D I h
/-! ### calls in a suite -/
structure CalH (P : Program) (w : World) (K : PySem.W.Frag) (mg : Str → Option Value) (base : Heap) (x : Str) (k : Nat) (sp : Sp) : Prop where
  ex : ∃ a fd ps, mg x = some (.ref a) ∧ PySem.W.keepIn K (.ref a) = true ∧ Binds K fd ps [] ∧ L2H.FnH P w K mg base (L2N.CX P w) k a fd ps sp
theorem hot_suite {X : Cx} {a : Addr} {oe : Obj} {cls : Value} {d : Option Addr} {pn : List (Addr × Obj)} (hz : L2N.Zn cls d oe) (hf : ∃ vs, oe.data = .fields vs) : L2H.HotC (X.suite a ((a, oe) :: pn)) := by
  obtain ⟨vs, hd⟩ := hf
  exact ⟨(a, oe), ⟨rfl, vs, hd, hz.2.2 vs hd⟩, List.mem_cons_self⟩
theorem d_calH {X : Cx} {x : Str} {k n : Nat} {F : List Dat → Rs Dat} {e : Expr} {es : List Expr} {cas : CA K T} {p pos : Pos} (C : CalH X.prog X.w X.K X.mg X.base x k (spF K T n F)) (hot : L2H.HotC X) (hr : L2H.RoomH k X.A) (ha : PA X (e :: es) (cas.te WN)) (hg : Gl X x := by rfl)
    (hdb : (x == ("__debug__" : Str)) = false := by decide) (he : starEach (e :: es) X.env = (false, eval e X.env) :: starEach es X.env := by rfl) (hpl : (backTo pos (starEach es X.env)).any (·.1) = false := by rfl) :
    PE X (.Call (.Name x p) (e :: es) [] pos) ((CE.fn n F cas).te WN) := by
  obtain ⟨a, fd, ps, hm, hk, hb, F1⟩ := C.ex
  exact L2H.pe_callH F1 hr hot hg hm hk hb (fun σ pins H s e s' I h => by
    obtain ⟨_, _, _, _, _, _, _, _, _, _, _, _, z⟩ := h
    exact z.elim) ha hdb he hpl
/-- as ok_fn, for a def that is called where an exception is handled -/
theorem ok_fnH {P : Program} {w : World} {mg : Str → Option Value} {base : Heap} {x qual : Str} {st : Stmt} {f : Addr} {fd : FuncData} {N ps : List Str} {k : Nat} (F : Fun K x qual st f fd) (S : FnScope N ps (defScope st)) (b : CS K T)
    (h : ∀ (cdv : Value) (A : Around) (outer : List Env) (s : Shared) (H : Hp) (E : XK) (p : Addr × Obj), L2H.Hot1 A p → L2H.RoomH k (A.deeper (PyProof.Rows.envOfC qual (defScope st) s.heap.objs.size f cdv)) →
      PSs (L2H.cxH (L2N.CX P w) P w K mg base N qual (defScope st) f cdv A outer s H E p) (defBody st) (b.ts fun cls d _ H => E cls d H)) :
    L2H.FnH P w K mg base (L2N.CX P w) (k + 1) f fd ps (spF K T ps.length (runF b N.length)) := by
  obtain ⟨oc, od, kV, doc, pm, an, cdv, ct, osl, rfl, lk, hcd⟩ := F.ex
  exact L2H.fn_ofH lk hcd S (fun vs H Q E h => h.1) fun A outer s H vs Q E p hot hr hsp => ⟨_, h cdv A outer s H E p hot hr, body_ok b hsp⟩
end
end Cz
namespace Cz
open PySem PySem.Spec PyProof.Rows L2 NdefX Evl
theorem fnH_imp {P : Program} {w : World} {K : PySem.W.Frag} {mg : Str → Option Value} {base : Heap} {CX : CXT} {k : Nat} {f : Addr} {fd : FuncData} {ps : List Str} {sp sp' : Sp} (F : L2H.FnH P w K mg base CX k f fd ps sp)
    (h : ∀ vs H Q E, sp' vs H Q E → sp vs H Q E) : L2H.FnH P w K mg base CX k f fd ps sp' :=
  ⟨fun vs H Q E q => F.len vs H Q E (h _ _ _ _ q), fun A outer s H args us vs Q E p hr hot hp he hb hv hs => F.run A outer s H args us vs Q E p hr hot hp he hb hv (h _ _ _ _ hs)⟩
section
variable {K : PySem.W.Frag} {T : Nat → Addr}
@[simp] theorem wrapX_st {α : Type} (i : Nat) (r : Rs α) (Γ : Gam) (f : α → SRes) : wrapX i (r.st Γ f) = (match r with | .ok d => wrapX i (f d) | _ => .bad) := by cases r <;> rfl
@[simp] theorem wrapX_ite (i : Nat) (p : Prop) [Decidable p] (a b : SRes) : wrapX i (if p then a else b) = if p then wrapX i a else wrapX i b := by split <;> rfl
@[simp] theorem wrapX_nx (i : Nat) (Γ : Gam) : wrapX i (.nx Γ) = .nx (Γ.set i .un) := rfl
@[simp] theorem wrapX_rt (i : Nat) (d : Dat) : wrapX i (.rt d) = .rt d := rfl
@[simp] theorem wrapX_bad (i : Nat) : wrapX i .bad = .bad := rfl
@[simp] theorem ev_CS_raise (c : Nat) (fld : Str) (a : CE K T) (Γ : Gam) : (CS.raise c fld a).ev Γ = (a.ev Γ).st Γ fun x => if fitD x = true then .exn Γ c [(fld, x)] else .bad := rfl
@[simp] theorem ev_CE_exf (a : Addr) (d : Option Addr) (c' i c : Nat) (f : Str) (Γ : Gam) : (CE.exf a d c' i c f : CE K T).ev Γ = if c' = c then (match Γ[i]? with
    | some (.ex a' d' c2 fs) => if a' = a ∧ d' = d ∧ c2 = c' then (match fs.lookup f with | some x => .ok x | none => .bad) else .bad
    | _ => .bad) else .bad := rfl
@[simp] theorem ev_CS_tryE (c i : Nat) (sb : Nat → Option Bool) (hsb : ∀ c' b, sb c' = some b → PySem.W.exmOne K (.ref (T c')) (.ref (T c)) = some b) (body : CS K T) (su : Addr → Option Addr → Nat → CS K T) (sev : Nat → List (Str × Dat) → Gam → SRes)
    (hsev : ∀ a d c' fs Γ, wrapX i ((su a d c').ev (Γ.set i (.ex a d c' fs))) = sev c' fs Γ) (Γ : Gam) : (CS.tryE c i sb hsb body su sev hsev).ev Γ = match body.ev Γ with
    | .exn Γ' c' fs => (match sb c' with
      | some true => sev c' fs Γ'
      | some false => .exn Γ' c' fs
      | none => .bad)
    | r => r := rfl
end
end Cz

set_option Elab.async false
set_option linter.all false
set_option maxRecDepth 100000
set_option maxHeartbeats 2000000
/-! Plain facts for what raises. -/
namespace Cz
open PySem L2
theorem evFor_drop {g : Dat → Gam → Option Gam} {b : Gam → SRes} {ds : List Dat} {Γ : Gam} (I : Nat → Gam → Prop) (h0 : I 0 Γ) : ∀ {k : Nat}, k ≤ ds.length →
    (∀ i d Γ, i < k → ds[i]? = some d → I i Γ → ∃ Γ1 Γ2, g d Γ = some Γ1 ∧ (b Γ1 = .nx Γ2 ∨ b Γ1 = .ct Γ2) ∧ I (i + 1) Γ2) → ∃ Γk, I k Γk ∧ evFor g b ds Γ = evFor g b (ds.drop k) Γk
  | 0, _, _ => ⟨Γ, h0, by rw [List.drop_zero]⟩
  | k + 1, hk, hs => by
    obtain ⟨Γk, hi, e⟩ := evFor_drop I h0 (k := k) (by omega) fun i d Γ h => hs i d Γ (by omega)
    have hl : k < ds.length := by omega
    obtain ⟨Γ1, Γ2, h1, h2, h3⟩ := hs k ds[k] Γk (by omega) (List.getElem?_eq_getElem hl) hi
    refine ⟨Γ2, h3, ?_⟩
    rw [e, List.drop_eq_getElem_cons hl]
    unfold evFor
    rw [h1]
    rcases h2 with h2 | h2 <;> simp only [h2] <;> (conv => lhs; unfold evFor) <;> (conv => rhs; unfold evFor)
theorem evFor_cons {g : Dat → Gam → Option Gam} {b : Gam → SRes} {d : Dat} {r : List Dat} {Γ : Gam} : evFor g b (d :: r) Γ = match g d Γ with
    | none => .bad
    | some Γ1 => match b Γ1 with
      | .nx Γ2 => evFor g b r Γ2
      | .ct Γ2 => evFor g b r Γ2
      | .bk Γ2 => .nx Γ2
      | .rt d => .rt d
      | .exn Γ2 c fs => .exn Γ2 c fs
      | .bad => .bad := rfl
def isF (c : Nat) : Bool := decide (c = 98 ∨ c = 102 ∨ c = 115 ∨ c = 110)
/-- where the first wrong character stands -/
def badAt (l : List Nat) : Option Nat := l.findIdx? fun c => !isF c
theorem badAt_none {l : List Nat} : badAt l = none ↔ Fts l := by
  unfold badAt
  rw [List.findIdx?_eq_none_iff]
  refine ⟨fun h c hc => ?_, fun h c hc => ?_⟩
  · have := h c hc
    simp only [isF, Bool.not_eq_false', decide_eq_true_eq] at this
    exact this
  · rw [isF, decide_eq_true (h c hc)]
    rfl
theorem badAt_lt {l : List Nat} {k : Nat} (h : badAt l = some k) : k < l.length := by
  unfold badAt at h
  obtain ⟨h, _⟩ := List.findIdx?_eq_some_iff_getElem.mp h
  exact h
theorem badAt_some {l : List Nat} {k : Nat} (h : badAt l = some k) : ∃ hk : k < l.length, isF l[k] = false ∧ ∀ j (hj : j < k), isF (l[j]'(by omega)) = true := by
  unfold badAt at h
  obtain ⟨h, h1, h2⟩ := List.findIdx?_eq_some_iff_getElem.mp h
  exact ⟨h, by simpa using h1, fun j hj => by simpa using h2 j hj⟩
theorem badAt_app {a r : List Nat} {c : Nat} (h : Fts a) (hc : isF c = false) : badAt (a ++ c :: r) = some a.length := by
  unfold badAt
  rw [List.findIdx?_append]
  have : List.findIdx? (fun c => !isF c) a = none := badAt_none.mpr h
  rw [this]
  simp [List.findIdx?_cons, hc]
theorem fit_nat {n : Nat} (h : n < 10000000) : fitD (.int (n : Nat)) = true := by
  unfold fitD
  refine decide_eq_true ?_
  show n.log2 < 1920
  by_cases hz : n = 0
  · subst hz
    decide
  · have : n.log2 < 24 := (Nat.log2_lt hz).mpr (by omega)
    omega
end Cz

set_option Elab.async false
set_option linter.all false
set_option maxRecDepth 100000
set_option maxHeartbeats 4000000
/-! isinstance of the caught exception; calls with keywords; written tuples. -/
namespace Cz
open PySem PySem.Spec PyProof.Rows L2 NdefX Evl
def rIsX (tb : Nat → Option Bool) (c' : Nat) (a : Addr) (d : Option Addr) (u : V) : List V → Hp → VK → Prop := fun xs H Q => ∃ b, xs = [.ref a, u] ∧ (d = none ∨ ∃ dd fs, d = some dd ∧ H dd = some (.xd fs)) ∧ tb c' = some b ∧ Q (.bl b) H
section
variable {K : PySem.W.Frag} {T : Nat → Addr}
theorem call_isX {X : Cx} {tb : Nat → Option Bool} {c' : Nat} {a : Addr} {oe : Obj} {d : Option Addr} {u : V} {cv : Value} {pn : List (Addr × Obj)} (hK : X.K = K) (hu : ∀ z, L2.RelV u z → z = cv) (htb : ∀ c b, tb c = some b → PySem.W.kitOne K (.ref (T c)) cv = some b)
    (hec : ∀ c b, tb c = some b → ExcC K (T c)) (hz : L2N.Zn (.ref (T c')) d oe) (hf : ∃ vs, oe.data = .fields vs) : CallR (X.suite a ((a, oe) :: pn)) (.builtin "isinstance") (rIsX tb c' a d u) := by
  subst hK
  intro pins s σ H xs us Q I r h
  obtain ⟨b, rfl, hd, hb, q⟩ := h
  have C := hec c' b hb
  cases r with
  | cons rx rr =>
    cases rr with
    | cons rt rr =>
      cases rr
      cases rx
      have ec := hu _ rt
      subst ec
      obtain ⟨hget, _⟩ := I.pin (a, oe) (List.mem_append.mpr (.inl List.mem_cons_self))
      obtain ⟨vs, hv⟩ := hf
      have nc : PySem.W.notCls oe = true := by unfold PySem.W.notCls; rw [hv] <;> rfl
      have J : ∃ od, PySem.W.InstAt s.heap a oe (T c') od := by
        rcases hd with rfl | ⟨dd, fs, rfl, hx⟩
        · exact ⟨none, hget, hz.1, nc, by rw [hz.2.1]; trivial⟩
        · have ho : ObjOk X.prog X.w H s.heap dd (.xd fs) := I.hok dd _ hx
          obtain ⟨mA, hns, hr⟩ := ho
          obtain ⟨od, ho, hl⟩ := lookIn_ns hns
          exact ⟨some od, hget, hz.1, nc, by rw [hz.2.1]; exact ho⟩
      obtain ⟨od, J⟩ := J
      have hcl : (PySem.W.clsIn X.K (T c')).isSome = true := by
        obtain ⟨cd, hc, _⟩ := PySem.W.any_some C.hd
        rw [hc]
        rfl
      exact PySem.W.kia_one (PySem.W.kitx_exc hcl C.hg C.hk C.hs C.ha C.hn C.ht C.hm) I.kIn J (htb c' b hb) (fun z => nomatch z) fun tk => ⟨.bl b, H, I.kept (t' := tk) fun _ _ z => z, rfl, q⟩
/-- isinstance(e, ..), e the caught exception -/
def CE.isX (a : Addr) (d : Option Addr) (c' i : Nat) (tb : Nat → Option Bool) (u : V) : CE K T := ⟨fun _ => tCB (rIsX tb c' a d u) (tCons (tVar i) (tCons (tC u) tNil)), fun Γ => match Γ[i]? with
    | some (.ex a' d' c2 fs) => if a' = a ∧ d' = d ∧ c2 = c' then (match tb c' with | some b => .ok (.bl b) | none => .bad) else .bad
    | _ => .bad, fun W fx G0 H0 G H σ Γ s => by
  split
  · next a' d' c2 fs hg =>
    split
    · next hh =>
      obtain ⟨rfl, rfl, rfl⟩ := hh
      split
      · next b hb =>
        obtain ⟨e1, r⟩ := s.getX hg
        refine Hd.ret s.gh (.bl b) fun Q q => ⟨.ref a', e1, b, rfl, ?_, hb, q⟩
        rcases r.2 with ⟨_, e⟩ | ⟨dx, fvs, ed, eg, _⟩
        · exact .inl e
        · exact .inr ⟨dx, fvs, ed, s.gh _ _ eg⟩
      · trivial
    · trivial
  · trivial⟩
@[simp] theorem ev_CE_isX (a : Addr) (d : Option Addr) (c' i : Nat) (tb : Nat → Option Bool) (u : V) (Γ : Gam) : (CE.isX a d c' i tb u : CE K T).ev Γ = match Γ[i]? with
    | some (.ex a' d' c2 fs) => if a' = a ∧ d' = d ∧ c2 = c' then (match tb c' with | some b => .ok (.bl b) | none => .bad) else .bad
    | _ => .bad := rfl
theorem d_isX {X : Cx} {W : WX} {tb : Nat → Option Bool} {c' i : Nat} {a : Addr} {oe : Obj} {d : Option Addr} {u : V} {cv : Value} {pn : List (Addr × Obj)} {n x : Str} {p p1 p2 pos : Pos} (hK : X.K = K) (hu : ∀ z, L2.RelV u z → z = cv) (htb : ∀ c b, tb c = some b → PySem.W.kitOne K (.ref (T c)) cv = some b)
    (hec : ∀ c b, tb c = some b → ExcC K (T c)) (hz : L2N.Zn (.ref (T c')) d oe) (hf : ∃ vs, oe.data = .fields vs) (hi : X.mg "isinstance" = none) (hx : PE (X.suite a ((a, oe) :: pn)) (.Name x p2) (tC u))
    (hN : X.N[i]? = some n := by rfl) (hv : Vis X.env.scope n := by first | exact Or.inl rfl | exact Or.inr (Or.inl rfl) | exact Or.inr (Or.inr rfl)) (hd : (n == ("__debug__" : Str)) = false := by decide) (hcd : (n == ("__classdict__" : Str)) = false := by decide)
    (hg : Gl X "isinstance" := by rfl) (hs1 : starEach [.Name n p1, .Name x p2] (X.suite a ((a, oe) :: pn)).env = (false, eval (.Name n p1) (X.suite a ((a, oe) :: pn)).env) :: starEach [.Name x p2] (X.suite a ((a, oe) :: pn)).env := by rfl)
    (hs2 : starEach [.Name x p2] (X.suite a ((a, oe) :: pn)).env = (false, eval (.Name x p2) (X.suite a ((a, oe) :: pn)).env) :: starEach [] (X.suite a ((a, oe) :: pn)).env := by rfl)
    (hpl : (backTo pos (starEach [.Name x p2] (X.suite a ((a, oe) :: pn)).env)).any (·.1) = false := by rfl) :
    PE (X.suite a ((a, oe) :: pn)) (.Call (.Name "isinstance" p) [.Name n p1, .Name x p2] [] pos) ((CE.isX (K := K) (T := T) a d c' i tb u).te W) :=
  pe_callB (X := X.suite a ((a, oe) :: pn)) (call_isX (T := T) hK hu htb hec hz hf) hg hi (by decide +kernel) (pa_cons (pe_var (X := X.suite a ((a, oe) :: pn)) hN hv hd hcd) (pa_cons hx pa_nil hs2) hs1) (by decide) (by decide) hs1 hpl
end
/-! ### keywords -/
def kbG {α : Type} (n m : Nat) (us ws : List α) : List α := if us.length = n ∧ ws.length = m then us ++ ws else []
theorem kbG_rel {n m : Nat} {vs : List V} {us : List Value} {zs : List V} {ws : List Value} (r : Vals vs us) (q : Vals zs ws) : Vals (kbG n m vs zs) (kbG n m us ws) := by
  unfold kbG
  rw [Paired.length r, Paired.length q]
  split
  · exact r.append q
  · exact .nil
/-- a def with keyword-only parameters, called with them -/
structure CalK (P : Program) (w : World) (K : PySem.W.Frag) (mg : Str → Option Value) (base : Heap) (x : Str) (n m : Nat) (ks : List Str) (k : Nat) (sp : Sp) : Prop where
  ex : ∃ a fd ps, mg x = some (.ref a) ∧ PySem.W.keepIn K (.ref a) = true ∧ KBinds K fd ps ks (kbG n m) (kbG n m) ∧ FnOk P w K mg base (L2N.CX P w) k a fd ps sp
def tCallKw (sp : Sp) (gV : List V → List V → List V) (E : L2.St → XK) (t tk : TA) : TE := fun σ H Q => t σ H fun vs H1 => tk σ H1 fun zs H2 => sp (gV vs zs) H2 Q (E σ)
section
variable {K : PySem.W.Frag} {T : Nat → Addr} {X : Cx} {W : WX} {x : Str} {k n m : Nat} {ks : List Str} {sp : Sp} {e : Expr} {es : List Expr} {kws : List Keyword} {t tk : TA} {p pos : Pos}
theorem pe_calKS (C : CalK X.prog X.w X.K X.mg X.base x n m ks k sp) (tw : L2N.Takes X W) (hr : Room k X.A) (ha : PA X (e :: es) t) (hkw : PK X kws tk) (hg : Gl X x)
    (hall : (backToKw pos (keywordEach kws X.env)).all (·.1.isSome) = true) (hks : (backToKw pos (keywordEach kws X.env)).filterMap (·.1) = ks)
    (hdb : (x == ("__debug__" : Str)) = false) (he : starEach (e :: es) X.env = (false, eval e X.env) :: starEach es X.env)
    (hpl : ((backTo pos (starEach (e :: es) X.env)).any (·.1) || (backToKw pos (keywordEach kws X.env)).any (·.1.isNone)) = false) :
    PE X (.Call (.Name x p) (e :: es) kws pos) (tCallKw sp (kbG n m) (WE W) t tk) := by
  obtain ⟨a, fd, ps, hm, hk, hb, F1⟩ := C.ex
  refine ⟨fun pins s σ H Q I h => wpAny_Call_Name_kw (ld_glob I hg hm (PySem.W.callWith_KW (h₀ := X.base) I.ok.mod.kin hk hall (thn (ha.run pos pins s σ H _ I h) fun us s1 ⟨vs, H1, I1, r, q⟩ => thn (hkw.run pos pins s1 σ H1 _ I1 q) fun ws s2 ⟨zs, H2, I2, rz, q2⟩ => ⟨I2.kIn, ?_⟩) hpl he) hdb)⟩
  rw [hks]
  have r2 := kbG_rel (n := n) (m := m) r rz
  have hl : (kbG n m us ws).length = ps.length := (Paired.length r2).symm.trans (F1.len _ _ _ _ q2)
  refine wpAny_call (codeAny_mono (F1.run X.A X.stack s2 H2 ⟨us, ks.zip ws⟩ (kbG n m us ws) (kbG n m vs zs) Q (WE W σ) hr I2.env0 (hb.to s2 us ws I2.kIn hl) r2 q2) fun fr s' hq => ?_)
  match fr, hq with
  | .error ev, hq => exact L2N.passAt tw σ pins H2 s2 ev s' I2 hq
  | .ok (.ret u), hq => exact I2.after hq
def CE.fnK (n m : Nat) (F : List Dat → Rs Dat) (a b : CA K T) : CE K T := ⟨fun W => tCallKw (spF K T (n + m) F) (kbG n m) (WE W) (a.te W) (b.te W), fun Γ => (a.ev Γ).bind fun ds => (b.ev Γ).bind fun es => if ds.length = n ∧ es.length = m then F (ds ++ es) else .bad, fun W fx G0 H0 G H σ Γ s =>
  (a.ok W fx G0 H0 G H σ Γ s).bind (k := fun v H1 Q => b.te W σ H1 fun zs H2 => spF K T (n + m) F (kbG n m v zs) H2 Q (WE W σ)) fun v d G1 H1 w1 r1 _ => (b.ok W fx G0 H0 G1 H1 σ Γ (s.grow w1)).bind (k := fun zs H2 Q => spF K T (n + m) F (kbG n m v zs) H2 Q (WE W σ)) fun z f G2 H2 w2 r2 _ => by
    split
    · next hl =>
      have e1 : v.length = n := r1.length.trans hl.1
      have e2 : z.length = m := r2.length.trans hl.2
      have ek : kbG n m v z = v ++ z := by unfold kbG; rw [if_pos ⟨e1, e2⟩]
      have hv : (v ++ z).length = n + m := by rw [List.length_append, e1, e2]
      have rr : RepL K T G2 (v ++ z) (d ++ f) := (r1.mono w2.g).append r2
      rw [ek]
      show Hd K T W G2 H2 σ (Rep K T) (F (d ++ f)) fun Q => spF K T (n + m) F (v ++ z) H2 Q (WE W σ)
      cases hF : F (d ++ f) with
      | bad => trivial
      | ok x => exact fun Q q => ⟨hv, G2, _, w2.gh, rr, _, hF, fun v' G' H' w r => q v' G' H' w r⟩
      | exn c fs => exact fun w Q => ⟨hv, G2, _, w2.gh, rr, _, hF, fun cls d' G' H' w' r => w cls d' G' H' w' r⟩
    · trivial⟩
@[simp] theorem ev_CE_fnK (n m : Nat) (F : List Dat → Rs Dat) (a b : CA K T) (Γ : Gam) : (CE.fnK n m F a b).ev Γ = (a.ev Γ).bind fun ds => (b.ev Γ).bind fun es => if ds.length = n ∧ es.length = m then F (ds ++ es) else .bad := rfl
theorem d_calK {F : List Dat → Rs Dat} {ca cb : CA K T} (C : CalK X.prog X.w X.K X.mg X.base x n m ks k (spF K T (n + m) F)) (tw : L2N.Takes X W) (hr : Room k X.A) (ha : PA X (e :: es) (ca.te W)) (hkw : PK X kws (cb.te W)) (hg : Gl X x := by rfl)
    (hall : (backToKw pos (keywordEach kws X.env)).all (·.1.isSome) = true := by rfl) (hks : (backToKw pos (keywordEach kws X.env)).filterMap (·.1) = ks := by rfl)
    (hdb : (x == ("__debug__" : Str)) = false := by decide) (he : starEach (e :: es) X.env = (false, eval e X.env) :: starEach es X.env := by rfl)
    (hpl : ((backTo pos (starEach (e :: es) X.env)).any (·.1) || (backToKw pos (keywordEach kws X.env)).any (·.1.isNone)) = false := by rfl) :
    PE X (.Call (.Name x p) (e :: es) kws pos) ((CE.fnK n m F ca cb).te W) := pe_calKS C tw hr ha hkw hg hall hks hdb he hpl
theorem d_knil : PK X [] ((CA.nil : CA K T).te W) := pk_nil
theorem d_kcons {nm : Option Str} {kpos : Pos} {ce : CE K T} {ca : CA K T} (ha : PE X e (ce.te W)) (hr : PK X kws (ca.te W)) : PK X (⟨nm, e, kpos⟩ :: kws) ((CA.cons ce ca).te W) := pk_cons ha hr
/-- a written tuple of texts -/
theorem rep_txts {a : Addr} {dd : Option Addr} {its : Array Value} {nn : Nat} {sl : Array (Option Value)} {l : List Str} {vs : List Value} (h : K.lookup a = some ⟨.type "tuple", dd, .seq its nn, sl⟩) (hi : its.toList = vs) (hv : Vals (l.map V.str) vs) (hl : l.length ≤ 1000) (G : Hp) : Rep K T G (.ref a) (.tup (l.map Dat.str)) := by
  refine .tup (vs := l.map V.str) (.inr ⟨_, its, nn, h, rfl, rfl, ?_, by rw [hi]; exact hv⟩) ?_
  · rw [← Array.length_toList, hi, ← Paired.length hv, List.length_map, sizeLine_eq]
    omega
  · clear hi hv hl
    induction l with
    | nil => exact .nil
    | cons z r ih => exact .cons (.str z) ih
end
end Cz
namespace Cz
open PySem
theorem kit_ref {K : PySem.W.Frag} {t : Value} {C : Addr} {b : Bool} (hd : PySem.W.hasDictIn K C = true) (ty : PySem.W.typeIn K (.ref C) = some (.type "type")) (ss : PySem.W.subIn K (.ref C) (.ref C) = some true) (hs : PySem.W.subIn K t (.ref C) = some b) : PySem.W.kitOne K t (.ref C) = some b := by
  unfold PySem.W.kitOne
  split
  · next h =>
    have e : t = .ref C := by simpa using h
    rw [e] at hs
    exact ss.symm.trans hs
  · obtain ⟨cd, hc, _⟩ := PySem.W.any_some hd
    unfold PySem.W.kitCls
    simp [hc, ty, hs]
theorem kit_VE {K : PySem.W.Frag} {D : Addr} {b : Bool} (hs : PySem.W.subIn K (.ref D) (.type "ValueError") = some b) : PySem.W.kitOne K (.ref D) (.type "ValueError") = some b := by
  unfold PySem.W.kitOne PySem.W.kitCls
  have h1 : (Value.ref D == Value.type "ValueError") = false := rfl
  have h2 : PySem.W.kitMeta "ValueError" = true := by decide +kernel
  simp [h1, h2, hs]
end Cz
namespace Cz
open PySem L2
def SRes.andThen (r : SRes) (f : Gam → SRes) : SRes := match r with
  | .nx Γ => f Γ
  | r => r
section
variable {K : PySem.W.Frag} {T : Nat → Addr}
theorem ev_CS_seqT (a b : CS K T) (Γ : Gam) : (CS.seq a b).ev Γ = (a.ev Γ).andThen b.ev := by
  rw [ev_CS_seq]
  cases a.ev Γ <;> rfl
end
@[simp] theorem andThen_nx (Γ : Gam) (f : Gam → SRes) : (SRes.nx Γ).andThen f = f Γ := rfl
@[simp] theorem andThen_rt (d : Dat) (f : Gam → SRes) : (SRes.rt d).andThen f = .rt d := rfl
@[simp] theorem andThen_bad (f : Gam → SRes) : SRes.bad.andThen f = .bad := rfl
@[simp] theorem andThen_ite (p : Prop) [Decidable p] (a b : SRes) (f : Gam → SRes) : (if p then a else b).andThen f = if p then a.andThen f else b.andThen f := by split <;> rfl
@[simp] theorem andThen_st {α : Type} (r : Rs α) (Γ : Gam) (g : α → SRes) (f : Gam → SRes) : (r.st Γ g).andThen f = r.st Γ fun x => (g x).andThen f := by cases r <;> rfl
end Cz

set_option Elab.async false
set_option linter.all false
set_option maxRecDepth 100000
set_option maxHeartbeats 4000000
/-! try with several named clauses. -/
namespace Cz
open PySem PySem.Spec PyProof.Rows L2 NdefX Evl
/-- the clauses' readings: class, slot, suite -/
abbrev Cl := Value × Nat × (Addr → Value → Option Addr → TS)
def wAsM (K : PySem.W.Frag) (Wout : WX) (D : Ends) : List Cl → WX
  | [] => Wout
  | (c, i, ts) :: r => wAs K c i ts (wAsM K Wout D r) D
inductive HdsAs (X : Cx) : List ExceptHandler → List Cl → Prop
  | nil : HdsAs X [] []
  | cons {x n : Str} {c : Value} {i : Nat} {ts : Addr → Value → Option Addr → TS} {b₀ : Stmt} {suite : List Stmt} {np pos' : Pos} {hds : List ExceptHandler} {l : List Cl} (hi : X.N[i]? = some n) (hln : X.env.kindOf n = some .local) (hc : Names X x c)
      (hsu : ∀ (a : Addr) (oe : Obj) (cls : Value) (d : Option Addr) (pn : List (Addr × Obj)), L2N.Zn cls d oe → (∃ vs, oe.data = .fields vs) → PSs (X.suite a ((a, oe) :: pn)) (b₀ :: suite) (ts a cls d)) (r : HdsAs X hds l) :
      HdsAs X (.ExceptHandler (some (.Name x np)) (some n) (b₀ :: suite) pos' :: hds) ((c, i, ts) :: l)
/-- how an exception that was caught stands: fl its way so far -/
structure Caught (X : Cx) (pins : List (Addr × Obj)) (σ : L2.St) (H : Hp) (a : Addr) (cls : Value) (d : Option Addr) (s0 : Shared) (h3 : Heap) : Prop where
  ok : X.Ok
  fin : ∃ (B : Heap) (sI : Shared), L2.Inv X pins σ H sI ∧ (∀ b o, sI.heap.get? b = some o → b ∉ frs X.stack → B.get? b = some o) ∧ sI.heap.UpToSlots h3 ∧ HandSPX.FlyingZ B (X.env :: X.outer) a (L2N.Zn cls d) h3 ∧ H a = none ∧ s0.os = sI.os ∧ AllBare s0.gens
section
variable {X : Cx} {pins : List (Addr × Obj)} {σ : L2.St} {H : Hp} {a : Addr} {cls : Value} {d : Option Addr} {s0 : Shared} {h3 : Heap} {D : Ends} {Wout : WX} {hds : List ExceptHandler} {l : List Cl}
theorem Caught.stands (c : Caught X pins σ H a cls d s0 h3) : ∃ (oe : Obj) (vs : Array Value), h3.get? a = some oe ∧ L2N.Zn cls d oe ∧ oe.data = .fields vs ∧ a ∉ frs (X.env :: X.outer) := by
  obtain ⟨B, sI, J, nb, up, fl, na, os, ag⟩ := c.fin
  obtain ⟨oe, vs, he, hz, hd⟩ := fl.there
  refine ⟨oe, vs, he, hz, hd, fun hm => ?_⟩
  obtain ⟨_, o', e', hnf⟩ := fl.2.2.1.mem hm
  rw [he] at e'
  cases e'
  exact hnf _ hd
/-- the clauses are asked one behind the other -/
theorem clauses (hs : X.stack = X.env :: X.outer) (hf : X.env.frame = some X.env.locals) (hN : X.N.Nodup) (tk : L2N.Takes X Wout) (hh : HdsAs X hds l) :
    ∀ {a : Addr} {cls : Value} {d : Option Addr} {σ : L2.St} {H : Hp} {s0 : Shared} {h3 : Heap}, Caught X pins σ H a cls d s0 h3 → wAsM X.K Wout D l cls d σ H → wpAny (model X.prog X.w) X.A (handleBy (.ref a) X.env hds) (SP X pins D) X.xe { s0 with heap := h3 } := by
  induction hh with
  | nil =>
    intro a cls d σ H s0 h3 ct w
    obtain ⟨B, sI, J, nb, up, fl, na, os, ag⟩ := ct.fin
    obtain ⟨_, _, _, oe, vs, T, _, _, he, _, hd, h1, _⟩ := id fl
    refine wpAny_handleBy_nil ?_
    unfold PySem.passOn
    refine wpAny_bind (wpAny_field he hd h1 ?_)
    rw [if_neg (show ¬ ((Value.ref T == Value.none) = true) from by simp)]
    have out : wpAny (model X.prog X.w) X.A (setFlight (.ref a) X.env.frame) (fun _ s4 => wpAny (model X.prog X.w) X.A (throw (.ref a) : Sem Flow) (SP X pins D) X.xe s4) X.xe { s0 with heap := h3 } := by
      rw [hf]
      exact HandSPX.setFlight_upZ fl fun h4 hh4 up4 => wpAny_throw (tk _ _ ⟨a, B, sI, pins, σ, H, cls, d, rfl, J, nb, up.trans up4, .inr (.inr (by rw [hs]; exact hh4)), na, os, ag, w⟩)
    first
      | exact wpAny_bind (wpAny_pure (wpAny_bind out))
      | exact wpAny_bind out
  | @cons x n c i ts b₀ suite np pos' hds2 l2 hi hln hc hsu r ih =>
    intro a cls d σ H s0 h3 ct w
    obtain ⟨oe, vs, he, hz, hd, nfr⟩ := ct.stands
    obtain ⟨B, sI, J, nb, up, fl, na, os, ag⟩ := ct.fin
    obtain ⟨b, hb1, hyes, hno⟩ := w
    have J3 : L2.Inv X pins σ H { s0 with heap := h3 } := J.landed nb fl.1 up os ag
    have nL : a ≠ X.env.locals := fun z => nfr (List.mem_filterMap.mpr ⟨X.env, List.mem_cons_self, by rw [hf, z]⟩)
    have nF : a ∉ X.fs := fun hm => by
      obtain ⟨e, h1, q⟩ := List.mem_filterMap.mp hm
      exact nfr (List.mem_filterMap.mpr ⟨e, List.mem_cons_of_mem _ h1, q⟩)
    have S3 := J3.suite he hd na nL nF
    refine wpAny_handleBy_cons (codeAny_handlers_test ?_) (by intro q; cases q)
    have LT : PySem.W.Looks (model X.prog X.w) h3 (typeOf (.ref a)) cls := fun A Q E s k q => wpAny_typeOf_ref (k _ _ he) (by rw [hz.1]; exact q)
    have asked : ∀ {Q : Value → Shared → Prop} {E : Value → Shared → Prop}, Q c { s0 with heap := h3 } → wpAny (model X.prog X.w) (X.A.mark (some (.ref a))) (eval (.Name x np) X.env) Q E { s0 with heap := h3 } := fun {Q E} q => by
      obtain ⟨hg, hdbg, hm | ⟨hm, hv, hnn⟩⟩ := hc
      · exact ld_glob (X := X.suite a ((a, oe) :: (X.pn ++ pins))) S3 hg hm q hdbg
      · exact ld_blt (X := X.suite a ((a, oe) :: (X.pn ++ pins))) S3 hg hm hv q hnn hdbg
    refine asked ((PySem.W.exm_one (M := model X.prog X.w) J3.kIn LT hb1).here ?_)
    cases b with
    | false => exact ih ct (hno rfl)
    | true =>
      refine codeAny_handlers_suite_as (HandSPX.lands_againZ fl fun h4 fl4 up4 => ?_)
      have J4 : L2.Inv X pins σ H { s0 with heap := h4 } := J.landed nb fl4.1 (up.trans up4) os ag
      obtain ⟨oe4, vs4, he4, hz4, hd4⟩ := fl4.there
      refine store_ok (X := X.suite a ((a, oe4) :: (X.pn ++ pins))) (v := .ref a) (J4.suite he4 hd4 na nL nF) hN hi (.inl hln) rfl (fun s5 S5 => ?_) (.inr hln)
      refine wpAny_mono ((hsu a oe4 cls d (X.pn ++ pins) hz4 ⟨_, hd4⟩).run [] s5 _ H _ S5 (hyes rfl a na)) (fun f s6 hsp => ?_) (fun _ _ z => False.elim z)
      have leave : ∀ {σ6 : L2.St} {H6 : Hp} {Q : Shared → Prop}, L2.Inv (X.suite a ((a, oe4) :: (X.pn ++ pins))) [] σ6 H6 s6 → (∀ s7, L2.Inv X pins (σ6.set i none) H6 s7 → Q s7) →
          wpAny (model X.prog X.w) X.A (do bindName X.env n .none; unbindBehindTheSuite X.env n pos') (fun _ s7 => Q s7) X.xe s6 := fun {σ6 H6 Q} S6 hq => gone_ok (S6.unsuite ct.ok) hN hi hln hq
      match f, hsp with
      | .next, ⟨σ6, H6, S6, q6⟩ => exact leave S6 fun s7 J7 => ⟨_, _, J7, q6⟩
      | .brk, ⟨σ6, H6, S6, q6⟩ => exact leave S6 fun s7 J7 => ⟨_, _, J7, q6⟩
      | .cont, ⟨σ6, H6, S6, q6⟩ => exact leave S6 fun s7 J7 => ⟨_, _, J7, q6⟩
      | .ret u, ⟨v6, σ6, H6, S6, r6, q6⟩ => exact leave S6 fun s7 J7 => ⟨_, _, _, J7, r6, q6⟩
/-- try: body / except A as a: .. / except B as b: .. -/
theorem ps_try_asM {body : List Stmt} {h₀ : ExceptHandler} {pos : Pos} {tb : WX → TS} (hs : X.stack = X.env :: X.outer) (hf : X.env.frame = some X.env.locals) (hN : X.N.Nodup) (tk : L2N.Takes X Wout)
    (hb : ∀ (W : WX) (pn : List (Addr × Obj)) (xe : Value → Shared → Prop), L2N.Takes (X.tr pn xe) W → PassesOwn (model X.prog X.w) X.A X.env xe → PSs (X.tr pn xe) body (tb W)) (hh : HdsAs X (h₀ :: hds) l) :
    PS X (.Try body (h₀ :: hds) [] [] pos) (fun D σ H => tb (wAsM X.K Wout D l) D σ H) := by
  refine ⟨fun pins s σ H D I h => wpAny_Try_except ?_⟩
  have ok := I.ok
  refine wpAny_mono ((hb (wAsM X.K Wout D l) (X.pn ++ pins) (fun e s₁ => wpAny (model X.prog X.w) X.A (noteFrame e X.env) (fun _ s₂ => wpAny (model X.prog X.w) X.A (setFlight e none) (fun _ s₃ =>
    wpAny (model X.prog X.w) X.A (handleBy e X.env (h₀ :: hds)) (SP X pins D) X.xe s₃) X.xe s₂) X.xe s₁) (fun u s' xx => ?_) PassesOwn.looking).run [] s σ H D (I.toTry _) h) (fun f s1 hsp => ?_) fun e s1 he => he
  · obtain ⟨a, B, sI, pins', σ', H', cls, d, rfl, J', nb, up, sky, na, os, ag, w⟩ := xx
    have sky' : Sky B (X.env :: X.outer) a (L2N.Zn cls d) X.env.locals s'.heap := by rw [← hs]; exact sky
    exact L2N.Sky.land L2N.Zn.steady (ok.frames.trans (congrArg some hs)) hf sky' fun h3 fl3 up3 => clauses hs hf hN tk hh ⟨ok, B, sI, J'.ofTry ok, nb, up.trans up3, fl3, na, os, ag⟩ w
  · match f, hsp with
    | .next, ⟨σ', H', J', q⟩ => exact wpAny_execs_nil ⟨σ', H', J'.ofTry ok, q⟩
    | .brk, ⟨σ', H', J', q⟩ => exact ⟨σ', H', J'.ofTry ok, q⟩
    | .cont, ⟨σ', H', J', q⟩ => exact ⟨σ', H', J'.ofTry ok, q⟩
    | .ret u, ⟨v, σ', H', J', r, q⟩ => exact ⟨v, σ', H', J'.ofTry ok, r, q⟩
end

/-- a certified clause -/
structure CH (K : PySem.W.Frag) (T : Nat → Addr) where
  c : Nat
  i : Nat
  sb : Nat → Option Bool
  hsb : ∀ c' b, sb c' = some b → PySem.W.exmOne K (.ref (T c')) (.ref (T c)) = some b
  su : Addr → Option Addr → Nat → CS K T
  sev : Nat → List (Str × Dat) → Gam → SRes
  hsev : ∀ a d c' fs Γ, wrapX i ((su a d c').ev (Γ.set i (.ex a d c' fs))) = sev c' fs Γ
section
variable {K : PySem.W.Frag} {T : Nat → Addr}
def CH.cl (h : CH K T) : Cl := (.ref (T h.c), h.i, fun a cls d D σ H => ∃ c', cls = .ref (T c') ∧ (h.su a d c').ts WN D σ H)
def goH (Γ : Gam) (c' : Nat) (fs : List (Str × Dat)) : List (CH K T) → SRes
  | [] => .exn Γ c' fs
  | h :: r => match h.sb c' with
    | some true => h.sev c' fs Γ
    | some false => goH Γ c' fs r
    | none => .bad
theorem goH_ok {W : WX} {D : Ends} {G0 H0 G : Hp} {Γ' : Gam} {c' : Nat} {fs : List (Str × Dat)} : ∀ (hs : List (CH K T)) {t : Prop},
    ((∀ cls d G' H' σ', Ex G G' → SG K T [] G0 H0 G' H' σ' Γ' → RepX K T G' cls d c' fs → wAsM K W D (hs.map CH.cl) cls d σ' H') → t) → SHd K T W D G0 H0 G (goH Γ' c' fs hs) t
  | [], t, h => h
  | x :: r, t, h => by
    show SHd K T W D G0 H0 G (match x.sb c' with | some true => x.sev c' fs Γ' | some false => goH Γ' c' fs r | none => .bad) t
    cases hs : x.sb c' with
    | none => trivial
    | some b =>
      cases b with
      | false => exact goH_ok r fun q => h fun cls d G' H' σ' ex sg rx => ⟨false, by rw [rx.1]; exact x.hsb c' false hs, (fun z => nomatch z), fun _ => q cls d G' H' σ' ex sg rx⟩
      | true =>
        exact SHd.all (p := fun j : { y : Value × Option Addr × Hp × Hp × L2.St × Addr // Ex G y.2.2.1 ∧ SG K T [] G0 H0 y.2.2.1 y.2.2.2.1 y.2.2.2.2.1 Γ' ∧ RepX K T y.2.2.1 y.1 y.2.1 c' fs } =>
            ∃ c'', j.1.1 = .ref (T c'') ∧ (x.su j.1.2.2.2.2.2 j.1.2.1 c'').ts WN (endX x.i D) (j.1.2.2.2.2.1.set x.i (some (.ref j.1.2.2.2.2.2))) j.1.2.2.2.1)
          (fun ⟨(cls, d, G', H', σ', a), ex, sg, rx⟩ => by
            have o2 := SHd.wrap (W := W) ((x.su a d c').ok WN (endX x.i D) G0 H0 G' H' (σ'.set x.i (some (.ref a))) (Γ'.set x.i (.ex a d c' fs)) (sg.setX ⟨rfl, rx.2⟩))
            rw [x.hsev] at o2
            exact (o2.imp fun t => ⟨c', rx.1, t⟩).back ex)
          fun all => h fun cls d G' H' σ' ex sg rx => ⟨true, by rw [rx.1]; exact x.hsb c' true hs, fun _ a _ => all ⟨(cls, d, G', H', σ', a), ex, sg, rx⟩, fun z => nomatch z⟩
/-- try with several named clauses -/
def CS.tryM (hs : List (CH K T)) (body : CS K T) : CS K T := ⟨fun W D σ H => body.ts (wAsM K W D (hs.map CH.cl)) D σ H, fun Γ => match body.ev Γ with
    | .exn Γ' c' fs => goH Γ' c' fs hs
    | r => r, fun W D G0 H0 G H σ Γ s => by
  have h := body.ok (wAsM K W D (hs.map CH.cl)) D G0 H0 G H σ Γ s
  show SHd K T W D G0 H0 G _ (body.ts (wAsM K W D (hs.map CH.cl)) D σ H)
  cases e : body.ev Γ with
  | exn Γ' c' fs => rw [e] at h; exact goH_ok hs h
  | nx Γ' => rw [e] at h; exact h
  | rt d => rw [e] at h; exact h
  | bk Γ' => rw [e] at h; exact h
  | ct Γ' => rw [e] at h; exact h
  | bad => trivial⟩
@[simp] theorem ev_CS_tryM (hs : List (CH K T)) (body : CS K T) (Γ : Gam) : (CS.tryM hs body).ev Γ = match body.ev Γ with
    | .exn Γ' c' fs => goH Γ' c' fs hs
    | r => r := rfl
@[simp] theorem goH_nil (Γ : Gam) (c' : Nat) (fs : List (Str × Dat)) : goH Γ c' fs ([] : List (CH K T)) = .exn Γ c' fs := rfl
@[simp] theorem goH_cons (Γ : Gam) (c' : Nat) (fs : List (Str × Dat)) (h : CH K T) (r : List (CH K T)) : goH Γ c' fs (h :: r) = match h.sb c' with
    | some true => h.sev c' fs Γ
    | some false => goH Γ c' fs r
    | none => .bad := rfl
def HdsC (X : Cx) (hds : List ExceptHandler) (hs : List (CH K T)) : Prop := HdsAs X hds (hs.map CH.cl)
theorem d_hnil {X : Cx} : HdsC X [] ([] : List (CH K T)) := .nil
theorem d_hcons {X : Cx} {x n : Str} {h : CH K T} {hs : List (CH K T)} {b₀ : Stmt} {suite : List Stmt} {np pos' : Pos} {hds : List ExceptHandler} (hm : X.mg x = some (.ref (T h.c)))
    (hsu : ∀ (a : Addr) (oe : Obj) (d : Option Addr) (c' : Nat) (pn : List (Addr × Obj)), L2N.Zn (.ref (T c')) d oe → (∃ vs, oe.data = .fields vs) → PSs (X.suite a ((a, oe) :: pn)) (b₀ :: suite) ((h.su a d c').ts WN)) (r : HdsC X hds hs)
    (hi : X.N[h.i]? = some n := by rfl) (hln : X.env.kindOf n = some .local := by rfl) (hg : Gl X x := by rfl) (hd : (x == ("__debug__" : Str)) = false := by decide) :
    HdsC X (.ExceptHandler (some (.Name x np)) (some n) (b₀ :: suite) pos' :: hds) (h :: hs) :=
  .cons hi hln ⟨hg, hd, .inl hm⟩ (fun a oe cls d pn hz hfl => ⟨fun pins s σ H D I q => by
    obtain ⟨c', rfl, q⟩ := q
    exact (hsu a oe d c' pn hz hfl).run pins s σ H D I q⟩) r
theorem d_tryM {X : Cx} {W : WX} {cb : CS K T} {h : CH K T} {hs : List (CH K T)} {body : List Stmt} {h₀ : ExceptHandler} {hds : List ExceptHandler} {pos : Pos} (hK : X.K = K) (tk : L2N.Takes X W) (hN : X.N.Nodup)
    (hb : ∀ (W : WX) (pn : List (Addr × Obj)) (xe : Value → Shared → Prop), L2N.Takes (X.tr pn xe) W → PassesOwn (model X.prog X.w) X.A X.env xe → PSs (X.tr pn xe) body (cb.ts W)) (hh : HdsC X (h₀ :: hds) (h :: hs))
    (e1 : X.stack = X.env :: X.outer := by rfl) (e2 : X.env.frame = some X.env.locals := by rfl) : PS X (.Try body (h₀ :: hds) [] [] pos) ((CS.tryM (h :: hs) cb).ts W) := by
  subst hK
  exact ps_try_asM (tb := cb.ts) e1 e2 hN tk hb hh
end
end Cz

set_option Elab.async false
set_option linter.all false
set_option maxRecDepth 100000
set_option maxHeartbeats 4000000
/-! raise of an own exception without a field. -/
namespace Cz
open PySem PySem.Spec PyProof.Rows L2 NdefX Evl
/-- an own exception class without __init__, over own ones over ValueError -/
structure CalX0 (K : PySem.W.Frag) (mg : Str → Option Value) (x : Str) (C : Addr) : Prop where
  q : ∃ (bmB : List Value) (newId initId B : String), ExcBaseFacts B newId initId bmB ∧ PySem.W.excIn K C bmB newId = true
  g : mg x = some (.ref C)
  k : PySem.W.keepIn K (.ref C) = true
  e : PySem.W.subIn K (.ref C) (.type "BaseException") = some true
  t : PySem.W.typeIn K (.ref C) = some (.type "type")
theorem pmk_own0 {X : Cx} {x : Str} {C : Addr} {p pos : Pos} (c : CalX0 X.K X.mg x C) (hg : Gl X x) (hdb : (x == ("__debug__" : Str)) = false) : L2N.PMk X (.Call (.Name x p) [] [] pos) (fun _ H Q => Q (.ref C) none H) := by
  obtain ⟨⟨bmB, newId, initId, B, F1, hq⟩, g, k, e, t⟩ := c
  intro pins s σ H Q I h
  refine wpAny_Call_Name_kw (ld_glob I hg g (PySem.W.callWith_K0 I.kIn k ?_) hdb)
  obtain ⟨bm, N, nm, qn, bs, hdct, sn, sub, ab, col, dd, k0, k1, k2, k3, k5, mN, hC, hN, hni, tl⟩ := exc_obj I.kIn hq
  exact wpAny_call_exc_subT F1 tl hC hN hni (fun h' e' hm => L2N.mk_of I hm (raises_own e t) h (I.hok.gone hm.new)) (Nat.zero_le _)
section
variable {K : PySem.W.Frag} {T : Nat → Addr}
def CS.raise0 (c : Nat) : CS K T := ⟨fun W _ σ H => W (.ref (T c)) none σ H, fun Γ => .exn Γ c [], fun W D G0 H0 G H σ Γ s => fun q => q (.ref (T c)) none G H σ (Ex.refl G) s ⟨rfl, .inl ⟨rfl, rfl⟩⟩⟩
@[simp] theorem ev_CS_raise0 (c : Nat) (Γ : Gam) : (CS.raise0 c : CS K T).ev Γ = .exn Γ c [] := rfl
theorem d_raise0 {X : Cx} {W : WX} {x : Str} {c : Nat} {p pos pos2 : Pos} (C : CalX0 X.K X.mg x (T c)) (hc : X.calm = true) (tk : L2N.Takes X W) (hg : Gl X x := by rfl) (hdb : (x == ("__debug__" : Str)) = false := by decide) :
    PS X (.Raise (some (.Call (.Name x p) [] [] pos)) none pos2) ((CS.raise0 (K := K) (T := T) c).ts W) := L2N.ps_raise hc tk (pmk_own0 C hg hdb)
end
end Cz
namespace Cz
open PySem PySem.Spec PyProof.Rows L2 Evl
section
variable {K : PySem.W.Frag} {T : Nat → Addr}
/-- reversed(range(n)) -/
def revD (n : Nat) : List Dat := (List.range n).map fun (i : Nat) => .int ((n : Int) - 1 - (i : Int))
theorem revD_ok {G : Hp} (n : Nat) : ItOk K T G (Itc ((0 : Int) + (n : Int) - 1) (-1) n) (revD n) := fun G' H' e1 e2 => ⟨fun i d hd => by
    have hi : i < n := by simpa [revD] using (List.getElem?_eq_some_iff.mp hd).1
    refine ⟨hi, fun y H'' hy => ?_⟩
    obtain ⟨rfl, rfl⟩ := hy
    unfold revD at hd
    rw [List.getElem?_map, List.getElem?_range hi] at hd
    have e : (0 : Int) + (n : Int) - 1 + (i : Nat) * (-1) = (n : Int) - 1 - (i : Int) := by omega
    rw [e, ← Option.some.inj hd]
    exact ⟨G', Grow.refl e2, .int _⟩, fun i hi => by
      show n ≤ i
      simpa [revD] using hi⟩
def CI.rev1 (a : CE K T) : CI K T := ⟨fun W => iRevR (tRg1 (a.te W)), fun Γ => (a.ev Γ).bind fun d => match d with | .int n => if -(2 ^ 62) ≤ n ∧ n < 2 ^ 62 then .ok (revD n.toNat) else .bad | _ => .bad, fun W fx G0 H0 G H σ Γ s => by
  exact Hd.bind (R' := ItOk K T) (f := fun d => match d with | .int n => if -(2 ^ 62) ≤ n ∧ n < 2 ^ 62 then .ok (revD n.toNat) else .bad | _ => .bad) (a.ok W fx G0 H0 G H σ Γ s) (k := fun x H1 R => ∃ n : Int, x = .int n ∧ -(2 ^ 62) ≤ (0 : Int) ∧ (0 : Int) < 2 ^ 62 ∧ -(2 ^ 62) ≤ n ∧ n < 2 ^ 62 ∧ R (Itc ((0 : Int) + (((n - 0).toNat : Nat) : Int) - 1) (-1) (n - 0).toNat) H1) fun v d G1 H1 w1 r1 _ => by
    cases r1 with
    | int n =>
      dsimp only
      split
      · next hn =>
        have e : n.toNat = (n - 0).toNat := by rw [Int.sub_zero]
        rw [e]
        exact fun R q => ⟨n, rfl, by decide, by decide, hn.1, hn.2, q _ G1 H1 (Grow.refl w1.gh) (revD_ok (n - 0).toNat)⟩
      · trivial
    | _ => trivial⟩
@[simp] theorem ev_CI_rev1 (a : CE K T) (Γ : Gam) : (CI.rev1 a).ev Γ = (a.ev Γ).bind fun d => match d with | .int n => if -(2 ^ 62) ≤ n ∧ n < 2 ^ 62 then .ok (revD n.toNat) else .bad | _ => .bad := rfl
theorem d_rev1 {X : Cx} {W : WX} {tg a : Expr} {ca : CE K T} {p p1 pos pos1 : Pos} (hm : X.mg "reversed" = none) (hr : X.mg "range" = none) (ha : PE X a (ca.te W)) (hg : Gl X "reversed" := by rfl) (hg2 : Gl X "range" := by rfl)
    (hs1 : starEach [a] X.env = (false, eval a X.env) :: starEach [] X.env := by rfl) (hs2 : starEach [.Call (.Name "range" p1) [a] [] pos1] X.env = (false, eval (.Call (.Name "range" p1) [a] [] pos1) X.env) :: starEach [] X.env := by rfl) :
    PI X tg (.Call (.Name "reversed" p) [.Call (.Name "range" p1) [a] [] pos1] [] pos) ((CI.rev1 ca).te W) := pi_revR hg hm (prg_1 hg2 hr ha hs1) hs2
/-- x, y = a, b -/
def CS.par (i j : Nat) (a : CA K T) : CS K T := ⟨fun W => tPar i j (a.te W), fun Γ => (a.ev Γ).st Γ fun ds => match ds with | [x, y] => .nx ((Γ.set i (.d x)).set j (.d y)) | _ => .bad, fun W D G0 H0 G H σ Γ s =>
  Hd.st s (a.ok W [] G0 H0 G H σ Γ s) fun v d G1 H1 w r _ => by
    split
    · next x y =>
      cases r with
      | cons h1 r =>
        cases r with
        | cons h2 r =>
          cases r
          exact fun q => ⟨_, _, rfl, q G1 H1 _ (Ex.refl G1) (((s.grow w).setD h1).setD h2)⟩
    · trivial⟩
@[simp] theorem ev_CS_par (i j : Nat) (a : CA K T) (Γ : Gam) : (CS.par i j a).ev Γ = (a.ev Γ).st Γ fun ds => match ds with | [x, y] => .nx ((Γ.set i (.d x)).set j (.d y)) | _ => .bad := rfl
theorem d_par {X : Cx} {W : WX} {i j : Nat} {x y : Str} {a b : Expr} {ca : CA K T} {px py pt pos : Pos} {kt k2 pt2} (hc : X.calm = true) (hN : X.N.Nodup) (hij : i ≠ j) (ha : PA X [a, b] (ca.te W))
    (hw : swappedStores [.Tuple [.Name x px, .Name y py] kt pt] (.Tuple [a, b] k2 pt2) X.env = pure (some [x, y]))
    (hi : X.N[i]? = some x := by rfl) (hj : X.N[j]? = some y := by rfl) (hx : X.env.scope.names.lookup x = some .local := by rfl) (hy : X.env.scope.names.lookup y = some .local := by rfl)
    (hs : swapsWithSole [.Tuple [.Name x px, .Name y py] kt pt] (.Tuple [a, b] k2 pt2) pos.line X.env = pure false := by rfl) :
    PS X (.Assign [.Tuple [.Name x px, .Name y py] kt pt] (.Tuple [a, b] k2 pt2) pos) ((CS.par i j ca).ts W) := ps_par hc hN hi hj hij hx hy ha hw hs
end
end Cz

set_option Elab.async false
set_option linter.all false
set_option maxRecDepth 100000
set_option maxHeartbeats 4000000
/-! A def that is handed the caught exception, called in the suite. -/
namespace Cz
open PySem PySem.Spec PyProof.Rows L2 NdefX Evl
/-- its promise: F by the exception's class -/
structure FnE (P : Program) (w : World) (K : PySem.W.Frag) (T : Nat → Addr) (mg : Str → Option Value) (base : Heap) (k : Nat) (f : Addr) (fd : FuncData) (pn : Str) (F : Nat → Rs Dat) : Prop where
  run : ∀ (A : Around) (outer : List Env) (s : Shared) (H : Hp) (args : Args) (Q : VK) (p : Addr × Obj) (c' : Nat) (d : Option Addr), L2H.RoomH k A → L2H.Hot1 A p → L2H.PinOk outer H s p → L2N.Zn (.ref (T c')) d p.2 → Env0 P w K mg base A outer s H → BindsTo s fd args [(pn, .ref p.1)] →
    (∃ G fs r, Ex G H ∧ RepX K T G (.ref (T c')) d c' fs ∧ F c' = .ok r ∧ ∀ v G' H', Grow G H G' H' → Rep K T G' v r → Q v H') → codeAny (model P w) A (.call (.ref f) args) (CR (L2N.CX P w) outer P w H s Q fun _ _ _ => False) s
section
variable {K : PySem.W.Frag} {T : Nat → Addr}
theorem ok_fnE {P : Program} {w : World} {mg : Str → Option Value} {base : Heap} {x qual pn : Str} {st : Stmt} {f : Addr} {fd : FuncData} {N : List Str} {k : Nat} {F : Nat → Rs Dat} (Fn : Fun K x qual st f fd) (S : FnScope N [pn] (defScope st)) (hN : 0 < N.length) (b : Addr → Option Addr → Nat → CS K T)
    (h : ∀ (cdv : Value) (A : Around) (outer : List Env) (s : Shared) (H : Hp) (p : Addr × Obj) (c' : Nat) (d : Option Addr), L2H.Hot1 A p → L2N.Zn (.ref (T c')) d p.2 → L2H.RoomH k (A.deeper (PyProof.Rows.envOfC qual (defScope st) s.heap.objs.size f cdv)) →
      PSs (L2H.cxH (L2N.CX P w) P w K mg base N qual (defScope st) f cdv A outer s H (fun _ _ _ => False) p) (defBody st) ((b p.1 d c').ts WN))
    (hv : ∀ a d c' fs r, F c' = .ok r → (b a d c').ev ((List.replicate N.length Slot.un).set 0 (.ex a d c' fs)) = .rt r) : FnE P w K T mg base (k + 1) f fd pn F := by
  obtain ⟨oc, od, kV, doc, pm, an, cdv, ct, osl, rfl, lk, hcd⟩ := Fn.ex
  refine ⟨fun A outer s H args Q p c' d hr hot hpin hz e0 hb ⟨G, fs, r, eg, rx, hF, q⟩ => ?_⟩
  have KX : K.In s.heap := e0.mod.kin.keeps fun b o e => (e0.bs b o e).1
  have lim : s.heap.NoLimit := e0.mod.nolimit.keeps fun b o e => (e0.bs b o e).1
  have hkind : ∀ y ∈ [(pn, Value.ref p.1)], (defScope st).names.lookup y.1 = some .local ∨ ((defScope st).names.lookup y.1 = some .cell ∧ ((cellsFrom (s.heap.objs.size + 1) (defScope st).names []).lookup y.1).isSome = true) := fun y hy => by
    obtain rfl : y = (pn, Value.ref p.1) := by simpa using hy
    exact (S.par pn (List.mem_cons_self ..)).imp id fun q => ⟨q, PySem.W.cellsFrom_some _ _ _ (.inl q)⟩
  refine codeAny_call_function hr.depth (KX _ _ lk) rfl S.co S.gen rfl (PySem.W.codeRec_of KX hcd) (hb _ _ _ _ (wpAny_newFunctionEnv_cells S.kind hkind fun env he s1 x => ?_))
  subst he
  refine ⟨lim.keeps x.toInCall.keep, codeAny_func ?_⟩
  have I := L2H.inv_startH (E := fun _ _ _ => False) (CX := L2N.CX P w) (N := N) (ps := [pn]) (us := [.ref p.1]) (vs := [.ref p.1]) S hpin e0 rfl (.cons rfl .nil) x
  have s0 : SG K T [] G H G H (L2.start N [.ref p.1]) ((List.replicate N.length Slot.un).set 0 (.ex p.1 d c' fs)) := by
    have z := SG.setX (i := 0) (a := p.1) (SG.start (K := K) (T := T) eg (.nil) N.length) rx
    have e : L2.start N [.ref p.1] = ([].map some ++ List.replicate N.length none).set 0 (some (V.ref p.1)) := by
      unfold L2.start
      obtain ⟨n, hn⟩ : ∃ n, N.length = n + 1 := ⟨N.length - 1, by omega⟩
      rw [hn]
      rfl
    rw [e]
    simpa using z
  have o := (b p.1 d c').ok WN { nx := fun _ H' => Q .non H', rt := Q } G H G H _ _ s0
  rw [hv _ _ _ _ _ hF] at o
  have t := o fun v G' H' w' r' => q v G' H' w' r'
  refine wpAny_mono ((h cdv A outer s H p c' d hot hz (hr.deeper _)).run [] s1 _ H _ I t) (fun fl s' hs => ?_) fun e s' hs => hs
  match fl, hs with
  | .ret u, ⟨v, σ', H', J, rv, qv⟩ => exact ⟨v, H', J.os, J.bare, J.base, J.hok, rv, qv⟩
  | .next, ⟨σ', H', J, qv⟩ => exact ⟨.non, H', J.os, J.bare, J.base, J.hok, rfl, qv⟩
  | .brk, ⟨_, _, _, qv⟩ => exact False.elim qv
  | .cont, ⟨_, _, _, qv⟩ => exact False.elim qv
/-- isinstance of an exception that every state bears -/
theorem call_isP {X : Cx} {tb : Nat → Option Bool} {c' : Nat} {a : Addr} {oe : Obj} {d : Option Addr} {u : V} {cv : Value} (hK : X.K = K) (hp : (a, oe) ∈ X.pn) (hu : ∀ z, L2.RelV u z → z = cv) (htb : ∀ c b, tb c = some b → PySem.W.kitOne K (.ref (T c)) cv = some b)
    (hec : ∀ c b, tb c = some b → ExcC K (T c)) (hz : L2N.Zn (.ref (T c')) d oe) (hf : ∃ vs, oe.data = .fields vs) : CallR X (.builtin "isinstance") (rIsX tb c' a d u) := by
  subst hK
  intro pins s σ H xs us Q I r h
  obtain ⟨b, rfl, hd, hb, q⟩ := h
  have C := hec c' b hb
  obtain ⟨y1, y2, rfl, rx, rt⟩ : ∃ y1 y2, us = [y1, y2] ∧ L2.RelV (.ref a) y1 ∧ L2.RelV u y2 := by
    cases r with
    | cons r1 rr =>
      cases rr with
      | cons r2 rr =>
        cases rr
        exact ⟨_, _, rfl, r1, r2⟩
  obtain rfl : y1 = Value.ref a := rx
  have ec := hu _ rt
  subst ec
  obtain ⟨hget, _⟩ := I.pin (a, oe) (List.mem_append_left _ hp)
  obtain ⟨vs, hv⟩ := hf
  have nc : PySem.W.notCls oe = true := by unfold PySem.W.notCls; rw [hv] <;> rfl
  have J : ∃ od, PySem.W.InstAt s.heap a oe (T c') od := by
    rcases hd with rfl | ⟨dd, fs, rfl, hx⟩
    · exact ⟨none, hget, hz.1, nc, by rw [hz.2.1]; trivial⟩
    · have ho : ObjOk X.prog X.w H s.heap dd (.xd fs) := I.hok dd _ hx
      obtain ⟨mA, hns, hr⟩ := ho
      obtain ⟨od, ho, hl⟩ := lookIn_ns hns
      exact ⟨some od, hget, hz.1, nc, by rw [hz.2.1]; exact ho⟩
  obtain ⟨od, J⟩ := J
  have hcl : (PySem.W.clsIn X.K (T c')).isSome = true := by
    obtain ⟨cd, hc, _⟩ := PySem.W.any_some C.hd
    rw [hc]
    rfl
  exact PySem.W.kia_one (PySem.W.kitx_exc hcl C.hg C.hk C.hs C.ha C.hn C.ht C.hm) I.kIn J (htb c' b hb) (fun z => nomatch z) fun tk => ⟨.bl b, H, I.kept (t' := tk) fun _ _ z => z, rfl, q⟩
/-- a def that may be handed the caught exception -/
structure CalE (P : Program) (w : World) (K : PySem.W.Frag) (T : Nat → Addr) (mg : Str → Option Value) (base : Heap) (x : Str) (k : Nat) (F : Nat → Rs Dat) : Prop where
  ex : ∃ f fd pn, mg x = some (.ref f) ∧ PySem.W.keepIn K (.ref f) = true ∧ (∀ (s : Shared) (u : Value), BindsTo s fd ⟨[u], []⟩ [(pn, u)]) ∧ FnE P w K T mg base k f fd pn F
def rCalE (K : PySem.W.Frag) (T : Nat → Addr) (F : Nat → Rs Dat) (a : Addr) (d : Option Addr) (c' : Nat) (xs : List V) (H : Hp) (Q : VK) : Prop :=
  xs = [.ref a] ∧ ∃ G fs r, Ex G H ∧ RepX K T G (.ref (T c')) d c' fs ∧ F c' = .ok r ∧ ∀ v G' H', Grow G H G' H' → Rep K T G' v r → Q v H'
/-- f(e), e the caught exception -/
def CE.callE (a : Addr) (d : Option Addr) (c' i : Nat) (F : Nat → Rs Dat) : CE K T := ⟨fun _ σ H Q => tCons (tVar i) tNil σ H fun xs H1 => rCalE K T F a d c' xs H1 Q, fun Γ => match Γ[i]? with
    | some (.ex a' d' c2 fs) => if a' = a ∧ d' = d ∧ c2 = c' then (match F c' with | .ok r => .ok r | _ => .bad) else .bad
    | _ => .bad, fun W fx G0 H0 G H σ Γ s => by
  split
  · next a' d' c2 fs hg =>
    split
    · next hh =>
      obtain ⟨rfl, rfl, rfl⟩ := hh
      split
      · next r hr =>
        obtain ⟨e1, rx⟩ := s.getX hg
        exact fun Q q => ⟨.ref a', e1, rfl, G, fs, r, s.gh, rx, hr, q⟩
      · trivial
    · trivial
  · trivial⟩
@[simp] theorem ev_CE_callE (a : Addr) (d : Option Addr) (c' i : Nat) (F : Nat → Rs Dat) (Γ : Gam) : (CE.callE a d c' i F : CE K T).ev Γ = match Γ[i]? with
    | some (.ex a' d' c2 fs) => if a' = a ∧ d' = d ∧ c2 = c' then (match F c' with | .ok r => .ok r | _ => .bad) else .bad
    | _ => .bad := rfl
theorem pe_callE {X : Cx} {x n : Str} {k i : Nat} {F : Nat → Rs Dat} {a : Addr} {oe : Obj} {d : Option Addr} {c' : Nat} {p p1 pos : Pos} (C : CalE X.prog X.w X.K T X.mg X.base x k F) (hot : L2H.Hot1 X.A (a, oe)) (hp : (a, oe) ∈ X.pn) (hz : L2N.Zn (.ref (T c')) d oe) (hr : L2H.RoomH k X.A) (hn : PE X (.Name n p1) (tVar i)) (hg : Gl X x)
    (hdb : (x == ("__debug__" : Str)) = false) (he : starEach [.Name n p1] X.env = (false, eval (.Name n p1) X.env) :: starEach [] X.env) (hpl : (backTo pos (starEach [] X.env)).any (·.1) = false) :
    PE X (.Call (.Name x p) [.Name n p1] [] pos) ((CE.callE (K := X.K) (T := T) a d c' i F).te WN) := by
  obtain ⟨f, fd, pn, hm, hk, hb, F1⟩ := C.ex
  refine ⟨fun pins s σ H Q I h => wpAny_Call_Name_kw (ld_glob I hg hm ?_ hdb)⟩
  have h2 : tCons (tVar i) tNil σ H (fun xs H1 => rCalE X.K T F a d c' xs H1 Q) := h
  refine PySem.W.callWith_K (h₀ := X.base) I.ok.mod.kin hk (thn ((pa_cons hn pa_nil he).run pos pins s σ H _ I h2) fun us s1 hh => ?_) he hpl
  obtain ⟨vs, H1, I1, r, ev, G, fs, rr, eg, rx, hF, q⟩ := hh
  refine ⟨I1.kIn, ?_⟩
  subst ev
  obtain ⟨y, rfl, ry⟩ := r.one
  obtain rfl : y = Value.ref a := ry
  have P1 := I1.pin (a, oe) (List.mem_append_left _ hp)
  have hpin : L2H.PinOk X.stack H1 s1 (a, oe) := ⟨P1.1, P1.2.1, fun hm => (List.mem_cons.mp (I1.stkSub a hm)).elim P1.2.2.1 P1.2.2.2.1, P1.2.2.2.2⟩
  refine wpAny_call (codeAny_mono (F1.run X.A X.stack s1 H1 ⟨[.ref a], []⟩ Q (a, oe) c' d hr hot hpin hz I1.env0 (hb s1 (.ref a)) ⟨G, fs, rr, eg, rx, hF, q⟩) fun fr s' hq => ?_)
  match fr, hq with
  | .ok (.ret u), hq => exact I1.after hq
  | .error ev, ⟨_, _, _, _, _, _, _, _, _, _, _, _, z⟩ => exact z.elim
/-- an owned list and a new one, put together into a new one -/
def CO.addO (i : Nat) (c : CO K T) : CO K T := ⟨fun W => tOp rCat (tVar i) (c.te W), fun Γ => match Γ[i]? with
    | some (.ol xs) => (c.ev Γ).bind fun ys => if xs.length + ys.length ≤ lim then .ok (xs ++ ys) else .bad
    | _ => .bad, fun W fx G0 H0 G H σ Γ s => by
  cases hg : Γ[i]? with
  | none => trivial
  | some t =>
    cases t with
    | ol xs =>
      obtain ⟨a, vs, e1, ea, rv, ga, ha⟩ := s.getL hg
      have hc := c.ok W fx G0 H0 G H σ Γ s
      cases e : c.ev Γ with
      | bad => trivial
      | exn c2 fs =>
        rw [e] at hc
        exact fun w Q => ⟨.ref a, e1, hc w _⟩
      | ok ys =>
        rw [e] at hc
        show (match (if xs.length + ys.length ≤ lim then Rs.ok (xs ++ ys) else Rs.bad) with
          | .ok d => ∀ Q : VK, (∀ p vs G' H', Grow G H G' H' → H' p = none → RepL K T G' vs d → Q (.ref p) (upd H' p (.lst vs))) → tOp rCat (tVar i) (c.te W) σ H Q
          | .exn cc fs => (∀ cls d G' H', Grow G H G' H' → RepX K T G' cls d cc fs → W cls d σ H') → ∀ Q : VK, tOp rCat (tVar i) (c.te W) σ H Q
          | .bad => True)
        split
        · next d hd =>
          split at hd
          · next hl =>
            cases hd
            refine fun Q q => ⟨.ref a, e1, hc _ fun p ws G1 H1 w n rw' => ?_⟩
            have ea1 : H1 a = some (.lst vs) := w.h _ _ ea
            have nap : a ≠ p := fun z => by rw [z, n] at ea1; cases ea1
            have l1 : vs.length = xs.length := rv.length
            have l2 : ws.length = ys.length := rw'.length
            refine ⟨a, p, vs, ws, rfl, rfl, by rw [upd_ne nap]; exact ea1, upd_same, by rw [l1, l2, sizeLine_eq]; unfold lim at hl; omega, fun p2 n2 => ?_⟩
            exact q p2 (vs ++ ws) G1 _ (w.trans (Grow.newH w.gh n)) n2 ((rv.mono w.g).append rw')
          · cases hd
        · next hd => split at hd <;> cases hd
        · trivial
    | _ => trivial⟩
@[simp] theorem ev_CO_addO (i : Nat) (c : CO K T) (Γ : Gam) : (CO.addO i c).ev Γ = match Γ[i]? with
    | some (.ol xs) => (c.ev Γ).bind fun ys => if xs.length + ys.length ≤ lim then .ok (xs ++ ys) else .bad
    | _ => .bad := rfl
end
end Cz

set_option Elab.async false
set_option linter.all false
set_option maxRecDepth 100000
set_option maxHeartbeats 4000000
/-! The words for a def that is handed the caught exception. -/
namespace Cz
open PySem PySem.Spec PyProof.Rows L2 NdefX Evl
section
variable {K : PySem.W.Frag} {T : Nat → Addr}
theorem d_isP {X : Cx} {W : WX} {tb : Nat → Option Bool} {c' i : Nat} {a : Addr} {oe : Obj} {d : Option Addr} {u : V} {cv : Value} {n x : Str} {p p1 p2 pos : Pos} (hK : X.K = K) (hp : (a, oe) ∈ X.pn) (hu : ∀ z, L2.RelV u z → z = cv) (htb : ∀ c b, tb c = some b → PySem.W.kitOne K (.ref (T c)) cv = some b)
    (hec : ∀ c b, tb c = some b → ExcC K (T c)) (hz : L2N.Zn (.ref (T c')) d oe) (hf : ∃ vs, oe.data = .fields vs) (hi : X.mg "isinstance" = none) (hx : PE X (.Name x p2) (tC u))
    (hN : X.N[i]? = some n := by rfl) (hv : Vis X.env.scope n := by first | exact Or.inl rfl | exact Or.inr (Or.inl rfl) | exact Or.inr (Or.inr rfl)) (hd : (n == ("__debug__" : Str)) = false := by decide) (hcd : (n == ("__classdict__" : Str)) = false := by decide)
    (hg : Gl X "isinstance" := by rfl) (hs1 : starEach [.Name n p1, .Name x p2] X.env = (false, eval (.Name n p1) X.env) :: starEach [.Name x p2] X.env := by rfl)
    (hs2 : starEach [.Name x p2] X.env = (false, eval (.Name x p2) X.env) :: starEach [] X.env := by rfl)
    (hpl : (backTo pos (starEach [.Name x p2] X.env)).any (·.1) = false := by rfl) :
    PE X (.Call (.Name "isinstance" p) [.Name n p1, .Name x p2] [] pos) ((CE.isX (K := K) (T := T) a d c' i tb u).te W) :=
  pe_callB (call_isP (T := T) hK hp hu htb hec hz hf) hg hi (by decide +kernel) (pa_cons (pe_var hN hv hd hcd) (pa_cons hx pa_nil hs2) hs1) (by decide) (by decide) hs1 hpl
theorem d_callE {X : Cx} {x n : Str} {k i : Nat} {F : Nat → Rs Dat} {a : Addr} {oe : Obj} {d : Option Addr} {c' : Nat} {pn : List (Addr × Obj)} {p p1 pos : Pos} (hK : X.K = K) (C : CalE X.prog X.w K T X.mg X.base x k F) (hz : L2N.Zn (.ref (T c')) d oe) (hf : ∃ vs, oe.data = .fields vs) (hr : L2H.RoomH k (X.suite a ((a, oe) :: pn)).A)
    (hN : X.N[i]? = some n := by rfl) (hv : Vis X.env.scope n := by first | exact Or.inl rfl | exact Or.inr (Or.inl rfl) | exact Or.inr (Or.inr rfl)) (hd : (n == ("__debug__" : Str)) = false := by decide) (hcd : (n == ("__classdict__" : Str)) = false := by decide)
    (hg : Gl X x := by rfl) (hdb : (x == ("__debug__" : Str)) = false := by decide)
    (he : starEach [.Name n p1] (X.suite a ((a, oe) :: pn)).env = (false, eval (.Name n p1) (X.suite a ((a, oe) :: pn)).env) :: starEach [] (X.suite a ((a, oe) :: pn)).env := by rfl) (hpl : (backTo pos (starEach [] (X.suite a ((a, oe) :: pn)).env)).any (·.1) = false := by rfl) :
    PE (X.suite a ((a, oe) :: pn)) (.Call (.Name x p) [.Name n p1] [] pos) ((CE.callE (K := K) (T := T) a d c' i F).te WN) := by
  subst hK
  exact pe_callE (X := X.suite a ((a, oe) :: pn)) C (by obtain ⟨vs, hd⟩ := hf; exact ⟨rfl, vs, hd, hz.2.2 vs hd⟩) List.mem_cons_self hz hr (pe_var (X := X.suite a ((a, oe) :: pn)) hN hv hd hcd) hg hdb he hpl
theorem d_addO1 {X : Cx} {W : WX} {i : Nat} {x : Str} {b : Expr} {e : CO X.K T} {p pos : Pos} (hb : PE X b (e.te W)) (hN : X.N[i]? = some x := by rfl) (hv : Vis X.env.scope x := by first | exact Or.inl rfl | exact Or.inr (Or.inl rfl) | exact Or.inr (Or.inr rfl)) (hd : (x == ("__debug__" : Str)) = false := by decide)
    (hcd : (x == ("__classdict__" : Str)) = false := by decide) : PE X (.BinOp (.Name x p) .Add b pos) ((CO.addO i e).te W) := pe_op op_cat (pe_var hN hv hd hcd) hb
end
end Cz

set_option Elab.async false
set_option linter.all false
set_option maxRecDepth 100000
set_option maxHeartbeats 2000000
/-! zip of two and of three lists, tuples and texts, in any mix. -/
namespace Cz
open PySem PySem.Spec PyProof.Rows L2

inductive Src where
  | lst (a : Addr) | tup (a : Addr) | txt (x : Str)
namespace Src
def v : Src → V
  | .lst a => .ref a
  | .tup a => .ref a
  | .txt x => .str x
def Is (K : PySem.W.Frag) (H : Hp) : Src → List V → Prop
  | .lst a, vs => SqL K H a vs
  | .tup a, vs => SqT K H a vs
  | .txt x, vs => vs = x.cps.toList.map fun c => .str ⟨#[c]⟩
def cells : Src → List Addr
  | .lst a => [a]
  | .tup a => [a]
  | .txt _ => []
def At (t : Tok) (it : Addr) (i : Nat) (h : Heap) : Src → Prop
  | .lst a => h.IsListIter it a i
  | .tup a => h.IsTupleIter it a i
  | .txt x => h.IsStrIter it (strIterType x) x t i
def Has (its : List Value) (h : Heap) : Src → Prop
  | .lst a => h.IsList a its.toArray
  | .tup a => h.IsTuple a its.toArray
  | .txt x => its.length = x.cps.size
def P (its : List Value) (i : Nat) (u : Value) : Src → Prop
  | .txt x => ∃ c t, x.cps[i]? = some c ∧ u = .str ⟨#[c]⟩ t
  | _ => its.toArray[i]? = some u
theorem draws {prog : Program} {w : World} {A : Around} (hh : A.handled = none) (it : Addr) (t : Tok) (its : List Value) (s : Src) (hne : ∀ b ∈ s.cells, b ≠ it) (n : Nat) (hn : its.length = n) (hx : ∀ x, s = .txt x → x.cps.size = n) :
    Draws prog w A it (it :: s.cells) n (fun i u => s.P its i u) (fun i h => s.At t it i h ∧ s.Has its h) := by
  cases s with
  | lst a =>
    have := Draws.list (prog := prog) (w := w) hh it a (hne a (by simp [cells])) its.toArray
    rw [List.size_toArray, hn] at this
    exact this
  | tup a =>
    have := Draws.tuple (prog := prog) (w := w) hh it a (hne a (by simp [cells])) its.toArray
    rw [List.size_toArray, hn] at this
    exact this
  | txt x =>
    have D := Draws.text (prog := prog) (w := w) hh it x t
    rw [hx x rfl] at D
    exact ⟨fun i h st => D.live i h st.1, fun i h h' st k => ⟨D.frame i h h' st.1 k, st.2⟩, fun i s Q E hi st hQ => D.item i s Q E hi st.1 fun x' h' tk p q r => hQ x' h' tk p ⟨q, st.2⟩ r, fun s Q E st hE => D.done s Q E st.1 hE⟩
theorem has {X : Cx} {pins : List (Addr × Obj)} {σ : L2.St} {H : Hp} {s : Shared} (I : Inv X pins σ H s) {c : Src} {vs : List V} (h : c.Is X.K H vs) : ∃ its : List Value, its.length = vs.length ∧ c.Has its s.heap ∧ (∀ x, c = .txt x → x.cps.size = vs.length) ∧ ∀ i u, c.P its i u → ∃ x, vs[i]? = some x ∧ RelV x u := by
  cases c with
  | lst a =>
    obtain ⟨its, rv, p, _⟩ := I.list h
    refine ⟨its, rv.length.symm, p.isList, (fun x e => nomatch e), fun i u e => ?_⟩
    have e' : its[i]? = some u := by simpa [P] using e
    have hl : i < vs.length := by rw [rv.length]; exact (List.getElem?_eq_some_iff.mp e').1
    obtain ⟨u', e2, r⟩ := rv.get (List.getElem?_eq_getElem hl)
    rw [e'] at e2
    cases e2
    exact ⟨_, List.getElem?_eq_getElem hl, r⟩
  | tup a =>
    obtain ⟨its, rv, p, _⟩ := I.tuple h
    refine ⟨its, rv.length.symm, p, (fun x e => nomatch e), fun i u e => ?_⟩
    have e' : its[i]? = some u := by simpa [P] using e
    have hl : i < vs.length := by rw [rv.length]; exact (List.getElem?_eq_some_iff.mp e').1
    obtain ⟨u', e2, r⟩ := rv.get (List.getElem?_eq_getElem hl)
    rw [e'] at e2
    cases e2
    exact ⟨_, List.getElem?_eq_getElem hl, r⟩
  | txt x =>
    have h' : vs = x.cps.toList.map fun c => .str ⟨#[c]⟩ := h
    subst h'
    refine ⟨List.replicate x.cps.size .none, by simp, by simp [Has], fun y e => by cases e; simp, fun i u e => ?_⟩
    obtain ⟨c, t, e1, rfl⟩ := e
    refine ⟨.str ⟨#[c]⟩, ?_, ⟨t, rfl⟩⟩
    rw [List.getElem?_map, Array.getElem?_toList, e1]
    rfl
theorem is_inj {X : Cx} {pins : List (Addr × Obj)} {σ : L2.St} {H : Hp} {s : Shared} (I : Inv X pins σ H s) {c : Src} {vs us : List V} (h : c.Is X.K H vs) (h' : c.Is X.K H us) : vs = us := by
  cases c with
  | lst a => exact I.list_inj h h'
  | tup a => exact I.tuple_inj h h'
  | txt x => exact (show vs = _ from h).trans (show us = _ from h').symm
theorem At.over {t : Tok} {it z : Addr} {i : Nat} {h h' : Heap} {s : Src} (x : s.At t it i h) (k : ∀ o, h.get? it = some o → h'.get? it = some o) : s.At t it i h' := by
  cases s with
  | lst a => obtain ⟨o, h1, h2⟩ := x; exact ⟨o, k _ h1, h2⟩
  | tup a => obtain ⟨o, h1, h2⟩ := x; exact ⟨o, k _ h1, h2⟩
  | txt y => obtain ⟨o, h1, h2⟩ := x; exact ⟨o, k _ h1, h2⟩
theorem At.obj {t : Tok} {it : Addr} {i : Nat} {h : Heap} {s : Src} (x : s.At t it i h) : ∃ o, h.get? it = some o ∧ ∀ v, o.data ≠ .cell v := by
  cases s with
  | lst a => obtain ⟨o, h1, _, h2⟩ := x; exact ⟨o, h1, fun v q => by rw [h2] at q; cases q⟩
  | tup a => obtain ⟨o, h1, _, h2⟩ := x; exact ⟨o, h1, fun v q => by rw [h2] at q; cases q⟩
  | txt y => obtain ⟨o, h1, _, h2⟩ := x; exact ⟨o, h1, fun v q => by rw [h2] at q; cases q⟩
/-- iter(the source) -/
theorem begins {X : Cx} {pins : List (Addr × Obj)} {σ : L2.St} {H : Hp} {s : Shared} (I : Inv X pins σ H s) {c : Src} {vs : List V} (h : c.Is X.K H vs) {u : Value} (r : RelV c.v u) :
    ∃ (t : Tok) (o : Obj) (Hb : Heap → Prop), Begins u o Hb ∧ Hb s.heap ∧ (∀ (h' : Heap) (it : Addr), h'.get? it = some o → c.At t it 0 h') ∧ ∀ b ∈ c.cells, b < s.heap.objs.size := by
  cases c with
  | lst a =>
    obtain ⟨its, rv, p, _⟩ := I.list h
    cases (show u = Value.ref a from r)
    exact ⟨0, _, _, begins_list a its.toArray, p.isList, fun h' it e => ⟨_, e, rfl, rfl⟩, fun b m => by
      have : b = a := by simpa [cells] using m
      rw [this]; exact p.lt⟩
  | tup a =>
    obtain ⟨its, rv, p, _⟩ := I.tuple h
    cases (show u = Value.ref a from r)
    exact ⟨0, _, _, begins_tuple a its.toArray, p, fun h' it e => ⟨_, e, rfl, rfl⟩, fun b m => by
      have : b = a := by simpa [cells] using m
      rw [this]; exact p.lt⟩
  | txt x =>
    obtain ⟨t, e⟩ := (show ∃ t, u = Value.str x t from r)
    subst e
    exact ⟨t, _, _, begins_text x t, trivial, fun h' it e => ⟨_, e, rfl, rfl⟩, fun b m => by simp [cells] at m⟩
end Src

/-! ### two -/
def ItZ2 (K : PySem.W.Frag) (c1 c2 : Src) (n1 n2 : Nat) : It :=
  ⟨fun i H => ∃ (xs ys : List V), c1.Is K H xs ∧ c2.Is K H ys ∧ xs.length = n1 ∧ ys.length = n2 ∧ i < n1 ∧ i < n2,
    fun i H v H' => ∃ T x y, v = .ref T ∧ H T = none ∧ H' = upd H T (.tup [x, y]) ∧ (∀ xs, c1.Is K H xs → xs[i]? = some x) ∧ ∀ ys, c2.Is K H ys → ys[i]? = some y,
    fun i H => ∃ xs ys : List V, c1.Is K H xs ∧ c2.Is K H ys ∧ xs.length = n1 ∧ ys.length = n2 ∧ (n1 ≤ i ∨ n2 ≤ i)⟩
theorem turn_z2 {P : Program} {w : World} {K : PySem.W.Frag} {elts : List Expr} {kk : Nat} {tpos : Pos} {c1 c2 : Src} {n1 n2 : Nat} {t1 t2 : Tok} {N : Nat} (l1 : ∀ b ∈ c1.cells, b < N) (l2 : ∀ b ∈ c2.cells, b < N) :
    Turn P w K (.Tuple elts kk tpos) (ItZ2 K c1 c2 n1 n2) [N + 4, N + 2, N + 3, N, N + 1] (N + 4) (fun i h => IsZip h (N + 4) (N + 2) (N + 3) .none ∧ IsTupOf2 h (N + 2) (.ref N) (.ref (N + 1)) ∧ (∃ x y, IsTupOf2 h (N + 3) x y) ∧ c1.At t1 N i h ∧ c2.At t2 (N + 1) i h ∧ i ≤ n1 ∧ i ≤ n2) where
  mem := by simp
  obj := fun i h st c hc => by
    obtain ⟨hz, hTI, ⟨x, y, hTO⟩, a1, a2, _⟩ := st
    have e' : c = N + 4 ∨ c = N + 2 ∨ c = N + 3 ∨ c = N ∨ c = N + 1 := by simpa using hc
    rcases e' with q | q | q | q | q
    · rw [q]; exact ⟨_, hz, fun v q => nomatch q⟩
    · rw [q]; exact ⟨_, hTI, fun v q => nomatch q⟩
    · rw [q]; exact ⟨_, hTO, fun v q => nomatch q⟩
    · rw [q]; exact a1.obj
    · rw [q]; exact a2.obj
  keep := fun i h h' st k => by
    obtain ⟨hz, hTI, ⟨x, y, hTO⟩, a1, a2, hl⟩ := st
    exact ⟨k (N + 4) (by simp) _ hz, k (N + 2) (by simp) _ hTI, ⟨x, y, k (N + 3) (by simp) _ hTO⟩, a1.over (z := N) (k N (by simp)), a2.over (z := N) (k (N + 1) (by simp)), hl⟩
  item := by
    intro X hP hw hK hc i pins s σ H E I hf st hg
    subst hP hw hK
    obtain ⟨hz, hTI, ⟨x0, y0, hTO⟩, a1, a2, hl1, hl2⟩ := st
    obtain ⟨xs, ys, hqx, hqy, e1, e2, g1, g2⟩ := hg
    obtain ⟨its1, b1, b2, b3, b4⟩ := Src.has I hqx
    obtain ⟨its2, d1, d2, d3, d4⟩ := Src.has I hqy
    have S := zip_sep2 (N := N) l1 l2
    have D1 := Src.draws (prog := X.prog) (w := X.w) (A := X.A.in1) (I.ok.hd hc) N t1 its1 c1 (fun b m => Nat.ne_of_lt (l1 b m)) n1 (by rw [b1, e1]) (fun x ex => by rw [b3 x ex, e1])
    have D2 := Src.draws (prog := X.prog) (w := X.w) (A := X.A.in1) (I.ok.hd hc) (N + 1) t2 its2 c2 (fun b m => Nat.ne_of_lt (Nat.lt_succ_of_lt (l2 b m))) n2 (by rw [d1, e2]) (fun x ex => by rw [d3 x ex, e2])
    refine wpAny_pyNext_zipD2_item S D1 D2 hz hTI hTO ⟨a1, b2⟩ ⟨a2, d2⟩ g1 g2 fun u1 u2 h' tk p1 p2 z' TO' st1' st2' hT hsz hk => ?_
    refine ⟨_, rfl, wpAny_letOwnedTupleGo_zip (s := { s with heap := h', toks := tk }) z' fun h'' z'' sb => ?_⟩
    obtain ⟨x, hx, rx⟩ := b4 i u1 p1
    obtain ⟨y, hy, ry⟩ := d4 i u2 p2
    have hzl : N + 4 < s.heap.objs.size := Heap.lt_size hz
    have hT2 : h''.get? s.heap.objs.size = some { cls := .type "tuple", data := .seq #[u1, u2] } := (sb.2 _ (Nat.ne_of_gt hzl)).trans hT
    have new : ObjOk X.prog X.w (upd H s.heap.objs.size (.tup [x, y])) h'' s.heap.objs.size (.tup [x, y]) :=
      ⟨by show 2 ≤ sizeLine; decide, [u1, u2], .cons rx (.cons ry .nil), ⟨_, hT2, rfl, _, rfl⟩⟩
    have I1 : Inv X pins σ (upd H s.heap.objs.size (.tup [x, y])) { s with heap := h'', toks := tk } :=
      I.turnedNew (t' := tk) (ch := [N + 4, N + 2, N + 3, N, N + 1]) (fun c o hb q => (sb.2 c (fun q' => hb (by simp [q']))).trans (hk c o (fun q' => hb (by simp [q'])) (fun q' => hb (by simp [q'])) (fun q' => hb (by simp [q'])) (fun q' => hb (by simp [q'])) q)) hf (Nat.le_refl _) new
    have n4 : ∀ c, c ≠ N + 4 → ∀ o, h'.get? c = some o → h''.get? c = some o := fun c hc o q => (sb.2 c hc).trans q
    refine ⟨.ref s.heap.objs.size, _, I1, rfl, ⟨_, x, y, rfl, I.hok.fresh (Nat.le_refl _), rfl, fun l hl => by rw [Src.is_inj I hl hqx]; exact hx, fun l hl => by rw [Src.is_inj I hl hqy]; exact hy⟩, ⟨z'', n4 _ S.TIz _ (hk _ _ S.TIz S.TITO S.TIi1 S.TIi2 hTI), ⟨u1, u2, n4 _ S.TOz _ TO'⟩,
      st1'.1.over (z := N) (n4 _ (show (N : Nat) ≠ N + 4 by omega)), st2'.1.over (z := N) (n4 _ (show (N + 1 : Nat) ≠ N + 4 by omega)), g1, g2⟩, fun c hcm => ?_⟩
    have hlt : c < s.heap.objs.size := by
      have e' : c = N + 4 ∨ c = N + 2 ∨ c = N + 3 ∨ c = N ∨ c = N + 1 := by simpa using hcm
      rcases e' with q | q | q | q | q
      · rw [q]; exact hzl
      · rw [q]; exact Heap.lt_size hTI
      · rw [q]; exact Heap.lt_size hTO
      · rw [q]; obtain ⟨_, e1, _⟩ := a1.obj; exact Heap.lt_size e1
      · rw [q]; obtain ⟨_, e2, _⟩ := a2.obj; exact Heap.lt_size e2
    rw [upd_ne (Nat.ne_of_lt hlt)]
    exact (hf c hcm).1
  done := by
    intro X hP hw hK hc i pins s σ H E I hf st hg
    subst hP hw hK
    obtain ⟨hz, hTI, ⟨x0, y0, hTO⟩, a1, a2, hl1, hl2⟩ := st
    obtain ⟨xs, ys, hqx, hqy, e1, e2, g⟩ := hg
    obtain ⟨its1, b1, b2, b3, b4⟩ := Src.has I hqx
    obtain ⟨its2, d1, d2, d3, d4⟩ := Src.has I hqy
    have S := zip_sep2 (N := N) l1 l2
    have D1 := Src.draws (prog := X.prog) (w := X.w) (A := X.A.in1) (I.ok.hd hc) N t1 its1 c1 (fun b m => Nat.ne_of_lt (l1 b m)) n1 (by rw [b1, e1]) (fun x ex => by rw [b3 x ex, e1])
    have D2 := Src.draws (prog := X.prog) (w := X.w) (A := X.A.in1) (I.ok.hd hc) (N + 1) t2 its2 c2 (fun b m => Nat.ne_of_lt (Nat.lt_succ_of_lt (l2 b m))) n2 (by rw [d1, e2]) (fun x ex => by rw [d3 x ex, e2])
    exact wpAny_pyNext_zipD2_end S D1 D2 hz hTI hTO ⟨a1, b2⟩ ⟨a2, d2⟩ hl1 hl2 (by omega) fun h' tk hk => ⟨rfl, I.turnedL (t' := tk) (ch := [N + 4, N + 2, N + 3, N, N + 1]) (fun c o hb q =>
      hk c o (fun q' => hb (by simp [q'])) (fun q' => hb (by simp [q'])) (fun q' => hb (by simp [q'])) (fun q' => hb (by simp [q'])) q) hf⟩
  self := fun A i s Q E st h => wpAny_pyIter_zip st.1 h
def iZ2 (K : PySem.W.Frag) (ta : TA) : TI := fun σ H R => ta σ H fun vs H1 => ∃ (c1 c2 : Src) (xs ys : List V), vs = [c1.v, c2.v] ∧ c1.Is K H1 xs ∧ c2.Is K H1 ys ∧ R (ItZ2 K c1 c2 xs.length ys.length) H1
theorem pi_z2 {X : Cx} {e e2 : Expr} {ta : TA} {p pos tpos : Pos} {elts : List Expr} {kk : Nat} (hg : Gl X "zip") (hm : X.mg "zip" = none) (ha : PA X [e, e2] ta)
    (hs : starEach [e, e2] X.env = (false, eval e X.env) :: starEach [e2] X.env := by rfl) (hpl : (backTo pos (starEach [e2] X.env)).any (·.1) = false := by rfl) :
    PI X (.Tuple elts kk tpos) (.Call (.Name "zip" p) [e, e2] [] pos) (iZ2 X.K ta) := by
  refine ⟨fun pins s σ H R I h => ?_⟩
  refine Call_ (ld_blt I hg hm PyProof.Rows.boot_zip (PyProof.Rows.callWith_type1 (thn (ha.run pos pins s σ H _ I h) fun us s1 ⟨vs, H1, I1, r1, q1⟩ => ?_) hs hpl))
  obtain ⟨c1, c2, xs, ys, ex, hqx, hqy, q⟩ := q1
  subst ex
  cases r1 with
  | cons r rr =>
    cases rr with
    | cons r' rr =>
      cases rr
      obtain ⟨t1, o1, Hb1, B1, f1, g1, l1⟩ := Src.begins I1 hqx r
      obtain ⟨t2, o2, Hb2, B2, f2, g2, l2⟩ := Src.begins I1 hqy r'
      refine zip_begins2 B1 B2 f1 f2 fun h' hz hTI hTO h1 h2 hsz hk => wpAny_pyIter_zip hz ?_
      have I2 : Inv X pins σ H1 { s1 with heap := h' } := I1.kept (t' := s1.toks) hk
      refine ⟨s1.heap.objs.size + 4, [s1.heap.objs.size + 4, s1.heap.objs.size + 2, s1.heap.objs.size + 3, s1.heap.objs.size, s1.heap.objs.size + 1], _, _, H1, rfl, I2, turn_z2 (t1 := t1) (t2 := t2) l1 l2, ⟨hz, hTI, ⟨_, _, hTO⟩, g1 _ _ h1, g2 _ _ h2, Nat.zero_le _, Nat.zero_le _⟩, fun c hcm => ?_, q⟩
      have e' : c = s1.heap.objs.size + 4 ∨ c = s1.heap.objs.size + 2 ∨ c = s1.heap.objs.size + 3 ∨ c = s1.heap.objs.size ∨ c = s1.heap.objs.size + 1 := by simpa using hcm
      have hle : s1.heap.objs.size ≤ c := by
        rcases e' with z | z | z | z | z
        · rw [z]; exact Nat.le_add_right _ _
        · rw [z]; exact Nat.le_add_right _ _
        · rw [z]; exact Nat.le_add_right _ _
        · rw [z]; exact Nat.le_refl _
        · rw [z]; exact Nat.le_add_right _ _
      exact I1.fpOk hle (I1.hok.fresh hle)
/-! ### three -/
def ItZ3 (K : PySem.W.Frag) (c1 c2 c3 : Src) (n1 n2 n3 : Nat) : It :=
  ⟨fun i H => ∃ (xs ys zs : List V), c1.Is K H xs ∧ c2.Is K H ys ∧ c3.Is K H zs ∧ xs.length = n1 ∧ ys.length = n2 ∧ zs.length = n3 ∧ i < n1 ∧ i < n2 ∧ i < n3,
    fun i H v H' => ∃ T x y z, v = .ref T ∧ H T = none ∧ H' = upd H T (.tup [x, y, z]) ∧ (∀ xs, c1.Is K H xs → xs[i]? = some x) ∧ (∀ ys, c2.Is K H ys → ys[i]? = some y) ∧ ∀ zs, c3.Is K H zs → zs[i]? = some z,
    fun i H => ∃ xs ys zs : List V, c1.Is K H xs ∧ c2.Is K H ys ∧ c3.Is K H zs ∧ xs.length = n1 ∧ ys.length = n2 ∧ zs.length = n3 ∧ (n1 ≤ i ∨ n2 ≤ i ∨ n3 ≤ i)⟩
theorem turn_z3 {P : Program} {w : World} {K : PySem.W.Frag} {elts : List Expr} {kk : Nat} {tpos : Pos} {c1 c2 c3 : Src} {n1 n2 n3 : Nat} {t1 t2 t3 : Tok} {N : Nat} (l1 : ∀ b ∈ c1.cells, b < N) (l2 : ∀ b ∈ c2.cells, b < N) (l3 : ∀ b ∈ c3.cells, b < N) :
    Turn P w K (.Tuple elts kk tpos) (ItZ3 K c1 c2 c3 n1 n2 n3) [N + 5, N + 3, N + 4, N, N + 1, N + 2] (N + 5) (fun i h => IsZip h (N + 5) (N + 3) (N + 4) .none ∧ IsTupOf3 h (N + 3) (.ref N) (.ref (N + 1)) (.ref (N + 2)) ∧ (∃ x y z, IsTupOf3 h (N + 4) x y z) ∧ c1.At t1 N i h ∧ c2.At t2 (N + 1) i h ∧ c3.At t3 (N + 2) i h ∧ i ≤ n1 ∧ i ≤ n2 ∧ i ≤ n3) where
  mem := by simp
  obj := fun i h st c hc => by
    obtain ⟨hz, hTI, ⟨x, y, z, hTO⟩, a1, a2, a3, _⟩ := st
    have e' : c = N + 5 ∨ c = N + 3 ∨ c = N + 4 ∨ c = N ∨ c = N + 1 ∨ c = N + 2 := by simpa using hc
    rcases e' with q | q | q | q | q | q
    · rw [q]; exact ⟨_, hz, fun v q => nomatch q⟩
    · rw [q]; exact ⟨_, hTI, fun v q => nomatch q⟩
    · rw [q]; exact ⟨_, hTO, fun v q => nomatch q⟩
    · rw [q]; exact a1.obj
    · rw [q]; exact a2.obj
    · rw [q]; exact a3.obj
  keep := fun i h h' st k => by
    obtain ⟨hz, hTI, ⟨x, y, z, hTO⟩, a1, a2, a3, hl⟩ := st
    exact ⟨k (N + 5) (by simp) _ hz, k (N + 3) (by simp) _ hTI, ⟨x, y, z, k (N + 4) (by simp) _ hTO⟩, a1.over (z := N) (k N (by simp)), a2.over (z := N) (k (N + 1) (by simp)), a3.over (z := N) (k (N + 2) (by simp)), hl⟩
  item := by
    intro X hP hw hK hc i pins s σ H E I hf st hg
    subst hP hw hK
    obtain ⟨hz, hTI, ⟨x0, y0, z0, hTO⟩, a1, a2, a3, hl1, hl2, hl3⟩ := st
    obtain ⟨xs, ys, zs, hqx, hqy, hqz, e1, e2, e3, g1, g2, g3⟩ := hg
    obtain ⟨its1, b1, b2, b3, b4⟩ := Src.has I hqx
    obtain ⟨its2, d1, d2, d3, d4⟩ := Src.has I hqy
    obtain ⟨its3, f1, f2, f3, f4⟩ := Src.has I hqz
    have S := zip_sep3 (N := N) l1 l2 l3
    have D1 := Src.draws (prog := X.prog) (w := X.w) (A := X.A.in1) (I.ok.hd hc) N t1 its1 c1 (fun b m => Nat.ne_of_lt (l1 b m)) n1 (by rw [b1, e1]) (fun x ex => by rw [b3 x ex, e1])
    have D2 := Src.draws (prog := X.prog) (w := X.w) (A := X.A.in1) (I.ok.hd hc) (N + 1) t2 its2 c2 (fun b m => Nat.ne_of_lt (Nat.lt_succ_of_lt (l2 b m))) n2 (by rw [d1, e2]) (fun x ex => by rw [d3 x ex, e2])
    have D3 := Src.draws (prog := X.prog) (w := X.w) (A := X.A.in1) (I.ok.hd hc) (N + 2) t3 its3 c3 (fun b m => Nat.ne_of_lt (Nat.lt_of_lt_of_le (l3 b m) (Nat.le_add_right _ _))) n3 (by rw [f1, e3]) (fun x ex => by rw [f3 x ex, e3])
    refine wpAny_pyNext_zipD3_item S D1 D2 D3 hz hTI hTO ⟨a1, b2⟩ ⟨a2, d2⟩ ⟨a3, f2⟩ g1 g2 g3 fun u1 u2 u3 h' tk p1 p2 p3 z' TO' st1' st2' st3' hT hsz hk => ?_
    refine ⟨_, rfl, wpAny_letOwnedTupleGo_zip (s := { s with heap := h', toks := tk }) z' fun h'' z'' sb => ?_⟩
    obtain ⟨x, hx, rx⟩ := b4 i u1 p1
    obtain ⟨y, hy, ry⟩ := d4 i u2 p2
    obtain ⟨z, hzz, rz⟩ := f4 i u3 p3
    have hzl : N + 5 < s.heap.objs.size := Heap.lt_size hz
    have hT2 : h''.get? s.heap.objs.size = some { cls := .type "tuple", data := .seq #[u1, u2, u3] } := (sb.2 _ (Nat.ne_of_gt hzl)).trans hT
    have new : ObjOk X.prog X.w (upd H s.heap.objs.size (.tup [x, y, z])) h'' s.heap.objs.size (.tup [x, y, z]) :=
      ⟨by show 3 ≤ sizeLine; decide, [u1, u2, u3], .cons rx (.cons ry (.cons rz .nil)), ⟨_, hT2, rfl, _, rfl⟩⟩
    have I1 : Inv X pins σ (upd H s.heap.objs.size (.tup [x, y, z])) { s with heap := h'', toks := tk } :=
      I.turnedNew (t' := tk) (ch := [N + 5, N + 3, N + 4, N, N + 1, N + 2]) (fun c o hb q => (sb.2 c (fun q' => hb (by simp [q']))).trans (hk c o (fun q' => hb (by simp [q'])) (fun q' => hb (by simp [q'])) (fun q' => hb (by simp [q'])) (fun q' => hb (by simp [q'])) (fun q' => hb (by simp [q'])) q)) hf (Nat.le_refl _) new
    have n4 : ∀ c, c ≠ N + 5 → ∀ o, h'.get? c = some o → h''.get? c = some o := fun c hc o q => (sb.2 c hc).trans q
    refine ⟨.ref s.heap.objs.size, _, I1, rfl, ⟨_, x, y, z, rfl, I.hok.fresh (Nat.le_refl _), rfl, fun l hl => by rw [Src.is_inj I hl hqx]; exact hx, fun l hl => by rw [Src.is_inj I hl hqy]; exact hy, fun l hl => by rw [Src.is_inj I hl hqz]; exact hzz⟩, ⟨z'', n4 _ S.TIz _ (hk _ _ S.TIz S.TITO S.TIi1 S.TIi2 S.TIi3 hTI), ⟨u1, u2, u3, n4 _ S.TOz _ TO'⟩,
      st1'.1.over (z := N) (n4 _ (show (N : Nat) ≠ N + 5 by omega)), st2'.1.over (z := N) (n4 _ (show (N + 1 : Nat) ≠ N + 5 by omega)), st3'.1.over (z := N) (n4 _ (show (N + 2 : Nat) ≠ N + 5 by omega)), g1, g2, g3⟩, fun c hcm => ?_⟩
    have hlt : c < s.heap.objs.size := by
      have e' : c = N + 5 ∨ c = N + 3 ∨ c = N + 4 ∨ c = N ∨ c = N + 1 ∨ c = N + 2 := by simpa using hcm
      rcases e' with q | q | q | q | q | q
      · rw [q]; exact hzl
      · rw [q]; exact Heap.lt_size hTI
      · rw [q]; exact Heap.lt_size hTO
      · rw [q]; obtain ⟨_, e1, _⟩ := a1.obj; exact Heap.lt_size e1
      · rw [q]; obtain ⟨_, e2, _⟩ := a2.obj; exact Heap.lt_size e2
      · rw [q]; obtain ⟨_, e2, _⟩ := a3.obj; exact Heap.lt_size e2
    rw [upd_ne (Nat.ne_of_lt hlt)]
    exact (hf c hcm).1
  done := by
    intro X hP hw hK hc i pins s σ H E I hf st hg
    subst hP hw hK
    obtain ⟨hz, hTI, ⟨x0, y0, z0, hTO⟩, a1, a2, a3, hl1, hl2, hl3⟩ := st
    obtain ⟨xs, ys, zs, hqx, hqy, hqz, e1, e2, e3, g⟩ := hg
    obtain ⟨its1, b1, b2, b3, b4⟩ := Src.has I hqx
    obtain ⟨its2, d1, d2, d3, d4⟩ := Src.has I hqy
    obtain ⟨its3, f1, f2, f3, f4⟩ := Src.has I hqz
    have S := zip_sep3 (N := N) l1 l2 l3
    have D1 := Src.draws (prog := X.prog) (w := X.w) (A := X.A.in1) (I.ok.hd hc) N t1 its1 c1 (fun b m => Nat.ne_of_lt (l1 b m)) n1 (by rw [b1, e1]) (fun x ex => by rw [b3 x ex, e1])
    have D2 := Src.draws (prog := X.prog) (w := X.w) (A := X.A.in1) (I.ok.hd hc) (N + 1) t2 its2 c2 (fun b m => Nat.ne_of_lt (Nat.lt_succ_of_lt (l2 b m))) n2 (by rw [d1, e2]) (fun x ex => by rw [d3 x ex, e2])
    have D3 := Src.draws (prog := X.prog) (w := X.w) (A := X.A.in1) (I.ok.hd hc) (N + 2) t3 its3 c3 (fun b m => Nat.ne_of_lt (Nat.lt_of_lt_of_le (l3 b m) (Nat.le_add_right _ _))) n3 (by rw [f1, e3]) (fun x ex => by rw [f3 x ex, e3])
    exact wpAny_pyNext_zipD3_end S D1 D2 D3 hz hTI hTO ⟨a1, b2⟩ ⟨a2, d2⟩ ⟨a3, f2⟩ hl1 hl2 hl3 (by omega) fun h' tk hk => ⟨rfl, I.turnedL (t' := tk) (ch := [N + 5, N + 3, N + 4, N, N + 1, N + 2]) (fun c o hb q =>
      hk c o (fun q' => hb (by simp [q'])) (fun q' => hb (by simp [q'])) (fun q' => hb (by simp [q'])) (fun q' => hb (by simp [q'])) (fun q' => hb (by simp [q'])) q) hf⟩
  self := fun A i s Q E st h => wpAny_pyIter_zip st.1 h
def iZ3 (K : PySem.W.Frag) (ta : TA) : TI := fun σ H R => ta σ H fun vs H1 => ∃ (c1 c2 c3 : Src) (xs ys zs : List V), vs = [c1.v, c2.v, c3.v] ∧ c1.Is K H1 xs ∧ c2.Is K H1 ys ∧ c3.Is K H1 zs ∧ R (ItZ3 K c1 c2 c3 xs.length ys.length zs.length) H1
theorem pi_z3 {X : Cx} {e e2 e3 : Expr} {ta : TA} {p pos tpos : Pos} {elts : List Expr} {kk : Nat} (hg : Gl X "zip") (hm : X.mg "zip" = none) (ha : PA X [e, e2, e3] ta)
    (hs : starEach [e, e2, e3] X.env = (false, eval e X.env) :: starEach [e2, e3] X.env := by rfl) (hpl : (backTo pos (starEach [e2, e3] X.env)).any (·.1) = false := by rfl) :
    PI X (.Tuple elts kk tpos) (.Call (.Name "zip" p) [e, e2, e3] [] pos) (iZ3 X.K ta) := by
  refine ⟨fun pins s σ H R I h => ?_⟩
  refine Call_ (ld_blt I hg hm PyProof.Rows.boot_zip (PyProof.Rows.callWith_type1 (thn (ha.run pos pins s σ H _ I h) fun us s1 ⟨vs, H1, I1, r1, q1⟩ => ?_) hs hpl))
  obtain ⟨c1, c2, c3, xs, ys, zs, ex, hqx, hqy, hqz, q⟩ := q1
  subst ex
  cases r1 with
  | cons r rr =>
    cases rr with
    | cons r' rr =>
      cases rr with
      | cons r'' rr =>
        cases rr
        obtain ⟨t1, o1, Hb1, B1, f1, g1, l1⟩ := Src.begins I1 hqx r
        obtain ⟨t2, o2, Hb2, B2, f2, g2, l2⟩ := Src.begins I1 hqy r'
        obtain ⟨t3, o3, Hb3, B3, f3, g3, l3⟩ := Src.begins I1 hqz r''
        refine zip_begins3 B1 B2 B3 f1 f2 f3 fun h' hz hTI hTO h1 h2 h3 hsz hk => wpAny_pyIter_zip hz ?_
        have I2 : Inv X pins σ H1 { s1 with heap := h' } := I1.kept (t' := s1.toks) hk
        refine ⟨s1.heap.objs.size + 5, [s1.heap.objs.size + 5, s1.heap.objs.size + 3, s1.heap.objs.size + 4, s1.heap.objs.size, s1.heap.objs.size + 1, s1.heap.objs.size + 2], _, _, H1, rfl, I2, turn_z3 (t1 := t1) (t2 := t2) (t3 := t3) l1 l2 l3, ⟨hz, hTI, ⟨_, _, _, hTO⟩, g1 _ _ h1, g2 _ _ h2, g3 _ _ h3, Nat.zero_le _, Nat.zero_le _, Nat.zero_le _⟩, fun c hcm => ?_, q⟩
        have e' : c = s1.heap.objs.size + 5 ∨ c = s1.heap.objs.size + 3 ∨ c = s1.heap.objs.size + 4 ∨ c = s1.heap.objs.size ∨ c = s1.heap.objs.size + 1 ∨ c = s1.heap.objs.size + 2 := by simpa using hcm
        have hle : s1.heap.objs.size ≤ c := by
          rcases e' with z | z | z | z | z | z
          · rw [z]; exact Nat.le_add_right _ _
          · rw [z]; exact Nat.le_add_right _ _
          · rw [z]; exact Nat.le_add_right _ _
          · rw [z]; exact Nat.le_refl _
          · rw [z]; exact Nat.le_add_right _ _
          · rw [z]; exact Nat.le_add_right _ _
        exact I1.fpOk hle (I1.hok.fresh hle)
end Cz

set_option Elab.async false
set_option linter.all false
set_option maxRecDepth 100000
set_option maxHeartbeats 2000000
/-! Looks at what is owned. -/
namespace Cz
open PySem L2 Evl

/-- the slots while the owned thing at j is looked at -/
def borG (j : Nat) (Γ : Gam) : Option Gam := match Γ[j]? with
  | some t => t.dat.map fun x => Γ.set j (.d x)
  | none => none
/-- what comes of a look bears no list, no dict -/
def Rs.pur : Rs Dat → Rs Dat
  | .ok r => if pureD r = true then .ok r else .bad
  | .exn c fs => if pureF fs = true then .exn c fs else .bad
  | .bad => .bad
def purLs (ds : List Dat) : Bool := pureL ds
section
variable {K : PySem.W.Frag} {T : Nat → Addr} {fx : List Addr} {G0 H0 G H : Hp} {σ : L2.St} {Γ Γ' : Gam}
theorem RepX.pure {G : Hp} {fp : List Addr} (hm : ∀ a ∈ fp, MutO (G a)) {cls : Value} {d : Option Addr} {c : Nat} {fs : List (Str × Dat)} (r : RepX K T G cls d c fs) (p : pureF fs = true) : RepX K T (rmL G fp) cls d c fs :=
  ⟨r.1, r.2.elim .inl fun ⟨dx, fvs, h1, h2, h3⟩ => .inr ⟨dx, fvs, h1, rmL_keep hm h2 (fun z => z), h3.pure hm p⟩⟩
theorem SG.bor (s : SG K T fx G0 H0 G H σ Γ) {j : Nat} (h : borG j Γ = some Γ') : ∃ fp, SG K T fx G0 H0 (frzG G H fp) H σ Γ' ∧ Ex G (frzG G H fp) ∧ ∀ a ∈ fp, G a = none ∧ MutO (H a) := by
  unfold borG at h
  cases hj : Γ[j]? with
  | none => simp [hj] at h
  | some t =>
    cases hd : t.dat with
    | none => simp [hj, hd] at h
    | some x =>
      simp [hj, hd] at h
      subst h
      obtain ⟨fp, s1, gg, hf⟩ := s.freezeA hj hd
      exact ⟨fp, s1, gg, fun a m => ⟨(hf a m).1, (hf a m).2.2⟩⟩
theorem Hd.bor {W : WX} {fp : List Addr} {r : Rs Dat} {t : (V → Hp → Prop) → Prop} (gg : Ex G (frzG G H fp)) (hf : ∀ a ∈ fp, G a = none ∧ MutO (H a)) (h : Hd K T W (frzG G H fp) H σ (Rep K T) r t) : Hd K T W G H σ (Rep K T) r.pur t := by
  cases r with
  | bad => trivial
  | ok r =>
    show Hd K T W G H σ (Rep K T) (if pureD r = true then Rs.ok r else Rs.bad) _
    split
    · next hp =>
      exact fun Q q => h Q fun v G' H' w rv => by
        obtain ⟨w2, hm⟩ := w.thaw hf
        exact q v _ H' w2 (rv.pure hm hp)
    · trivial
  | exn c fs =>
    show Hd K T W G H σ (Rep K T) (if pureF fs = true then Rs.exn c fs else Rs.bad) _
    split
    · next hp =>
      exact fun q => h fun cls d G' H' w rv => by
        obtain ⟨w2, hm⟩ := w.thaw hf
        exact q cls d _ H' w2 (rv.pure hm hp)
    · trivial
def CE.bor (j : Nat) (e : CE K T) : CE K T := ⟨e.te, fun Γ => match borG j Γ with
    | some Γ' => (e.ev Γ').pur
    | none => e.ev Γ, fun W fx G0 H0 G H σ Γ s => by
  split
  · next Γ' h =>
    obtain ⟨fp, s1, gg, hf⟩ := s.bor h
    exact Hd.bor gg hf (e.ok W fx G0 H0 _ H σ _ s1)
  · exact e.ok W fx G0 H0 G H σ Γ s⟩
def CT.bor (j : Nat) (e : CT K T) : CT K T := ⟨e.te, fun Γ => match borG j Γ with
    | some Γ' => (match e.ev Γ' with | .ok b => .ok b | _ => .bad)
    | none => e.ev Γ, fun W fx G0 H0 G H σ Γ s => by
  split
  · next Γ' h =>
    obtain ⟨fp, s1, gg, hf⟩ := s.bor h
    have h := e.ok W fx G0 H0 _ H σ _ s1
    cases he : e.ev Γ' with
    | bad => trivial
    | exn c fs => trivial
    | ok b =>
      rw [he] at h
      exact fun Q q => h Q fun v G' H' w rv => by
        obtain ⟨w2, hm⟩ := w.thaw hf
        exact q v _ H' w2 rv
  · exact e.ok W fx G0 H0 G H σ Γ s⟩
/-- a new list, made by a look at what is owned -/
def CO.bor (j : Nat) (e : CO K T) : CO K T := ⟨e.te, fun Γ => match borG j Γ with
    | some Γ' => (match e.ev Γ' with | .ok b => if pureL b = true then .ok b else .bad | _ => .bad)
    | none => e.ev Γ, fun W fx G0 H0 G H σ Γ s => by
  split
  · next d hd =>
    cases hb : borG j Γ with
    | none =>
      rw [hb] at hd
      have h := e.ok W fx G0 H0 G H σ Γ s
      rw [show e.ev Γ = _ from hd] at h
      exact h
    | some Γ' =>
      rw [hb] at hd
      obtain ⟨fp, s1, gg, hf⟩ := s.bor hb
      have h := e.ok W fx G0 H0 _ H σ _ s1
      dsimp only at hd
      cases he : e.ev Γ' with
      | bad => rw [he] at hd; cases hd
      | exn c fs => rw [he] at hd; cases hd
      | ok b =>
        rw [he] at hd h
        dsimp only at hd
        split at hd
        · next hp =>
          cases hd
          exact fun Q q => h Q fun p vs G' H' w n rv => by
            obtain ⟨w2, hm⟩ := w.thaw hf
            exact q p vs _ H' w2 n (rv.pure hm hp)
        · cases hd
  · next c fs hd =>
    cases hb : borG j Γ with
    | none =>
      rw [hb] at hd
      have h := e.ok W fx G0 H0 G H σ Γ s
      rw [show e.ev Γ = _ from hd] at h
      exact h
    | some Γ' =>
      rw [hb] at hd
      dsimp only at hd
      cases he : e.ev Γ' with
      | bad => rw [he] at hd; cases hd
      | exn c fs => rw [he] at hd; cases hd
      | ok b =>
        rw [he] at hd
        dsimp only at hd
        split at hd <;> cases hd
  · trivial⟩
end
section
variable {K : PySem.W.Frag} {T : Nat → Addr} {X : Cx} {W : WX} {e : Expr} {j : Nat}
theorem d_bor {c : CE K T} (h : PE X e (c.te W)) : PE X e ((CE.bor j c).te W) := h
theorem d_borT {c : CT K T} (h : PT X e (c.te W)) : PT X e ((CT.bor j c).te W) := h
theorem d_borO {c : CO K T} (h : PE X e (c.te W)) : PE X e ((CO.bor j c).te W) := h
end
end Cz

set_option Elab.async false
set_option linter.all false
set_option maxRecDepth 100000
set_option maxHeartbeats 2000000
/-! Operators by the kind of their data. -/
namespace Cz
open PySem L2 Evl PySem.Spec PyProof.Rows

/-- two relations -/
def r2or (r r' : R2) : R2 := fun x y H Q => r x y H Q ∨ r' x y H Q
theorem OpR.or {X : Cx} {f : Value → Value → Sem Value} {r r' : R2} (h : OpR X f r) (h' : OpR X f r') : OpR X f (r2or r r') := by
  intro pins s σ H x y v u Q I rx ry q
  rcases q with q | q
  · exact h pins s σ H x y v u Q I rx ry q
  · exact h' pins s σ H x y v u Q I rx ry q
theorem CallR.or {X : Cx} {f : Value} {r r' : List V → Hp → VK → Prop} (h : CallR X f r) (h' : CallR X f r') : CallR X f (fun xs H Q => r xs H Q ∨ r' xs H Q) := by
  intro pins s σ H xs us Q I rs q
  rcases q with q | q
  · exact h pins s σ H xs us Q I rs q
  · exact h' pins s σ H xs us Q I rs q
section
variable {K : PySem.W.Frag} {T : Nat → Addr}
/-- by the first that has an answer -/
def Rs.orElse {α : Type} (a b : Rs α) : Rs α := match a with
  | .bad => b
  | r => r
def Op2.or (o o' : Op2 K T) : Op2 K T := ⟨r2or o.r o'.r, fun a b => (o.f a b).orElse (o'.f a b), fun W G H σ x y a b e ra rb => by
  have h1 := o.ok W G H σ x y a b e ra rb
  have h2 := o'.ok W G H σ x y a b e ra rb
  show Hd K T W G H σ (Rep K T) ((o.f a b).orElse (o'.f a b)) _
  cases h : o.f a b with
  | ok d => rw [h] at h1; exact h1.imp fun Q q => .inl q
  | exn c fs => rw [h] at h1; exact h1.imp fun Q q => .inl q
  | bad => exact h2.imp fun Q q => .inr q⟩
def OpN.or (o o' : OpN K T) : OpN K T := ⟨fun xs H Q => o.r xs H Q ∨ o'.r xs H Q, fun a => (o.f a).orElse (o'.f a), fun W G H σ x a e ra => by
  have h1 := o.ok W G H σ x a e ra
  have h2 := o'.ok W G H σ x a e ra
  show Hd K T W G H σ (Rep K T) ((o.f a).orElse (o'.f a)) _
  cases h : o.f a with
  | ok d => rw [h] at h1; exact h1.imp fun Q q => .inl q
  | exn c fs => rw [h] at h1; exact h1.imp fun Q q => .inl q
  | bad => exact h2.imp fun Q q => .inr q⟩
/-! ### + and * -/
def oAddX : Op2 K T := oAdd.or oAddS
/-- 'n' * k -/
def repS : Dat → Dat → Rs Dat
  | .str i, .int k => if i.length * k.toNat ≤ lim ∧ -(2 ^ 62) ≤ k ∧ k < 2 ^ 62 then .ok (.str ⟨(List.replicate k.toNat i.cps.toList).flatten.toArray⟩) else .bad
  | _, _ => .bad
/-! ### == -/
def oEqX : Op2 K T := oEq.or oEqD
def oNeX : Op2 K T := oNe.or oNeD
/-! ### in -/
/-- keys of ints and texts -/
def keyK : Dat → Option Key
  | .int i => some (.inl i)
  | .str x => some (.inr x)
  | _ => none
def lookK (k : Key) (kvs : List (Key × Dat)) : Option Dat := (kvs.find? fun kv => decide (kv.1 = k)).map (·.2)
theorem keyK_ok {G : Hp} {x : V} {a : Dat} {k : Key} (r : Rep K T G x a) (h : keyK a = some k) : x = kV k := by
  cases r <;> simp [keyK] at h <;> subst h <;> rfl
theorem RepK.look {G : Hp} {k : Key} : ∀ {vs : List (Key × V)} {ds : List (Key × Dat)}, RepK K T G vs ds → match lookK k ds with | some d => ∃ v, valV vs k = some v ∧ Rep K T G v d | none => valV vs k = none
  | _, _, .nil => rfl
  | _, _, .cons (f := f) (v := v) (vs := vs) (d := d) (ds := ds) h r => by
    have ih := RepK.look (k := k) r
    unfold lookK valV at ih ⊢
    by_cases e : f = k
    · rw [List.find?_cons_of_pos (by simpa using e), List.find?_cons_of_pos (by simpa using e)]
      exact ⟨v, rfl, h⟩
    · rw [List.find?_cons_of_neg (by simpa using e), List.find?_cons_of_neg (by simpa using e)]
      exact ih
theorem RepK.isSome {G : Hp} {k : Key} {vs : List (Key × V)} {ds : List (Key × Dat)} (r : RepK K T G vs ds) : (valV vs k).isSome = (lookK k ds).isSome := by
  have h := r.look (k := k)
  cases e : lookK k ds with
  | none => rw [e] at h; simp [h]
  | some d => rw [e] at h; obtain ⟨v, hv, _⟩ := h; simp [hv]
def rKIn (neg : Bool) : R2 := fun y x H Q => ∃ a kvs k, x = .ref a ∧ y = kV k ∧ H a = some (.dK kvs) ∧ Q (.bl (if neg then !(valV kvs k).isSome else (valV kvs k).isSome)) H
theorem op_kIn {X : Cx} (hu : X.A.units + 64 < cLine) : OpR X (compareOp .In) (rKIn false) := by
  intro pins s σ H x y v u Q I rx ry h
  obtain ⟨a, kvs, k, rfl, rfl, e, q⟩ := h
  cases (show u = Value.ref a from ry)
  exact d_in (by omega) I (DGet.k e) rx fun s' I' => ⟨.bl _, H, I', rfl, q⟩
theorem op_kNotIn {X : Cx} (hu : X.A.units + 64 < cLine) : OpR X (compareOp .NotIn) (rKIn true) := by
  intro pins s σ H x y v u Q I rx ry h
  obtain ⟨a, kvs, k, rfl, rfl, e, q⟩ := h
  cases (show u = Value.ref a from ry)
  exact d_notIn (by omega) I (DGet.k e) rx fun s' I' => ⟨.bl _, H, I', rfl, q⟩
def inK : Dat → Dat → Rs Bool
  | a, .dic kvs => match keyK a with | some k => .ok (lookK k kvs).isSome | none => .bad
  | a, .dicN kvs => match a, a.key with | .tup _, some k => if k.depth ≤ 8 then .ok (lookN a kvs).isSome else .bad | _, _ => .bad
  | _, _ => .bad
def oInK (neg : Bool) : Op2 K T := ⟨r2or (rKIn neg) (rNIn K neg), fun a b => (inK a b).bind fun k => .ok (.bl (if neg then !k else k)), fun W G H σ x y a b e ra rb => by
  cases rb with
  | @dic p vs ds h r =>
    cases h1 : keyK a with
    | none => simp [inK, h1]; trivial
    | some k =>
      have hx := keyK_ok ra h1
      simp only [inK, h1, Rs.bind_ok]
      exact Hd.ret e (.bl _) fun Q q => .inl ⟨p, vs, k, rfl, hx, e _ _ h, by rw [r.isSome]; exact q⟩
  | @dicN p vs ds h r =>
    cases ra with
    | @tup p2 us us' h2 r2 =>
      cases h1 : (Dat.tup us').key with
      | none => simp [inK, h1]; trivial
      | some k =>
        simp only [inK, h1]
        by_cases hd : k.depth ≤ 8
        · have hl := r.look h1
          have hs : (ndLook k vs).isSome = (lookN (.tup us') ds).isSome := by
            cases el : lookN (.tup us') ds with
            | none => rw [el] at hl; simp [hl]
            | some d => rw [el] at hl; obtain ⟨v, hv, _⟩ := hl; simp [hv]
          rw [if_pos hd]
          simp only [Rs.bind_ok]
          refine Hd.ret e (.bl _) fun Q q => .inr ⟨p, vs, k, p2, rfl, rfl, e _ _ h, r.keys e, ((Rep.tup h2 r2 : Rep K T G (.ref p2) (.tup us')).nk h1).mono e, hd, by rw [hs]; exact q⟩
        · rw [if_neg hd]; trivial
    | _ => trivial
  | _ => trivial⟩
def oInX (neg : Bool) : Op2 K T := (if neg then oNotInS else oInS).or ((oIn neg).or (oInK neg))
/-! ### subscripts -/
def rKGet : R2 := fun x y H Q => ∃ a kvs k v, x = .ref a ∧ y = kV k ∧ H a = some (.dK kvs) ∧ valV kvs k = some v ∧ Q v H
theorem ix_kGet {X : Cx} (hu : X.A.units + 64 < cLine) : IxR X rKGet := by
  intro value slice pins s σ H x y v u Q I rx ry h hs
  obtain ⟨a, kvs, k, z, rfl, rfl, e, hl, q⟩ := h
  cases (show v = Value.ref a from rx)
  have g : DGet H a (kV k) (some z) := hl ▸ DGet.k e
  have ty := dict_typeIs I g
  unfold subscriptTail
  refine wpAny_bind ?_
  rw [getitemInPython_of_ne ty.not_modules]
  refine wpAny_bind (wpAny_specialOf ty PySem.F.slot_dict_getitem.lookup ?_)
  have fin2 : wpAny (model X.prog X.w) X.A (subscripted slice false (.ref a) u) (fun r s₃ => wpAny (model X.prog X.w) X.A (letTemporaryGo value (.ref a) r >>= fun _ => pure r) (EP X pins σ Q) X.xe s₃) X.xe s := by
    rw [hs]
    exact wpAny_operating (d_getItem (by omega) I g ry fun w' s3 I3 rw' => wpAny_bind (wpAny_letTemporaryGo (wpAny_pure ⟨z, H, I3, rw', q⟩)))
  first
    | exact wpAny_pure (wpAny_bind fin2)
    | exact wpAny_bind (wpAny_pure (wpAny_bind fin2))
    | exact wpAny_bind fin2
def getK : Dat → Dat → Rs Dat
  | .dic kvs, a => match keyK a with | some k => (match lookK k kvs with | some d => .ok d | none => .bad) | none => .bad
  | .dicN kvs, a => match a, a.key with | .tup _, some k => if k.depth ≤ 8 then (match lookN a kvs with | some d => .ok d | none => .bad) else .bad | _, _ => .bad
  | _, _ => .bad
def oGetK : Op2 K T := ⟨r2or rKGet (rNGet K), getK, fun W G H σ x y b a e rb ra => by
  cases rb with
  | @dic p vs ds h r =>
    cases h1 : keyK a with
    | none => simp [getK, h1]; trivial
    | some k =>
      have hx := keyK_ok ra h1
      have hl := r.look (k := k)
      simp only [getK, h1]
      cases el : lookK k ds with
      | none => trivial
      | some d =>
        rw [el] at hl
        obtain ⟨v, hv, rv⟩ := hl
        exact Hd.ret e rv fun Q q => .inl ⟨p, vs, k, v, rfl, hx, e _ _ h, hv, q⟩
  | @dicN p vs ds h r =>
    cases ra with
    | @tup p2 us us' h2 r2 =>
      cases h1 : (Dat.tup us').key with
      | none => simp [getK, h1]; trivial
      | some k =>
        simp only [getK, h1]
        by_cases hd : k.depth ≤ 8
        · have hl := r.look h1
          rw [if_pos hd]
          cases el : lookN (.tup us') ds with
          | none => trivial
          | some d =>
            rw [el] at hl
            obtain ⟨v, hv, rv⟩ := hl
            exact Hd.ret e rv fun Q q => .inr ⟨p, vs, k, p2, v, rfl, rfl, e _ _ h, r.keys e, ((Rep.tup h2 r2 : Rep K T G (.ref p2) (.tup us')).nk h1).mono e, hd, hv, q⟩
        · rw [if_neg hd]; trivial
    | _ => trivial
  | _ => trivial⟩
def oIxX : Op2 K T := oIxL.or (oIxT.or (oIxS.or oGetK))
theorem IxR.or2 {X : Cx} {r r' : R2} (h : IxR X r) (h' : IxR X r') : IxR X (r2or r r') := IxR.or h h'
theorem ix_X {X : Cx} (hu : X.A.units + 64 < cLine) : IxR X (oIxX (K := X.K) (T := T)).r := IxR.or2 ix_list (IxR.or2 ix_tup (IxR.or2 ix_str (IxR.or2 (ix_kGet hu) (ix_nGet hu))))
theorem op_addX {X : Cx} : OpR X (binaryOp .Add) (oAddX (K := X.K) (T := T)).r := OpR.or op_add op_add_str
theorem op_eqX {X : Cx} (hu : X.A.units + 64 < cLine) : OpR X (compareOp .Eq) (oEqX (K := X.K) (T := T)).r := OpR.or op_eq (op_eqD hu)
theorem op_neX {X : Cx} (hu : X.A.units + 64 < cLine) : OpR X (compareOp .NotEq) (oNeX (K := X.K) (T := T)).r := OpR.or op_ne (op_neD hu)
theorem op_inX {X : Cx} (hu : X.A.units + 64 < cLine) : OpR X (compareOp .In) (oInX (K := X.K) (T := T) false).r := OpR.or op_in_sign (OpR.or op_in_seq (OpR.or (op_kIn hu) (op_nIn hu)))
theorem op_notInX {X : Cx} (hu : X.A.units + 64 < cLine) : OpR X (compareOp .NotIn) (oInX (K := X.K) (T := T) true).r := OpR.or op_notIn_sign (OpR.or op_notIn_seq (OpR.or (op_kNotIn hu) (op_nNotIn hu)))
/-! ### len, truth -/
theorem RepK.length {G : Hp} : ∀ {vs : List (Key × V)} {ds : List (Key × Dat)}, RepK K T G vs ds → vs.length = ds.length
  | _, _, .nil => rfl
  | _, _, .cons _ r => by rw [List.length_cons, List.length_cons, RepK.length r]
def oLenK : OpN K T := ⟨fun xs H Q => (∃ a kvs, xs = [.ref a] ∧ H a = some (.dK kvs) ∧ Q (.int kvs.length) H) ∨ rNLen K xs H Q, fun as => match as with | [.dic ds] => .ok (.int ds.length) | [.dicN ds] => .ok (.int ds.length) | _ => .bad, fun W G H σ xs as e r => by
  split
  · next ds =>
    cases r with
    | cons h r =>
      cases r
      cases h with
      | @dic p vs ds h r =>
        have hl : vs.length = ds.length := r.length
        exact Hd.ret e (.int _) fun Q q => .inl ⟨p, vs, rfl, e _ _ h, by rw [hl]; exact q⟩
  · next ds =>
    cases r with
    | cons h r =>
      cases r
      cases h with
      | @dicN p vs ds h r => exact Hd.ret e (.int _) fun Q q => .inr ⟨p, vs, rfl, e _ _ h, r.keys e, by rw [r.length]; exact q⟩
  · trivial⟩
theorem call_kLen {X : Cx} : CallR X (.builtin "len") (fun xs H Q => ∃ a kvs, xs = [.ref a] ∧ H a = some (.dK kvs) ∧ Q (.int kvs.length) H) := by
  intro pins s σ H xs us Q I rs h
  obtain ⟨a, kvs, rfl, e, q⟩ := h
  cases rs with
  | cons r rs =>
    cases rs
    cases r
    exact d_len I (Rd.of e) fun t s' I' => ⟨.int kvs.length, H, I', ⟨t, rfl⟩, q⟩
def oLenX : OpN K T := oLenQ.or (oLenS.or oLenK)
theorem call_lenX {X : Cx} : CallR X (.builtin "len") (oLenX (K := X.K) (T := T)).r := CallR.or call_len_seq (CallR.or call_len_str (CallR.or call_kLen call_nLen))
/-- int(x) of an int, a bool -/
def oIntX : OpN K T := ⟨(oInt (K := K) (T := T)).r, fun as => match as with | [.int i] => .ok (.int i) | [.bl k] => .ok (.int (if k then 1 else 0)) | _ => .bad, fun W G H σ xs as e r => by
  split
  · next i =>
    cases r with
    | cons h r =>
      cases h
      cases r
      exact Hd.ret e (.int i) fun Q q => .inl ⟨i, rfl, q⟩
  · next k =>
    cases r with
    | cons h r =>
      cases h
      cases r
      exact Hd.ret e (.int _) fun Q q => .inr ⟨k, rfl, q⟩
  · trivial⟩
/-- a value's truth -/
def truD : Dat → Option Bool
  | .non => some false
  | .bl b => some b
  | .int i => some (i != 0)
  | .str x => if x.length ≤ lim then some ((x.length : Int) != 0) else none
  | .lst ds => some (!ds.isEmpty)
  | .tup ds => some (!ds.isEmpty)
  | .dic ds => some (!ds.isEmpty)
  | _ => none
theorem RepL.isEmpty {G : Hp} : ∀ {vs : List V} {ds : List Dat}, RepL K T G vs ds → vs.isEmpty = ds.isEmpty
  | _, _, .nil => rfl
  | _, _, .cons _ _ => rfl
theorem RepK.isEmpty {G : Hp} : ∀ {vs : List (Key × V)} {ds : List (Key × Dat)}, RepK K T G vs ds → vs.isEmpty = ds.isEmpty
  | _, _, .nil => rfl
  | _, _, .cons _ _ => rfl
theorem tru_rep {G H : Hp} {v : V} {d : Dat} {k : Bool} (e : Ex G H) (r : Rep K T G v d) (h : truD d = some k) : TruV K v H k := by
  cases r with
  | non => exact (Option.some.inj h).symm
  | bl b => exact (Option.some.inj h).symm
  | int i => exact (Option.some.inj h).symm
  | str x =>
    simp only [truD] at h
    split at h
    · next hl => cases h; exact ⟨sz_of hl, rfl⟩
    · cases h
  | lst q r => exact .inl ⟨_, ex_l e q, by rw [r.isEmpty]; exact (Option.some.inj h).symm⟩
  | tup q r => exact .inr (.inl ⟨_, ex_t e q, by rw [r.isEmpty]; exact (Option.some.inj h).symm⟩)
  | dic q r => exact .inr (.inr ⟨_, e _ _ q, by rw [r.isEmpty]; exact (Option.some.inj h).symm⟩)
  | _ => cases h
def CT.tru (a : CE K T) : CT K T := ⟨fun W σ H Q => a.te W σ H fun x H1 => ∃ k, TruV K x H1 k ∧ Q k H1, fun Γ => (a.ev Γ).bind fun x => match truD x with | some b => .ok b | none => .bad, fun W fx G0 H0 G H σ Γ s =>
  (a.ok W fx G0 H0 G H σ Γ s).bind fun v d G1 H1 w1 r1 _ => by
    split
    · next b hb => exact Hd.ret w1.gh rfl fun Q q => ⟨b, tru_rep w1.gh r1 hb, q⟩
    · trivial⟩
theorem d_tru {X : Cx} {W : WX} {a : Expr} {ca : CE X.K T} (ha : PE X a (ca.te W)) (he : ∀ whole, isTrue a X.env whole = (do let v ← whole; standAt a.pos; holding [v] (truthy v)) := by intro _; rfl) : PT X a ((CT.tru ca).te W) := pt_truth ha he
/-- not x, by truth -/
def CE.notX (a : CE K T) : CE K T := ⟨fun W => tNotT K (a.te W), fun Γ => (a.ev Γ).bind fun x => match truD x with | some b => .ok (.bl (!b)) | none => .bad, fun W fx G0 H0 G H σ Γ s =>
  (a.ok W fx G0 H0 G H σ Γ s).bind fun v d G1 H1 w1 r1 _ => by
    split
    · next b hb => exact Hd.ret w1.gh (.bl (!b)) fun Q q => ⟨b, tru_rep w1.gh r1 hb, q⟩
    · trivial⟩
/-- x or y -/
def CE.orX (a b : CE K T) : CE K T := ⟨fun W => tOrT K (a.te W) (b.te W), fun Γ => (a.ev Γ).bind fun x => match truD x with | some k => if k = true then .ok x else b.ev Γ | none => .bad, fun W fx G0 H0 G H σ Γ s =>
  (a.ok W fx G0 H0 G H σ Γ s).bind fun v d G1 H1 w1 r1 _ => by
    split
    · next k hk =>
      cases k with
      | true => exact Hd.ret w1.gh r1 fun Q q => ⟨true, tru_rep w1.gh r1 hk, q⟩
      | false => exact (b.ok W fx G0 H0 G1 H1 σ Γ (s.grow w1)).imp fun Q q => ⟨false, tru_rep w1.gh r1 hk, q⟩
    · trivial⟩
end
end Cz

set_option Elab.async false
set_option linter.all false
set_option maxRecDepth 100000
set_option maxHeartbeats 2000000
/-! New lists: put together, repeated, out of ranges and texts; list of lists; built-ins over lists. -/
namespace Cz
open PySem L2 Evl PySem.Spec PyProof.Rows

section
variable {K : PySem.W.Frag} {T : Nat → Addr} {W : WX} {G H : Hp} {σ : L2.St}
/-- a new list comes -/
def HdO (K : PySem.W.Frag) (T : Nat → Addr) (W : WX) (G H : Hp) (σ : L2.St) (r : Rs (List Dat)) (t : VK → Prop) : Prop := match r with
    | .ok d => ∀ Q : VK, (∀ p vs G' H', Grow G H G' H' → H' p = none → RepL K T G' vs d → Q (.ref p) (upd H' p (.lst vs))) → t Q
    | .exn c fs => (∀ cls d G' H', Grow G H G' H' → RepX K T G' cls d c fs → W cls d σ H') → ∀ Q : VK, t Q
    | .bad => True
theorem Hd.bindH {β α : Type} {R : Hp → β → α → Prop} {r : Rs α} {f : α → Rs (List Dat)} {t : (β → Hp → Prop) → Prop} {k : β → Hp → VK → Prop} (h : Hd K T W G H σ R r t)
    (h2 : ∀ v d G' H', Grow G H G' H' → R G' v d → r = .ok d → HdO K T W G' H' σ (f d) (k v H')) : HdO K T W G H σ (r.bind f) (fun Q => t fun v H' => k v H' Q) := by
  cases r with
  | bad => trivial
  | exn c fs => exact fun w Q => h w _
  | ok d =>
    show HdO K T W G H σ (f d) _
    have key : ∀ v G' H', Grow G H G' H' → R G' v d → HdO K T W G' H' σ (f d) (k v H') := fun v G' H' w r => h2 v d G' H' w r rfl
    generalize f d = z at key ⊢
    cases z with
    | bad => trivial
    | ok e => exact fun Q q => h _ fun v G' H' w r => key v G' H' w r Q fun p vs G'' H'' w' n r' => q p vs G'' H'' (w.trans w') n r'
    | exn c fs => exact fun w Q => h _ fun v G' H' w1 r => key v G' H' w1 r (fun cls d G'' H'' w2 r2 => w cls d G'' H'' (w1.trans w2) r2) Q
/-- behind a new list that stands in the heap -/
theorem HdO.bindO {r : Rs (List Dat)} {f : List Dat → Rs (List Dat)} {t : VK → Prop} {k : V → Hp → VK → Prop} (h : HdO K T W G H σ r t)
    (h2 : ∀ p vs d G' H', Grow G H G' H' → H' p = none → RepL K T G' vs d → r = .ok d → HdO K T W G' (upd H' p (.lst vs)) σ (f d) (k (.ref p) (upd H' p (.lst vs)))) : HdO K T W G H σ (r.bind f) (fun Q => t fun v H' => k v H' Q) := by
  cases r with
  | bad => trivial
  | exn c fs => exact fun w Q => h w _
  | ok d =>
    show HdO K T W G H σ (f d) _
    have key : ∀ p vs G' H', Grow G H G' H' → H' p = none → RepL K T G' vs d → HdO K T W G' (upd H' p (.lst vs)) σ (f d) (k (.ref p) (upd H' p (.lst vs))) := fun p vs G' H' w n r => h2 p vs d G' H' w n r rfl
    generalize f d = z at key ⊢
    cases z with
    | bad => trivial
    | ok e => exact fun Q q => h _ fun p vs G' H' w n r => key p vs G' H' w n r Q fun p' vs' G'' H'' w' n' r' => q p' vs' G'' H'' ((w.trans (Grow.newH w.gh n)).trans w') n' r'
    | exn c fs => exact fun w Q => h _ fun p vs G' H' w1 n r => key p vs G' H' w1 n r (fun cls d G'' H'' w2 r2 => w cls d G'' H'' ((w1.trans (Grow.newH w1.gh n)).trans w2) r2) Q
theorem HdO.ret {p : Addr} {vs : List V} {d : List Dat} {t : VK → Prop} (e : Ex G H) (n : H p = none) (r : RepL K T G vs d) (h : ∀ Q : VK, Q (.ref p) (upd H p (.lst vs)) → t Q) : HdO K T W G H σ (.ok d) t :=
  fun Q q => h Q (q p vs G H (Grow.refl e) n r)
theorem HdO.all {vs : List V} {d : List Dat} {t : VK → Prop} (e : Ex G H) (r : RepL K T G vs d) (h : ∀ Q : VK, (∀ p, H p = none → Q (.ref p) (upd H p (.lst vs))) → t Q) : HdO K T W G H σ (.ok d) t :=
  fun Q q => h Q fun p n => q p vs G H (Grow.refl e) n r
theorem HdO.imp {r : Rs (List Dat)} {t t' : VK → Prop} (h : HdO K T W G H σ r t) (i : ∀ Q, t Q → t' Q) : HdO K T W G H σ r t' := by
  cases r with
  | bad => trivial
  | ok d => exact fun Q q => i _ (h Q q)
  | exn c fs => exact fun w Q => i _ (h w Q)
/-- a new list is looked at -/
theorem Hd.bindO {β α : Type} {R : Hp → β → α → Prop} {r : Rs (List Dat)} {f : List Dat → Rs α} {t : VK → Prop} {k : V → Hp → (β → Hp → Prop) → Prop} (h : HdO K T W G H σ r t)
    (h2 : ∀ p vs d G' H', Grow G H G' H' → H' p = none → RepL K T G' vs d → r = .ok d → Hd K T W G' (upd H' p (.lst vs)) σ R (f d) (k (.ref p) (upd H' p (.lst vs)))) : Hd K T W G H σ R (r.bind f) (fun Q => t fun v H' => k v H' Q) := by
  cases r with
  | bad => trivial
  | exn c fs => exact fun w Q => h w _
  | ok d =>
    show Hd K T W G H σ R (f d) _
    have key : ∀ p vs G' H', Grow G H G' H' → H' p = none → RepL K T G' vs d → Hd K T W G' (upd H' p (.lst vs)) σ R (f d) (k (.ref p) (upd H' p (.lst vs))) := fun p vs G' H' w n r => h2 p vs d G' H' w n r rfl
    generalize f d = z at key ⊢
    cases z with
    | bad => trivial
    | ok e => exact fun Q q => h _ fun p vs G' H' w n r => key p vs G' H' w n r Q fun v' G'' H'' w' r' => q v' G'' H'' ((w.trans (Grow.newH w.gh n)).trans w') r'
    | exn c fs => exact fun w Q => h _ fun p vs G' H' w1 n r => key p vs G' H' w1 n r (fun cls d G'' H'' w2 r2 => w cls d G'' H'' ((w1.trans (Grow.newH w1.gh n)).trans w2) r2) Q
theorem RepL.replicate {vs : List V} {d : List Dat} (r : RepL K T G vs d) : ∀ n : Nat, RepL K T G (List.replicate n vs).flatten (List.replicate n d).flatten
  | 0 => .nil
  | n + 1 => by
    rw [List.replicate_succ, List.replicate_succ, List.flatten_cons, List.flatten_cons]
    exact r.append (RepL.replicate r n)
end
section
variable {K : PySem.W.Frag} {T : Nat → Addr}
theorem CO.okH (c : CO K T) (W : WX) (fx : List Addr) (G0 H0 G H : Hp) (σ : L2.St) (Γ : Gam) (s : SG K T fx G0 H0 G H σ Γ) : HdO K T W G H σ (c.ev Γ) (c.te W σ H) := c.ok W fx G0 H0 G H σ Γ s
/-- [..] * n -/
def CO.rep (c : CO K T) (e : CE K T) : CO K T := ⟨fun W => tOp rRep (c.te W) (e.te W), fun Γ => (c.ev Γ).bind fun xs => (e.ev Γ).bind fun n => match n with
    | .int k => if xs.length * k.toNat ≤ lim ∧ -(2 ^ 62) ≤ k ∧ k < 2 ^ 62 then .ok (List.replicate k.toNat xs).flatten else .bad
    | _ => .bad, fun W fx G0 H0 G H σ Γ s =>
  (c.okH W fx G0 H0 G H σ Γ s).bindO fun p vs d G1 H1 w n r _ => (e.ok W fx G0 H0 G1 _ σ Γ ((s.grow w).grow (Grow.newH w.gh n))).bindH fun u k G2 H2 w2 r2 _ => by
    cases r2 with
    | int k =>
      show HdO K T W G2 H2 σ (if d.length * k.toNat ≤ lim ∧ -(2 ^ 62) ≤ k ∧ k < 2 ^ 62 then _ else Rs.bad) _
      split
      · next h => exact HdO.all w2.gh ((r.mono w2.g).replicate k.toNat) fun Q q => ⟨p, k, vs, rfl, rfl, w2.h _ _ upd_same, by omega, by omega, by rw [r.length, sizeLine_eq]; have := h.1; unfold lim at this; omega, q⟩
      · trivial
    | _ => trivial⟩
theorem d_rep {X : Cx} {W : WX} {a b : Expr} {c : CO X.K T} {e : CE X.K T} {pos : Pos} (ha : PE X a (c.te W)) (hb : PE X b (e.te W)) : PE X (.BinOp a .Mult b pos) ((CO.rep c e).te W) := pe_op op_rep ha hb
/-- two new lists, put together -/
def CO.cat (c e : CO K T) : CO K T := ⟨fun W => tOp rCat (c.te W) (e.te W), fun Γ => (c.ev Γ).bind fun xs => (e.ev Γ).bind fun ys => if xs.length + ys.length ≤ lim then .ok (xs ++ ys) else .bad, fun W fx G0 H0 G H σ Γ s =>
  (c.okH W fx G0 H0 G H σ Γ s).bindO fun p vs d G1 H1 w n r _ => (e.okH W fx G0 H0 G1 _ σ Γ ((s.grow w).grow (Grow.newH w.gh n))).bindO fun p2 us d2 G2 H2 w2 n2 r2 _ => by
    split
    · next h =>
      have e1 : H2 p = some (.lst vs) := w2.h _ _ upd_same
      have ne : p ≠ p2 := fun z => by rw [z, n2] at e1; cases e1
      exact HdO.all (w2.gh.trans (Ex.new n2)) ((r.mono w2.g).append r2) fun Q q => ⟨p, p2, vs, us, rfl, rfl, by rw [upd_ne ne]; exact e1, upd_same, by rw [r.length, r2.length, sizeLine_eq]; unfold lim at h; omega, q⟩
    · trivial⟩
theorem d_cat {X : Cx} {W : WX} {a b : Expr} {c e : CO X.K T} {pos : Pos} (ha : PE X a (c.te W)) (hb : PE X b (e.te W)) : PE X (.BinOp a .Add b pos) ((CO.cat c e).te W) := pe_op op_cat ha hb
theorem d_addO {X : Cx} {W : WX} {i : Nat} {x : Str} {b : Expr} {e : CO X.K T} {p pos : Pos} (hb : PE X b (e.te W)) (hN : X.N[i]? = some x := by rfl) (hv : Vis X.env.scope x := by first | exact Or.inl rfl | exact Or.inr (Or.inl rfl) | exact Or.inr (Or.inr rfl)) (hd : (x == ("__debug__" : Str)) = false := by decide)
    (hcd : (x == ("__classdict__" : Str)) = false := by decide) : PE X (.BinOp (.Name x p) .Add b pos) ((CO.addO i e).te W) := pe_op op_cat (pe_var hN hv hd hcd) hb
/-- a new list and an owned one, put together -/
def CO.addR (c : CO K T) (i : Nat) : CO K T := ⟨fun W => tOp rCat (c.te W) (tVar i), fun Γ => (c.ev Γ).bind fun xs => match Γ[i]? with
    | some (.ol ys) => if xs.length + ys.length ≤ lim then .ok (xs ++ ys) else .bad
    | _ => .bad, fun W fx G0 H0 G H σ Γ s =>
  (c.okH W fx G0 H0 G H σ Γ s).bindO fun p vs d G1 H1 w n r _ => by
    split
    · next ys hg =>
      split
      · next h =>
        obtain ⟨a, us, e1, ea, rv, ga, ha⟩ := s.getL hg
        have ea1 : H1 a = some (.lst us) := w.h _ _ ea
        have ne : a ≠ p := fun z => by rw [z, n] at ea1; cases ea1
        exact HdO.all (w.gh.trans (Ex.new n)) (r.append (rv.mono w.g)) fun Q q => ⟨.ref a, e1, p, a, vs, us, rfl, rfl, upd_same, by rw [upd_ne ne]; exact ea1, by rw [r.length, rv.length, sizeLine_eq]; unfold lim at h; omega, q⟩
      · trivial
    · trivial⟩
theorem d_addR {X : Cx} {W : WX} {i : Nat} {x : Str} {a : Expr} {e : CO X.K T} {p pos : Pos} (ha : PE X a (e.te W)) (hN : X.N[i]? = some x := by rfl) (hv : Vis X.env.scope x := by first | exact Or.inl rfl | exact Or.inr (Or.inl rfl) | exact Or.inr (Or.inr rfl)) (hd : (x == ("__debug__" : Str)) = false := by decide)
    (hcd : (x == ("__classdict__" : Str)) = false := by decide) : PE X (.BinOp a .Add (.Name x p) pos) ((CO.addR e i).te W) := pe_op op_cat ha (pe_var hN hv hd hcd)
/-! ### 'x' * n -/
def rMulS : R2 := fun x y H Q => ∃ i k, x = .str i ∧ y = .int k ∧ i.length * k.toNat ≤ sizeLine ∧ -(2 ^ 62) ≤ k ∧ k < 2 ^ 62 ∧ Q (.str ⟨(List.replicate k.toNat i.cps.toList).flatten.toArray⟩) H
theorem fold_rep (x : Array Nat) (n : Nat) : (List.replicate n x).foldl (· ++ ·) #[] = (List.replicate n x.toList).flatten.toArray := by
  have key : ∀ (n : Nat) (acc : List Nat), (List.replicate n x).foldl (· ++ ·) acc.toArray = (acc ++ (List.replicate n x.toList).flatten).toArray := by
    intro n
    induction n with
    | zero => intro acc; simp
    | succ n ih =>
      intro acc
      have e : acc.toArray ++ x = (acc ++ x.toList).toArray := by
        apply Array.toList_inj.mp
        simp
      rw [List.replicate_succ, List.foldl_cons, e, ih, List.replicate_succ, List.flatten_cons, List.append_assoc]
  have := key n []
  simpa using this
theorem op_mul_str {X : Cx} : OpR X (binaryOp .Mult) rMulS := by
  intro pins s σ H x y v u Q I rx ry h
  obtain ⟨i, k, rfl, rfl, hz, h1, h2, q⟩ := h
  obtain ⟨t, rfl⟩ := rx
  obtain ⟨t', rfl⟩ := ry
  have fin : ∀ tk (u : Value), RelV (.str ⟨(List.replicate k.toNat i.cps.toList).flatten.toArray⟩) u → EP X pins σ Q u { s with toks := tk } := fun tk u r => ⟨_, H, I.tok _, r, q⟩
  refine PySem.P.mul_str (by simp; omega) (fun h0 _ => ?_) (fun h0 _ => ?_) ?_
  · have hk : 0 < k := by omega
    have e : ((2 ^ 63 - 1) / k) ≥ (i.length : Int) := by
      refine Int.le_ediv_of_mul_le hk ?_
      have hz' : (i.length : Int) * (k.toNat : Int) ≤ (sizeLine : Nat) := by exact_mod_cast hz
      rw [sizeLine_eq, Int.toNat_of_nonneg (by omega)] at hz'
      omega
    omega
  · exact decide_eq_false (by omega)
  · split
    · next h0 =>
      refine ⟨by decide, fin _ _ ⟨s.toks, ?_⟩⟩
      have : k.toNat = 0 := by omega
      rw [this]
      rfl
    · next h0 =>
      split
      · next hh =>
        refine fin _ _ ⟨t, ?_⟩
        congr 1
        simp only [Bool.or_eq_true, beq_iff_eq] at hh
        obtain ⟨⟨l⟩⟩ := i
        rcases hh with hh | hh
        · subst hh
          simp
        · have : l = [] := by simpa [Str.length] using hh
          subst this
          simp
      · rw [fold_rep]
        refine ⟨?_, fin _ _ ⟨_, rfl⟩⟩
        have e : (⟨(List.replicate k.toNat i.cps.toList).flatten.toArray⟩ : Str).length = k.toNat * i.length := by
          show (List.replicate k.toNat i.cps.toList).flatten.toArray.size = _
          rw [List.size_toArray]
          have : ∀ n : Nat, (List.replicate n i.cps.toList).flatten.length = n * i.length := by
            intro n
            induction n with
            | zero => simp
            | succ n ih =>
              rw [List.replicate_succ, List.flatten_cons, List.length_append, ih, Nat.add_mul, Array.length_toList]
              show i.cps.size + _ = _ + 1 * i.cps.size
              omega
          exact this _
        rw [e, Nat.mul_comm]
        exact hz
def oMulS : Op2 K T := ⟨rMulS, repS, fun W G H σ x y a b e ra rb => by
  cases ra with
  | str i =>
    cases rb with
    | int k =>
      show Hd K T W G H σ (Rep K T) (if i.length * k.toNat ≤ lim ∧ -(2 ^ 62) ≤ k ∧ k < 2 ^ 62 then _ else Rs.bad) _
      split
      · next h => exact Hd.ret e (.str _) fun Q z => ⟨i, k, rfl, rfl, sz_of h.1, h.2.1, h.2.2, z⟩
      · trivial
    | _ => trivial
  | _ => trivial⟩
def oMulX : Op2 K T := oMul.or oMulS
theorem op_mulX' {X : Cx} : OpR X (binaryOp .Mult) (oMulX (K := X.K) (T := T)).r := OpR.or op_mul op_mul_str
/-! ### list(range(n)), list(a text) -/
theorem cr_range1 {X : Cx} : CallR X (.type "range") (fun vs H Q => ∃ j, vs = [V.int j] ∧ ∀ p, H p = none → Q (.ref p) (upd H p (.rng 0 j))) := by
  intro pins s σ H vs us Q I r h
  obtain ⟨j, rfl, q⟩ := h
  cases r with
  | cons r1 r =>
    cases r
    obtain ⟨t, rfl⟩ := r1
    refine call_range_1 ⟨.ref s.heap.objs.size, upd H s.heap.objs.size (.rng 0 j), I.laid (t' := s.toks + 1 + 1) (fun b o e => Heap.get?_push_of_some _ e) (Nat.le_refl _) ?_, rfl, q _ (I.hok.fresh (Nat.le_refl _))⟩
    exact ⟨s.toks, t, s.toks + 1, Heap.get?_push_size _ rfl⟩
theorem vals_of {F : Nat → V} {acc : Array Value} {n : Nat} (hs : acc.size = n) (h : ∀ j v, acc[j]? = some v → RelV (F j) v) : Vals ((List.range n).map F) acc.toList := by
  have key : ∀ (l : List Value) (k : Nat), (∀ j v, l[j]? = some v → RelV (F (k + j)) v) → Vals ((List.range' k l.length).map F) l := by
    intro l
    induction l with
    | nil => intro k _; exact .nil
    | cons a l ih =>
      intro k hh
      rw [List.length_cons, List.range'_succ, List.map_cons]
      refine .cons (by simpa using hh 0 a rfl) (ih (k + 1) fun j v e => ?_)
      have := hh (j + 1) v (by simpa using e)
      rw [show k + 1 + j = k + (j + 1) by omega]
      exact this
  have := key acc.toList 0 fun j v e => by
    rw [Nat.zero_add]
    exact h j v (by simpa using e)
  rw [Array.length_toList, hs] at this
  rw [List.range_eq_range']
  exact this
theorem cr_list_rng {X : Cx} (hc : X.calm = true) : CallR X (.type "list") (fun vs H Q => ∃ a j, vs = [V.ref a] ∧ H a = some (.rng 0 j) ∧ -(2 ^ 62) ≤ j ∧ j ≤ 100000 ∧ ∀ p, H p = none → Q (.ref p) (upd H p (.lst ((List.range j.toNat).map fun (i : Nat) => V.int (i : Int))))) := by
  intro pins s σ H vs us Q I r h
  obtain ⟨a, j, rfl, e, h1, h2, q⟩ := h
  cases r with
  | cons r1 r =>
    cases r
    cases r1
    obtain ⟨t, u, v, hr⟩ := I.hok a _ e
    have hsz : (Builtin.Range.rangeSize 0 j 1) = ((j.toNat : Nat) : Int) := by
      rw [PyProof.Rows.rangeSize_nat]; simp
    refine call_list_range (n := j.toNat) (I.ok.hd hc) hr (small_one (by decide) (by decide) h1 (by omega)) hsz (by omega) fun h' tk acc' c' hk hS hacc => ?_
    refine ⟨.ref s.heap.objs.size, _, I.laid (t' := tk) (o := .lst ((List.range j.toNat).map fun (i : Nat) => V.int (i : Int))) hk (Nat.le_refl _) ⟨by simp; rw [sizeLine_eq]; omega, acc'.toList, c', vals_of hacc.1 fun i w hw => ?_, by simpa using hS⟩, rfl, q _ (I.hok.fresh (Nat.le_refl _))⟩
    obtain ⟨t2, rfl⟩ := hacc.2 i w hw
    exact ⟨t2, by simp⟩
def CO.lrange (e : CE K T) : CO K T := ⟨fun W => tCB (fun vs H Q => ∃ a j, vs = [V.ref a] ∧ H a = some (.rng 0 j) ∧ -(2 ^ 62) ≤ j ∧ j ≤ 100000 ∧ ∀ p, H p = none → Q (.ref p) (upd H p (.lst ((List.range j.toNat).map fun (i : Nat) => V.int (i : Int)))))
    (tCons (tCB (fun vs H Q => ∃ j, vs = [V.int j] ∧ ∀ p, H p = none → Q (.ref p) (upd H p (.rng 0 j))) (tCons (e.te W) tNil)) tNil), fun Γ => (e.ev Γ).bind fun d => match d with
    | .int j => if -(2 ^ 62) ≤ j ∧ j ≤ 100000 then .ok ((List.range j.toNat).map fun (i : Nat) => Dat.int (i : Int)) else .bad
    | _ => .bad, fun W fx G0 H0 G H σ Γ s =>
  (e.ok W fx G0 H0 G H σ Γ s).bindH fun u d G1 H1 w r _ => by
    cases r with
    | int j =>
      show HdO K T W G1 H1 σ (if -(2 ^ 62) ≤ j ∧ j ≤ 100000 then _ else Rs.bad) _
      split
      · next h =>
        have rr : RepL K T G1 ((List.range j.toNat).map fun (i : Nat) => V.int (i : Int)) ((List.range j.toNat).map fun (i : Nat) => Dat.int (i : Int)) := by
          have := RepL.ints (K := K) (T := T) (G := G1) ((List.range j.toNat).map fun (i : Nat) => (i : Int))
          rw [List.map_map, List.map_map] at this
          exact this
        exact fun Q q => ⟨j, rfl, fun p0 n0 => ⟨p0, j, rfl, upd_same, h.1, h.2, fun p n => q p _ G1 _ (Grow.newH w.gh n0) n rr⟩⟩
      · trivial
    | _ => trivial⟩
theorem d_lrange {X : Cx} {W : WX} {a : Expr} {e : CE X.K T} {p p2 pos pos2 : Pos} (hc : X.calm = true) (hl : X.mg "list" = none) (hr : X.mg "range" = none) (ha : PE X a (e.te W)) (hgl : Gl X "list" := by rfl) (hgr : Gl X "range" := by rfl)
    (hs : starEach [a] X.env = (false, eval a X.env) :: starEach [] X.env := by rfl) (hs2 : starEach [.Call (.Name "range" p2) [a] [] pos2] X.env = (false, eval (.Call (.Name "range" p2) [a] [] pos2) X.env) :: starEach [] X.env := by rfl)
    (h1 : (backTo pos2 (starEach [] X.env)).any (·.1) = false := by rfl) (h2 : (backTo pos (starEach [] X.env)).any (·.1) = false := by rfl) :
    PE X (.Call (.Name "list" p) [.Call (.Name "range" p2) [a] [] pos2] [] pos) ((CO.lrange e).te W) :=
  pe_callTy (cr_list_rng hc) hgl hl (by decide +kernel) (pa_cons (pe_callTy cr_range1 hgr hr (by decide +kernel) (pa_cons ha pa_nil hs) (by decide) (by decide) hs h1) pa_nil hs2) (by decide) (by decide) hs2 h2
def rListStr : List V → Hp → VK → Prop := fun vs H Q => ∃ x : Str, vs = [V.str x] ∧ x.length ≤ 100000 ∧ ∀ p, H p = none → Q (.ref p) (upd H p (.lst ((List.range x.cps.size).map fun i => V.str ⟨#[x.cps.getD i 0]⟩)))
theorem cr_list_str {X : Cx} (hc : X.calm = true) : CallR X (.type "list") rListStr := by
  intro pins s σ H vs us Q I r h
  obtain ⟨x, rfl, hl, q⟩ := h
  cases r with
  | cons r1 r =>
    cases r
    obtain ⟨t, rfl⟩ := r1
    have hz : x.cps.size ≤ 100000 := hl
    refine call_list_str (hn := sz_of hz) (I.ok.hd hc) x t fun h' tk acc' c' hk hS hacc => ?_
    refine ⟨.ref s.heap.objs.size, _, I.laid (t' := tk) (o := .lst ((List.range x.cps.size).map fun i => V.str ⟨#[x.cps.getD i 0]⟩)) hk (Nat.le_refl _) ⟨by simp; exact sz_of hz, acc'.toList, c', vals_of hacc.1 fun i w hw => ?_, by simpa using hS⟩, rfl, q _ (I.hok.fresh (Nat.le_refl _))⟩
    obtain ⟨c, t2, hcx, rfl⟩ := hacc.2 i w hw
    refine ⟨t2, ?_⟩
    rw [Array.getD_eq_getD_getElem?, hcx]
    rfl
def CO.lstr (e : CE K T) : CO K T := ⟨fun W => tCB rListStr (tCons (e.te W) tNil), fun Γ => (e.ev Γ).bind fun d => match d with
    | .str x => if x.length ≤ 100000 then .ok (signs x) else .bad
    | _ => .bad, fun W fx G0 H0 G H σ Γ s =>
  (e.ok W fx G0 H0 G H σ Γ s).bindH fun u d G1 H1 w r _ => by
    cases r with
    | str x =>
      show HdO K T W G1 H1 σ (if x.length ≤ 100000 then _ else Rs.bad) _
      split
      · next h =>
        have rr : ∀ l : List Nat, RepL K T G1 (l.map fun c => V.str ⟨#[c]⟩) (l.map fun c => Dat.str ⟨#[c]⟩) := by
          intro l
          induction l with
          | nil => exact .nil
          | cons c l ih => exact .cons (.str _) ih
        have e1 : ((List.range x.cps.size).map fun i => V.str ⟨#[x.cps.getD i 0]⟩) = x.cps.toList.map fun c => V.str ⟨#[c]⟩ := by
          apply List.ext_getElem?
          intro i
          rw [List.getElem?_map, List.getElem?_map]
          by_cases hi : i < x.cps.size
          · rw [List.getElem?_range hi, Array.getElem?_toList, Array.getElem?_eq_getElem hi]
            simp [Array.getD, hi]
          · rw [List.getElem?_eq_none (by simp; omega), List.getElem?_eq_none (by simp; omega)]
            rfl
        exact HdO.all w.gh (rr x.cps.toList) fun Q q => ⟨x, rfl, h, by rw [e1]; exact q⟩
      · trivial
    | _ => trivial⟩
theorem d_lstr {X : Cx} {W : WX} {a : Expr} {e : CE X.K T} {p pos : Pos} (hc : X.calm = true) (hl : X.mg "list" = none) (ha : PE X a (e.te W)) (hgl : Gl X "list" := by rfl)
    (hs : starEach [a] X.env = (false, eval a X.env) :: starEach [] X.env := by rfl) (h2 : (backTo pos (starEach [] X.env)).any (·.1) = false := by rfl) :
    PE X (.Call (.Name "list" p) [a] [] pos) ((CO.lstr e).te W) := pe_callTy (cr_list_str hc) hgl hl (by decide +kernel) (pa_cons ha pa_nil hs) (by decide) (by decide) hs h2
/-! ### all, any, sum -/
def bools? : List Dat → Option (List Bool)
  | [] => some []
  | .bl b :: r => (bools? r).map (b :: ·)
  | _ => none
def intsD? : List Dat → Option (List Int)
  | [] => some []
  | .int b :: r => (intsD? r).map (b :: ·)
  | _ => none
theorem bools_ok {G : Hp} : ∀ {vs : List V} {ds : List Dat} {bs : List Bool}, RepL K T G vs ds → bools? ds = some bs → vs = bs.map V.bl
  | _, _, _, .nil, h => by simp [bools?] at h; subst h; rfl
  | _, _, _, .cons a r, h => by
    cases a with
    | bl b =>
      simp only [bools?, Option.map_eq_some_iff] at h
      obtain ⟨q, h1, rfl⟩ := h
      rw [bools_ok r h1]; rfl
    | _ => simp [bools?] at h
theorem intsD_ok {G : Hp} : ∀ {vs : List V} {ds : List Dat} {bs : List Int}, RepL K T G vs ds → intsD? ds = some bs → vs = bs.map V.int
  | _, _, _, .nil, h => by simp [intsD?] at h; subst h; rfl
  | _, _, _, .cons a r, h => by
    cases a with
    | int b =>
      simp only [intsD?, Option.map_eq_some_iff] at h
      obtain ⟨q, h1, rfl⟩ := h
      rw [intsD_ok r h1]; rfl
    | _ => simp [intsD?] at h
def oAll : OpN K T := ⟨rAll K, fun as => match as with | [.lst ds] => (match bools? ds with | some bs => .ok (.bl (bs.all id)) | none => .bad) | _ => .bad, fun W G H σ xs as e r => by
  split
  · next ds =>
    split
    · next bs hb =>
      cases r with
      | cons h r =>
        cases r
        cases h with
        | @lst p vs ds h r =>
          have := bools_ok r hb
          subst this
          exact Hd.ret e (.bl _) fun Q q => ⟨p, bs, rfl, ex_l e h, q⟩
    · trivial
  · trivial⟩
def oAny : OpN K T := ⟨rAny K, fun as => match as with | [.lst ds] => (match bools? ds with | some bs => .ok (.bl (bs.any id)) | none => .bad) | _ => .bad, fun W G H σ xs as e r => by
  split
  · next ds =>
    split
    · next bs hb =>
      cases r with
      | cons h r =>
        cases r
        cases h with
        | @lst p vs ds h r =>
          have := bools_ok r hb
          subst this
          exact Hd.ret e (.bl _) fun Q q => ⟨p, bs, rfl, ex_l e h, q⟩
    · trivial
  · trivial⟩
def oSum : OpN K T := ⟨rSum K, fun as => match as with | [.lst ds] => (match intsD? ds with | some bs => .ok (.int bs.sum) | none => .bad) | _ => .bad, fun W G H σ xs as e r => by
  split
  · next ds =>
    split
    · next bs hb =>
      cases r with
      | cons h r =>
        cases r
        cases h with
        | @lst p vs ds h r =>
          have := intsD_ok r hb
          subst this
          exact Hd.ret e (.int _) fun Q q => ⟨p, bs, rfl, ex_l e h, q⟩
    · trivial
  · trivial⟩
/-! ### xs.index(y) -/
def indexD (a b : Dat) : Rs Dat := match a.py, b.py with
  | some (.list ds), some d => if SeqAt.shaped (.list ds) = true ∧ SeqAt.shaped d = true then (match ds.findIdx? fun z => PyData.eqv z d with | some j => .ok (.int (j : Nat)) | none => .bad) else .bad
  | _, _ => .bad
def CE.lindex (a b : CE K T) : CE K T := ⟨fun W => tBM K "list" (rIndexD K) (a.te W) (tCons (b.te W) tNil), fun Γ => (a.ev Γ).bind fun x => match x with | .lst _ => (b.ev Γ).bind fun y => indexD x y | _ => .bad, fun W fx G0 H0 G H σ Γ s =>
  (a.ok W fx G0 H0 G H σ Γ s).bind fun v d G1 H1 w1 r1 _ => by
    by_cases hx : ∃ ds, d = .lst ds
    · obtain ⟨ds, rfl⟩ := hx
      have hty : tyV K "list" v H1 := by
        cases r1 with
        | lst h r => exact .inl ⟨rfl, _, ex_l w1.gh h⟩
      refine ((b.ok W fx G0 H0 G1 H1 σ Γ (s.grow w1)).bind (k := fun y H2 Q => rIndexD K v [y] H2 Q) fun u e G2 H2 w2 r2 _ => ?_).imp fun Q q => ⟨hty, q⟩
      show Hd K T W G2 H2 σ (Rep K T) (indexD (.lst ds) e) _
      unfold indexD
      split
      · next ds' d' h1 h2 =>
        split
        · next hs =>
          split
          · next j hj =>
            obtain ⟨hlt, he, hno⟩ := List.findIdx?_eq_some_iff_getElem.mp hj
            cases r1 with
            | @lst a0 vs ds0 h r =>
            exact Hd.ret w2.gh (.int _) fun Q q => ⟨a0, u, d', ds', j, ds'[j], rfl, rfl, dp_ex (w2.g.trans w2.gh) ((Rep.lst h r : Rep K T G1 (.ref a0) (.lst ds)).dp h1), dp_ex w2.gh (r2.dp h2), hs.1, hs.2, List.getElem?_eq_getElem hlt, he, fun m z hm hz => by
              obtain ⟨hl, rfl⟩ := List.getElem?_eq_some_iff.mp hz
              simpa using hno m hm, q⟩
          · trivial
        · trivial
      · trivial
    · cases d with
      | lst ds => exact absurd ⟨ds, rfl⟩ hx
      | _ => trivial⟩
end
end Cz

set_option Elab.async false
set_option linter.all false
set_option maxRecDepth 100000
set_option maxHeartbeats 4000000
/-! try with several clauses, each with a name or without. -/
namespace Cz
open PySem PySem.Spec PyProof.Rows L2 NdefX Evl
/-- the clauses' readings: class, slot, suite -/
abbrev Cl2 := Value × Option Nat × (Addr → Value → Option Addr → TS)
def wAsN (K : PySem.W.Frag) (Wout : WX) (D : Ends) : List Cl2 → WX
  | [] => Wout
  | (c, some i, ts) :: r => wAs K c i ts (wAsN K Wout D r) D
  | (c, none, ts) :: r => wOnly K c ts (wAsN K Wout D r) D
inductive HdsN (X : Cx) : List ExceptHandler → List Cl2 → Prop
  | nil : HdsN X [] []
  | cons {x n : Str} {c : Value} {i : Nat} {ts : Addr → Value → Option Addr → TS} {b₀ : Stmt} {suite : List Stmt} {np pos' : Pos} {hds : List ExceptHandler} {l : List Cl2} (hi : X.N[i]? = some n) (hln : X.env.kindOf n = some .local) (hc : Names X x c)
      (hsu : ∀ (a : Addr) (oe : Obj) (cls : Value) (d : Option Addr) (pn : List (Addr × Obj)), L2N.Zn cls d oe → (∃ vs, oe.data = .fields vs) → PSs (X.suite a ((a, oe) :: pn)) (b₀ :: suite) (ts a cls d)) (r : HdsN X hds l) :
      HdsN X (.ExceptHandler (some (.Name x np)) (some n) (b₀ :: suite) pos' :: hds) ((c, some i, ts) :: l)
  | consN {x : Str} {c : Value} {ts : Addr → Value → Option Addr → TS} {b₀ : Stmt} {suite : List Stmt} {np pos' : Pos} {hds : List ExceptHandler} {l : List Cl2} (hc : Names X x c)
      (hsu : ∀ (a : Addr) (oe : Obj) (cls : Value) (d : Option Addr) (pn : List (Addr × Obj)), L2N.Zn cls d oe → (∃ vs, oe.data = .fields vs) → PSs (X.suite a ((a, oe) :: pn)) (b₀ :: suite) (ts a cls d)) (r : HdsN X hds l) :
      HdsN X (.ExceptHandler (some (.Name x np)) none (b₀ :: suite) pos' :: hds) ((c, none, ts) :: l)
section
variable {X : Cx} {pins : List (Addr × Obj)} {σ : L2.St} {H : Hp} {a : Addr} {cls : Value} {d : Option Addr} {s0 : Shared} {h3 : Heap} {D : Ends} {Wout : WX} {hds : List ExceptHandler} {l : List Cl2}
/-- the clauses are asked one behind the other -/
theorem clausesN (hs : X.stack = X.env :: X.outer) (hf : X.env.frame = some X.env.locals) (hN : X.N.Nodup) (tk : L2N.Takes X Wout) (hh : HdsN X hds l) :
    ∀ {a : Addr} {cls : Value} {d : Option Addr} {σ : L2.St} {H : Hp} {s0 : Shared} {h3 : Heap}, Caught X pins σ H a cls d s0 h3 → wAsN X.K Wout D l cls d σ H → wpAny (model X.prog X.w) X.A (handleBy (.ref a) X.env hds) (SP X pins D) X.xe { s0 with heap := h3 } := by
  induction hh with
  | nil =>
    intro a cls d σ H s0 h3 ct w
    obtain ⟨B, sI, J, nb, up, fl, na, os, ag⟩ := ct.fin
    obtain ⟨_, _, _, oe, vs, T, _, _, he, _, hd, h1, _⟩ := id fl
    refine wpAny_handleBy_nil ?_
    unfold PySem.passOn
    refine wpAny_bind (wpAny_field he hd h1 ?_)
    rw [if_neg (show ¬ ((Value.ref T == Value.none) = true) from by simp)]
    have out : wpAny (model X.prog X.w) X.A (setFlight (.ref a) X.env.frame) (fun _ s4 => wpAny (model X.prog X.w) X.A (throw (.ref a) : Sem Flow) (SP X pins D) X.xe s4) X.xe { s0 with heap := h3 } := by
      rw [hf]
      exact HandSPX.setFlight_upZ fl fun h4 hh4 up4 => wpAny_throw (tk _ _ ⟨a, B, sI, pins, σ, H, cls, d, rfl, J, nb, up.trans up4, .inr (.inr (by rw [hs]; exact hh4)), na, os, ag, w⟩)
    first
      | exact wpAny_bind (wpAny_pure (wpAny_bind out))
      | exact wpAny_bind out
  | @cons x n c i ts b₀ suite np pos' hds2 l2 hi hln hc hsu r ih =>
    intro a cls d σ H s0 h3 ct w
    obtain ⟨oe, vs, he, hz, hd, nfr⟩ := ct.stands
    obtain ⟨B, sI, J, nb, up, fl, na, os, ag⟩ := ct.fin
    obtain ⟨b, hb1, hyes, hno⟩ := w
    have J3 : L2.Inv X pins σ H { s0 with heap := h3 } := J.landed nb fl.1 up os ag
    have nL : a ≠ X.env.locals := fun z => nfr (List.mem_filterMap.mpr ⟨X.env, List.mem_cons_self, by rw [hf, z]⟩)
    have nF : a ∉ X.fs := fun hm => by
      obtain ⟨e, h1, q⟩ := List.mem_filterMap.mp hm
      exact nfr (List.mem_filterMap.mpr ⟨e, List.mem_cons_of_mem _ h1, q⟩)
    have S3 := J3.suite he hd na nL nF
    refine wpAny_handleBy_cons (codeAny_handlers_test ?_) (by intro q; cases q)
    have LT : PySem.W.Looks (model X.prog X.w) h3 (typeOf (.ref a)) cls := fun A Q E s k q => wpAny_typeOf_ref (k _ _ he) (by rw [hz.1]; exact q)
    have asked : ∀ {Q : Value → Shared → Prop} {E : Value → Shared → Prop}, Q c { s0 with heap := h3 } → wpAny (model X.prog X.w) (X.A.mark (some (.ref a))) (eval (.Name x np) X.env) Q E { s0 with heap := h3 } := fun {Q E} q => by
      obtain ⟨hg, hdbg, hm | ⟨hm, hv, hnn⟩⟩ := hc
      · exact ld_glob (X := X.suite a ((a, oe) :: (X.pn ++ pins))) S3 hg hm q hdbg
      · exact ld_blt (X := X.suite a ((a, oe) :: (X.pn ++ pins))) S3 hg hm hv q hnn hdbg
    refine asked ((PySem.W.exm_one (M := model X.prog X.w) J3.kIn LT hb1).here ?_)
    cases b with
    | false => exact ih ct (hno rfl)
    | true =>
      refine codeAny_handlers_suite_as (HandSPX.lands_againZ fl fun h4 fl4 up4 => ?_)
      have J4 : L2.Inv X pins σ H { s0 with heap := h4 } := J.landed nb fl4.1 (up.trans up4) os ag
      obtain ⟨oe4, vs4, he4, hz4, hd4⟩ := fl4.there
      refine store_ok (X := X.suite a ((a, oe4) :: (X.pn ++ pins))) (v := .ref a) (J4.suite he4 hd4 na nL nF) hN hi (.inl hln) rfl (fun s5 S5 => ?_) (.inr hln)
      refine wpAny_mono ((hsu a oe4 cls d (X.pn ++ pins) hz4 ⟨_, hd4⟩).run [] s5 _ H _ S5 (hyes rfl a na)) (fun f s6 hsp => ?_) (fun _ _ z => False.elim z)
      have leave : ∀ {σ6 : L2.St} {H6 : Hp} {Q : Shared → Prop}, L2.Inv (X.suite a ((a, oe4) :: (X.pn ++ pins))) [] σ6 H6 s6 → (∀ s7, L2.Inv X pins (σ6.set i none) H6 s7 → Q s7) →
          wpAny (model X.prog X.w) X.A (do bindName X.env n .none; unbindBehindTheSuite X.env n pos') (fun _ s7 => Q s7) X.xe s6 := fun {σ6 H6 Q} S6 hq => gone_ok (S6.unsuite ct.ok) hN hi hln hq
      match f, hsp with
      | .next, ⟨σ6, H6, S6, q6⟩ => exact leave S6 fun s7 J7 => ⟨_, _, J7, q6⟩
      | .brk, ⟨σ6, H6, S6, q6⟩ => exact leave S6 fun s7 J7 => ⟨_, _, J7, q6⟩
      | .cont, ⟨σ6, H6, S6, q6⟩ => exact leave S6 fun s7 J7 => ⟨_, _, J7, q6⟩
      | .ret u, ⟨v6, σ6, H6, S6, r6, q6⟩ => exact leave S6 fun s7 J7 => ⟨_, _, _, J7, r6, q6⟩
  | @consN x c ts b₀ suite np pos' hds2 l2 hc hsu r ih =>
    intro a cls d σ H s0 h3 ct w
    obtain ⟨oe, vs, he, hz, hd, nfr⟩ := ct.stands
    obtain ⟨B, sI, J, nb, up, fl, na, os, ag⟩ := ct.fin
    obtain ⟨b, hb1, hyes, hno⟩ := w
    have J3 : L2.Inv X pins σ H { s0 with heap := h3 } := J.landed nb fl.1 up os ag
    have nL : a ≠ X.env.locals := fun z => nfr (List.mem_filterMap.mpr ⟨X.env, List.mem_cons_self, by rw [hf, z]⟩)
    have nF : a ∉ X.fs := fun hm => by
      obtain ⟨e, h1, q⟩ := List.mem_filterMap.mp hm
      exact nfr (List.mem_filterMap.mpr ⟨e, List.mem_cons_of_mem _ h1, q⟩)
    have S3 := J3.suite he hd na nL nF
    refine wpAny_handleBy_cons (codeAny_handlers_test ?_) (by intro q; cases q)
    have LT : PySem.W.Looks (model X.prog X.w) h3 (typeOf (.ref a)) cls := fun A Q E s k q => wpAny_typeOf_ref (k _ _ he) (by rw [hz.1]; exact q)
    have asked : ∀ {Q : Value → Shared → Prop} {E : Value → Shared → Prop}, Q c { s0 with heap := h3 } → wpAny (model X.prog X.w) (X.A.mark (some (.ref a))) (eval (.Name x np) X.env) Q E { s0 with heap := h3 } := fun {Q E} q => by
      obtain ⟨hg, hdbg, hm | ⟨hm, hv, hnn⟩⟩ := hc
      · exact ld_glob (X := X.suite a ((a, oe) :: (X.pn ++ pins))) S3 hg hm q hdbg
      · exact ld_blt (X := X.suite a ((a, oe) :: (X.pn ++ pins))) S3 hg hm hv q hnn hdbg
    refine asked ((PySem.W.exm_one (M := model X.prog X.w) J3.kIn LT hb1).here ?_)
    cases b with
    | false => exact ih ct (hno rfl)
    | true =>
      refine codeAny_handlers_suite (HandSPX.lands_againZ fl fun h4 fl4 up4 => ?_)
      have J4 : L2.Inv X pins σ H { s0 with heap := h4 } := J.landed nb fl4.1 (up.trans up4) os ag
      obtain ⟨oe4, vs4, he4, hz4, hd4⟩ := fl4.there
      have S4 := J4.suite he4 hd4 na nL nF
      refine wpAny_mono ((hsu a oe4 cls d (X.pn ++ pins) hz4 ⟨_, hd4⟩).run [] _ _ H _ S4 (hyes rfl a na)) (fun f s6 hsp => ?_) (fun _ _ z => False.elim z)
      match f, hsp with
      | .next, ⟨σ6, H6, S6, q6⟩ => exact ⟨_, _, S6.unsuite ct.ok, q6⟩
      | .brk, ⟨σ6, H6, S6, q6⟩ => exact ⟨_, _, S6.unsuite ct.ok, q6⟩
      | .cont, ⟨σ6, H6, S6, q6⟩ => exact ⟨_, _, S6.unsuite ct.ok, q6⟩
      | .ret u, ⟨v6, σ6, H6, S6, r6, q6⟩ => exact ⟨_, _, _, S6.unsuite ct.ok, r6, q6⟩
/-- try: body / except A as a: .. / except B as b: .. -/
theorem ps_try_asN {body : List Stmt} {h₀ : ExceptHandler} {pos : Pos} {tb : WX → TS} (hs : X.stack = X.env :: X.outer) (hf : X.env.frame = some X.env.locals) (hN : X.N.Nodup) (tk : L2N.Takes X Wout)
    (hb : ∀ (W : WX) (pn : List (Addr × Obj)) (xe : Value → Shared → Prop), L2N.Takes (X.tr pn xe) W → PassesOwn (model X.prog X.w) X.A X.env xe → PSs (X.tr pn xe) body (tb W)) (hh : HdsN X (h₀ :: hds) l) :
    PS X (.Try body (h₀ :: hds) [] [] pos) (fun D σ H => tb (wAsN X.K Wout D l) D σ H) := by
  refine ⟨fun pins s σ H D I h => wpAny_Try_except ?_⟩
  have ok := I.ok
  refine wpAny_mono ((hb (wAsN X.K Wout D l) (X.pn ++ pins) (fun e s₁ => wpAny (model X.prog X.w) X.A (noteFrame e X.env) (fun _ s₂ => wpAny (model X.prog X.w) X.A (setFlight e none) (fun _ s₃ =>
    wpAny (model X.prog X.w) X.A (handleBy e X.env (h₀ :: hds)) (SP X pins D) X.xe s₃) X.xe s₂) X.xe s₁) (fun u s' xx => ?_) PassesOwn.looking).run [] s σ H D (I.toTry _) h) (fun f s1 hsp => ?_) fun e s1 he => he
  · obtain ⟨a, B, sI, pins', σ', H', cls, d, rfl, J', nb, up, sky, na, os, ag, w⟩ := xx
    have sky' : Sky B (X.env :: X.outer) a (L2N.Zn cls d) X.env.locals s'.heap := by rw [← hs]; exact sky
    exact L2N.Sky.land L2N.Zn.steady (ok.frames.trans (congrArg some hs)) hf sky' fun h3 fl3 up3 => clausesN hs hf hN tk hh ⟨ok, B, sI, J'.ofTry ok, nb, up.trans up3, fl3, na, os, ag⟩ w
  · match f, hsp with
    | .next, ⟨σ', H', J', q⟩ => exact wpAny_execs_nil ⟨σ', H', J'.ofTry ok, q⟩
    | .brk, ⟨σ', H', J', q⟩ => exact ⟨σ', H', J'.ofTry ok, q⟩
    | .cont, ⟨σ', H', J', q⟩ => exact ⟨σ', H', J'.ofTry ok, q⟩
    | .ret u, ⟨v, σ', H', J', r, q⟩ => exact ⟨v, σ', H', J'.ofTry ok, r, q⟩
end

def wrapN : SRes → SRes
  | .nx Γ => .nx Γ
  | .bk Γ => .bk Γ
  | .ct Γ => .ct Γ
  | .rt d => .rt d
  | _ => .bad
theorem SHd.wrapN {K : PySem.W.Frag} {T : Nat → Addr} {W : WX} {D : Ends} {G0 H0 G : Hp} {r : SRes} {t : Prop} (h : SHd K T WN D G0 H0 G r t) : SHd K T W D G0 H0 G (wrapN r) t := by
  cases r with
  | exn Γ c fs => trivial
  | bad => trivial
  | _ => exact h
/-- a certified clause, with a name or without -/
structure CN (K : PySem.W.Frag) (T : Nat → Addr) where
  c : Nat
  i : Option Nat
  sb : Nat → Option Bool
  hsb : ∀ c' b, sb c' = some b → PySem.W.exmOne K (.ref (T c')) (.ref (T c)) = some b
  su : Addr → Option Addr → Nat → CS K T
  sev : Nat → List (Str × Dat) → Gam → SRes
  hsev : ∀ a d c' fs Γ, (match i with | some i => wrapX i ((su a d c').ev (Γ.set i (.ex a d c' fs))) | none => wrapN ((su a d c').ev Γ)) = sev c' fs Γ
section
variable {K : PySem.W.Frag} {T : Nat → Addr}
def CN.cl (h : CN K T) : Cl2 := (.ref (T h.c), h.i, fun a cls d D σ H => ∃ c', cls = .ref (T c') ∧ (h.su a d c').ts WN D σ H)
def goN (Γ : Gam) (c' : Nat) (fs : List (Str × Dat)) : List (CN K T) → SRes
  | [] => .exn Γ c' fs
  | h :: r => match h.sb c' with
    | some true => h.sev c' fs Γ
    | some false => goN Γ c' fs r
    | none => .bad
theorem goN_ok {W : WX} {D : Ends} {G0 H0 G : Hp} {Γ' : Gam} {c' : Nat} {fs : List (Str × Dat)} : ∀ (hs : List (CN K T)) {t : Prop},
    ((∀ cls d G' H' σ', Ex G G' → SG K T [] G0 H0 G' H' σ' Γ' → RepX K T G' cls d c' fs → wAsN K W D (hs.map CN.cl) cls d σ' H') → t) → SHd K T W D G0 H0 G (goN Γ' c' fs hs) t
  | [], t, h => h
  | x :: r, t, h => by
    show SHd K T W D G0 H0 G (match x.sb c' with | some true => x.sev c' fs Γ' | some false => goN Γ' c' fs r | none => .bad) t
    cases hs : x.sb c' with
    | none => trivial
    | some b =>
      cases b with
      | false =>
        obtain ⟨xc, xi, xsb, xhsb, xsu, xsev, xhsev⟩ := x
        cases xi with
        | some i => exact goN_ok r fun q => h fun cls d G' H' σ' ex sg rx => ⟨false, by rw [rx.1]; exact xhsb c' false hs, (fun z => nomatch z), fun _ => q cls d G' H' σ' ex sg rx⟩
        | none => exact goN_ok r fun q => h fun cls d G' H' σ' ex sg rx => ⟨false, by rw [rx.1]; exact xhsb c' false hs, (fun z => nomatch z), fun _ => q cls d G' H' σ' ex sg rx⟩
      | true =>
        obtain ⟨xc, xi, xsb, xhsb, xsu, xsev, xhsev⟩ := x
        cases xi with
        | some i =>
          exact SHd.all (p := fun j : { y : Value × Option Addr × Hp × Hp × L2.St × Addr // Ex G y.2.2.1 ∧ SG K T [] G0 H0 y.2.2.1 y.2.2.2.1 y.2.2.2.2.1 Γ' ∧ RepX K T y.2.2.1 y.1 y.2.1 c' fs } =>
              ∃ c'', j.1.1 = .ref (T c'') ∧ (xsu j.1.2.2.2.2.2 j.1.2.1 c'').ts WN (endX i D) (j.1.2.2.2.2.1.set i (some (.ref j.1.2.2.2.2.2))) j.1.2.2.2.1)
            (fun ⟨(cls, d, G', H', σ', a), ex, sg, rx⟩ => by
              have o2 := SHd.wrap (W := W) ((xsu a d c').ok WN (endX i D) G0 H0 G' H' (σ'.set i (some (.ref a))) (Γ'.set i (.ex a d c' fs)) (sg.setX ⟨rfl, rx.2⟩))
              have z := xhsev a d c' fs Γ'
              dsimp only at z
              rw [z] at o2
              exact (o2.imp fun t => ⟨c', rx.1, t⟩).back ex)
            fun all => h fun cls d G' H' σ' ex sg rx => ⟨true, by rw [rx.1]; exact xhsb c' true hs, fun _ a _ => all ⟨(cls, d, G', H', σ', a), ex, sg, rx⟩, fun z => nomatch z⟩
        | none =>
          exact SHd.all (p := fun j : { y : Value × Option Addr × Hp × Hp × L2.St × Addr // Ex G y.2.2.1 ∧ SG K T [] G0 H0 y.2.2.1 y.2.2.2.1 y.2.2.2.2.1 Γ' ∧ RepX K T y.2.2.1 y.1 y.2.1 c' fs } =>
              ∃ c'', j.1.1 = .ref (T c'') ∧ (xsu j.1.2.2.2.2.2 j.1.2.1 c'').ts WN D j.1.2.2.2.2.1 j.1.2.2.2.1)
            (fun ⟨(cls, d, G', H', σ', a), ex, sg, rx⟩ => by
              have o2 := SHd.wrapN (W := W) ((xsu a d c').ok WN D G0 H0 G' H' σ' Γ' sg)
              have z := xhsev a d c' fs Γ'
              dsimp only at z
              rw [z] at o2
              exact (o2.imp fun t => ⟨c', rx.1, t⟩).back ex)
            fun all => h fun cls d G' H' σ' ex sg rx => ⟨true, by rw [rx.1]; exact xhsb c' true hs, fun _ a _ => all ⟨(cls, d, G', H', σ', a), ex, sg, rx⟩, fun z => nomatch z⟩
/-- try with several named clauses -/
def CS.tryN (hs : List (CN K T)) (body : CS K T) : CS K T := ⟨fun W D σ H => body.ts (wAsN K W D (hs.map CN.cl)) D σ H, fun Γ => match body.ev Γ with
    | .exn Γ' c' fs => goN Γ' c' fs hs
    | r => r, fun W D G0 H0 G H σ Γ s => by
  have h := body.ok (wAsN K W D (hs.map CN.cl)) D G0 H0 G H σ Γ s
  show SHd K T W D G0 H0 G _ (body.ts (wAsN K W D (hs.map CN.cl)) D σ H)
  cases e : body.ev Γ with
  | exn Γ' c' fs => rw [e] at h; exact goN_ok hs h
  | nx Γ' => rw [e] at h; exact h
  | rt d => rw [e] at h; exact h
  | bk Γ' => rw [e] at h; exact h
  | ct Γ' => rw [e] at h; exact h
  | bad => trivial⟩
@[simp] theorem ev_CS_tryN (hs : List (CN K T)) (body : CS K T) (Γ : Gam) : (CS.tryN hs body).ev Γ = match body.ev Γ with
    | .exn Γ' c' fs => goN Γ' c' fs hs
    | r => r := rfl
@[simp] theorem goN_nil (Γ : Gam) (c' : Nat) (fs : List (Str × Dat)) : goN Γ c' fs ([] : List (CN K T)) = .exn Γ c' fs := rfl
@[simp] theorem goN_cons (Γ : Gam) (c' : Nat) (fs : List (Str × Dat)) (h : CN K T) (r : List (CN K T)) : goN Γ c' fs (h :: r) = match h.sb c' with
    | some true => h.sev c' fs Γ
    | some false => goN Γ c' fs r
    | none => .bad := rfl
def HdsD (X : Cx) (hds : List ExceptHandler) (hs : List (CN K T)) : Prop := HdsN X hds (hs.map CN.cl)
theorem d_nnil {X : Cx} : HdsD X [] ([] : List (CN K T)) := .nil
theorem d_ncons {X : Cx} {x n : Str} {c i : Nat} {sb : Nat → Option Bool} {hsb : ∀ c' b, sb c' = some b → PySem.W.exmOne K (.ref (T c')) (.ref (T c)) = some b} {su : Addr → Option Addr → Nat → CS K T} {sev : Nat → List (Str × Dat) → Gam → SRes} {hsev} {hs : List (CN K T)} {b₀ : Stmt} {suite : List Stmt} {np pos' : Pos} {hds : List ExceptHandler} (hm : X.mg x = some (.ref (T c)))
    (hsu : ∀ (a : Addr) (oe : Obj) (d : Option Addr) (c' : Nat) (pn : List (Addr × Obj)), L2N.Zn (.ref (T c')) d oe → (∃ vs, oe.data = .fields vs) → PSs (X.suite a ((a, oe) :: pn)) (b₀ :: suite) ((su a d c').ts WN)) (r : HdsD X hds hs)
    (hi : X.N[i]? = some n := by rfl) (hln : X.env.kindOf n = some .local := by rfl) (hg : Gl X x := by rfl) (hd : (x == ("__debug__" : Str)) = false := by decide) :
    HdsD X (.ExceptHandler (some (.Name x np)) (some n) (b₀ :: suite) pos' :: hds) (⟨c, some i, sb, hsb, su, sev, hsev⟩ :: hs) :=
  .cons hi hln ⟨hg, hd, .inl hm⟩ (fun a oe cls d pn hz hfl => ⟨fun pins s σ H D I q => by
    obtain ⟨c', rfl, q⟩ := q
    exact (hsu a oe d c' pn hz hfl).run pins s σ H D I q⟩) r
theorem d_nconsN {X : Cx} {x : Str} {c : Nat} {sb : Nat → Option Bool} {hsb : ∀ c' b, sb c' = some b → PySem.W.exmOne K (.ref (T c')) (.ref (T c)) = some b} {su : Addr → Option Addr → Nat → CS K T} {sev : Nat → List (Str × Dat) → Gam → SRes} {hsev} {hs : List (CN K T)} {b₀ : Stmt} {suite : List Stmt} {np pos' : Pos} {hds : List ExceptHandler} (hm : X.mg x = some (.ref (T c)))
    (hsu : ∀ (a : Addr) (oe : Obj) (d : Option Addr) (c' : Nat) (pn : List (Addr × Obj)), L2N.Zn (.ref (T c')) d oe → (∃ vs, oe.data = .fields vs) → PSs (X.suite a ((a, oe) :: pn)) (b₀ :: suite) ((su a d c').ts WN)) (r : HdsD X hds hs)
    (hg : Gl X x := by rfl) (hd : (x == ("__debug__" : Str)) = false := by decide) :
    HdsD X (.ExceptHandler (some (.Name x np)) none (b₀ :: suite) pos' :: hds) (⟨c, none, sb, hsb, su, sev, hsev⟩ :: hs) :=
  .consN ⟨hg, hd, .inl hm⟩ (fun a oe cls d pn hz hfl => ⟨fun pins s σ H D I q => by
    obtain ⟨c', rfl, q⟩ := q
    exact (hsu a oe d c' pn hz hfl).run pins s σ H D I q⟩) r
theorem d_tryN {X : Cx} {W : WX} {cb : CS K T} {h : CN K T} {hs : List (CN K T)} {body : List Stmt} {h₀ : ExceptHandler} {hds : List ExceptHandler} {pos : Pos} (hK : X.K = K) (tk : L2N.Takes X W) (hN : X.N.Nodup)
    (hb : ∀ (W : WX) (pn : List (Addr × Obj)) (xe : Value → Shared → Prop), L2N.Takes (X.tr pn xe) W → PassesOwn (model X.prog X.w) X.A X.env xe → PSs (X.tr pn xe) body (cb.ts W)) (hh : HdsD X (h₀ :: hds) (h :: hs))
    (e1 : X.stack = X.env :: X.outer := by rfl) (e2 : X.env.frame = some X.env.locals := by rfl) : PS X (.Try body (h₀ :: hds) [] [] pos) ((CS.tryN (h :: hs) cb).ts W) := by
  subst hK
  exact ps_try_asN (tb := cb.ts) e1 e2 hN tk hb hh
theorem d_asg {X : Cx} {W : WX} {tg e : Expr} {ce : CE X.K T} {g : CG X.K T} {pos : Pos} (he : PE X e (ce.te W)) (hg : PG X tg g.g) (hs : swapsWithSole [tg] e pos.line X.env = pure false := by rfl) (hw : swappedStores [tg] e X.env = pure none := by rfl) (h1 : (assignEach [tg] X.env).map (·.2) = [assign tg X.env] := by rfl) :
    PS X (.Assign [tg] e pos) ((CS.asg g ce).ts W) := ps_asg he hg hs hw h1
end
end Cz

set_option Elab.async false
set_option linter.all false
set_option maxRecDepth 100000
set_option maxHeartbeats 4000000
namespace My
open PySem L2 Evl PySem.Spec PyProof.Rows Cz
def sb_InvalidEnd : Nat → Option Bool
  | 1 => some false
  | 2 => some true
  | 3 => some false
  | 4 => some false
  | _ => none
def sb_Unmatched : Nat → Option Bool
  | 1 => some false
  | 2 => some false
  | 3 => some false
  | 4 => some true
  | _ => none
def topS (i : Nat) : Stmt := PySem.Challenge.pw_bothsure_k09_views_grow.main.body.getD i (.Pass ⟨0, 0, 0, 0⟩)
structure Fc (K : PySem.W.Frag) (T : Nat → Addr) (mg : Str → Option Value) : Prop where
  cRun : Cls K (T 0)
  nRun_first : NoAttr K (T 0) "first"
  nRun_second : NoAttr K (T 0) "second"
  nRun_fates : NoAttr K (T 0) "fates"
  iRun : IsO K T 0
  gRun : mg "Run" = some (.ref (T 0))
  mInvalidEnd : ∀ c b, sb_InvalidEnd c = some b → PySem.W.exmOne K (.ref (T c)) (.ref (T 2)) = some b
  gInvalidEnd : mg "InvalidEnd" = some (.ref (T 2))
  xInvalidEnd : XfC K (T 2)
  nInvalidEnd_end : PySem.W.findIn K (.ref (T 2)) "end" = some none
  mUnmatched : ∀ c b, sb_Unmatched c = some b → PySem.W.exmOne K (.ref (T c)) (.ref (T 4)) = some b
  gUnmatched : mg "Unmatched" = some (.ref (T 4))

def tabARRIVING : List (Str × Dat) := [("first", .str "bf"), ("second", .str "bs")]
/-! ### check_bit -/
abbrev s_check_bit : Stmt := topS 8
abbrev sc_check_bit_N : List Str := ["bit"]
theorem sc_check_bit : FnScope sc_check_bit_N ["bit"] (defScope s_check_bit) := ⟨rfl, rfl, rfl, by decide +kernel, rfl, by decide +kernel, by decide +kernel⟩
def c_check_bit (K : PySem.W.Frag) (T : Nat → Addr) (w : World) (mg : Str → Option Value) : CS K T := (.ifs (.test (.op2 (oIn true) (.var 0) (.tup (.cons (.int 0) (.cons (.int 1) .nil))))) (.raise 3 "bit" (.var 0)) .pass)
theorem in_bits (b : Int) : inQ (.int b) (.tup [.int 0, .int 1]) = .ok (decide (b = 0 ∨ b = 1)) := by
  by_cases h1 : b = 0
  · subst h1
    simp [inQ, flat?, flats?, inV, eqV]
  · by_cases h2 : b = 1
    · subst h2
      simp [inQ, flat?, flats?, inV, eqV]
    · simp [inQ, flat?, flats?, inV, eqV, h1, h2]
      exact ⟨fun h => h1 h.symm, fun h => h2 h.symm⟩
def P_check_bit : List Dat → Rs Dat
  | [.int b] => if b = 0 ∨ b = 1 then .ok .non else if fitD (.int b) = true then .exn 3 [("bit", .int b)] else .bad
  | _ => .bad
theorem e_check_bit (K : PySem.W.Frag) (T : Nat → Addr) (w : World) (mg : Str → Option Value) : ∀ ds, P_check_bit ds ≠ .bad → runF (c_check_bit K T w mg) sc_check_bit_N.length ds = P_check_bit ds := by
  intro ds hb
  unfold P_check_bit at hb ⊢
  split at hb
  · next b =>
    by_cases h : b = 0 ∨ b = 1
    · rw [if_pos h]
      have hi := in_bits b
      rw [decide_eq_true h] at hi
      simp [runF, c_check_bit, hi, lim]
    · rw [if_neg h] at hb ⊢
      have hi := in_bits b
      rw [decide_eq_false h] at hi
      split at hb
      · next hl => simp [runF, c_check_bit, hi, hl, lim]
      · exact absurd rfl hb
  · exact absurd rfl hb
theorem ok_check_bit {P : Program} {w : World} {K : PySem.W.Frag} {mg : Str → Option Value} {base : Heap} {T : Nat → Addr} {f : Addr} {fd : FuncData} (B : Blt mg) (F : Fun K "check_bit" "check_bit" s_check_bit f fd) (X_InvalidBit : CalX P w K mg base "InvalidBit" (T 3) "bit") : FnOk P w K mg base (L2N.CX P w) 3 f fd ["bit"] (spF K T 1 P_check_bit) := by
  refine (ok_fn F sc_check_bit (c_check_bit K T w mg) fun cdv A outer s H E hr => ?_).imp (spF_le fun ds hl hb => e_check_bit K T w mg ds hb)
  · have tk : L2N.Takes (cxOf (L2N.CX P w) P w K mg base sc_check_bit_N "check_bit" (defScope s_check_bit) f cdv A outer s H E) (fun cls d _ H => E cls d H) := L2N.takes_of rfl rfl rfl rfl
    have hr2 : Room 2 _ := hr.mono (by decide)
    have hu64 := hr.units
    exact (d_one (d_if (d_cmpT op_notIn_seq (d_var (i := 0)) (d_tup (d_acons d_int (d_acons d_int d_anil))) (by with_unfolding_all rfl)) (d_one (d_raise X_InvalidBit rfl rfl tk hr2 (d_var (i := 0)))) d_nil))
/-! ### check_fates -/
abbrev s_check_fates : Stmt := topS 13
abbrev sc_check_fates_N : List Str := ["fates", "at", "fate"]
theorem sc_check_fates : FnScope sc_check_fates_N ["fates"] (defScope s_check_fates) := ⟨rfl, rfl, rfl, by decide +kernel, rfl, by decide +kernel, by decide +kernel⟩
def b_check_fates_0 (K : PySem.W.Frag) (T : Nat → Addr) (w : World) (mg : Str → Option Value) : CS K T := (.ifs (.test (.op2 oNotInS (.var 2) (.str "bfsn"))) (.raise 1 "at" (.var 1)) .pass)
def c_check_fates (K : PySem.W.Frag) (T : Nat → Addr) (w : World) (mg : Str → Option Value) : CS K T := (.forS (CI.enumS (.cons (.var 0) .nil)) (CG.tup 2 (.cons (CG.name 1) (.cons (CG.name 2) .nil))) (b_check_fates_0 K T w mg))
def P_check_fates : List Dat → Rs Dat
  | [.str x] => if x.length ≤ lim then (match badAt x.cps.toList with | none => .ok .non | some k => .exn 1 [("at", .int (k : Nat))]) else .bad
  | _ => .bad
theorem turn_check_fates (K : PySem.W.Frag) (T : Nat → Addr) (w : World) (mg : Str → Option Value) (l : List Nat) (i : Nat) (hi : i < l.length) (h : isF l[i] = true) (a b : Cz.Slot) (d : Dat) (hd : (enumS (mkS l))[i]? = some d) :
    ∃ Γ1 Γ2, (CG.tup 2 (.cons (CG.name 1) (.cons (CG.name 2) .nil)) : CG K T).ev d [.d (.str (mkS l)), a, b] = some Γ1 ∧ (b_check_fates_0 K T w mg).ev Γ1 = .nx Γ2 ∧ Γ2 = [.d (.str (mkS l)), .d (.int i), .d (.str (mkS [l[i]]))] := by
  unfold enumS at hd
  rw [List.getElem?_map, List.getElem?_range (by simpa [mkS] using hi)] at hd
  have hx : (mkS l).cps.getD i 0 = l[i] := by simp [mkS, Array.getD_eq_getD_getElem?, hi]
  simp only [Option.map_some, hx, Option.some.injEq] at hd
  subst hd
  have hm : l[i] = 98 ∨ l[i] = 102 ∨ l[i] = 115 ∨ l[i] = 110 := of_decide_eq_true h
  refine ⟨_, [.d (.str (mkS l)), .d (.int i), .d (.str (mkS [l[i]]))], rfl, ?_, rfl⟩
  simp [b_check_fates_0, one_mkS, bfsn_is, hm]
theorem stop_check_fates (K : PySem.W.Frag) (T : Nat → Addr) (w : World) (mg : Str → Option Value) (l : List Nat) (i : Nat) (hi : i < l.length) (h : isF l[i] = false) (hl : l.length ≤ lim) (a b : Cz.Slot) (d : Dat) (hd : (enumS (mkS l))[i]? = some d) :
    ∃ Γ1, (CG.tup 2 (.cons (CG.name 1) (.cons (CG.name 2) .nil)) : CG K T).ev d [.d (.str (mkS l)), a, b] = some Γ1 ∧ (b_check_fates_0 K T w mg).ev Γ1 = .exn [.d (.str (mkS l)), .d (.int i), .d (.str (mkS [l[i]]))] 1 [("at", .int (i : Nat))] := by
  unfold enumS at hd
  rw [List.getElem?_map, List.getElem?_range (by simpa [mkS] using hi)] at hd
  have hx : (mkS l).cps.getD i 0 = l[i] := by simp [mkS, Array.getD_eq_getD_getElem?, hi]
  simp only [Option.map_some, hx, Option.some.injEq] at hd
  subst hd
  have hm : ¬ (l[i] = 98 ∨ l[i] = 102 ∨ l[i] = 115 ∨ l[i] = 110) := of_decide_eq_false h
  have hf : fitD (.int (i : Nat)) = true := fit_nat (by unfold lim at hl; omega)
  refine ⟨_, rfl, ?_⟩
  simp [b_check_fates_0, one_mkS, bfsn_is, hm, hf]
theorem e_check_fates (K : PySem.W.Frag) (T : Nat → Addr) (w : World) (mg : Str → Option Value) : ∀ ds, P_check_fates ds ≠ .bad → runF (c_check_fates K T w mg) sc_check_fates_N.length ds = P_check_fates ds := by
  intro ds hb
  unfold P_check_fates at hb ⊢
  split at hb
  · next x =>
    split at hb
    · next hl =>
      obtain ⟨l, rfl⟩ : ∃ l, x = mkS l := ⟨_, (mkS_of x).symm⟩
      rw [mkS_len] at hl
      have hn : (enumS (mkS l)).length = l.length := by simp [enumS, mkS]
      have e0 : ∀ r, (evFor (CG.tup 2 (.cons (CG.name 1) (.cons (CG.name 2) .nil)) : CG K T).ev (b_check_fates_0 K T w mg).ev (enumS (mkS l)) [.d (.str (mkS l)), .un, .un] = r) → (c_check_fates K T w mg).ev [.d (.str (mkS l)), .un, .un] = r := fun r hr => by
        simp only [c_check_fates, ev_CS_forS, ev_CI_enumS, ev_CA_cons, ev_CE_var, ev_CA_nil]
        exact hr
      have ei : [Dat.str (mkS l)].map Slot.d ++ List.replicate (sc_check_fates_N.length - [Dat.str (mkS l)].length) Slot.un = [.d (.str (mkS l)), .un, .un] := rfl
      rw [mkS_list, mkS_len, if_pos hl]
      unfold runF
      rw [ei]
      cases hbad : badAt l with
      | none =>
        have hF := badAt_none.mp hbad
        obtain ⟨Γk, ⟨a, b, rfl⟩, e⟩ := evFor_drop (g := (CG.tup 2 (.cons (CG.name 1) (.cons (CG.name 2) .nil)) : CG K T).ev) (b := (b_check_fates_0 K T w mg).ev) (ds := enumS (mkS l)) (Γ := [.d (.str (mkS l)), .un, .un]) (fun _ Γ => ∃ a b, Γ = [.d (.str (mkS l)), a, b]) ⟨_, _, rfl⟩ (k := l.length) (by omega) (by
          rintro i d Γ hi hd ⟨a, b, rfl⟩
          obtain ⟨Γ1, Γ2, h1, h2, rfl⟩ := turn_check_fates K T w mg l i hi (decide_eq_true (hF _ (List.getElem_mem hi))) a b d hd
          exact ⟨Γ1, _, h1, .inl h2, _, _, rfl⟩)
        rw [List.drop_of_length_le (by omega)] at e
        rw [e0 _ e]
        rfl
      | some k =>
        obtain ⟨hk, hk1, hk2⟩ := badAt_some hbad
        obtain ⟨Γk, ⟨a, b, rfl⟩, e⟩ := evFor_drop (g := (CG.tup 2 (.cons (CG.name 1) (.cons (CG.name 2) .nil)) : CG K T).ev) (b := (b_check_fates_0 K T w mg).ev) (ds := enumS (mkS l)) (Γ := [.d (.str (mkS l)), .un, .un]) (fun _ Γ => ∃ a b, Γ = [.d (.str (mkS l)), a, b]) ⟨_, _, rfl⟩ (k := k) (by omega) (by
          rintro i d Γ hi hd ⟨a, b, rfl⟩
          obtain ⟨Γ1, Γ2, h1, h2, rfl⟩ := turn_check_fates K T w mg l i (by omega) (hk2 i hi) a b d hd
          exact ⟨Γ1, _, h1, .inl h2, _, _, rfl⟩)
        have hke : k < (enumS (mkS l)).length := by omega
        obtain ⟨Γ1, h1, h2⟩ := stop_check_fates K T w mg l k hk hk1 hl a b _ (List.getElem?_eq_getElem hke)
        rw [List.drop_eq_getElem_cons hke, evFor_cons, h1] at e
        simp only [h2] at e
        rw [e0 _ e]
    · exact absurd rfl hb
  · exact absurd rfl hb
theorem ok_check_fates {P : Program} {w : World} {K : PySem.W.Frag} {mg : Str → Option Value} {base : Heap} {T : Nat → Addr} {gvFATES : Value} {f : Addr} {fd : FuncData} (B : Blt mg) (F : Fun K "check_fates" "check_fates" s_check_fates f fd) (X_InvalidFate : CalX P w K mg base "InvalidFate" (T 1) "at") (gFATES : mg "FATES" = some gvFATES ∧ RelV (.str "bfsn") gvFATES) : FnOk P w K mg base (L2N.CX P w) 3 f fd ["fates"] (spF K T 1 P_check_fates) := by
  refine (ok_fn F sc_check_fates (c_check_fates K T w mg) fun cdv A outer s H E hr => ?_).imp (spF_le fun ds hl hb => e_check_fates K T w mg ds hb)
  · have tk : L2N.Takes (cxOf (L2N.CX P w) P w K mg base sc_check_fates_N "check_fates" (defScope s_check_fates) f cdv A outer s H E) (fun cls d _ H => E cls d H) := L2N.takes_of rfl rfl rfl rfl
    have hr2 : Room 2 _ := hr.mono (by decide)
    have hu64 := hr.units
    exact (d_one (d_for (passes_of rfl) (d_enumS B.enumerate_ (d_acons (d_var (i := 0)) d_anil)) (d_gtup rfl (d_gcons (d_name (i := 1) sc_check_fates.nd) (d_gcons (d_name (i := 2) sc_check_fates.nd) d_gnil))) (d_one (d_if (d_cmpT op_notIn_sign (d_var (i := 2)) (d_glob gFATES.1 gFATES.2) (by with_unfolding_all rfl)) (d_one (d_raise X_InvalidFate rfl rfl tk hr2 (d_var (i := 1)))) d_nil))))
/-! ### check_end -/
abbrev s_check_end : Stmt := topS 14
abbrev sc_check_end_N : List Str := ["end"]
theorem sc_check_end : FnScope sc_check_end_N ["end"] (defScope s_check_end) := ⟨rfl, rfl, rfl, by decide +kernel, rfl, by decide +kernel, by decide +kernel⟩
def c_check_end (K : PySem.W.Frag) (T : Nat → Addr) (w : World) (mg : Str → Option Value) (aENDS : Addr) (rENDS : mg "ENDS" = some (.ref aENDS) ∧ ∀ G, Rep K T G (.ref aENDS) (.tup [.str "first", .str "second"])) : CS K T := (.ifs (.test (.op2 (oIn true) (.var 0) (.k (.ref aENDS) (.tup [.str "first", .str "second"]) rENDS.2))) (.raise 2 "end" (.var 0)) .pass)
theorem ends_ne : (("first" : Str) = "second") = False ∧ (("second" : Str) = "first") = False := by
  refine ⟨?_, ?_⟩ <;> exact eq_false (by decide +kernel)
theorem in_ends (e : Str) : inQ (.str e) (.tup [.str "first", .str "second"]) = .ok (decide (e = "first" ∨ e = "second")) := by
  by_cases h1 : e = "first"
  · subst h1
    simp [inQ, flat?, flats?, inV, eqV]
  · by_cases h2 : e = "second"
    · subst h2
      simp [inQ, flat?, flats?, inV, eqV]
    · simp [inQ, flat?, flats?, inV, eqV, h1, h2]
      exact ⟨fun h => h1 h.symm, fun h => h2 h.symm⟩
def P_check_end : List Dat → Rs Dat
  | [.str e] => if e = "first" ∨ e = "second" then .ok .non else if e.length ≤ 90000 then .exn 2 [("end", .str e)] else .bad
  | _ => .bad
theorem e_check_end (K : PySem.W.Frag) (T : Nat → Addr) (w : World) (mg : Str → Option Value) (aENDS : Addr) (rENDS : mg "ENDS" = some (.ref aENDS) ∧ ∀ G, Rep K T G (.ref aENDS) (.tup [.str "first", .str "second"])) : ∀ ds, P_check_end ds ≠ .bad → runF (c_check_end K T w mg aENDS rENDS) sc_check_end_N.length ds = P_check_end ds := by
  intro ds hb
  unfold P_check_end at hb ⊢
  split at hb
  · next e =>
    by_cases h : e = "first" ∨ e = "second"
    · rw [if_pos h]
      have hi := in_ends e
      rw [decide_eq_true h] at hi
      simp [runF, c_check_end, hi]
    · rw [if_neg h] at hb ⊢
      have hi := in_ends e
      rw [decide_eq_false h] at hi
      split at hb
      · next hl =>
        have hf : fitD (.str e) = true := decide_eq_true hl
        simp [runF, c_check_end, hi, hl, hf]
      · exact absurd rfl hb
  · exact absurd rfl hb
theorem ok_check_end {P : Program} {w : World} {K : PySem.W.Frag} {mg : Str → Option Value} {base : Heap} {T : Nat → Addr} {f : Addr} {fd : FuncData} (B : Blt mg) (aENDS : Addr) (rENDS : mg "ENDS" = some (.ref aENDS) ∧ ∀ G, Rep K T G (.ref aENDS) (.tup [.str "first", .str "second"])) (F : Fun K "check_end" "check_end" s_check_end f fd) (X_InvalidEnd : CalX P w K mg base "InvalidEnd" (T 2) "end") : FnOk P w K mg base (L2N.CX P w) 3 f fd ["end"] (spF K T 1 P_check_end) := by
  refine (ok_fn F sc_check_end (c_check_end K T w mg aENDS rENDS) fun cdv A outer s H E hr => ?_).imp (spF_le fun ds hl hb => e_check_end K T w mg aENDS rENDS ds hb)
  · have tk : L2N.Takes (cxOf (L2N.CX P w) P w K mg base sc_check_end_N "check_end" (defScope s_check_end) f cdv A outer s H E) (fun cls d _ H => E cls d H) := L2N.takes_of rfl rfl rfl rfl
    have hr2 : Room 2 _ := hr.mono (by decide)
    have hu64 := hr.units
    exact (d_one (d_if (d_cmpT op_notIn_seq (d_var (i := 0)) (d_glob rENDS.1 rfl) (by with_unfolding_all rfl)) (d_one (d_raise X_InvalidEnd rfl rfl tk hr2 (d_var (i := 0)))) d_nil))
/-! ### arrives -/
abbrev s_arrives : Stmt := topS 15
abbrev sc_arrives_N : List Str := ["fate", "at"]
theorem sc_arrives : FnScope sc_arrives_N ["fate", "at"] (defScope s_arrives) := ⟨rfl, rfl, rfl, by decide +kernel, rfl, by decide +kernel, by decide +kernel⟩
def c_arrives (K : PySem.W.Frag) (T : Nat → Addr) (w : World) (mg : Str → Option Value) (aARRIVING : Addr) (tARRIVING : mg "ARRIVING" = some (.ref aARRIVING) ∧ ∀ z d, tabARRIVING.lookup z = some d → ∃ v, KDct K w aARRIVING z v ∧ ∀ G, Rep K T G v d) : CS K T := (.seq (.expr (.fn 1 P_check_fates (.cons (.var 0) .nil))) (.seq (.expr (.fn 1 P_check_end (.cons (.var 1) .nil))) (.ret (.op2 oInS (.var 0) (.kd w tabARRIVING aARRIVING tARRIVING.2 (.var 1))))))
def endD (c : Nat) (e : Str) : Bool := if e = "first" then decide (c = 98 ∨ c = 102) else decide (c = 98 ∨ c = 115)
def P_arrives : List Dat → Rs Dat
  | [.str f, .str e] => (match f.cps.toList with
    | [c] => if isF c = true then (if e = "first" ∨ e = "second" then .ok (.bl (endD c e)) else if e.length ≤ 90000 then .exn 2 [("end", .str e)] else .bad) else .exn 1 [("at", .int 0)]
    | _ => .bad)
  | _ => .bad
theorem bf_is : ("bf" : Str) = mkS [98, 102] := by decide +kernel
theorem bs_is : ("bs" : Str) = mkS [98, 115] := by decide +kernel
theorem one_of {f : Str} {c : Nat} (h : f.cps.toList = [c]) : f = mkS [c] := by rw [← mkS_of f, h]
theorem e_arrives (K : PySem.W.Frag) (T : Nat → Addr) (w : World) (mg : Str → Option Value) (aARRIVING : Addr) (tARRIVING : mg "ARRIVING" = some (.ref aARRIVING) ∧ ∀ z d, tabARRIVING.lookup z = some d → ∃ v, KDct K w aARRIVING z v ∧ ∀ G, Rep K T G v d) : ∀ ds, P_arrives ds ≠ .bad → runF (c_arrives K T w mg aARRIVING tARRIVING) sc_arrives_N.length ds = P_arrives ds := by
  intro ds hb
  unfold P_arrives at hb ⊢
  split at hb
  · next f e =>
    split at hb
    · next c hc =>
      have := one_of hc
      subst this
      have hl : ([c] : List Nat).length ≤ lim := by show 1 ≤ lim; decide
      by_cases h1 : isF c = true
      · have hbad : badAt [c] = none := badAt_none.mpr fun x hx => by
          have : x = c := by simpa using hx
          subst this
          exact of_decide_eq_true h1
        simp only [h1, if_true] at hb ⊢
        by_cases h2 : e = "first" ∨ e = "second"
        · simp only [h2, if_true]
          rcases h2 with rfl | rfl
          · simp [runF, c_arrives, P_check_fates, hbad, P_check_end, tabARRIVING, bf_is, endD, lim]
          · simp [runF, c_arrives, P_check_fates, hbad, P_check_end, tabARRIVING, bs_is, endD, lim, ends_ne, lkp_cons]
        · simp only [h2, if_false] at hb ⊢
          split at hb
          · next h3 => simp [runF, c_arrives, P_check_fates, hbad, P_check_end, h2, h3, lim]
          · exact absurd rfl hb
      · have h1 : isF c = false := by simpa using h1
        have hbad : badAt [c] = some 0 := badAt_app (a := []) (r := []) (fun x hx => by cases hx) h1
        simp [runF, c_arrives, P_check_fates, hbad, h1, lim]
    · exact absurd rfl hb
  · exact absurd rfl hb
theorem ok_arrives {P : Program} {w : World} {K : PySem.W.Frag} {mg : Str → Option Value} {base : Heap} {T : Nat → Addr} {f : Addr} {fd : FuncData} (B : Blt mg) (aARRIVING : Addr) (tARRIVING : mg "ARRIVING" = some (.ref aARRIVING) ∧ ∀ z d, tabARRIVING.lookup z = some d → ∃ v, KDct K w aARRIVING z v ∧ ∀ G, Rep K T G v d) (F : Fun K "arrives" "arrives" s_arrives f fd) (C_check_end : Cal P w K mg base "check_end" 3 (spF K T 1 P_check_end)) (C_check_fates : Cal P w K mg base "check_fates" 3 (spF K T 1 P_check_fates)) : FnOk P w K mg base (L2N.CX P w) 4 f fd ["fate", "at"] (spF K T 2 P_arrives) := by
  refine (ok_fn F sc_arrives (c_arrives K T w mg aARRIVING tARRIVING) fun cdv A outer s H E hr => ?_).imp (spF_le fun ds hl hb => e_arrives K T w mg aARRIVING tARRIVING ds hb)
  · have tk : L2N.Takes (cxOf (L2N.CX P w) P w K mg base sc_arrives_N "arrives" (defScope s_arrives) f cdv A outer s H E) (fun cls d _ H => E cls d H) := L2N.takes_of rfl rfl rfl rfl
    have hr3 : Room 3 _ := hr.mono (by decide)
    have hu64 := hr.units
    exact (d_seq (d_expr (d_cal C_check_fates tk hr3 (d_acons (d_var (i := 0)) d_anil))) (d_seq (d_expr (d_cal C_check_end tk hr3 (d_acons (d_var (i := 1)) d_anil))) (d_one (d_ret (d_cmp op_in_sign (d_var (i := 0)) (d_kd tARRIVING.1 (d_var (i := 1))) (by with_unfolding_all rfl))))))
/-! ### last_arrival -/
abbrev s_last_arrival : Stmt := topS 17
abbrev sc_last_arrival_N : List Str := ["fates", "end", "at"]
theorem sc_last_arrival : FnScope sc_last_arrival_N ["fates", "end"] (defScope s_last_arrival) := ⟨rfl, rfl, rfl, by decide +kernel, rfl, by decide +kernel, by decide +kernel⟩
def b_last_arrival_0 (K : PySem.W.Frag) (T : Nat → Addr) (w : World) (mg : Str → Option Value) : CS K T := (.ifs (.b (.fnK 1 1 P_arrives (.cons (.op2 oIxS (.var 0) (.var 2)) .nil) (.cons (.var 1) .nil))) (.ret (.var 2)) .pass)
def c_last_arrival (K : PySem.W.Frag) (T : Nat → Addr) (w : World) (mg : Str → Option Value) : CS K T := (.seq (.forS (CI.rev1 (.opN oLenS (.cons (.var 0) .nil))) (CG.name 2) (b_last_arrival_0 K T w mg)) (.ret .non))
/-- the last place where a letter arrives -/
def lastA (l : List Nat) (e : Str) : Nat → Option Nat
  | 0 => none
  | n + 1 => if endD (l.getD n 0) e = true then some n else lastA l e n
def optI : Option Nat → Dat
  | some i => .int (i : Nat)
  | none => .non
def P_last_arrival : List Dat → Rs Dat
  | [.str x, .str e] => if x.length ≤ lim ∧ Fts x.cps.toList ∧ (e = "first" ∨ e = "second") then .ok (optI (lastA x.cps.toList e x.length)) else .bad
  | _ => .bad
theorem revD_succ (n : Nat) : revD (n + 1) = .int (n : Nat) :: revD n := by
  unfold revD
  rw [List.range_succ_eq_map, List.map_cons, List.map_map]
  congr 1
  · congr 1
    omega
  · refine List.map_congr_left fun i _ => ?_
    show Dat.int _ = Dat.int _
    congr 1
    show ((n + 1 : Nat) : Int) - 1 - ((i + 1 : Nat) : Int) = (n : Int) - 1 - (i : Int)
    omega
theorem last_loop (K : PySem.W.Frag) (T : Nat → Addr) (w : World) (mg : Str → Option Value) (l : List Nat) (e : Str) (hl : l.length ≤ lim) (hF : Fts l) (he : e = "first" ∨ e = "second") : ∀ (n : Nat), n ≤ l.length → ∀ o : Cz.Slot, ∃ o', evFor (CG.name 2 : CG K T).ev (b_last_arrival_0 K T w mg).ev (revD n) [.d (.str (mkS l)), .d (.str e), o] = match lastA l e n with
    | some i => .rt (.int (i : Nat))
    | none => .nx [.d (.str (mkS l)), .d (.str e), o']
  | 0, _, o => ⟨o, rfl⟩
  | n + 1, hn, o => by
    obtain ⟨o', ih⟩ := last_loop K T w mg l e hl hF he n (by omega) (.d (.int (n : Nat)))
    refine ⟨o', ?_⟩
    obtain ⟨c, hc⟩ : ∃ c, l.getD n 0 = c := ⟨_, rfl⟩
    have hcm : isF c = true := by
      refine decide_eq_true (hF c ?_)
      rw [← hc, List.getD_eq_getElem?_getD, List.getElem?_eq_getElem (by omega)]
      exact List.getElem_mem _
    have ex : ixS (.str (mkS l)) (.int (n : Nat)) = .ok (.str (mkS [c])) := hc ▸ ix_mkS l (k := (n : Nat)) (by omega) (by omega) hl
    have ea : P_arrives [.str (mkS [c]), .str e] = .ok (.bl (endD c e)) := by
      unfold P_arrives
      simp only [mkS_list, hcm, if_true, he]
    have eb : (b_last_arrival_0 K T w mg).ev [.d (.str (mkS l)), .d (.str e), .d (.int (n : Nat))] = if endD c e = true then .rt (.int (n : Nat)) else .nx [.d (.str (mkS l)), .d (.str e), .d (.int (n : Nat))] := by
      simp [b_last_arrival_0, ex, ea]
    have eg : (CG.name 2 : CG K T).ev (.int (n : Nat)) [.d (.str (mkS l)), .d (.str e), o] = some [.d (.str (mkS l)), .d (.str e), .d (.int (n : Nat))] := rfl
    rw [revD_succ, evFor_cons, eg]
    simp only [eb]
    unfold lastA
    rw [hc]
    by_cases h : endD c e = true
    · simp only [h, if_true]
    · simp only [h, if_false]
      exact ih
theorem e_last_arrival (K : PySem.W.Frag) (T : Nat → Addr) (w : World) (mg : Str → Option Value) : ∀ ds, P_last_arrival ds ≠ .bad → runF (c_last_arrival K T w mg) sc_last_arrival_N.length ds = P_last_arrival ds := by
  intro ds hb
  unfold P_last_arrival at hb ⊢
  split at hb
  · next x e =>
    split at hb
    · next h =>
      obtain ⟨l, rfl⟩ : ∃ l, x = mkS l := ⟨_, (mkS_of x).symm⟩
      rw [if_pos h]
      simp only [mkS_list, mkS_len] at h ⊢
      obtain ⟨o', hq⟩ := last_loop K T w mg l e h.1 h.2.1 h.2.2 l.length (Nat.le_refl _) .un
      obtain ⟨m, hm⟩ : ∃ m : Int, (l.length : Int) = m := ⟨_, rfl⟩
      have m1 : -(2 ^ 62) ≤ m ∧ m < 2 ^ 62 := by have := h.1; unfold lim at this; omega
      have m2 : m.toNat = l.length := by omega
      have el : (CE.opN oLenS (.cons (.var 0) .nil) : CE K T).ev [.d (.str (mkS l)), .d (.str e), .un] = .ok (.int m) := by
        rw [← hm]
        simp [h.1]
      have ei : (CI.rev1 (.opN oLenS (.cons (.var 0) .nil)) : CI K T).ev [.d (.str (mkS l)), .d (.str e), .un] = .ok (revD l.length) := by
        rw [ev_CI_rev1, el]
        simp only [Rs.bind_ok]
        rw [if_pos m1, m2]
      have es : [Dat.str (mkS l), Dat.str e].map Slot.d ++ List.replicate (sc_last_arrival_N.length - [Dat.str (mkS l), Dat.str e].length) Slot.un = [.d (.str (mkS l)), .d (.str e), .un] := rfl
      unfold runF
      rw [es]
      simp only [c_last_arrival, ev_CS_seq, ev_CS_forS, ei, Rs.st_ok, hq]
      cases hA : lastA l e l.length with
      | none => rfl
      | some i => rfl
    · exact absurd rfl hb
  · exact absurd rfl hb
theorem ok_last_arrival {P : Program} {w : World} {K : PySem.W.Frag} {mg : Str → Option Value} {base : Heap} {T : Nat → Addr} {f : Addr} {fd : FuncData} (B : Blt mg) (F : Fun K "last_arrival" "last_arrival" s_last_arrival f fd) (K_arrives : CalK P w K mg base "arrives" 1 1 ["at"] 4 (spF K T (1 + 1) P_arrives)) : FnOk P w K mg base (L2N.CX P w) 5 f fd ["fates", "end"] (spF K T 2 P_last_arrival) := by
  refine (ok_fn F sc_last_arrival (c_last_arrival K T w mg) fun cdv A outer s H E hr => ?_).imp (spF_le fun ds hl hb => e_last_arrival K T w mg ds hb)
  · have tk : L2N.Takes (cxOf (L2N.CX P w) P w K mg base sc_last_arrival_N "last_arrival" (defScope s_last_arrival) f cdv A outer s H E) (fun cls d _ H => E cls d H) := L2N.takes_of rfl rfl rfl rfl
    have hr4 : Room 4 _ := hr.mono (by decide)
    have hu64 := hr.units
    exact (d_seq (d_for (passes_of rfl) (d_rev1 B.reversed_ B.range_ (d_blt call_len_str B.len_ (by decide +kernel) (d_acons (d_var (i := 0)) d_anil))) (d_name (i := 2) sc_last_arrival.nd) (d_one (d_if (d_val (d_calK K_arrives tk hr4 (d_acons (d_ix ix_str (d_var (i := 0)) (d_var (i := 2))) d_anil) (d_kcons (d_var (i := 1)) d_knil))) (d_one (d_ret (d_var (i := 2)))) d_nil))) (d_one (d_ret d_non)))
/-! ### Run.__init__ -/
abbrev s_Run_init : Stmt := inClass (topS 18) 0
abbrev sc_Run_init_N : List Str := ["self", "first", "second", "fates"]
theorem sc_Run_init : FnScope sc_Run_init_N ["self", "first", "second", "fates"] (defScope s_Run_init) := ⟨rfl, rfl, rfl, by decide +kernel, rfl, by decide +kernel, by decide +kernel⟩
def c_Run_init (K : PySem.W.Frag) (T : Nat → Addr) (w : World) (mg : Str → Option Value) (fc : Fc K T mg) : CS K T := (.seq (.expr (.fn 1 P_check_bit (.cons (.var 1) .nil))) (.seq (.expr (.fn 1 P_check_bit (.cons (.var 2) .nil))) (.seq (.expr (.fn 1 P_check_fates (.cons (.var 3) .nil))) (.seq (.fldO 0 0 "first" fc.cRun fc.nRun_first (.var 1)) (.seq (.fldO 0 0 "second" fc.cRun fc.nRun_second (.var 2)) (.fldO 0 0 "fates" fc.cRun fc.nRun_fates (.var 3)))))))
def runD (a b : Int) (x : Str) : Dat := .ins 0 [("first", .int a), ("second", .int b), ("fates", .str x)]
def asRun : Dat → Option (Int × Int × Str)
  | .ins 0 [(f1, .int a), (f2, .int b), (f3, .str x)] => if f1 = "first" ∧ f2 = "second" ∧ f3 = "fates" then some (a, b, x) else none
  | _ => none
theorem asRun_eq {d : Dat} {a b : Int} {x : Str} (h : asRun d = some (a, b, x)) : d = runD a b x := by
  unfold asRun at h
  split at h
  · split at h
    · next hh =>
      obtain ⟨rfl, rfl, rfl⟩ := hh
      cases h
      rfl
    · cases h
  · cases h
@[simp] theorem asRun_runD (a b : Int) (x : Str) : asRun (runD a b x) = some (a, b, x) := by simp [asRun, runD]
theorem fs_ne : (("first" : Str) = "second") = False ∧ (("first" : Str) = "fates") = False ∧ (("second" : Str) = "fates") = False ∧ (("second" : Str) = "first") = False ∧ (("fates" : Str) = "first") = False ∧ (("fates" : Str) = "second") = False := by
  refine ⟨?_, ?_, ?_, ?_, ?_, ?_⟩ <;> exact eq_false (by decide +kernel)
theorem mt_ne : (("cut" : Str) = "first") = False ∧ (("cut" : Str) = "second") = False ∧ (("cut" : Str) = "fates") = False ∧ (("swapped" : Str) = "first") = False ∧ (("swapped" : Str) = "second") = False ∧ (("swapped" : Str) = "fates") = False := by
  refine ⟨?_, ?_, ?_, ?_, ?_, ?_⟩ <;> exact eq_false (by decide +kernel)
theorem n_is : ("n" : Str) = mkS [110] := by decide +kernel
theorem mkS_inj {a b : List Nat} : mkS a = mkS b ↔ a = b := ⟨fun h => by have := congrArg (fun z : Str => z.cps.toList) h; simpa using this, fun h => h ▸ rfl⟩
theorem mkS_app (a b : List Nat) : mkS a ++ mkS b = mkS (a ++ b) := by
  show (⟨_⟩ : Str) = ⟨_⟩
  simp [mkS]
theorem fs_beq : (("first" : Str) == "second") = false ∧ (("first" : Str) == "fates") = false ∧ (("second" : Str) == "fates") = false ∧ (("second" : Str) == "first") = false ∧ (("fates" : Str) == "first") = false ∧ (("fates" : Str) == "second") = false := by decide +kernel
def P_Run_init : List Dat → Rs (List (Str × Dat))
  | [.int a, .int b, .str x] => (P_check_bit [.int a]).bind fun _ => (P_check_bit [.int b]).bind fun _ => (P_check_fates [.str x]).bind fun _ => .ok [("first", .int a), ("second", .int b), ("fates", .str x)]
  | _ => .bad
theorem e_Run_init (K : PySem.W.Frag) (T : Nat → Addr) (w : World) (mg : Str → Option Value) (fc : Fc K T mg) : ∀ x dx ds, P_Run_init ds ≠ .bad → runI (c_Run_init K T w mg fc) 0 sc_Run_init_N.length x dx ds = P_Run_init ds := by
  intro x dx ds hb
  unfold P_Run_init at hb ⊢
  split at hb
  · next a b z =>
    simp only [runI, c_Run_init]
    cases h1 : P_check_bit [.int a] with
    | bad => simp [h1] at hb
    | exn c fs => simp [h1]
    | ok d1 =>
      cases h2 : P_check_bit [.int b] with
      | bad => simp [h1, h2] at hb
      | exn c fs => simp [h1, h2]
      | ok d2 =>
        cases h3 : P_check_fates [.str z] with
        | bad => simp [h1, h2, h3] at hb
        | exn c fs => simp [h1, h2, h3]
        | ok d3 => simp [h1, h2, h3, putD, fs_ne]
  · exact absurd rfl hb
theorem ok_Run_init {P : Program} {w : World} {K : PySem.W.Frag} {mg : Str → Option Value} {base : Heap} {T : Nat → Addr} {f : Addr} {fd : FuncData} (B : Blt mg) (fc : Fc K T mg) (F : Fun K "__init__" "Run.__init__" s_Run_init f fd) (C_check_bit : Cal P w K mg base "check_bit" 3 (spF K T 1 P_check_bit)) (C_check_fates : Cal P w K mg base "check_fates" 3 (spF K T 1 P_check_fates)) : FnOk P w K mg base (L2N.CX P w) 4 f fd ["self", "first", "second", "fates"] (spI K T 0 3 (fun _ _ => P_Run_init)) := by
  refine (ok_init F sc_Run_init (c_Run_init K T w mg fc) (by decide) (by decide) fun cdv A outer s H E hr => ?_).imp (spI_le fun x dx ds hl hb => e_Run_init K T w mg fc x dx ds hb)
  · have tk : L2N.Takes (cxOf (L2N.CX P w) P w K mg base sc_Run_init_N "Run.__init__" (defScope s_Run_init) f cdv A outer s H E) (fun cls d _ H => E cls d H) := L2N.takes_of rfl rfl rfl rfl
    have hr3 : Room 3 _ := hr.mono (by decide)
    have hu64 := hr.units
    exact (d_seq (d_expr (d_cal C_check_bit tk hr3 (d_acons (d_var (i := 1)) d_anil))) (d_seq (d_expr (d_cal C_check_bit tk hr3 (d_acons (d_var (i := 2)) d_anil))) (d_seq (d_expr (d_cal C_check_fates tk hr3 (d_acons (d_var (i := 3)) d_anil))) (d_seq (d_setF (i := 0) (d_var (i := 1))) (d_seq (d_setF (i := 0) (d_var (i := 2))) (d_one (d_setF (i := 0) (d_var (i := 3)))))))))
/-! ### Run.rounds -/
abbrev s_Run_rounds : Stmt := inClass (topS 18) 1
abbrev sc_Run_rounds_N : List Str := ["self"]
theorem sc_Run_rounds : FnScope sc_Run_rounds_N ["self"] (defScope s_Run_rounds) := ⟨rfl, rfl, rfl, by decide +kernel, rfl, by decide +kernel, by decide +kernel⟩
def c_Run_rounds (K : PySem.W.Frag) (T : Nat → Addr) (w : World) (mg : Str → Option Value) (fc : Fc K T mg) : CS K T := (.ret (.opN oLenS (.cons (.fld 0 "fates" fc.cRun fc.nRun_fates (.var 0)) .nil)))
def P_Run_rounds : List Dat → Rs Dat
  | [d] => match asRun d with
    | some (_, _, x) => if x.length ≤ lim then .ok (.int x.length) else .bad
    | none => .bad
  | _ => .bad
theorem e_Run_rounds (K : PySem.W.Frag) (T : Nat → Addr) (w : World) (mg : Str → Option Value) (fc : Fc K T mg) : ∀ ds, P_Run_rounds ds ≠ .bad → runF (c_Run_rounds K T w mg fc) sc_Run_rounds_N.length ds = P_Run_rounds ds := by
  intro ds hb
  unfold P_Run_rounds at hb ⊢
  split at hb
  · next d =>
    split at hb
    · next a b x hd =>
      have := asRun_eq hd
      subst this
      split at hb
      · next h => simp [runF, c_Run_rounds, runD, lkp_cons, fs_ne, oLenS, h, asRun]
      · exact absurd rfl hb
    · exact absurd rfl hb
  · exact absurd rfl hb
theorem ok_Run_rounds {P : Program} {w : World} {K : PySem.W.Frag} {mg : Str → Option Value} {base : Heap} {T : Nat → Addr} {f : Addr} {fd : FuncData} (B : Blt mg) (fc : Fc K T mg) (F : Fun K "rounds" "Run.rounds" s_Run_rounds f fd) : FnOk P w K mg base (L2N.CX P w) 1 f fd ["self"] (spF K T 1 P_Run_rounds) := by
  refine (ok_fn F sc_Run_rounds (c_Run_rounds K T w mg fc) fun cdv A outer s H E hr => ?_).imp (spF_le fun ds hl hb => e_Run_rounds K T w mg fc ds hb)
  · have tk : L2N.Takes (cxOf (L2N.CX P w) P w K mg base sc_Run_rounds_N "Run.rounds" (defScope s_Run_rounds) f cdv A outer s H E) (fun cls d _ H => E cls d H) := L2N.takes_of rfl rfl rfl rfl

    have hu64 := hr.units
    exact (d_one (d_ret (d_blt call_len_str B.len_ (by decide +kernel) (d_acons (d_fld (d_var (i := 0))) d_anil))))
/-! ### Run.seen -/
abbrev s_Run_seen : Stmt := inClass (topS 18) 6
abbrev sc_Run_seen_N : List Str := ["self", "end", "own", "other", "last"]
theorem sc_Run_seen : FnScope sc_Run_seen_N ["self", "end"] (defScope s_Run_seen) := ⟨rfl, rfl, rfl, by decide +kernel, rfl, by decide +kernel, by decide +kernel⟩
def c_Run_seen (K : PySem.W.Frag) (T : Nat → Addr) (w : World) (mg : Str → Option Value) (fc : Fc K T mg) : CS K T := (.seq (.expr (.fn 1 P_check_end (.cons (.var 1) .nil))) (.seq (.par 2 3 (.cons (.fld 0 "first" fc.cRun fc.nRun_first (.var 0)) (.cons (.fld 0 "second" fc.cRun fc.nRun_second (.var 0)) .nil))) (.seq (.ifs (.test (.op2 oEq (.var 1) (.str "second"))) (.par 2 3 (.cons (.fld 0 "second" fc.cRun fc.nRun_second (.var 0)) (.cons (.fld 0 "first" fc.cRun fc.nRun_first (.var 0)) .nil))) .pass) (.seq (.set 4 (.fn 2 P_last_arrival (.cons (.fld 0 "fates" fc.cRun fc.nRun_fates (.var 0)) (.cons (.var 1) .nil)))) (.seq (.ifs (.test (.op2 oIsN (.var 4) .non)) (.ret (.tup (.cons (.var 2) (.cons .non (.cons (.str "") (.cons (.prop 0 P_Run_rounds (.var 0)) .nil)))))) .pass) (.ret (.tup (.cons (.var 2) (.cons (.var 3) (.cons (.slS (.fld 0 "fates" fc.cRun fc.nRun_fates (.var 0)) .none (.some (.var 4))) (.cons (.op2 oSub (.op2 oSub (.prop 0 P_Run_rounds (.var 0)) (.var 4)) (.int 1)) .nil)))))))))))
/-- an end's view of a run -/
def viewD (a b : Int) (l : List Nat) (e : Str) : Dat := match lastA l e l.length with
  | none => .tup [.int (if e = "first" then a else b), .non, .str "", .int l.length]
  | some i => .tup [.int (if e = "first" then a else b), .int (if e = "first" then b else a), .str (mkS (l.take i)), .int ((l.length : Int) - (i : Int) - 1)]
def P_Run_seen : List Dat → Rs Dat
  | [d, .str e] => match asRun d with
    | some (a, b, x) => if x.length ≤ lim ∧ Fts x.cps.toList then (P_check_end [.str e]).bind fun _ => .ok (viewD a b x.cps.toList e) else .bad
    | none => .bad
  | _ => .bad
theorem e_Run_seen (K : PySem.W.Frag) (T : Nat → Addr) (w : World) (mg : Str → Option Value) (fc : Fc K T mg) : ∀ ds, P_Run_seen ds ≠ .bad → runF (c_Run_seen K T w mg fc) sc_Run_seen_N.length ds = P_Run_seen ds := by
  intro ds hb
  unfold P_Run_seen at hb ⊢
  split at hb
  · next d e =>
    split at hb
    · next a b x hd =>
      have := asRun_eq hd
      subst this
      split at hb
      · next h =>
        obtain ⟨l, rfl⟩ : ∃ l, x = mkS l := ⟨_, (mkS_of x).symm⟩
        have hr : P_Run_rounds [runD a b (mkS l)] = .ok (.int l.length) := by
          have := h.1
          rw [mkS_len] at this
          simp [P_Run_rounds, this]
        simp only [mkS_list, mkS_len] at h
        simp only [asRun_runD, mkS_list, mkS_len, h, and_self, if_true]
        by_cases he : e = "first" ∨ e = "second"
        · have h1 : P_check_end [.str e] = .ok .non := by simp [P_check_end, he]
          have hA : P_last_arrival [.str (mkS l), .str e] = .ok (optI (lastA l e l.length)) := by
            unfold P_last_arrival
            simp only [mkS_list, mkS_len, h, he, and_self, if_true]
          have hil : ∀ i, lastA l e l.length = some i → i < l.length := by
            have key : ∀ n i, lastA l e n = some i → i < n := fun n => by
              induction n with
              | zero => intro i h; cases h
              | succ n ih =>
                intro i h
                unfold lastA at h
                split at h
                · cases h; omega
                · have := ih i h; omega
            exact key _
          unfold runD at hr ⊢
          have h3 : l.length ≤ 100000 := h.1
          rcases he with rfl | rfl
          · cases hl : lastA l "first" l.length with
            | none =>
              rw [hl] at hA
              simp [runF, c_Run_seen, lkp_cons, fs_ne, ends_ne, h1, hA, optI, isN, hr, viewD, hl, lim]
            | some i =>
              rw [hl] at hA
              have hi := cut_to l (k := (i : Nat)) (by omega)
              simp [runF, c_Run_seen, lkp_cons, fs_ne, ends_ne, h1, hA, optI, isN, hr, viewD, hl, hi, h3, lim]
          · cases hl : lastA l "second" l.length with
            | none =>
              rw [hl] at hA
              simp [runF, c_Run_seen, lkp_cons, fs_ne, ends_ne, h1, hA, optI, isN, hr, viewD, hl, lim]
            | some i =>
              rw [hl] at hA
              have hi := cut_to l (k := (i : Nat)) (by omega)
              simp [runF, c_Run_seen, lkp_cons, fs_ne, ends_ne, h1, hA, optI, isN, hr, viewD, hl, hi, h3, lim]
        · cases h1 : P_check_end [.str e] with
          | bad => simp [h1, h] at hb
          | exn c fs => simp [runF, c_Run_seen, h1]
          | ok d1 =>
            exfalso
            unfold P_check_end at h1
            simp only [he, if_false] at h1
            split at h1 <;> cases h1
      · exact absurd rfl hb
    · exact absurd rfl hb
  · exact absurd rfl hb
theorem ok_Run_seen {P : Program} {w : World} {K : PySem.W.Frag} {mg : Str → Option Value} {base : Heap} {T : Nat → Addr} {f : Addr} {fd : FuncData} (B : Blt mg) (fc : Fc K T mg) (F : Fun K "seen" "Run.seen" s_Run_seen f fd) (C_Run_rounds : CalP P w K mg base (T 0) "rounds" 1 (spF K T 1 P_Run_rounds)) (C_check_end : Cal P w K mg base "check_end" 3 (spF K T 1 P_check_end)) (C_last_arrival : Cal P w K mg base "last_arrival" 5 (spF K T 2 P_last_arrival)) : FnOk P w K mg base (L2N.CX P w) 6 f fd ["self", "end"] (spF K T 2 P_Run_seen) := by
  refine (ok_fn F sc_Run_seen (c_Run_seen K T w mg fc) fun cdv A outer s H E hr => ?_).imp (spF_le fun ds hl hb => e_Run_seen K T w mg fc ds hb)
  · have tk : L2N.Takes (cxOf (L2N.CX P w) P w K mg base sc_Run_seen_N "Run.seen" (defScope s_Run_seen) f cdv A outer s H E) (fun cls d _ H => E cls d H) := L2N.takes_of rfl rfl rfl rfl
    have hr2 : Room 2 _ := hr.mono (by decide)
    have hr3 : Room 3 _ := hr.mono (by decide)
    have hr5 : Room 5 _ := hr.mono (by decide)
    have hu64 := hr.units
    exact (d_seq (d_expr (d_cal C_check_end tk hr3 (d_acons (d_var (i := 1)) d_anil))) (d_seq (d_par rfl sc_Run_seen.nd (by decide) (d_acons (d_fld (d_var (i := 0))) (d_acons (d_fld (d_var (i := 0))) d_anil)) (by first | rfl | kernel_rfl)) (d_seq (d_if (d_cmpT op_eq (d_var (i := 1)) d_str (nomark _)) (d_one (d_par rfl sc_Run_seen.nd (by decide) (d_acons (d_fld (d_var (i := 0))) (d_acons (d_fld (d_var (i := 0))) d_anil)) (by first | rfl | kernel_rfl))) d_nil) (d_seq (d_set (i := 4) sc_Run_seen.nd (d_cal C_last_arrival tk hr5 (d_acons (d_fld (d_var (i := 0))) (d_acons (d_var (i := 1)) d_anil)))) (d_seq (d_if (d_cmpT op_isN (d_var (i := 4)) d_non (nomark _)) (d_one (d_ret (d_tup (d_acons (d_var (i := 2)) (d_acons d_non (d_acons d_str (d_acons (d_prop C_Run_rounds hr2 (d_var (i := 0))) d_anil))))))) d_nil) (d_one (d_ret (d_tup (d_acons (d_var (i := 2)) (d_acons (d_var (i := 3)) (d_acons (d_slS (d_fld (d_var (i := 0))) d_none (d_some (d_var (i := 4)))) (d_acons (d_bin op_sub (d_bin op_sub (d_prop C_Run_rounds hr2 (d_var (i := 0))) (d_var (i := 4))) d_int) d_anil))))))))))))
/-! ### rounds_heard -/
abbrev s_rounds_heard : Stmt := topS 21
abbrev sc_rounds_heard_N : List Str := ["view"]
theorem sc_rounds_heard : FnScope sc_rounds_heard_N ["view"] (defScope s_rounds_heard) := ⟨rfl, rfl, rfl, by decide +kernel, rfl, by decide +kernel, by decide +kernel⟩
def c_rounds_heard (K : PySem.W.Frag) (T : Nat → Addr) (w : World) (mg : Str → Option Value) : CS K T := (.seq (.ifs (.test (.op2 oIsN (.op2 oIxT (.var 0) (.int 1)) .non)) (.ret (.int 0)) .pass) (.ret (.op2 oAdd (.opN oLenS (.cons (.op2 oIxT (.var 0) (.int 2)) .nil)) (.int 1))))
theorem ix4_0 (a b c d : Dat) : ixT (.tup [a, b, c, d]) (.int 0) = .ok a := rfl
theorem ix4_1 (a b c d : Dat) : ixT (.tup [a, b, c, d]) (.int 1) = .ok b := rfl
theorem ix4_2 (a b c d : Dat) : ixT (.tup [a, b, c, d]) (.int 2) = .ok c := rfl
theorem ix4_3 (a b c d : Dat) : ixT (.tup [a, b, c, d]) (.int 3) = .ok d := rfl
def heardI (o : Dat) (x : Str) : Int := if isN o = true then 0 else x.length + 1
def P_rounds_heard : List Dat → Rs Dat
  | [.tup [_, o, .str x, _]] => if x.length ≤ lim then .ok (.int (heardI o x)) else .bad
  | _ => .bad
theorem e_rounds_heard (K : PySem.W.Frag) (T : Nat → Addr) (w : World) (mg : Str → Option Value) : ∀ ds, P_rounds_heard ds ≠ .bad → runF (c_rounds_heard K T w mg) sc_rounds_heard_N.length ds = P_rounds_heard ds := by
  intro ds hb
  unfold P_rounds_heard at hb ⊢
  split at hb
  · next a o x k =>
    by_cases hl : x.length ≤ lim
    · by_cases h : isN o = true
      · simp [runF, c_rounds_heard, ix4_1, ix4_2, h, hl, heardI]
      · have h : isN o = false := by simpa using h
        simp [runF, c_rounds_heard, ix4_1, ix4_2, h, hl, heardI]
    · rw [if_neg hl] at hb
      exact absurd rfl hb
  · exact absurd rfl hb
theorem ok_rounds_heard {P : Program} {w : World} {K : PySem.W.Frag} {mg : Str → Option Value} {base : Heap} {T : Nat → Addr} {f : Addr} {fd : FuncData} (B : Blt mg) (F : Fun K "rounds_heard" "rounds_heard" s_rounds_heard f fd) : FnOk P w K mg base (L2N.CX P w) 1 f fd ["view"] (spF K T 1 P_rounds_heard) := by
  refine (ok_fn F sc_rounds_heard (c_rounds_heard K T w mg) fun cdv A outer s H E hr => ?_).imp (spF_le fun ds hl hb => e_rounds_heard K T w mg ds hb)
  · have tk : L2N.Takes (cxOf (L2N.CX P w) P w K mg base sc_rounds_heard_N "rounds_heard" (defScope s_rounds_heard) f cdv A outer s H E) (fun cls d _ H => E cls d H) := L2N.takes_of rfl rfl rfl rfl

    have hu64 := hr.units
    exact (d_seq (d_if (d_cmpT op_isN (d_ix ix_tup (d_var (i := 0)) d_int) d_non (nomark _)) (d_one (d_ret d_int)) d_nil) (d_one (d_ret (d_bin op_add (d_blt call_len_str B.len_ (by decide +kernel) (d_acons (d_ix ix_tup (d_var (i := 0)) d_int) d_anil)) d_int))))
/-! ### rounds_of -/
abbrev s_rounds_of : Stmt := topS 20
abbrev sc_rounds_of_N : List Str := ["view"]
theorem sc_rounds_of : FnScope sc_rounds_of_N ["view"] (defScope s_rounds_of) := ⟨rfl, rfl, rfl, by decide +kernel, rfl, by decide +kernel, by decide +kernel⟩
def c_rounds_of (K : PySem.W.Frag) (T : Nat → Addr) (w : World) (mg : Str → Option Value) : CS K T := (.ret (.op2 oAdd (.fn 1 P_rounds_heard (.cons (.var 0) .nil)) (.op2 oIxT (.var 0) (.int 3))))
def P_rounds_of : List Dat → Rs Dat
  | [.tup [_, o, .str x, .int k]] => if x.length ≤ lim then .ok (.int (heardI o x + k)) else .bad
  | _ => .bad
theorem e_rounds_of (K : PySem.W.Frag) (T : Nat → Addr) (w : World) (mg : Str → Option Value) : ∀ ds, P_rounds_of ds ≠ .bad → runF (c_rounds_of K T w mg) sc_rounds_of_N.length ds = P_rounds_of ds := by
  intro ds hb
  unfold P_rounds_of at hb ⊢
  split at hb
  · next a o x k =>
    by_cases hl : x.length ≤ lim
    · have h1 : P_rounds_heard [.tup [a, o, .str x, .int k]] = .ok (.int (heardI o x)) := if_pos hl
      simp [runF, c_rounds_of, ix4_3, h1, hl]
    · rw [if_neg hl] at hb
      exact absurd rfl hb
  · exact absurd rfl hb
theorem ok_rounds_of {P : Program} {w : World} {K : PySem.W.Frag} {mg : Str → Option Value} {base : Heap} {T : Nat → Addr} {f : Addr} {fd : FuncData} (B : Blt mg) (F : Fun K "rounds_of" "rounds_of" s_rounds_of f fd) (C_rounds_heard : Cal P w K mg base "rounds_heard" 1 (spF K T 1 P_rounds_heard)) : FnOk P w K mg base (L2N.CX P w) 2 f fd ["view"] (spF K T 1 P_rounds_of) := by
  refine (ok_fn F sc_rounds_of (c_rounds_of K T w mg) fun cdv A outer s H E hr => ?_).imp (spF_le fun ds hl hb => e_rounds_of K T w mg ds hb)
  · have tk : L2N.Takes (cxOf (L2N.CX P w) P w K mg base sc_rounds_of_N "rounds_of" (defScope s_rounds_of) f cdv A outer s H E) (fun cls d _ H => E cls d H) := L2N.takes_of rfl rfl rfl rfl
    have hr1 : Room 1 _ := hr.mono (by decide)
    have hu64 := hr.units
    exact (d_one (d_ret (d_bin op_add (d_cal C_rounds_heard tk hr1 (d_acons (d_var (i := 0)) d_anil)) (d_ix ix_tup (d_var (i := 0)) d_int))))
/-! ### joined_fates -/
abbrev s_joined_fates : Stmt := topS 22
abbrev sc_joined_fates_N : List Str := ["first_view", "second_view", "first_heard", "second_heard", "last", "fate"]
theorem sc_joined_fates : FnScope sc_joined_fates_N ["first_view", "second_view"] (defScope s_joined_fates) := ⟨rfl, rfl, rfl, by decide +kernel, rfl, by decide +kernel, by decide +kernel⟩
def c_joined_fates (K : PySem.W.Frag) (T : Nat → Addr) (w : World) (mg : Str → Option Value) : CS K T := (.seq (.par 2 3 (.cons (.fn 1 P_rounds_heard (.cons (.var 0) .nil)) (.cons (.fn 1 P_rounds_heard (.cons (.var 1) .nil)) .nil))) (.seq (.ifs (.and (.test (.op2 oEq (.var 2) (.int 0))) (.test (.op2 oEq (.var 3) (.int 0)))) (.ret (.op2 oMulS (.str "n") (.fn 1 P_rounds_of (.cons (.var 0) .nil)))) .pass) (.seq (.par 4 5 (.cons (.var 0) (.cons (.str "b") .nil))) (.seq (.ifs (.test (.op2 oGt (.var 2) (.var 3))) (.set 5 (.str "f")) (.ifs (.test (.op2 oLt (.var 2) (.var 3))) (.par 4 5 (.cons (.var 1) (.cons (.str "s") .nil))) .pass)) (.ret (.op2 oAddS (.op2 oAddS (.op2 oIxT (.var 4) (.int 2)) (.var 5)) (.op2 oMulS (.str "n") (.op2 oIxT (.var 4) (.int 3)))))))))
theorem lastA_lt (l : List Nat) (e : Str) : ∀ n i, lastA l e n = some i → i < n := fun n => by
  induction n with
  | zero => intro i h; cases h
  | succ n ih =>
    intro i h
    unfold lastA at h
    split at h
    · cases h; omega
    · have := ih i h; omega
theorem seen_ne : (("seen" : Str) = "first") = False ∧ (("seen" : Str) = "second") = False ∧ (("seen" : Str) = "fates") = False := by
  refine ⟨?_, ?_, ?_⟩ <;> exact eq_false (by decide +kernel)
theorem strOk_fts {l : List Nat} (h : Fts l) : PyData.strOk (mkS l) = true := by
  show l.toArray.all _ = true
  rw [List.all_toArray]
  exact List.all_eq_true.mpr fun c hc => by rcases h c hc with rfl | rfl | rfl | rfl <;> decide
def optD : Option Int → Dat
  | some b => .int b
  | none => .non
def optP : Option Int → PyData
  | some b => .int b
  | none => .none
theorem eq_view (a : Int) (o : Option Int) (l : List Nat) (s : Int) (h : Fts l) : eqD (.tup [.int a, optD o, .str (mkS l), .int s]) (.tup [.int a, optD o, .str (mkS l), .int s]) = .ok true := by
  have hp : (Dat.tup [.int a, optD o, .str (mkS l), .int s]).py = some (.tuple [.int a, optP o, .str (mkS l), .int s]) := by
    cases o <;> rfl
  have hc : PyData.canLay0 (optP o) = true := by cases o <;> rfl
  have hq : PyData.eqv (optP o) (optP o) = true := by cases o <;> simp [optP, PyData.eqv]
  have hs : SeqAt.shaped (.tuple [.int a, optP o, .str (mkS l), .int s]) = true := by
    have h1 : PyData.canLay0 (.tuple [.int a, optP o, .str (mkS l), .int s]) = true := by simp [PyData.canLay0, PyData.canLayAll0, strOk_fts h, hc]
    have h2 : (PyData.tuple [.int a, optP o, .str (mkS l), .int s]).depth ≤ 64 := by
      have : (PyData.tuple [.int a, optP o, .str (mkS l), .int s]).depth = (PyData.tuple [.none, .none, .none, .none]).depth := by
        cases o <;> rfl
      rw [this]
      decide +kernel
    unfold SeqAt.shaped
    rw [h1, decide_eq_true h2]
    rfl
  have he : PyData.eqv (.tuple [.int a, optP o, .str (mkS l), .int s]) (.tuple [.int a, optP o, .str (mkS l), .int s]) = true := by simp [PyData.eqv, PyData.eqvAll, hq]
  unfold eqD
  rw [hp]
  simp only [hs, and_self, if_true, he]
theorem viewD_is (a b : Int) (l : List Nat) (e : Str) : viewD a b l e = .tup [.int (if e = "first" then a else b), optD ((lastA l e l.length).map fun _ => (if e = "first" then b else a)), .str (mkS (match lastA l e l.length with | some i => l.take i | none => [])), .int (match lastA l e l.length with | some i => (l.length : Int) - (i : Int) - 1 | none => l.length)] := by
  unfold viewD
  cases lastA l e l.length <;> simp [empty_is, optD]
theorem viewD_eq {a b : Int} {l : List Nat} {e : Str} (h : Fts l) : eqD (viewD a b l e) (viewD a b l e) = .ok true := by
  rw [viewD_is]
  refine eq_view _ _ _ _ ?_
  cases lastA l e l.length with
  | none => intro c hc; cases hc
  | some i => exact h.take i
theorem end_ok {e : Str} (h : e = "first" ∨ e = "second") : P_check_end [.str e] = .ok .non := if_pos h
theorem run_seen_is (a b : Int) (l : List Nat) (e : Str) (hl : l.length ≤ lim) (hf : Fts l) : P_Run_seen [runD a b (mkS l), .str e] = (P_check_end [.str e]).bind fun _ => .ok (viewD a b l e) := by
  have e1 : P_Run_seen [runD a b (mkS l), .str e] = if (mkS l).length ≤ lim ∧ Fts (mkS l).cps.toList then (P_check_end [.str e]).bind fun _ => .ok (viewD a b (mkS l).cps.toList e) else .bad := rfl
  rw [e1, if_pos ⟨by rw [mkS_len]; exact hl, by rw [mkS_list]; exact hf⟩, mkS_list]
theorem bit_made {a : Int} (h : a = 0 ∨ a = 1) : P_check_bit [.int a] = .ok .non := if_pos h
theorem fates_none {l : List Nat} (h : l.length ≤ lim) (hf : Fts l) : P_check_fates [.str (mkS l)] = .ok .non := by
  have e : P_check_fates [.str (mkS l)] = if (mkS l).length ≤ lim then (match badAt (mkS l).cps.toList with | none => .ok .non | some k => .exn 1 [("at", .int (k : Nat))]) else .bad := rfl
  rw [e, mkS_len, if_pos h, mkS_list, badAt_none.mpr hf]
abbrev runFs (a b : Int) (x : Str) : List (Str × Dat) := [("first", .int a), ("second", .int b), ("fates", .str x)]
theorem run_init_ok {a b : Int} {l : List Nat} (h : a = 0 ∨ a = 1) (h2 : b = 0 ∨ b = 1) (hl : l.length ≤ lim) (hf : Fts l) : P_Run_init [.int a, .int b, .str (mkS l)] = .ok (runFs a b (mkS l)) := by
  have e3 : P_Run_init [.int a, .int b, .str (mkS l)] = (P_check_bit [.int a]).bind fun _ => (P_check_bit [.int b]).bind fun _ => (P_check_fates [.str (mkS l)]).bind fun _ => .ok (runFs a b (mkS l)) := rfl
  rw [e3, bit_made h, Rs.bind_ok, bit_made h2, Rs.bind_ok, fates_none hl hf]
  rfl
/-- a view -/
def vD (a : Int) (o : Option Int) (l : List Nat) (s : Int) : Dat := .tup [.int a, optD o, .str (mkS l), .int s]
def asV : Dat → Option (Int × Option Int × List Nat × Int)
  | .tup [.int a, .non, .str x, .int s] => some (a, none, x.cps.toList, s)
  | .tup [.int a, .int b, .str x, .int s] => some (a, some b, x.cps.toList, s)
  | _ => none
theorem asV_eq {d : Dat} {a : Int} {o : Option Int} {l : List Nat} {s : Int} (h : asV d = some (a, o, l, s)) : d = vD a o l s := by
  unfold asV at h
  split at h
  · cases h
    simp [vD, optD, mkS_of]
  · cases h
    simp [vD, optD, mkS_of]
  · cases h
theorem asV_vD (a : Int) (o : Option Int) (l : List Nat) (s : Int) : asV (vD a o l s) = some (a, o, l, s) := by cases o <;> simp [asV, vD, optD]
def hZ : Option Int → List Nat → Int
  | none, _ => 0
  | some _, l => l.length + 1
theorem heard_vD (a : Int) (o : Option Int) (l : List Nat) (s : Int) (h : l.length ≤ lim) : P_rounds_heard [vD a o l s] = .ok (.int (hZ o l)) := by
  cases o with
  | none =>
    have e : P_rounds_heard [vD a none l s] = if (mkS l).length ≤ lim then .ok (.int 0) else .bad := rfl
    rw [e, mkS_len, if_pos h]
    rfl
  | some b =>
    have e : P_rounds_heard [vD a (some b) l s] = if (mkS l).length ≤ lim then .ok (.int ((mkS l).length + 1)) else .bad := rfl
    rw [e, mkS_len, if_pos h]
    rfl
theorem rounds_vD (a : Int) (o : Option Int) (l : List Nat) (s : Int) (h : l.length ≤ lim) : P_rounds_of [vD a o l s] = .ok (.int (hZ o l + s)) := by
  cases o with
  | none =>
    have e : P_rounds_of [vD a none l s] = if (mkS l).length ≤ lim then .ok (.int (0 + s)) else .bad := rfl
    rw [e, mkS_len, if_pos h]
    rfl
  | some b =>
    have e : P_rounds_of [vD a (some b) l s] = if (mkS l).length ≤ lim then .ok (.int ((mkS l).length + 1 + s)) else .bad := rfl
    rw [e, mkS_len, if_pos h]
    rfl
theorem ixv_0 (a : Int) (o : Option Int) (l : List Nat) (s : Int) : ixT (vD a o l s) (.int 0) = .ok (.int a) := rfl
theorem ixv_2 (a : Int) (o : Option Int) (l : List Nat) (s : Int) : ixT (vD a o l s) (.int 2) = .ok (.str (mkS l)) := rfl
theorem ixv_3 (a : Int) (o : Option Int) (l : List Nat) (s : Int) : ixT (vD a o l s) (.int 3) = .ok (.int s) := rfl
theorem f_is : ("f" : Str) = mkS [102] := by decide +kernel
theorem s_is : ("s" : Str) = mkS [115] := by decide +kernel
theorem b_is : ("b" : Str) = mkS [98] := by decide +kernel
theorem rep_n {K : PySem.W.Frag} {T : Nat → Addr} {k : Int} (h : 0 ≤ k ∧ k ≤ 5000) : (@oMulS K T).f (.str "n") (.int k) = .ok (.str (mkS (List.replicate k.toNat 110))) := by
  have e : (@oMulS K T).f (.str "n") (.int k) = if ("n" : Str).length * k.toNat ≤ lim ∧ -(2 ^ 62) ≤ k ∧ k < 2 ^ 62 then .ok (.str ⟨(List.replicate k.toNat ("n" : Str).cps.toList).flatten.toArray⟩) else .bad := rfl
  have e1 : ("n" : Str).length = 1 := rfl
  have e2 : ("n" : Str).cps.toList = [110] := by decide +kernel
  have e3 : ∀ m : Nat, (List.replicate m [110]).flatten = List.replicate m 110 := fun m => by
    induction m with
    | zero => rfl
    | succ m ih => rw [List.replicate_succ, List.flatten_cons, ih]; rfl
  rw [e, if_pos (by rw [e1]; unfold lim; omega), e2, e3]
  rfl
/-- the fates that two views show -/
def joinL (o1 : Option Int) (l1 : List Nat) (s1 : Int) (o2 : Option Int) (l2 : List Nat) (s2 : Int) : List Nat :=
  if hZ o1 l1 = 0 ∧ hZ o2 l2 = 0 then List.replicate s1.toNat 110
  else if hZ o2 l2 < hZ o1 l1 then l1 ++ ([102] ++ List.replicate s1.toNat 110)
  else if hZ o1 l1 < hZ o2 l2 then l2 ++ ([115] ++ List.replicate s2.toNat 110)
  else l1 ++ ([98] ++ List.replicate s1.toNat 110)
theorem joinL_len (o1 : Option Int) (l1 : List Nat) (s1 : Int) (o2 : Option Int) (l2 : List Nat) (s2 : Int) (h1 : l1.length ≤ 1000 ∧ 0 ≤ s1 ∧ s1 ≤ 1000) (h2 : l2.length ≤ 1000 ∧ 0 ≤ s2 ∧ s2 ≤ 1000) : (joinL o1 l1 s1 o2 l2 s2).length ≤ 2001 := by
  unfold joinL
  split
  · rw [List.length_replicate]; omega
  · split
    · simp only [List.length_append, List.length_replicate, List.length_cons, List.length_nil]; omega
    · split
      · simp only [List.length_append, List.length_replicate, List.length_cons, List.length_nil]; omega
      · simp only [List.length_append, List.length_replicate, List.length_cons, List.length_nil]; omega
theorem Fts.rep (n : Nat) : Fts (List.replicate n 110) := fun c hc => by rw [(List.mem_replicate.mp hc).2]; simp
theorem joinL_fts {o1 : Option Int} {l1 : List Nat} {s1 : Int} {o2 : Option Int} {l2 : List Nat} {s2 : Int} (h1 : Fts l1) (h2 : Fts l2) : Fts (joinL o1 l1 s1 o2 l2 s2) := by
  have one : ∀ c, (c = 98 ∨ c = 102 ∨ c = 115 ∨ c = 110) → Fts [c] := fun c h x hx => by
    rw [List.mem_singleton.mp hx]; exact h
  unfold joinL
  split
  · exact Fts.rep _
  · split
    · exact h1.append ((one _ (by simp)).append (Fts.rep _))
    · split
      · exact h2.append ((one _ (by simp)).append (Fts.rep _))
      · exact h1.append ((one _ (by simp)).append (Fts.rep _))
def smallV (l : List Nat) (s : Int) : Prop := l.length ≤ 1000 ∧ 0 ≤ s ∧ s ≤ 1000
instance (l : List Nat) (s : Int) : Decidable (smallV l s) := inferInstanceAs (Decidable (_ ∧ _ ∧ _))
def P_joined_fates : List Dat → Rs Dat
  | [d1, d2] => match asV d1, asV d2 with
    | some (a1, o1, l1, s1), some (a2, o2, l2, s2) => if smallV l1 s1 ∧ smallV l2 s2 then .ok (.str (mkS (joinL o1 l1 s1 o2 l2 s2))) else .bad
    | _, _ => .bad
  | _ => .bad
theorem e_joined_fates (K : PySem.W.Frag) (T : Nat → Addr) (w : World) (mg : Str → Option Value) : ∀ ds, P_joined_fates ds ≠ .bad → runF (c_joined_fates K T w mg) sc_joined_fates_N.length ds = P_joined_fates ds := by
  intro ds hb
  unfold P_joined_fates at hb ⊢
  split at hb
  · next d1 d2 =>
    split at hb
    · next a1 o1 l1 s1 a2 o2 l2 s2 e1 e2 =>
      split at hb
      · next hc =>
        simp only [e1, e2, hc, and_self, if_true]
        rw [asV_eq e1, asV_eq e2]
        obtain ⟨c1, c2⟩ := hc
        unfold smallV at c1 c2
        have h1 := heard_vD a1 o1 l1 s1 (by unfold lim; omega)
        have h2 := heard_vD a2 o2 l2 s2 (by unfold lim; omega)
        have h3 := rounds_vD a1 o1 l1 s1 (by unfold lim; omega)
        have i12 := ixv_2 a1 o1 l1 s1
        have i13 := ixv_3 a1 o1 l1 s1
        have i22 := ixv_2 a2 o2 l2 s2
        have i23 := ixv_3 a2 o2 l2 s2
        obtain ⟨v1, hv1⟩ : ∃ v, vD a1 o1 l1 s1 = v := ⟨_, rfl⟩
        obtain ⟨v2, hv2⟩ : ∃ v, vD a2 o2 l2 s2 = v := ⟨_, rfl⟩
        rw [hv1] at h1 h3 i12 i13 ⊢
        rw [hv2] at h2 i22 i23 ⊢
        unfold joinL
        obtain ⟨H1, q1⟩ : ∃ H, hZ o1 l1 = H := ⟨_, rfl⟩
        obtain ⟨H2, q2⟩ : ∃ H, hZ o2 l2 = H := ⟨_, rfl⟩
        rw [q1] at h1 h3 ⊢
        rw [q2] at h2 ⊢
        have r1 := rep_n (K := K) (T := T) (k := s1) (by omega)
        have r2 := rep_n (K := K) (T := T) (k := s2) (by omega)
        have d1 : l1.length + 1 ≤ lim := by unfold lim; omega
        have d2 : l2.length + 1 ≤ lim := by unfold lim; omega
        have d3 : l1.length + 1 + s1.toNat ≤ lim := by unfold lim; omega
        have d4 : l2.length + 1 + s2.toNat ≤ lim := by unfold lim; omega
        by_cases g0 : H1 = 0 ∧ H2 = 0
        · obtain ⟨rfl, rfl⟩ := g0
          simp [runF, c_joined_fates, int2, h1, h2, h3, r1]
        · have g0' : ¬ (H1 = 0 ∧ H2 = 0) := g0
          by_cases g1 : H1 = 0
          · have g2 : ¬ H2 = 0 := fun z => g0 ⟨g1, z⟩
            subst g1
            by_cases g3 : H2 < 0
            · simp [runF, c_joined_fates, int2, h1, h2, i12, i13, i22, i23, g2, g3, r1, r2, b_is, f_is, s_is, d1, d2, d3, d4]
            · have g4 : 0 < H2 := by omega
              simp [runF, c_joined_fates, int2, h1, h2, i12, i13, i22, i23, g2, g3, g4, r1, r2, b_is, f_is, s_is, d1, d2, d3, d4]
          · by_cases g3 : H2 < H1
            · simp [runF, c_joined_fates, int2, h1, h2, i12, i13, i22, i23, g1, g3, r1, r2, b_is, f_is, s_is, d1, d2, d3, d4]
            · by_cases g4 : H1 < H2
              · simp [runF, c_joined_fates, int2, h1, h2, i12, i13, i22, i23, g1, g3, g4, r1, r2, b_is, f_is, s_is, d1, d2, d3, d4]
              · simp [runF, c_joined_fates, int2, h1, h2, i12, i13, i22, i23, g1, g3, g4, r1, r2, b_is, f_is, s_is, d1, d2, d3, d4]
      · exact absurd rfl hb
    · exact absurd rfl hb
  · exact absurd rfl hb
theorem ok_joined_fates {P : Program} {w : World} {K : PySem.W.Frag} {mg : Str → Option Value} {base : Heap} {T : Nat → Addr} {f : Addr} {fd : FuncData} (B : Blt mg) (F : Fun K "joined_fates" "joined_fates" s_joined_fates f fd) (C_rounds_heard : Cal P w K mg base "rounds_heard" 1 (spF K T 1 P_rounds_heard)) (C_rounds_of : Cal P w K mg base "rounds_of" 2 (spF K T 1 P_rounds_of)) : FnOk P w K mg base (L2N.CX P w) 3 f fd ["first_view", "second_view"] (spF K T 2 P_joined_fates) := by
  refine (ok_fn F sc_joined_fates (c_joined_fates K T w mg) fun cdv A outer s H E hr => ?_).imp (spF_le fun ds hl hb => e_joined_fates K T w mg ds hb)
  · have tk : L2N.Takes (cxOf (L2N.CX P w) P w K mg base sc_joined_fates_N "joined_fates" (defScope s_joined_fates) f cdv A outer s H E) (fun cls d _ H => E cls d H) := L2N.takes_of rfl rfl rfl rfl
    have hr1 : Room 1 _ := hr.mono (by decide)
    have hr2 : Room 2 _ := hr.mono (by decide)
    have hu64 := hr.units
    exact (d_seq (d_par rfl sc_joined_fates.nd (by decide) (d_acons (d_cal C_rounds_heard tk hr1 (d_acons (d_var (i := 0)) d_anil)) (d_acons (d_cal C_rounds_heard tk hr1 (d_acons (d_var (i := 1)) d_anil)) d_anil)) (by first | rfl | kernel_rfl)) (d_seq (d_if (PW.pt (d_andT (d_cmpT op_eq (d_var (i := 2)) d_int (nomark _)) (d_and1 (d_cmpT op_eq (d_var (i := 3)) d_int (nomark _))))) (d_one (d_ret (d_bin op_mul_str d_str (d_cal C_rounds_of tk hr2 (d_acons (d_var (i := 0)) d_anil))))) d_nil) (d_seq (d_par rfl sc_joined_fates.nd (by decide) (d_acons (d_var (i := 0)) (d_acons d_str d_anil)) (by first | rfl | kernel_rfl)) (d_seq (d_if (d_cmpT op_gt (d_var (i := 2)) (d_var (i := 3)) (nomark _)) (d_one (d_set (i := 5) sc_joined_fates.nd d_str)) (d_one (d_if (d_cmpT op_lt (d_var (i := 2)) (d_var (i := 3)) (nomark _)) (d_one (d_par rfl sc_joined_fates.nd (by decide) (d_acons (d_var (i := 1)) (d_acons d_str d_anil)) (by first | rfl | kernel_rfl))) d_nil))) (d_one (d_ret (d_bin op_add_str (d_bin op_add_str (d_ix ix_tup (d_var (i := 4)) d_int) (d_var (i := 5))) (d_bin op_mul_str d_str (d_ix ix_tup (d_var (i := 4)) d_int)))))))))
/-! ### join_views -/
abbrev s_join_views : Stmt := topS 23
abbrev sc_join_views_N : List Str := ["first_view", "second_view", "run"]
theorem sc_join_views : FnScope sc_join_views_N ["first_view", "second_view"] (defScope s_join_views) := ⟨rfl, rfl, rfl, by decide +kernel, rfl, by decide +kernel, by decide +kernel⟩
def c_join_views (K : PySem.W.Frag) (T : Nat → Addr) (w : World) (mg : Str → Option Value) (fc : Fc K T mg) : CS K T := (.seq (.ifs (.test (.op2 oNe (.fn 1 P_rounds_of (.cons (.var 0) .nil)) (.fn 1 P_rounds_of (.cons (.var 1) .nil)))) (.raise0 4) .pass) (.seq (.set 2 (.make 0 3 (fun _ _ => P_Run_init) P_Run_init (fun _ _ _ _ => rfl) (.cons (.op2 oIxT (.var 0) (.int 0)) (.cons (.op2 oIxT (.var 1) (.int 0)) (.cons (.fn 2 P_joined_fates (.cons (.var 0) (.cons (.var 1) .nil))) .nil))))) (.seq (.ifs (.or (.test (.op2 oNeD (.meth 0 "seen" 1 P_Run_seen (.var 2) (.cons (.str "first") .nil)) (.var 0))) (.test (.op2 oNeD (.meth 0 "seen" 1 P_Run_seen (.var 2) (.cons (.str "second") .nil)) (.var 1)))) (.raise0 4) .pass) (.ret (.var 2)))))
def pV (a : Int) (o : Option Int) (l : List Nat) (s : Int) : PyData := .tuple [.int a, optP o, .str (mkS l), .int s]
theorem vD_py (a : Int) (o : Option Int) (l : List Nat) (s : Int) : (vD a o l s).py = some (pV a o l s) := by cases o <;> rfl
theorem pV_shaped (a : Int) (o : Option Int) {l : List Nat} (s : Int) (h : Fts l) : SeqAt.shaped (pV a o l s) = true := by
  have hc : PyData.canLay0 (optP o) = true := by cases o <;> rfl
  have h1 : PyData.canLay0 (pV a o l s) = true := by simp [pV, PyData.canLay0, PyData.canLayAll0, strOk_fts h, hc]
  have h2 : (pV a o l s).depth ≤ 64 := by
    have : (pV a o l s).depth = (PyData.tuple [.none, .none, .none, .none]).depth := by cases o <;> rfl
    rw [this]
    decide +kernel
  unfold SeqAt.shaped
  rw [h1, decide_eq_true h2]
  rfl
def eqV (v w : Dat) : Bool := match eqD v w with
  | .ok k => k
  | _ => false
theorem eqD_vD {a a' : Int} {o o' : Option Int} {l l' : List Nat} {s s' : Int} (h : Fts l) (h' : Fts l') : eqD (vD a o l s) (vD a' o' l' s') = .ok (eqV (vD a o l s) (vD a' o' l' s')) := by
  have e : eqD (vD a o l s) (vD a' o' l' s') = .ok (PyData.eqv (pV a o l s) (pV a' o' l' s')) := by
    unfold eqD
    rw [vD_py, vD_py]
    simp only [pV_shaped a o s h, pV_shaped a' o' s' h', and_self, if_true]
  unfold eqV
  rw [e]
theorem viewD_vD (a b : Int) (l : List Nat) (e : Str) : ∃ o l' s', viewD a b l e = vD (if e = "first" then a else b) o l' s' ∧ (Fts l → Fts l') := by
  refine ⟨_, _, _, viewD_is a b l e, fun h => ?_⟩
  cases lastA l e l.length with
  | none => intro c hc; cases hc
  | some i => exact h.take i
theorem eqD_view {a b : Int} {x : List Nat} {e : Str} {a' : Int} {o' : Option Int} {l' : List Nat} {s' : Int} (h : Fts x) (h' : Fts l') : eqD (viewD a b x e) (vD a' o' l' s') = .ok (eqV (viewD a b x e) (vD a' o' l' s')) := by
  obtain ⟨o, l, s, q, f⟩ := viewD_vD a b x e
  rw [q]
  exact eqD_vD (f h) h'
def goodV (a : Int) (l : List Nat) (s : Int) : Prop := (a = 0 ∨ a = 1) ∧ Fts l ∧ smallV l s
instance (a : Int) (l : List Nat) (s : Int) : Decidable (goodV a l s) := inferInstanceAs (Decidable (_ ∧ _ ∧ _))
/-- do the two views show one run? -/
def fitV (d1 d2 : Dat) (a1 a2 : Int) (j : List Nat) : Bool := eqV (viewD a1 a2 j "first") d1 && eqV (viewD a1 a2 j "second") d2
def P_join_views : List Dat → Rs Dat
  | [d1, d2] => match asV d1, asV d2 with
    | some (a1, o1, l1, s1), some (a2, o2, l2, s2) => if goodV a1 l1 s1 ∧ goodV a2 l2 s2 then
        (if hZ o1 l1 + s1 = hZ o2 l2 + s2 then (if fitV d1 d2 a1 a2 (joinL o1 l1 s1 o2 l2 s2) = true then .ok (runD a1 a2 (mkS (joinL o1 l1 s1 o2 l2 s2))) else .exn 4 []) else .exn 4 []) else .bad
    | _, _ => .bad
  | _ => .bad
theorem seen_vD {a b : Int} {l : List Nat} {e : Str} (hl : l.length ≤ lim) (hf : Fts l) (he : e = "first" ∨ e = "second") : P_Run_seen [runD a b (mkS l), .str e] = .ok (viewD a b l e) := by
  rw [run_seen_is a b l e hl hf, end_ok he]
  rfl
theorem e_join_views (K : PySem.W.Frag) (T : Nat → Addr) (w : World) (mg : Str → Option Value) (fc : Fc K T mg) : ∀ ds, P_join_views ds ≠ .bad → runF (c_join_views K T w mg fc) sc_join_views_N.length ds = P_join_views ds := by
  intro ds hb
  unfold P_join_views at hb ⊢
  split at hb
  · next d1 d2 =>
    split at hb
    · next a1 o1 l1 s1 a2 o2 l2 s2 e1 e2 =>
      split at hb
      · next hc =>
        have hj : P_joined_fates [d1, d2] = if smallV l1 s1 ∧ smallV l2 s2 then .ok (.str (mkS (joinL o1 l1 s1 o2 l2 s2))) else .bad := by
          unfold P_joined_fates
          simp only [e1, e2]
        simp only [e1, e2, hc, and_self, if_true]
        obtain ⟨⟨b1, f1, c1⟩, ⟨b2, f2, c2⟩⟩ := hc
        rw [if_pos ⟨c1, c2⟩] at hj
        have jf := joinL_fts (o1 := o1) (s1 := s1) (o2 := o2) (s2 := s2) f1 f2
        have jl : (joinL o1 l1 s1 o2 l2 s2).length ≤ lim := Nat.le_trans (joinL_len o1 l1 s1 o2 l2 s2 c1 c2) (by unfold lim; omega)
        rw [asV_eq e1, asV_eq e2] at hj ⊢
        unfold smallV at c1 c2
        have h3 := rounds_vD a1 o1 l1 s1 (by unfold lim; omega)
        have h4 := rounds_vD a2 o2 l2 s2 (by unfold lim; omega)
        have i10 := ixv_0 a1 o1 l1 s1
        have i20 := ixv_0 a2 o2 l2 s2
        have q1 := eqD_view (a := a1) (b := a2) (e := "first") (a' := a1) (o' := o1) (s' := s1) jf f1
        have q2 := eqD_view (a := a1) (b := a2) (e := "second") (a' := a2) (o' := o2) (s' := s2) jf f2
        obtain ⟨j, hj'⟩ : ∃ j, joinL o1 l1 s1 o2 l2 s2 = j := ⟨_, rfl⟩
        rw [hj'] at hj jf jl q1 q2 ⊢
        have n1 := seen_vD (a := a1) (b := a2) (e := "first") jl jf (.inl rfl)
        have n2 := seen_vD (a := a1) (b := a2) (e := "second") jl jf (.inr rfl)
        have n3 := run_init_ok b1 b2 jl jf
        unfold fitV
        obtain ⟨v1, hv1⟩ : ∃ v, vD a1 o1 l1 s1 = v := ⟨_, rfl⟩
        obtain ⟨v2, hv2⟩ : ∃ v, vD a2 o2 l2 s2 = v := ⟨_, rfl⟩
        rw [hv1] at h3 i10 q1 hj ⊢
        rw [hv2] at h4 i20 q2 hj ⊢
        obtain ⟨w1, hw1⟩ : ∃ w, viewD a1 a2 j "first" = w := ⟨_, rfl⟩
        obtain ⟨w2, hw2⟩ : ∃ w, viewD a1 a2 j "second" = w := ⟨_, rfl⟩
        rw [hw1] at q1 n1 ⊢
        rw [hw2] at q2 n2 ⊢
        obtain ⟨R1, hR1⟩ : ∃ R, hZ o1 l1 + s1 = R := ⟨_, rfl⟩
        obtain ⟨R2, hR2⟩ : ∃ R, hZ o2 l2 + s2 = R := ⟨_, rfl⟩
        rw [hR1] at h3 ⊢
        rw [hR2] at h4 ⊢
        unfold runD at n1 n2 ⊢
        by_cases g : R1 = R2
        · cases g1 : eqV w1 v1 with
          | false =>
            rw [g1] at q1
            simp [runF, c_join_views, h3, h4, g, hj, i10, i20, n3, n1, n2, q1, lkp_cons, seen_ne]
          | true =>
            rw [g1] at q1
            cases g2 : eqV w2 v2 with
            | false =>
              rw [g2] at q2
              simp [runF, c_join_views, h3, h4, g, hj, i10, i20, n3, n1, n2, q1, q2, lkp_cons, seen_ne]
            | true =>
              rw [g2] at q2
              simp [runF, c_join_views, h3, h4, g, hj, i10, i20, n3, n1, n2, q1, q2, lkp_cons, seen_ne]
        · simp [runF, c_join_views, h3, h4, g]
      · exact absurd rfl hb
    · exact absurd rfl hb
  · exact absurd rfl hb
theorem ok_join_views {P : Program} {w : World} {K : PySem.W.Frag} {mg : Str → Option Value} {base : Heap} {T : Nat → Addr} {f : Addr} {fd : FuncData} (B : Blt mg) (fc : Fc K T mg) (F : Fun K "join_views" "join_views" s_join_views f fd) (C_Run_init : CalI P w K mg base "Run" (T 0) 4 (spI K T 0 3 (fun _ _ => P_Run_init))) (C_Run_seen : CalM P w K mg base (T 0) "seen" 6 (spF K T 2 P_Run_seen)) (C_joined_fates : Cal P w K mg base "joined_fates" 3 (spF K T 2 P_joined_fates)) (C_rounds_of : Cal P w K mg base "rounds_of" 2 (spF K T 1 P_rounds_of)) (Y_Unmatched : CalX0 K mg "Unmatched" (T 4)) : FnOk P w K mg base (L2N.CX P w) 7 f fd ["first_view", "second_view"] (spF K T 2 P_join_views) := by
  refine (ok_fn F sc_join_views (c_join_views K T w mg fc) fun cdv A outer s H E hr => ?_).imp (spF_le fun ds hl hb => e_join_views K T w mg fc ds hb)
  · have tk : L2N.Takes (cxOf (L2N.CX P w) P w K mg base sc_join_views_N "join_views" (defScope s_join_views) f cdv A outer s H E) (fun cls d _ H => E cls d H) := L2N.takes_of rfl rfl rfl rfl
    have hr2 : Room 2 _ := hr.mono (by decide)
    have hr3 : Room 3 _ := hr.mono (by decide)
    have hr5 : Room 5 _ := hr.mono (by decide)
    have hr6 : Room 6 _ := hr.mono (by decide)
    have hu64 := hr.units
    exact (d_seq (d_if (d_cmpT op_ne (d_cal C_rounds_of tk hr2 (d_acons (d_var (i := 0)) d_anil)) (d_cal C_rounds_of tk hr2 (d_acons (d_var (i := 1)) d_anil)) (nomark _)) (d_one (d_raise0 Y_Unmatched rfl tk)) d_nil) (d_seq (d_set (i := 2) sc_join_views.nd (d_make C_Run_init tk hr5 (d_acons (d_ix ix_tup (d_var (i := 0)) d_int) (d_acons (d_ix ix_tup (d_var (i := 1)) d_int) (d_acons (d_cal C_joined_fates tk hr3 (d_acons (d_var (i := 0)) (d_acons (d_var (i := 1)) d_anil))) d_anil))))) (d_seq (d_if (PW.pt (d_orT (d_cmpT (op_neD hu64) (d_meth C_Run_seen tk hr6 (d_var (i := 2)) (d_acons d_str d_anil)) (d_var (i := 0)) (nomark _)) (d_or1 (d_cmpT (op_neD hu64) (d_meth C_Run_seen tk hr6 (d_var (i := 2)) (d_acons d_str d_anil)) (d_var (i := 1)) (nomark _))))) (d_one (d_raise0 Y_Unmatched rfl tk)) d_nil) (d_one (d_ret (d_var (i := 2)))))))
/-! ### grow -/
abbrev s_grow : Stmt := topS 24
abbrev sc_grow_N : List Str := ["end", "view", "letter", "own", "other", "known", "silent", "run"]
theorem sc_grow : FnScope sc_grow_N ["end", "view", "letter"] (defScope s_grow) := ⟨rfl, rfl, rfl, by decide +kernel, rfl, by decide +kernel, by decide +kernel⟩
def c_grow (K : PySem.W.Frag) (T : Nat → Addr) (w : World) (mg : Str → Option Value) (fc : Fc K T mg) : CS K T := (.seq (.expr (.fn 1 P_check_end (.cons (.var 0) .nil))) (.seq (.asg (CG.tup 4 (.cons (CG.name 3) (.cons (CG.name 4) (.cons (CG.name 5) (.cons (CG.name 6) .nil))))) (.var 1)) (.seq (.ifs (.test (.op2 oIsN (.var 2) .non)) (.ret (.tup (.cons (.var 3) (.cons (.var 4) (.cons (.var 5) (.cons (.op2 oAdd (.var 6) (.int 1)) .nil)))))) .pass) (.seq (.ifs (.test (.op2 oEq (.var 0) (.str "first"))) (.set 7 (.fn 2 P_join_views (.cons (.var 1) (.cons (.var 2) .nil)))) (.set 7 (.fn 2 P_join_views (.cons (.var 2) (.cons (.var 1) .nil))))) (.ret (.tup (.cons (.var 3) (.cons (.op2 oIxT (.var 2) (.int 0)) (.cons (.fld 0 "fates" fc.cRun fc.nRun_fates (.var 7)) (.cons (.int 0) .nil))))))))))
def P_grow : List Dat → Rs Dat
  | [.str e, d, m] => match asV d with
    | some (a, o, l, s) => (P_check_end [.str e]).bind fun _ => if isN m = true then .ok (vD a o l (s + 1)) else match asV m with
      | some (a2, _, _, _) => (P_join_views (if e = "first" then [d, m] else [m, d])).bind fun r => match asRun r with
        | some (_, _, x) => .ok (vD a (some a2) x.cps.toList 0)
        | none => .bad
      | none => .bad
    | none => .bad
  | _ => .bad
theorem optD_some (b : Int) : optD (some b) = .int b := rfl
theorem isN_vD (a : Int) (o : Option Int) (l : List Nat) (s : Int) : isN (vD a o l s) = false := rfl
theorem e_grow (K : PySem.W.Frag) (T : Nat → Addr) (w : World) (mg : Str → Option Value) (fc : Fc K T mg) : ∀ ds, P_grow ds ≠ .bad → runF (c_grow K T w mg fc) sc_grow_N.length ds = P_grow ds := by
  intro ds hb
  unfold P_grow at hb ⊢
  split at hb
  · next e d m =>
    split at hb
    · next a o l s hd =>
      try simp only [hd]
      have hd' := asV_eq hd
      unfold vD at hd'
      subst hd'
      cases hc : P_check_end [.str e] with
      | bad => simp [hc] at hb
      | exn c fs => simp [runF, c_grow, hc]
      | ok z =>
        rw [hc] at hb
        simp only [Rs.bind_ok] at hb ⊢
        by_cases hm : isN m = true
        · rw [if_pos hm]
          simp [runF, c_grow, hc, hm, vD, lim]
        · rw [if_neg hm] at hb ⊢
          have hm' : isN m = false := by simpa using hm
          split at hb
          · next a2 o2 l2 s2 h2 =>
            try simp only [h2]
            have i0 : ixT m (.int 0) = .ok (.int a2) := by rw [asV_eq h2]; rfl
            by_cases he : e = "first"
            · subst he
              rw [if_pos rfl] at hb ⊢
              cases hj : P_join_views [.tup [.int a, optD o, .str (mkS l), .int s], m] with
              | bad => simp [hj] at hb
              | exn c fs => simp [runF, c_grow, hc, hm', hj]
              | ok r =>
                rw [hj] at hb
                simp only [Rs.bind_ok] at hb ⊢
                cases hr : asRun r with
                | none => simp [hr] at hb
                | some t =>
                  obtain ⟨p, q, x⟩ := t
                  have := asRun_eq hr
                  subst this
                  unfold runD at hj
                  simp [runF, c_grow, hc, hm', hj, lkp_cons, fs_ne, i0, vD, optD_some, mkS_of, lim]
            · rw [if_neg he] at hb ⊢
              cases hj : P_join_views [m, .tup [.int a, optD o, .str (mkS l), .int s]] with
              | bad => simp [hj] at hb
              | exn c fs => simp [runF, c_grow, hc, hm', he, hj]
              | ok r =>
                rw [hj] at hb
                simp only [Rs.bind_ok] at hb ⊢
                cases hr : asRun r with
                | none => simp [hr] at hb
                | some t =>
                  obtain ⟨p, q, x⟩ := t
                  have := asRun_eq hr
                  subst this
                  unfold runD at hj
                  simp [runF, c_grow, hc, hm', he, hj, lkp_cons, fs_ne, i0, vD, optD_some, mkS_of, lim]
          · exact absurd rfl hb
    · exact absurd rfl hb
  · exact absurd rfl hb
theorem ok_grow {P : Program} {w : World} {K : PySem.W.Frag} {mg : Str → Option Value} {base : Heap} {T : Nat → Addr} {f : Addr} {fd : FuncData} (B : Blt mg) (fc : Fc K T mg) (F : Fun K "grow" "grow" s_grow f fd) (C_check_end : Cal P w K mg base "check_end" 3 (spF K T 1 P_check_end)) (C_join_views : Cal P w K mg base "join_views" 7 (spF K T 2 P_join_views)) : FnOk P w K mg base (L2N.CX P w) 8 f fd ["end", "view", "letter"] (spF K T 3 P_grow) := by
  refine (ok_fn F sc_grow (c_grow K T w mg fc) fun cdv A outer s H E hr => ?_).imp (spF_le fun ds hl hb => e_grow K T w mg fc ds hb)
  · have tk : L2N.Takes (cxOf (L2N.CX P w) P w K mg base sc_grow_N "grow" (defScope s_grow) f cdv A outer s H E) (fun cls d _ H => E cls d H) := L2N.takes_of rfl rfl rfl rfl
    have hr3 : Room 3 _ := hr.mono (by decide)
    have hr7 : Room 7 _ := hr.mono (by decide)
    have hu64 := hr.units
    exact (d_seq (d_expr (d_cal C_check_end tk hr3 (d_acons (d_var (i := 0)) d_anil))) (d_seq (d_asg (d_var (i := 1)) (d_gtup rfl (d_gcons (d_name (i := 3) sc_grow.nd) (d_gcons (d_name (i := 4) sc_grow.nd) (d_gcons (d_name (i := 5) sc_grow.nd) (d_gcons (d_name (i := 6) sc_grow.nd) d_gnil)))))) (d_seq (d_if (d_cmpT op_isN (d_var (i := 2)) d_non (nomark _)) (d_one (d_ret (d_tup (d_acons (d_var (i := 3)) (d_acons (d_var (i := 4)) (d_acons (d_var (i := 5)) (d_acons (d_bin op_add (d_var (i := 6)) d_int) d_anil))))))) d_nil) (d_seq (d_if (d_cmpT op_eq (d_var (i := 0)) d_str (nomark _)) (d_one (d_set (i := 7) sc_grow.nd (d_cal C_join_views tk hr7 (d_acons (d_var (i := 1)) (d_acons (d_var (i := 2)) d_anil))))) (d_one (d_set (i := 7) sc_grow.nd (d_cal C_join_views tk hr7 (d_acons (d_var (i := 2)) (d_acons (d_var (i := 1)) d_anil)))))) (d_one (d_ret (d_tup (d_acons (d_var (i := 3)) (d_acons (d_ix ix_tup (d_var (i := 2)) d_int) (d_acons (d_fld (d_var (i := 7))) (d_acons d_int d_anil)))))))))))
/-! ### _law_cell -/
abbrev s_Lcell : Stmt := topS 26
abbrev sc_Lcell_N : List Str := ["_law_script", "_law_k"]
theorem sc_Lcell : FnScope sc_Lcell_N ["_law_script", "_law_k"] (defScope s_Lcell) := ⟨rfl, rfl, rfl, by decide +kernel, rfl, by decide +kernel, by decide +kernel⟩
def c_Lcell (K : PySem.W.Frag) (T : Nat → Addr) (w : World) (mg : Str → Option Value) : CS K T := (.seq (.ifs (.test (.op2 oLt (.var 1) (.opN oLenQ (.cons (.var 0) .nil)))) (.ret (.op2 oIxL (.var 0) (.var 1))) .pass) (.ret (.int 0)))
def P_Lcell : List Dat → Rs Dat
  | [.lst ds, .int k] => if 0 ≤ k then .ok (ds.getD k.toNat (.int 0)) else .bad
  | _ => .bad
theorem P_cell (ns : List Int) {k : Int} (h : 0 ≤ k) : P_Lcell [.lst (ns.map .int), .int k] = .ok (.int (cellI ns k)) := by
  simp only [P_Lcell, h, if_true, cell_map, cellI]
theorem e_Lcell (K : PySem.W.Frag) (T : Nat → Addr) (w : World) (mg : Str → Option Value) : ∀ ds, P_Lcell ds ≠ .bad → runF (c_Lcell K T w mg) sc_Lcell_N.length ds = P_Lcell ds := by
  intro ds hb
  unfold P_Lcell at hb ⊢
  split at hb
  · next ds k =>
    split at hb
    · next h =>
      by_cases hk : k < ds.length
      · have e : ds[k.toNat]? = some ds[k.toNat] := List.getElem?_eq_getElem (by omega)
        simp [runF, c_Lcell, int2, oLenQ, oIxL, ixL, hk, h, atI_int h hk, e]
      · have e : ds[k.toNat]? = none := List.getElem?_eq_none (by omega)
        simp [runF, c_Lcell, int2, oLenQ, oIxL, ixL, hk, h, e]
    · exact absurd rfl hb
  · exact absurd rfl hb
theorem ok_Lcell {P : Program} {w : World} {K : PySem.W.Frag} {mg : Str → Option Value} {base : Heap} {T : Nat → Addr} {f : Addr} {fd : FuncData} (B : Blt mg) (F : Fun K "_law_cell" "_law_cell" s_Lcell f fd) : FnOk P w K mg base (L2N.CX P w) 1 f fd ["_law_script", "_law_k"] (spF K T 2 P_Lcell) := by
  refine (ok_fn F sc_Lcell (c_Lcell K T w mg) fun cdv A outer s H E hr => ?_).imp (spF_le fun ds hl hb => e_Lcell K T w mg ds hb)
  · have tk : L2N.Takes (cxOf (L2N.CX P w) P w K mg base sc_Lcell_N "_law_cell" (defScope s_Lcell) f cdv A outer s H E) (fun cls d _ H => E cls d H) := L2N.takes_of rfl rfl rfl rfl

    have hu64 := hr.units
    exact (d_seq (d_if (d_cmpT op_lt (d_var (i := 1)) (d_blt call_len_seq B.len_ (by decide +kernel) (d_acons (d_var (i := 0)) d_anil)) (nomark _)) (d_one (d_ret (d_ix ix_list (d_var (i := 0)) (d_var (i := 1))))) d_nil) (d_one (d_ret d_int)))
/-! ### _law_draws -/
abbrev s_Ldraws : Stmt := topS 27
abbrev sc_Ldraws_N : List Str := ["_law_cell_here", "_law_many", "_law_base", "_law_draws_here", "_law_rest", "_law_k", "_law_mixed"]
theorem sc_Ldraws : FnScope sc_Ldraws_N ["_law_cell_here", "_law_many", "_law_base"] (defScope s_Ldraws) := ⟨rfl, rfl, rfl, by decide +kernel, rfl, by decide +kernel, by decide +kernel⟩
def b_Ldraws_0 (K : PySem.W.Frag) (T : Nat → Addr) (w : World) (mg : Str → Option Value) : CS K T := (.ifs (.test (.op2 oGe (.var 0) (.op2 oPow (.int 10) (.int 18)))) (.seq (.app 3 (.op2 oMod (.opN oInt (.cons (.var 4) .nil)) (.var 2))) (.set 4 (.op2 oDiv (.var 4) (.var 2)))) (.seq (.set 6 (.op2 oMod (.opN oInt (.cons (.op2 oAdd (.op2 oMul (.op2 oMod (.opN oInt (.cons (.var 0) .nil)) (.int 1000003)) (.int 7919)) (.op2 oMul (.op2 oMul (.op2 oAdd (.var 5) (.int 1)) (.op2 oAdd (.var 5) (.int 3))) (.int 1237))) .nil)) (.int 1000003))) (.app 3 (.op2 oMod (.opN oInt (.cons (.op2 oAdd (.var 6) (.op2 oDiv (.var 6) (.int 1009))) .nil)) (.var 2)))))
def c_Ldraws (K : PySem.W.Frag) (T : Nat → Addr) (w : World) (mg : Str → Option Value) : CS K T := (.seq (.setO 3 (CO.lst .nil)) (.seq (.set 4 (.var 0)) (.seq (.forS (CI.range1 (.cons (.var 1) .nil)) (CG.name 5) (b_Ldraws_0 K T w mg)) (.frz 3 (.ret (.var 3))))))
def P_Ldraws : List Dat → Rs Dat
  | [.int c, .int n, .int b] => if 0 < b ∧ b < 1073741824 ∧ 0 ≤ n ∧ n ≤ 99999 then .ok (.lst ((drawsI c n.toNat b).map .int)) else .bad
  | _ => .bad
theorem mix_Ldraws (K : PySem.W.Frag) (T : Nat → Addr) (w : World) (mg : Str → Option Value) (c n b k : Int) (o6 : Cz.Slot) (xs : List Dat) (h1 : 0 < b) (h2 : b < 1073741824) (hc2 : ¬ (1000000000000000000 : Int) ≤ c) (hx : xs.length < 100000)
    (b1 : -18446744073709551616 < c % 1000003 ∧ c % 1000003 < 18446744073709551616) (b2 : -18446744073709551616 < k + 1 ∧ k + 1 < 18446744073709551616) :
    (b_Ldraws_0 K T w mg).ev [.d (.int c), .d (.int n), .d (.int b), .ol xs, .d (.int c), .d (.int k), o6] = .nx [.d (.int c), .d (.int n), .d (.int b), .ol (xs ++ [.int ((mixZ c k + mixZ c k / 1009) % b)]), .d (.int c), .d (.int k), .d (.int (mixZ c k))] := by
  simp [b_Ldraws_0, hc2, lim, hx, h1, h2, b1, b2, mixZ]
theorem big_Ldraws (K : PySem.W.Frag) (T : Nat → Addr) (w : World) (mg : Str → Option Value) (c n b k r : Int) (o6 : Cz.Slot) (xs : List Dat) (h1 : 0 < b) (h2 : b < 1073741824) (hc2 : (1000000000000000000 : Int) ≤ c) (hx : xs.length < 100000) :
    (b_Ldraws_0 K T w mg).ev [.d (.int c), .d (.int n), .d (.int b), .ol xs, .d (.int r), .d (.int k), o6] = .nx [.d (.int c), .d (.int n), .d (.int b), .ol (xs ++ [.int (r % b)]), .d (.int (r / b)), .d (.int k), o6] := by
  simp [b_Ldraws_0, hc2, lim, hx, h1, h2]
theorem e_Ldraws (K : PySem.W.Frag) (T : Nat → Addr) (w : World) (mg : Str → Option Value) : ∀ ds, P_Ldraws ds ≠ .bad → runF (c_Ldraws K T w mg) sc_Ldraws_N.length ds = P_Ldraws ds := by
  intro ds hb
  unfold P_Ldraws at hb ⊢
  split at hb
  · next c n b =>
    split at hb
    · next h =>
      obtain ⟨h1, h2, h3, h4⟩ := h
      rw [if_pos ⟨h1, h2, h3, h4⟩]
      have hn : -(2 ^ 62) ≤ n ∧ n < 2 ^ 62 := by omega
      have hn2 : (-4611686018427387904 ≤ n ∧ n < 4611686018427387904) := by omega
      obtain ⟨Γ', q1, o5, o6, q2⟩ := evFor_inv0 (g := (CG.name 5 : CG K T).ev) (b := (b_Ldraws_0 K T w mg).ev) (ds := rangeD 0 n.toNat) (Γ := [.d (.int c), .d (.int n), .d (.int b), .ol [], .d (.int c), .un, .un])
        (fun i Γ => ∃ o5 o6, Γ = [.d (.int c), .d (.int n), .d (.int b), .ol ((drawsI c i b).map .int), .d (.int (if 10 ^ 18 ≤ c then c / b ^ i else c)), o5, o6]) ⟨.un, .un, by simp [drawsI]⟩ (by
          rintro i d Γ hd ⟨o5, o6, rfl⟩
          have hi : i < n.toNat := by
            have := (List.getElem?_eq_some_iff.mp hd).1
            simpa [rangeD] using this
          unfold rangeD at hd
          rw [List.getElem?_map, List.getElem?_range hi] at hd
          simp only [Option.map_some, Int.zero_add, Option.some.injEq] at hd
          subst hd
          have hl : i < 100000 := by omega
          have e : (drawsI c (i + 1) b).map Dat.int = (drawsI c i b).map Dat.int ++ [.int (drawI c b i)] := by
            simp [drawsI, List.range_succ]
          rw [e]
          by_cases hc : 10 ^ 18 ≤ c
          · have hd : drawI c b i = c / b ^ i % b := by
              unfold drawI
              rw [if_pos hc]
            have ep : c / b ^ (i + 1) = c / b ^ i / b := by rw [Int.pow_succ, Int.ediv_ediv_of_nonneg (Int.le_of_lt (Int.pow_pos h1))]
            rw [hd, if_pos hc, if_pos hc, ep]
            have hc2 : (1000000000000000000 : Int) ≤ c := by omega
            have hx2 : ((drawsI c i b).map Dat.int).length < 100000 := by rw [List.length_map, drawsI_len]; exact hl
            exact ⟨_, _, rfl, .inl (big_Ldraws K T w mg c n b (i : Int) (c / b ^ i) o6 ((drawsI c i b).map Dat.int) h1 h2 hc2 hx2), .d (.int i), o6, rfl⟩
          · have hd : drawI c b i = (mixZ c (i : Int) + mixZ c (i : Int) / 1009) % b := by
              unfold drawI
              rw [if_neg hc]
            rw [hd, if_neg hc]
            have hc2 : ¬ (1000000000000000000 : Int) ≤ c := by omega
            have b1 : -18446744073709551616 < c % 1000003 ∧ c % 1000003 < 18446744073709551616 := by omega
            have b2 : -18446744073709551616 < (i : Int) + 1 ∧ (i : Int) + 1 < 18446744073709551616 := by omega
            have hx2 : ((drawsI c i b).map Dat.int).length < 100000 := by rw [List.length_map, drawsI_len]; exact hl
            rw [if_neg hc]
            exact ⟨_, _, rfl, .inl (mix_Ldraws K T w mg c n b (i : Int) o6 ((drawsI c i b).map Dat.int) h1 h2 hc2 hx2 b1 b2), .d (.int i), .d (.int (mixZ c (i : Int))), rfl⟩)
      subst q2
      have e0 : (rangeD 0 n.toNat).length = n.toNat := by simp [rangeD]
      rw [e0] at q1
      simp [runF, c_Ldraws, hn2, q1, lim]
    · exact absurd rfl hb
  · exact absurd rfl hb
theorem ok_Ldraws {P : Program} {w : World} {K : PySem.W.Frag} {mg : Str → Option Value} {base : Heap} {T : Nat → Addr} {f : Addr} {fd : FuncData} (B : Blt mg) (F : Fun K "_law_draws" "_law_draws" s_Ldraws f fd) : FnOk P w K mg base (L2N.CX P w) 1 f fd ["_law_cell_here", "_law_many", "_law_base"] (spF K T 3 P_Ldraws) := by
  refine (ok_fn F sc_Ldraws (c_Ldraws K T w mg) fun cdv A outer s H E hr => ?_).imp (spF_le fun ds hl hb => e_Ldraws K T w mg ds hb)
  · have tk : L2N.Takes (cxOf (L2N.CX P w) P w K mg base sc_Ldraws_N "_law_draws" (defScope s_Ldraws) f cdv A outer s H E) (fun cls d _ H => E cls d H) := L2N.takes_of rfl rfl rfl rfl

    have hu64 := hr.units
    exact (d_seq (d_setO (i := 3) sc_Ldraws.nd (d_lst d_anil)) (d_seq (d_set (i := 4) sc_Ldraws.nd (d_var (i := 0))) (d_seq (d_for (passes_of rfl) (d_range1 B.range_ (d_acons (d_var (i := 1)) d_anil)) (d_name (i := 5) sc_Ldraws.nd) (d_one (d_if (d_cmpT op_ge (d_var (i := 0)) (d_bin op_pow d_int d_int) (nomark _)) (d_seq (d_app (i := 3) (d_bin op_mod (d_typ call_int1 B.int_ (by decide +kernel) (d_acons (d_var (i := 4)) d_anil)) (d_var (i := 2)))) (d_one (d_set (i := 4) sc_Ldraws.nd (d_bin op_fdiv (d_var (i := 4)) (d_var (i := 2)))))) (d_seq (d_set (i := 6) sc_Ldraws.nd (d_bin op_mod (d_typ call_int1 B.int_ (by decide +kernel) (d_acons (d_bin op_add (d_bin op_mul (d_bin op_mod (d_typ call_int1 B.int_ (by decide +kernel) (d_acons (d_var (i := 0)) d_anil)) d_int) d_int) (d_bin op_mul (d_bin op_mul (d_bin op_add (d_var (i := 5)) d_int) (d_bin op_add (d_var (i := 5)) d_int)) d_int)) d_anil)) d_int)) (d_one (d_app (i := 3) (d_bin op_mod (d_typ call_int1 B.int_ (by decide +kernel) (d_acons (d_bin op_add (d_var (i := 6)) (d_bin op_fdiv (d_var (i := 6)) d_int)) d_anil)) (d_var (i := 2))))))))) (d_one (d_frz (d_ret (d_var (i := 3))))))))
/-! ### _law_fates -/
abbrev s_Lfates : Stmt := topS 28
abbrev sc_Lfates_N : List Str := ["_law_cell_here", "_law_many", "_law_draw"]
theorem sc_Lfates : FnScope sc_Lfates_N ["_law_cell_here", "_law_many"] (defScope s_Lfates) := ⟨rfl, rfl, rfl, by decide +kernel, rfl, by decide +kernel, by decide +kernel⟩
def c_Lfates (K : PySem.W.Frag) (T : Nat → Addr) (w : World) (mg : Str → Option Value) : CS K T := (.ret (.join (.str "") (CO.ce (CO.lc (CI.list (.fn 3 P_Ldraws (.cons (.var 0) (.cons (.var 1) (.cons (.int 4) .nil))))) (CG.name 2) CT.yes (.op2 oIxS (.str "bfsn") (.var 2))))))
def P_Lfates : List Dat → Rs Dat
  | [.int c, .int n] => if 0 ≤ n ∧ n ≤ 99999 then .ok (.str (mkS (fatesI c n.toNat))) else .bad
  | _ => .bad
theorem e_Lfates (K : PySem.W.Frag) (T : Nat → Addr) (w : World) (mg : Str → Option Value) : ∀ ds, P_Lfates ds ≠ .bad → runF (c_Lfates K T w mg) sc_Lfates_N.length ds = P_Lfates ds := by
  intro ds hb
  unfold P_Lfates at hb ⊢
  split at hb
  · next c n =>
    split at hb
    · next h =>
      obtain ⟨h1, h2⟩ := h
      rw [if_pos ⟨h1, h2⟩]
      have key : evLc (CG.name 2 : CG K T).ev (CT.yes : CT K T).ev (CE.op2 oIxS (.str "bfsn") (.var 2) : CE K T).ev [.d (.int c), .d (.int n), .un] ((drawsI c n.toNat 4).map .int) = .ok ((drawsI c n.toNat 4).map fun d => Dat.str (mkS [fateC d])) := by
        have := evLc_map (g := (CG.name 2 : CG K T).ev) (t := (CT.yes : CT K T).ev) (e := (CE.op2 oIxS (.str "bfsn") (.var 2) : CE K T).ev) (Γ := [.d (.int c), .d (.int n), .un])
          (fun d => match d with | .int x => .str (mkS [fateC x]) | d => d) (ds := (drawsI c n.toNat 4).map .int) (by
            intro d hd
            obtain ⟨x, hx, rfl⟩ := List.mem_map.mp hd
            obtain ⟨k, hk, rfl⟩ := List.mem_map.mp hx
            refine ⟨_, rfl, rfl, ?_⟩
            have hr := drawI_range (c := c) (b := 4) (k := k) (by decide)
            generalize drawI c 4 k = x at hr
            have : x = 0 ∨ x = 1 ∨ x = 2 ∨ x = 3 := by omega
            rcases this with rfl | rfl | rfl | rfl <;> simp [bfsn_is] <;> rfl)
        rw [this]
        simp
      have hl : n.toNat ≤ 100000 := by omega
      have hs : ((drawsI c n.toNat 4).map ((fun x : Str => x.length) ∘ fun d => mkS [fateC d])).sum ≤ 16777216 := by rw [sum_onesF, drawsI_len]; omega
      simp [runF, c_Lfates, P_Ldraws, h1, h2, wipeG, lim, hl, key, strs_mapF, empty_is, hs, join_onesF]
      rfl
    · exact absurd rfl hb
  · exact absurd rfl hb
theorem ok_Lfates {P : Program} {w : World} {K : PySem.W.Frag} {mg : Str → Option Value} {base : Heap} {T : Nat → Addr} {f : Addr} {fd : FuncData} (B : Blt mg) (F : Fun K "_law_fates" "_law_fates" s_Lfates f fd) (C_Ldraws : Cal P w K mg base "_law_draws" 1 (spF K T 3 P_Ldraws)) : FnOk P w K mg base (L2N.CX P w) 2 f fd ["_law_cell_here", "_law_many"] (spF K T 2 P_Lfates) := by
  refine (ok_fn F sc_Lfates (c_Lfates K T w mg) fun cdv A outer s H E hr => ?_).imp (spF_le fun ds hl hb => e_Lfates K T w mg ds hb)
  · have tk : L2N.Takes (cxOf (L2N.CX P w) P w K mg base sc_Lfates_N "_law_fates" (defScope s_Lfates) f cdv A outer s H E) (fun cls d _ H => E cls d H) := L2N.takes_of rfl rfl rfl rfl
    have hr1 : Room 1 _ := hr.mono (by decide)
    have hu64 := hr.units
    exact (d_one (d_ret (d_join d_str (d_ce (d_lc [("_law_draw", 2)] rfl sc_Lfates.nd (by show blkC sc_Lfates_N (defScope s_Lfates) _ _ = true; decide +kernel) (by exact (d_list_ (d_cal C_Ldraws tk hr1 (d_acons (d_var (i := 0)) (d_acons (d_var (i := 1)) (d_acons d_int d_anil)))))) (by exact fun _ _ _ _ _ => (d_name (i := 2) sc_Lfates.nd)) (by exact fun _ _ _ _ _ => d_yes) (by exact fun _ _ _ _ _ => (d_ix ix_str d_str (d_var (i := 2)))))))))
/-! ### _law_changed -/
abbrev s_Lchanged : Stmt := topS 29
abbrev sc_Lchanged_N : List Str := ["_law_script", "_law_place", "_law_text", "_law_many", "_law_spot", "_law_width", "_law_fresh"]
theorem sc_Lchanged : FnScope sc_Lchanged_N ["_law_script", "_law_place", "_law_text"] (defScope s_Lchanged) := ⟨rfl, rfl, rfl, by decide +kernel, rfl, by decide +kernel, by decide +kernel⟩
def c_Lchanged (K : PySem.W.Frag) (T : Nat → Addr) (w : World) (mg : Str → Option Value) : CS K T := (.seq (.set 3 (.opN oLenS (.cons (.var 2) .nil))) (.seq (.set 4 (.op2 oMod (.opN oInt (.cons (.fn 2 P_Lcell (.cons (.var 0) (.cons (.var 1) .nil))) .nil)) (.op2 oAdd (.var 3) (.int 1)))) (.seq (.set 5 (.op2 oMod (.opN oInt (.cons (.fn 2 P_Lcell (.cons (.var 0) (.cons (.op2 oAdd (.var 1) (.int 1)) .nil))) .nil)) (.int 4))) (.seq (.set 6 (.fn 2 P_Lfates (.cons (.fn 2 P_Lcell (.cons (.var 0) (.cons (.op2 oAdd (.var 1) (.int 2)) .nil))) (.cons (.int 3) .nil)))) (.ret (.op2 oAddS (.op2 oAddS (.slS (.var 2) .none (.some (.var 4))) (.slS (.var 6) .none (.some (.var 5)))) (.slS (.var 2) (.some (.op2 oAdd (.var 4) (.var 5))) .none)))))))
def changedL (ns : List Int) (p : Int) (l : List Nat) : List Nat :=
  l.take (cellI ns p % (l.length + 1)).toNat ++ ((fatesI (cellI ns (p + 2)) 3).take (cellI ns (p + 1) % 4).toNat ++ l.drop (cellI ns p % (l.length + 1) + cellI ns (p + 1) % 4).toNat)
theorem changedL_fts {ns : List Int} {p : Int} {l : List Nat} (h : Fts l) : Fts (changedL ns p l) := (h.take _).append (((fatesI_fts _ _).take _).append (h.drop _))
theorem changedL_len {ns : List Int} {p : Int} {l : List Nat} : (changedL ns p l).length ≤ l.length + 3 := by
  have h1 := mod_range (a := cellI ns p) (b := l.length + 1) (by omega)
  have h2 := mod_range (a := cellI ns (p + 1)) (b := 4) (by decide)
  unfold changedL
  simp only [List.length_append, List.length_take, List.length_drop, fatesI_len]
  omega
def P_Lchanged : List Dat → Rs Dat
  | [.lst ds, .int p, .str x] => match toInts ds with
    | some ns => if 0 ≤ p ∧ x.length ≤ 5000 then .ok (.str (mkS (changedL ns p x.cps.toList))) else .bad
    | none => .bad
  | _ => .bad
theorem e_Lchanged (K : PySem.W.Frag) (T : Nat → Addr) (w : World) (mg : Str → Option Value) : ∀ ds, P_Lchanged ds ≠ .bad → runF (c_Lchanged K T w mg) sc_Lchanged_N.length ds = P_Lchanged ds := by
  intro ds hb
  unfold P_Lchanged at hb ⊢
  split at hb
  · next es p x =>
    split at hb
    · next ns hn =>
      obtain rfl := toInts_eq hn
      split at hb
      · next h =>
        obtain ⟨l, rfl⟩ : ∃ l, x = mkS l := ⟨_, (mkS_of x).symm⟩
        simp only [toInts_map, h, and_self, if_true, mkS_list]
        rw [mkS_len] at h
        obtain ⟨hp, hl⟩ := h
        have hp1 : 0 ≤ p + 1 := by omega
        have hp2 : 0 ≤ p + 2 := by omega
        have k0 := P_cell ns hp
        have k1 := P_cell ns hp1
        have k2 := P_cell ns hp2
        unfold changedL
        obtain ⟨m, hm⟩ : ∃ m : Int, (l.length : Int) = m := ⟨_, rfl⟩
        have m1 := mod_range (a := cellI ns p) (b := m + 1) (by omega)
        have m2 := mod_range (a := cellI ns (p + 1)) (b := 4) (by decide)
        rw [hm]
        obtain ⟨a, ha⟩ : ∃ a, cellI ns p % (m + 1) = a := ⟨_, rfl⟩
        obtain ⟨b, hb'⟩ : ∃ b, cellI ns (p + 1) % 4 = b := ⟨_, rfl⟩
        rw [ha] at m1 ⊢
        rw [hb'] at m2 ⊢
        have m0 : m + 1 > 0 := by omega
        have hf : P_Lfates [.int (cellI ns (p + 2)), .int 3] = .ok (.str (mkS (fatesI (cellI ns (p + 2)) 3))) := rfl
        have c1 := cut_to l m1.1
        have c2 := cut_to (fatesI (cellI ns (p + 2)) 3) m2.1
        have c3 := cut_from l (k := a + b) (by omega)
        have fl : (fatesI (cellI ns (p + 2)) 3).length = 3 := fatesI_len _ _
        obtain ⟨F, hF⟩ : ∃ F, fatesI (cellI ns (p + 2)) 3 = F := ⟨_, rfl⟩
        rw [hF] at hf c2 fl ⊢
        have hl' : l.length ≤ 100000 := by omega
        have g1 : min a.toNat l.length + min b.toNat F.length ≤ 100000 := by omega
        have g2 : min a.toNat l.length + min b.toNat F.length + (l.length - (a + b).toNat) ≤ 100000 := by omega
        have hFl : F.length ≤ 100000 := by omega
        simp [runF, c_Lchanged, hl', hFl, hm, k0, k1, k2, ha, hb', m0, hf, c1, c2, c3, g1, g2, lim]
      · exact absurd rfl hb
    · exact absurd rfl hb
  · exact absurd rfl hb
theorem ok_Lchanged {P : Program} {w : World} {K : PySem.W.Frag} {mg : Str → Option Value} {base : Heap} {T : Nat → Addr} {f : Addr} {fd : FuncData} (B : Blt mg) (F : Fun K "_law_changed" "_law_changed" s_Lchanged f fd) (C_Lcell : Cal P w K mg base "_law_cell" 1 (spF K T 2 P_Lcell)) (C_Lfates : Cal P w K mg base "_law_fates" 2 (spF K T 2 P_Lfates)) : FnOk P w K mg base (L2N.CX P w) 3 f fd ["_law_script", "_law_place", "_law_text"] (spF K T 3 P_Lchanged) := by
  refine (ok_fn F sc_Lchanged (c_Lchanged K T w mg) fun cdv A outer s H E hr => ?_).imp (spF_le fun ds hl hb => e_Lchanged K T w mg ds hb)
  · have tk : L2N.Takes (cxOf (L2N.CX P w) P w K mg base sc_Lchanged_N "_law_changed" (defScope s_Lchanged) f cdv A outer s H E) (fun cls d _ H => E cls d H) := L2N.takes_of rfl rfl rfl rfl
    have hr1 : Room 1 _ := hr.mono (by decide)
    have hr2 : Room 2 _ := hr.mono (by decide)
    have hu64 := hr.units
    exact (d_seq (d_set (i := 3) sc_Lchanged.nd (d_blt call_len_str B.len_ (by decide +kernel) (d_acons (d_var (i := 2)) d_anil))) (d_seq (d_set (i := 4) sc_Lchanged.nd (d_bin op_mod (d_typ call_int1 B.int_ (by decide +kernel) (d_acons (d_cal C_Lcell tk hr1 (d_acons (d_var (i := 0)) (d_acons (d_var (i := 1)) d_anil))) d_anil)) (d_bin op_add (d_var (i := 3)) d_int))) (d_seq (d_set (i := 5) sc_Lchanged.nd (d_bin op_mod (d_typ call_int1 B.int_ (by decide +kernel) (d_acons (d_cal C_Lcell tk hr1 (d_acons (d_var (i := 0)) (d_acons (d_bin op_add (d_var (i := 1)) d_int) d_anil))) d_anil)) d_int)) (d_seq (d_set (i := 6) sc_Lchanged.nd (d_cal C_Lfates tk hr2 (d_acons (d_cal C_Lcell tk hr1 (d_acons (d_var (i := 0)) (d_acons (d_bin op_add (d_var (i := 1)) d_int) d_anil))) (d_acons d_int d_anil)))) (d_one (d_ret (d_bin op_add_str (d_bin op_add_str (d_slS (d_var (i := 2)) d_none (d_some (d_var (i := 4)))) (d_slS (d_var (i := 6)) d_none (d_some (d_var (i := 5))))) (d_slS (d_var (i := 2)) (d_some (d_bin op_add (d_var (i := 4)) (d_var (i := 5)))) d_none))))))))
/-! ### _law_integer -/
abbrev s_Linteger : Stmt := topS 30
abbrev sc_Linteger_N : List Str := ["_law_actual"]
theorem sc_Linteger : FnScope sc_Linteger_N ["_law_actual"] (defScope s_Linteger) := ⟨rfl, rfl, rfl, by decide +kernel, rfl, by decide +kernel, by decide +kernel⟩
def c_Linteger (K : PySem.W.Frag) (T : Nat → Addr) (w : World) (mg : Str → Option Value) : CS K T := (.ret (.and (.isiB "int" (.var 0)) (.not (.isiB "bool" (.var 0)))))
def P_Linteger : List Dat → Rs Dat
  | [.int _] => .ok (.bl true)
  | _ => .bad
theorem e_Linteger (K : PySem.W.Frag) (T : Nat → Addr) (w : World) (mg : Str → Option Value) : ∀ ds, P_Linteger ds ≠ .bad → runF (c_Linteger K T w mg) sc_Linteger_N.length ds = P_Linteger ds := by
  intro ds hb
  unfold P_Linteger at hb ⊢
  split at hb
  · next k =>
    have h1 : isiB "int" (.int k) = some true := by
      show kitB "int" "int" = some true
      decide +kernel
    have h2 : isiB "bool" (.int k) = some false := by
      show kitB "int" "bool" = some false
      decide +kernel
    simp [runF, c_Linteger, h1, h2]
  · exact absurd rfl hb
theorem ok_Linteger {P : Program} {w : World} {K : PySem.W.Frag} {mg : Str → Option Value} {base : Heap} {T : Nat → Addr} {f : Addr} {fd : FuncData} (B : Blt mg) (F : Fun K "_law_integer" "_law_integer" s_Linteger f fd) : FnOk P w K mg base (L2N.CX P w) 1 f fd ["_law_actual"] (spF K T 1 P_Linteger) := by
  refine (ok_fn F sc_Linteger (c_Linteger K T w mg) fun cdv A outer s H E hr => ?_).imp (spF_le fun ds hl hb => e_Linteger K T w mg ds hb)
  · have tk : L2N.Takes (cxOf (L2N.CX P w) P w K mg base sc_Linteger_N "_law_integer" (defScope s_Linteger) f cdv A outer s H E) (fun cls d _ H => E cls d H) := L2N.takes_of rfl rfl rfl rfl

    have hu64 := hr.units
    exact (d_one (d_ret (d_and (d_isiB B.isinstance_ B.int_ (by decide +kernel) (d_var (i := 0))) (d_oneB (d_not (d_isiB B.isinstance_ B.bool_ (by decide +kernel) (d_var (i := 0))))))))
/-! ### _law_seen -/
abbrev s_Lseen : Stmt := topS 31
abbrev sc_Lseen_N : List Str := ["_law_first", "_law_second", "_law_fates_here", "_law_end", "_law_bits", "_law_news", "_law_last", "_law_k"]
theorem sc_Lseen : FnScope sc_Lseen_N ["_law_first", "_law_second", "_law_fates_here", "_law_end"] (defScope s_Lseen) := ⟨rfl, rfl, rfl, by decide +kernel, rfl, by decide +kernel, by decide +kernel⟩
def b_Lseen_0 (K : PySem.W.Frag) (T : Nat → Addr) (w : World) (mg : Str → Option Value) : CS K T := (.ifs (.test (.op2 oInS (.op2 oIxS (.var 2) (.var 7)) (.var 5))) (.set 6 (.var 7)) .pass)
def c_Lseen (K : PySem.W.Frag) (T : Nat → Addr) (w : World) (mg : Str → Option Value) : CS K T := (.seq (.set 4 (CO.ce (CO.lst (.cons (.var 0) (.cons (.var 1) .nil))))) (.seq (.set 5 (.str "bf")) (.seq (.ifs (.test (.op2 oEq (.var 3) (.str "second"))) (.seq (.set 4 (CO.ce (CO.lst (.cons (.var 1) (.cons (.var 0) .nil))))) (.set 5 (.str "bs"))) .pass) (.seq (.set 6 (.op1 oNeg (.int 1))) (.seq (.forS (CI.range1 (.cons (.opN oLenS (.cons (.var 2) .nil)) .nil)) (CG.name 7) (b_Lseen_0 K T w mg)) (.seq (.ifs (.test (.op2 oLt (.var 6) (.int 0))) (.ret (.tup (.cons (.op2 oIxL (.var 4) (.int 0)) (.cons .non (.cons (.str "") (.cons (.opN oLenS (.cons (.var 2) .nil)) .nil)))))) .pass) (.ret (.tup (.cons (.op2 oIxL (.var 4) (.int 0)) (.cons (.op2 oIxL (.var 4) (.int 1)) (.cons (.slS (.var 2) .none (.some (.var 6))) (.cons (.op2 oSub (.op2 oSub (.opN oLenS (.cons (.var 2) .nil)) (.int 1)) (.var 6)) .nil))))))))))))
theorem enumFr (n : Nat) (i : Nat) (d : Dat) (hd : (rangeD 0 n)[i]? = some d) : i < n ∧ d = .int (i : Nat) := by
  have hi : i < n := by
    have := (List.getElem?_eq_some_iff.mp hd).1
    simpa [rangeD] using this
  unfold rangeD at hd
  rw [List.getElem?_map, List.getElem?_range hi] at hd
  simp only [Option.map_some, Int.zero_add, Option.some.injEq] at hd
  exact ⟨hi, hd.symm⟩
def lastZ (o : Option Nat) : Int := match o with
  | some i => (i : Nat)
  | none => -1
def newsL (e : Str) : List Nat := if e = "first" then [98, 102] else [98, 115]
def P_Lseen : List Dat → Rs Dat
  | [.int a, .int b, .str x, .str e] => if x.length ≤ lim ∧ Fts x.cps.toList ∧ (e = "first" ∨ e = "second") then .ok (viewD a b x.cps.toList e) else .bad
  | _ => .bad
theorem turn_Lseen (K : PySem.W.Frag) (T : Nat → Addr) (w : World) (mg : Str → Option Value) (l : List Nat) (e : Str) (he : e = "first" ∨ e = "second") (hF : Fts l) (hl : l.length ≤ lim) (a b d4 d3 : Cz.Slot) (i : Nat) (hi : i < l.length) : (b_Lseen_0 K T w mg).ev [a, b, .d (.str (mkS l)), d3, d4, .d (.str (mkS (newsL e))), .d (.int (lastZ (lastA l e i))), .d (.int (i : Nat))] = .nx [a, b, .d (.str (mkS l)), d3, d4, .d (.str (mkS (newsL e))), .d (.int (lastZ (lastA l e (i + 1)))), .d (.int (i : Nat))] := by
  obtain ⟨c, hc⟩ : ∃ c, l.getD i 0 = c := ⟨_, rfl⟩
  have ex : ixS (.str (mkS l)) (.int (i : Nat)) = .ok (.str (mkS [c])) := hc ▸ ix_mkS l (k := (i : Nat)) (by omega) (by omega) hl
  have hm : (c ∈ newsL e) ↔ endD c e = true := by
    unfold newsL endD
    rcases he with rfl | rfl
    · simp
    · simp [ends_ne]
  have hL : lastA l e (i + 1) = if endD c e = true then some i else lastA l e i := by
    show (if endD (l.getD i 0) e = true then some i else lastA l e i) = _
    rw [hc]
  by_cases h : endD c e = true
  · have h2 := hm.mpr h
    rw [hL, if_pos h]
    simp [b_Lseen_0, ex, h2, lastZ]
  · have h2 : ¬ c ∈ newsL e := fun z => h (hm.mp z)
    rw [hL, if_neg h]
    simp [b_Lseen_0, ex, h2]
theorem loop_Lseen (K : PySem.W.Frag) (T : Nat → Addr) (w : World) (mg : Str → Option Value) (l : List Nat) (e : Str) (he : e = "first" ∨ e = "second") (hF : Fts l) (hl : l.length ≤ lim) (a b d3 d4 : Cz.Slot) : ∃ o, evFor (CG.name 7 : CG K T).ev (b_Lseen_0 K T w mg).ev (rangeD 0 l.length) [a, b, .d (.str (mkS l)), d3, d4, .d (.str (mkS (newsL e))), .d (.int (-1)), .un] = .nx [a, b, .d (.str (mkS l)), d3, d4, .d (.str (mkS (newsL e))), .d (.int (lastZ (lastA l e l.length))), o] := by
  obtain ⟨Γ', q1, o, q2⟩ := evFor_inv0 (g := (CG.name 7 : CG K T).ev) (b := (b_Lseen_0 K T w mg).ev) (ds := rangeD 0 l.length) (Γ := [a, b, .d (.str (mkS l)), d3, d4, .d (.str (mkS (newsL e))), .d (.int (-1)), .un])
    (fun i Γ => ∃ o, Γ = [a, b, .d (.str (mkS l)), d3, d4, .d (.str (mkS (newsL e))), .d (.int (lastZ (lastA l e i))), o]) ⟨_, rfl⟩ (by
      rintro i d Γ hd ⟨o, rfl⟩
      obtain ⟨hi, rfl⟩ := enumFr _ _ _ hd
      exact ⟨_, _, rfl, .inl (turn_Lseen K T w mg l e he hF hl a b d4 d3 i hi), _, rfl⟩)
  have e0 : (rangeD 0 l.length).length = l.length := by simp [rangeD]
  subst q2
  rw [e0] at q1
  exact ⟨o, q1⟩
theorem e_Lseen (K : PySem.W.Frag) (T : Nat → Addr) (w : World) (mg : Str → Option Value) : ∀ ds, P_Lseen ds ≠ .bad → runF (c_Lseen K T w mg) sc_Lseen_N.length ds = P_Lseen ds := by
  intro ds hb
  unfold P_Lseen at hb ⊢
  split at hb
  · next a b x e =>
    split at hb
    · next h =>
      obtain ⟨l, rfl⟩ : ∃ l, x = mkS l := ⟨_, (mkS_of x).symm⟩
      rw [if_pos h]
      simp only [mkS_list, mkS_len] at h ⊢
      obtain ⟨hl, hF, he⟩ := h
      have hl' : l.length ≤ 100000 := hl
      have L0 : ∀ a b : Dat, ixL (.lst [a, b]) (.int 0) = .ok a := fun _ _ => rfl
      have L1 : ∀ a b : Dat, ixL (.lst [a, b]) (.int 1) = .ok b := fun _ _ => rfl
      obtain ⟨m, hm⟩ : ∃ m : Int, (l.length : Int) = m := ⟨_, rfl⟩
      have hm1 : -4611686018427387904 ≤ m ∧ m < 4611686018427387904 := by unfold lim at hl; omega
      have hm2 : m.toNat = l.length := by omega
      rcases he with rfl | rfl
      · obtain ⟨o, q⟩ := loop_Lseen K T w mg l "first" (.inl rfl) hF hl (.d (.int a)) (.d (.int b)) (.d (.str "first")) (.d (.lst [.int a, .int b]))
        cases hA : lastA l "first" l.length with
        | none =>
          rw [hA] at q
          simp [newsL, lastZ] at q
          simp [runF, c_Lseen, ends_ne, bf_is, hm, hm1, hm2, hl', q, viewD, hA, lim, L0, L1]
        | some i =>
          rw [hA] at q
          have hi := lastA_lt l "first" _ _ hA
          have c1 := cut_to l (k := (i : Nat)) (by omega)
          simp [newsL, lastZ] at q
          have h0 : ¬ ((i : Nat) : Int) < 0 := by omega
          have e1 : m - 1 - (i : Int) = m - (i : Int) - 1 := by omega
          simp [runF, c_Lseen, ends_ne, bf_is, hm, hm1, hm2, hl', q, viewD, hA, lim, L0, L1, c1, h0, int2, e1]
      · obtain ⟨o, q⟩ := loop_Lseen K T w mg l "second" (.inr rfl) hF hl (.d (.int a)) (.d (.int b)) (.d (.str "second")) (.d (.lst [.int b, .int a]))
        cases hA : lastA l "second" l.length with
        | none =>
          rw [hA] at q
          simp [newsL, lastZ, ends_ne] at q
          simp [runF, c_Lseen, ends_ne, bf_is, bs_is, hm, hm1, hm2, hl', q, viewD, hA, lim, L0, L1]
        | some i =>
          rw [hA] at q
          have hi := lastA_lt l "second" _ _ hA
          have c1 := cut_to l (k := (i : Nat)) (by omega)
          simp [newsL, lastZ, ends_ne] at q
          have h0 : ¬ ((i : Nat) : Int) < 0 := by omega
          have e1 : m - 1 - (i : Int) = m - (i : Int) - 1 := by omega
          simp [runF, c_Lseen, ends_ne, bf_is, bs_is, hm, hm1, hm2, hl', q, viewD, hA, lim, L0, L1, c1, h0, int2, e1]
    · exact absurd rfl hb
  · exact absurd rfl hb
theorem Lseen_ok {a b : Int} {l : List Nat} {e : Str} (hl : l.length ≤ lim) (hf : Fts l) (he : e = "first" ∨ e = "second") : P_Lseen [.int a, .int b, .str (mkS l), .str e] = .ok (viewD a b l e) := by
  have e1 : P_Lseen [.int a, .int b, .str (mkS l), .str e] = if (mkS l).length ≤ lim ∧ Fts (mkS l).cps.toList ∧ (e = "first" ∨ e = "second") then .ok (viewD a b (mkS l).cps.toList e) else .bad := rfl
  rw [e1, if_pos ⟨by rw [mkS_len]; exact hl, by rw [mkS_list]; exact hf, he⟩, mkS_list]
theorem ok_Lseen {P : Program} {w : World} {K : PySem.W.Frag} {mg : Str → Option Value} {base : Heap} {T : Nat → Addr} {f : Addr} {fd : FuncData} (B : Blt mg) (F : Fun K "_law_seen" "_law_seen" s_Lseen f fd) : FnOk P w K mg base (L2N.CX P w) 1 f fd ["_law_first", "_law_second", "_law_fates_here", "_law_end"] (spF K T 4 P_Lseen) := by
  refine (ok_fn F sc_Lseen (c_Lseen K T w mg) fun cdv A outer s H E hr => ?_).imp (spF_le fun ds hl hb => e_Lseen K T w mg ds hb)
  · have tk : L2N.Takes (cxOf (L2N.CX P w) P w K mg base sc_Lseen_N "_law_seen" (defScope s_Lseen) f cdv A outer s H E) (fun cls d _ H => E cls d H) := L2N.takes_of rfl rfl rfl rfl

    have hu64 := hr.units
    exact (d_seq (d_set (i := 4) sc_Lseen.nd (d_ce (d_lst (d_acons (d_var (i := 0)) (d_acons (d_var (i := 1)) d_anil))))) (d_seq (d_set (i := 5) sc_Lseen.nd d_str) (d_seq (d_if (d_cmpT op_eq (d_var (i := 3)) d_str (nomark _)) (d_seq (d_set (i := 4) sc_Lseen.nd (d_ce (d_lst (d_acons (d_var (i := 1)) (d_acons (d_var (i := 0)) d_anil))))) (d_one (d_set (i := 5) sc_Lseen.nd d_str))) d_nil) (d_seq (d_set (i := 6) sc_Lseen.nd (d_un un_neg d_int)) (d_seq (d_for (passes_of rfl) (d_range1 B.range_ (d_acons (d_blt call_len_str B.len_ (by decide +kernel) (d_acons (d_var (i := 2)) d_anil)) d_anil)) (d_name (i := 7) sc_Lseen.nd) (d_one (d_if (d_cmpT op_in_sign (d_ix ix_str (d_var (i := 2)) (d_var (i := 7))) (d_var (i := 5)) (by with_unfolding_all rfl)) (d_one (d_set (i := 6) sc_Lseen.nd (d_var (i := 7)))) d_nil))) (d_seq (d_if (d_cmpT op_lt (d_var (i := 6)) d_int (nomark _)) (d_one (d_ret (d_tup (d_acons (d_ix ix_list (d_var (i := 4)) d_int) (d_acons d_non (d_acons d_str (d_acons (d_blt call_len_str B.len_ (by decide +kernel) (d_acons (d_var (i := 2)) d_anil)) d_anil))))))) d_nil) (d_one (d_ret (d_tup (d_acons (d_ix ix_list (d_var (i := 4)) d_int) (d_acons (d_ix ix_list (d_var (i := 4)) d_int) (d_acons (d_slS (d_var (i := 2)) d_none (d_some (d_var (i := 6)))) (d_acons (d_bin op_sub (d_bin op_sub (d_blt call_len_str B.len_ (by decide +kernel) (d_acons (d_var (i := 2)) d_anil)) d_int) (d_var (i := 6))) d_anil)))))))))))))
/-! ### _law_view -/
abbrev s_Lview : Stmt := topS 32
abbrev sc_Lview_N : List Str := ["_law_actual", "_law_expected"]
theorem sc_Lview : FnScope sc_Lview_N ["_law_actual", "_law_expected"] (defScope s_Lview) := ⟨rfl, rfl, rfl, by decide +kernel, rfl, by decide +kernel, by decide +kernel⟩
def c_Lview (K : PySem.W.Frag) (T : Nat → Addr) (w : World) (mg : Str → Option Value) : CS K T := (.seq (.ifs (.or (.not (.b (.isiB "tuple" (.var 0)))) (.test (.op2 oNe (.opN oLenQ (.cons (.var 0) .nil)) (.int 4)))) (.ret (.bl false)) .pass) (.seq (.ifs (.or (.not (.b (.fn 1 P_Linteger (.cons (.op2 oIxT (.var 0) (.int 0)) .nil)))) (.or (.not (.b (.isiB "str" (.op2 oIxT (.var 0) (.int 2))))) (.not (.b (.fn 1 P_Linteger (.cons (.op2 oIxT (.var 0) (.int 3)) .nil)))))) (.ret (.bl false)) .pass) (.seq (.ifs (.and (.test (.op2 oNotN (.op2 oIxT (.var 0) (.int 1)) .non)) (.not (.b (.fn 1 P_Linteger (.cons (.op2 oIxT (.var 0) (.int 1)) .nil))))) (.ret (.bl false)) .pass) (.ret (.op2 oEqD (.var 0) (.var 1))))))
def viewOk : Dat → Bool
  | .tup [.int _, .non, .str _, .int _] => true
  | .tup [.int _, .int _, .str _, .int _] => true
  | _ => false
def P_Lview : List Dat → Rs Dat
  | [v, w] => if viewOk v = true then (eqD v w).bind fun k => .ok (.bl k) else .bad
  | _ => .bad
theorem e_Lview (K : PySem.W.Frag) (T : Nat → Addr) (w : World) (mg : Str → Option Value) : ∀ ds, P_Lview ds ≠ .bad → runF (c_Lview K T w mg) sc_Lview_N.length ds = P_Lview ds := by
  intro ds hb
  have i1 : ∀ x, isiB "tuple" (.tup x) = some true := fun x => by
    show kitB "tuple" "tuple" = some true
    decide +kernel
  have i2 : ∀ x, isiB "str" (.str x) = some true := fun x => by
    show kitB "str" "str" = some true
    decide +kernel
  unfold P_Lview at hb ⊢
  split at hb
  · next v w =>
    split at hb
    · next h =>
      rw [if_pos h]
      unfold viewOk at h
      split at h
      · next a x s =>
        cases hk : eqD (.tup [.int a, .non, .str x, .int s]) w with
        | bad => simp [hk, viewOk] at hb
        | exn c fs => simp [runF, c_Lview, i1, i2, ix4_0, ix4_1, ix4_2, ix4_3, P_Linteger, isN, hk]
        | ok k => simp [runF, c_Lview, i1, i2, ix4_0, ix4_1, ix4_2, ix4_3, P_Linteger, isN, hk]
      · next a b x s =>
        cases hk : eqD (.tup [.int a, .int b, .str x, .int s]) w with
        | bad => simp [hk, viewOk] at hb
        | exn c fs => simp [runF, c_Lview, i1, i2, ix4_0, ix4_1, ix4_2, ix4_3, P_Linteger, isN, hk]
        | ok k => simp [runF, c_Lview, i1, i2, ix4_0, ix4_1, ix4_2, ix4_3, P_Linteger, isN, hk]
      · cases h
    · exact absurd rfl hb
  · exact absurd rfl hb
theorem ok_Lview {P : Program} {w : World} {K : PySem.W.Frag} {mg : Str → Option Value} {base : Heap} {T : Nat → Addr} {f : Addr} {fd : FuncData} (B : Blt mg) (F : Fun K "_law_view" "_law_view" s_Lview f fd) (C_Linteger : Cal P w K mg base "_law_integer" 1 (spF K T 1 P_Linteger)) : FnOk P w K mg base (L2N.CX P w) 2 f fd ["_law_actual", "_law_expected"] (spF K T 2 P_Lview) := by
  refine (ok_fn F sc_Lview (c_Lview K T w mg) fun cdv A outer s H E hr => ?_).imp (spF_le fun ds hl hb => e_Lview K T w mg ds hb)
  · have tk : L2N.Takes (cxOf (L2N.CX P w) P w K mg base sc_Lview_N "_law_view" (defScope s_Lview) f cdv A outer s H E) (fun cls d _ H => E cls d H) := L2N.takes_of rfl rfl rfl rfl
    have hr1 : Room 1 _ := hr.mono (by decide)
    have hu64 := hr.units
    exact (d_seq (d_if (PW.pt (d_orT (d_notT (d_val (d_isiB B.isinstance_ B.tuple_ (by decide +kernel) (d_var (i := 0))))) (d_or1 (d_cmpT op_ne (d_blt call_len_seq B.len_ (by decide +kernel) (d_acons (d_var (i := 0)) d_anil)) d_int (nomark _))))) (d_one (d_ret d_bl)) d_nil) (d_seq (d_if (PW.pt (d_orT (d_notT (d_val (d_cal C_Linteger tk hr1 (d_acons (d_ix ix_tup (d_var (i := 0)) d_int) d_anil)))) (d_orT (d_notT (d_val (d_isiB B.isinstance_ B.str_ (by decide +kernel) (d_ix ix_tup (d_var (i := 0)) d_int)))) (d_or1 (d_notT (d_val (d_cal C_Linteger tk hr1 (d_acons (d_ix ix_tup (d_var (i := 0)) d_int) d_anil)))))))) (d_one (d_ret d_bl)) d_nil) (d_seq (d_if (PW.pt (d_andT (d_cmpT op_notN (d_ix ix_tup (d_var (i := 0)) d_int) d_non (nomark _)) (d_and1 (d_notT (d_val (d_cal C_Linteger tk hr1 (d_acons (d_ix ix_tup (d_var (i := 0)) d_int) d_anil))))))) (d_one (d_ret d_bl)) d_nil) (d_one (d_ret (d_cmp (op_eqD hu64) (d_var (i := 0)) (d_var (i := 1)) (nomark _)))))))
/-! ### _law_heard -/
abbrev s_Lheard : Stmt := topS 33
abbrev sc_Lheard_N : List Str := ["_law_view_here"]
theorem sc_Lheard : FnScope sc_Lheard_N ["_law_view_here"] (defScope s_Lheard) := ⟨rfl, rfl, rfl, by decide +kernel, rfl, by decide +kernel, by decide +kernel⟩
def c_Lheard (K : PySem.W.Frag) (T : Nat → Addr) (w : World) (mg : Str → Option Value) : CS K T := (.seq (.ifs (.test (.op2 oIsN (.op2 oIxT (.var 0) (.int 1)) .non)) (.ret (.int 0)) .pass) (.ret (.op2 oAdd (.opN oLenS (.cons (.op2 oIxT (.var 0) (.int 2)) .nil)) (.int 1))))
def P_Lheard : List Dat → Rs Dat
  | [.tup [_, o, .str x, _]] => if x.length ≤ lim then .ok (.int (heardI o x)) else .bad
  | _ => .bad
theorem e_Lheard (K : PySem.W.Frag) (T : Nat → Addr) (w : World) (mg : Str → Option Value) : ∀ ds, P_Lheard ds ≠ .bad → runF (c_Lheard K T w mg) sc_Lheard_N.length ds = P_Lheard ds := by
  intro ds hb
  unfold P_Lheard at hb ⊢
  split at hb
  · next a o x k =>
    by_cases hl : x.length ≤ lim
    · by_cases h : isN o = true
      · simp [runF, c_Lheard, ix4_1, ix4_2, h, hl, heardI]
      · have h : isN o = false := by simpa using h
        simp [runF, c_Lheard, ix4_1, ix4_2, h, hl, heardI]
    · rw [if_neg hl] at hb
      exact absurd rfl hb
  · exact absurd rfl hb
theorem Lheard_vD (a : Int) (o : Option Int) (l : List Nat) (s : Int) (h : l.length ≤ lim) : P_Lheard [vD a o l s] = .ok (.int (hZ o l)) := heard_vD a o l s h
theorem ok_Lheard {P : Program} {w : World} {K : PySem.W.Frag} {mg : Str → Option Value} {base : Heap} {T : Nat → Addr} {f : Addr} {fd : FuncData} (B : Blt mg) (F : Fun K "_law_heard" "_law_heard" s_Lheard f fd) : FnOk P w K mg base (L2N.CX P w) 1 f fd ["_law_view_here"] (spF K T 1 P_Lheard) := by
  refine (ok_fn F sc_Lheard (c_Lheard K T w mg) fun cdv A outer s H E hr => ?_).imp (spF_le fun ds hl hb => e_Lheard K T w mg ds hb)
  · have tk : L2N.Takes (cxOf (L2N.CX P w) P w K mg base sc_Lheard_N "_law_heard" (defScope s_Lheard) f cdv A outer s H E) (fun cls d _ H => E cls d H) := L2N.takes_of rfl rfl rfl rfl

    have hu64 := hr.units
    exact (d_seq (d_if (d_cmpT op_isN (d_ix ix_tup (d_var (i := 0)) d_int) d_non (nomark _)) (d_one (d_ret d_int)) d_nil) (d_one (d_ret (d_bin op_add (d_blt call_len_str B.len_ (by decide +kernel) (d_acons (d_ix ix_tup (d_var (i := 0)) d_int) d_anil)) d_int))))
/-! ### _law_joined -/
abbrev s_Ljoined : Stmt := topS 34
abbrev sc_Ljoined_N : List Str := ["_law_one", "_law_two", "_law_many", "_law_text"]
theorem sc_Ljoined : FnScope sc_Ljoined_N ["_law_one", "_law_two"] (defScope s_Ljoined) := ⟨rfl, rfl, rfl, by decide +kernel, rfl, by decide +kernel, by decide +kernel⟩
def t_Ljoined_0 (K : PySem.W.Frag) (T : Nat → Addr) (w : World) (mg : Str → Option Value) : CS K T := (.set 2 (.op2 oAdd (.fn 1 P_Lheard (.cons (.var 0) .nil)) (.op2 oIxT (.var 0) (.int 3))))
def t_Ljoined_1 (K : PySem.W.Frag) (T : Nat → Addr) (w : World) (mg : Str → Option Value) : CS K T := (.ifs (.test (.op2 oNe (.var 2) (.op2 oAdd (.fn 1 P_Lheard (.cons (.var 1) .nil)) (.op2 oIxT (.var 1) (.int 3))))) (.ret .non) .pass)
def t_Ljoined_2 (K : PySem.W.Frag) (T : Nat → Addr) (w : World) (mg : Str → Option Value) : CS K T := (.set 3 (.str ""))
def t_Ljoined_3 (K : PySem.W.Frag) (T : Nat → Addr) (w : World) (mg : Str → Option Value) : CS K T := (.ifs (.test (.op2 oGt (.fn 1 P_Lheard (.cons (.var 0) .nil)) (.fn 1 P_Lheard (.cons (.var 1) .nil)))) (.set 3 (.op2 oAddS (.op2 oIxT (.var 0) (.int 2)) (.str "f"))) .pass)
def t_Ljoined_4 (K : PySem.W.Frag) (T : Nat → Addr) (w : World) (mg : Str → Option Value) : CS K T := (.ifs (.test (.op2 oLt (.fn 1 P_Lheard (.cons (.var 0) .nil)) (.fn 1 P_Lheard (.cons (.var 1) .nil)))) (.set 3 (.op2 oAddS (.op2 oIxT (.var 1) (.int 2)) (.str "s"))) .pass)
def t_Ljoined_5 (K : PySem.W.Frag) (T : Nat → Addr) (w : World) (mg : Str → Option Value) : CS K T := (.ifs (.and (.test (.op2 oEq (.fn 1 P_Lheard (.cons (.var 0) .nil)) (.fn 1 P_Lheard (.cons (.var 1) .nil)))) (.test (.op2 oGt (.fn 1 P_Lheard (.cons (.var 0) .nil)) (.int 0)))) (.set 3 (.op2 oAddS (.op2 oIxT (.var 0) (.int 2)) (.str "b"))) .pass)
def t_Ljoined_6 (K : PySem.W.Frag) (T : Nat → Addr) (w : World) (mg : Str → Option Value) : CS K T := (.set 3 (.op2 oAddS (.var 3) (.op2 oMulS (.str "n") (.op2 oSub (.var 2) (.opN oLenS (.cons (.var 3) .nil))))))
def t_Ljoined_7 (K : PySem.W.Frag) (T : Nat → Addr) (w : World) (mg : Str → Option Value) : CS K T := (.ifs (.or (.test (.op2 oNeD (.fn 4 P_Lseen (.cons (.op2 oIxT (.var 0) (.int 0)) (.cons (.op2 oIxT (.var 1) (.int 0)) (.cons (.var 3) (.cons (.str "first") .nil))))) (.var 0))) (.test (.op2 oNeD (.fn 4 P_Lseen (.cons (.op2 oIxT (.var 0) (.int 0)) (.cons (.op2 oIxT (.var 1) (.int 0)) (.cons (.var 3) (.cons (.str "second") .nil))))) (.var 1)))) (.ret .non) .pass)
def t_Ljoined_8 (K : PySem.W.Frag) (T : Nat → Addr) (w : World) (mg : Str → Option Value) : CS K T := (.ret (.var 3))
def c_Ljoined (K : PySem.W.Frag) (T : Nat → Addr) (w : World) (mg : Str → Option Value) : CS K T := (.seq (t_Ljoined_0 K T w mg) (.seq (t_Ljoined_1 K T w mg) (.seq (t_Ljoined_2 K T w mg) (.seq (t_Ljoined_3 K T w mg) (.seq (t_Ljoined_4 K T w mg) (.seq (t_Ljoined_5 K T w mg) (.seq (t_Ljoined_6 K T w mg) (.seq (t_Ljoined_7 K T w mg) (t_Ljoined_8 K T w mg)))))))))
def P_Ljoined : List Dat → Rs Dat
  | [d1, d2] => match asV d1, asV d2 with
    | some (a1, o1, l1, s1), some (a2, o2, l2, s2) => if goodV a1 l1 s1 ∧ goodV a2 l2 s2 then
        (if hZ o1 l1 + s1 = hZ o2 l2 + s2 then (if fitV d1 d2 a1 a2 (joinL o1 l1 s1 o2 l2 s2) = true then .ok (.str (mkS (joinL o1 l1 s1 o2 l2 s2))) else .ok .non) else .ok .non) else .bad
    | _, _ => .bad
  | _ => .bad
theorem e_Ljoined (K : PySem.W.Frag) (T : Nat → Addr) (w : World) (mg : Str → Option Value) : ∀ ds, P_Ljoined ds ≠ .bad → runF (c_Ljoined K T w mg) sc_Ljoined_N.length ds = P_Ljoined ds := by
  intro ds hb
  unfold P_Ljoined at hb ⊢
  split at hb
  · next d1 d2 =>
    split at hb
    · next a1 o1 l1 s1 a2 o2 l2 s2 e1 e2 =>
      split at hb
      · next hc =>
        simp only [e1, e2, hc, and_self, if_true]
        obtain ⟨⟨b1, f1, c1⟩, ⟨b2, f2, c2⟩⟩ := hc
        have jf := joinL_fts (o1 := o1) (s1 := s1) (o2 := o2) (s2 := s2) f1 f2
        have jl : (joinL o1 l1 s1 o2 l2 s2).length ≤ lim := Nat.le_trans (joinL_len o1 l1 s1 o2 l2 s2 c1 c2) (by unfold lim; omega)
        rw [asV_eq e1, asV_eq e2]
        unfold smallV at c1 c2
        have h3 := Lheard_vD a1 o1 l1 s1 (by unfold lim; omega)
        have h4 := Lheard_vD a2 o2 l2 s2 (by unfold lim; omega)
        have i10 := ixv_0 a1 o1 l1 s1
        have i20 := ixv_0 a2 o2 l2 s2
        have i12 := ixv_2 a1 o1 l1 s1
        have i13 := ixv_3 a1 o1 l1 s1
        have i22 := ixv_2 a2 o2 l2 s2
        have i23 := ixv_3 a2 o2 l2 s2
        have q1 := eqD_view (a := a1) (b := a2) (e := "first") (a' := a1) (o' := o1) (s' := s1) jf f1
        have q2 := eqD_view (a := a1) (b := a2) (e := "second") (a' := a2) (o' := o2) (s' := s2) jf f2
        have z1 : hZ o1 l1 = 0 ∨ hZ o1 l1 = l1.length + 1 := by cases o1 with | none => exact .inl rfl | some b => exact .inr rfl
        have z2 : hZ o2 l2 = 0 ∨ hZ o2 l2 = l2.length + 1 := by cases o2 with | none => exact .inl rfl | some b => exact .inr rfl
        have n1 : P_Lseen [.int a1, .int a2, .str (mkS (joinL o1 l1 s1 o2 l2 s2)), .str "first"] = .ok (viewD a1 a2 (joinL o1 l1 s1 o2 l2 s2) "first") := Lseen_ok jl jf (.inl rfl)
        have n2 : P_Lseen [.int a1, .int a2, .str (mkS (joinL o1 l1 s1 o2 l2 s2)), .str "second"] = .ok (viewD a1 a2 (joinL o1 l1 s1 o2 l2 s2) "second") := Lseen_ok jl jf (.inr rfl)
        obtain ⟨j, hj'⟩ : ∃ j, joinL o1 l1 s1 o2 l2 s2 = j := ⟨_, rfl⟩
        rw [hj'] at jf jl q1 q2 n1 n2 ⊢
        unfold joinL at hj'
        unfold fitV
        obtain ⟨v1, hv1⟩ : ∃ v, vD a1 o1 l1 s1 = v := ⟨_, rfl⟩
        obtain ⟨v2, hv2⟩ : ∃ v, vD a2 o2 l2 s2 = v := ⟨_, rfl⟩
        rw [hv1] at h3 i10 i12 i13 q1 ⊢
        rw [hv2] at h4 i20 i22 i23 q2 ⊢
        obtain ⟨w1, hw1⟩ : ∃ w, viewD a1 a2 j "first" = w := ⟨_, rfl⟩
        obtain ⟨w2, hw2⟩ : ∃ w, viewD a1 a2 j "second" = w := ⟨_, rfl⟩
        rw [hw1] at q1 n1 ⊢
        rw [hw2] at q2 n2 ⊢
        obtain ⟨H1, hH1⟩ : ∃ H, hZ o1 l1 = H := ⟨_, rfl⟩
        obtain ⟨H2, hH2⟩ : ∃ H, hZ o2 l2 = H := ⟨_, rfl⟩
        rw [hH1] at h3 z1 hj' ⊢
        rw [hH2] at h4 z2 hj' ⊢
        clear hH1 hH2 hv1 hv2 hw1 hw2 e1 e2
        have d1 : l1.length + 1 ≤ 100000 := by omega
        have d2 : l2.length + 1 ≤ 100000 := by omega
        obtain ⟨m, hm⟩ : ∃ m, H1 + s1 = m := ⟨_, rfl⟩
        have es : [v1, v2].map Slot.d ++ List.replicate (sc_Ljoined_N.length - [v1, v2].length) Slot.un = [.d v1, .d v2, .un, .un] := rfl
        unfold runF
        rw [es]
        have t0 : (t_Ljoined_0 K T w mg).ev [.d v1, .d v2, .un, .un] = .nx [.d v1, .d v2, .d (.int m), .un] := by simp [t_Ljoined_0, h3, i13, hm]
        by_cases g : m = H2 + s2
        · have t1 : (t_Ljoined_1 K T w mg).ev [.d v1, .d v2, .d (.int m), .un] = .nx [.d v1, .d v2, .d (.int m), .un] := by simp [t_Ljoined_1, h4, i23, g]
          have t2 : (t_Ljoined_2 K T w mg).ev [.d v1, .d v2, .d (.int m), .un] = .nx [.d v1, .d v2, .d (.int m), .d (.str (mkS []))] := by simp [t_Ljoined_2, empty_is]
          have t3 : (t_Ljoined_3 K T w mg).ev [.d v1, .d v2, .d (.int m), .d (.str (mkS []))] = .nx [.d v1, .d v2, .d (.int m), .d (.str (mkS (if H2 < H1 then l1 ++ [102] else [])))] := by
            by_cases q : H2 < H1 <;> simp [t_Ljoined_3, h3, h4, i12, q, int2, f_is, d1, lim]
          obtain ⟨T3, hT3⟩ : ∃ T, (if H2 < H1 then l1 ++ [102] else []) = T := ⟨_, rfl⟩
          have t4 : (t_Ljoined_4 K T w mg).ev [.d v1, .d v2, .d (.int m), .d (.str (mkS T3))] = .nx [.d v1, .d v2, .d (.int m), .d (.str (mkS (if H1 < H2 then l2 ++ [115] else T3)))] := by
            by_cases q : H1 < H2 <;> simp [t_Ljoined_4, h3, h4, i22, q, int2, s_is, d2, lim]
          obtain ⟨T4, hT4⟩ : ∃ T, (if H1 < H2 then l2 ++ [115] else T3) = T := ⟨_, rfl⟩
          have t5 : (t_Ljoined_5 K T w mg).ev [.d v1, .d v2, .d (.int m), .d (.str (mkS T4))] = .nx [.d v1, .d v2, .d (.int m), .d (.str (mkS (if H1 = H2 ∧ 0 < H1 then l1 ++ [98] else T4)))] := by
            by_cases q : H1 = H2
            · by_cases q2 : 0 < H1
              · subst q
                simp [t_Ljoined_5, h3, h4, i12, q2, int2, b_is, d1, lim]
              · subst q
                simp [t_Ljoined_5, h3, h4, i12, q2, int2, b_is, d1, lim]
            · simp [t_Ljoined_5, h3, h4, i12, q, int2]
          obtain ⟨T5, hT5⟩ : ∃ T, (if H1 = H2 ∧ 0 < H1 then l1 ++ [98] else T4) = T := ⟨_, rfl⟩
          rw [hT3] at t3
          rw [hT4] at t4
          rw [hT5] at t5
          have big : T5.length ≤ 1001 ∧ 0 ≤ m - (T5.length : Nat) ∧ m - (T5.length : Nat) ≤ 1000 ∧ T5 ++ List.replicate (m - (T5.length : Nat)).toNat 110 = j := by
            rw [← hj', ← hT5, ← hT4, ← hT3]
            by_cases q0 : H1 = 0 ∧ H2 = 0
            · obtain ⟨rfl, rfl⟩ := q0
              have : m = s1 := by omega
              simp [this]
              omega
            · rw [if_neg q0]
              by_cases q1 : H2 < H1
              · have q2 : ¬ H1 < H2 := by omega
                have q3 : ¬ (H1 = H2 ∧ 0 < H1) := by omega
                have e : m - ((l1 ++ [102]).length : Nat) = s1 := by rw [List.length_append]; simp; omega
                rw [if_pos q1, if_neg q3, if_neg q2, if_pos q1, e, List.length_append, List.append_assoc]
                simp
                omega
              · by_cases q2 : H1 < H2
                · have q3 : ¬ (H1 = H2 ∧ 0 < H1) := by omega
                  have e : m - ((l2 ++ [115]).length : Nat) = s2 := by rw [List.length_append]; simp; omega
                  rw [if_neg q1, if_neg q3, if_pos q2, if_pos q2, e, List.length_append, List.append_assoc]
                  simp
                  omega
                · have q3 : H1 = H2 ∧ 0 < H1 := by omega
                  have e : m - ((l1 ++ [98]).length : Nat) = s1 := by rw [List.length_append]; simp; omega
                  rw [if_neg q1, if_pos q3, if_neg q2, e, List.length_append, List.append_assoc]
                  simp
                  omega
          obtain ⟨b1', b2', b3', b4'⟩ := big
          obtain ⟨u, hu⟩ : ∃ u : Int, (T5.length : Int) = u := ⟨_, rfl⟩
          rw [hu] at b2' b3' b4'
          have r1 := rep_n (K := K) (T := T) (k := m - u) (by omega)
          have d3 : T5.length ≤ 100000 := by omega
          have d4 : T5.length + (m - u).toNat ≤ 100000 := by omega
          have t6 : (t_Ljoined_6 K T w mg).ev [.d v1, .d v2, .d (.int m), .d (.str (mkS T5))] = .nx [.d v1, .d v2, .d (.int m), .d (.str (mkS j))] := by
            rw [← b4']
            simp [t_Ljoined_6, d3, d4, hu, r1, lim]
          cases k1 : eqV w1 v1 with
          | false =>
            rw [k1] at q1
            have t7 : (t_Ljoined_7 K T w mg).ev [.d v1, .d v2, .d (.int m), .d (.str (mkS j))] = .rt .non := by simp [t_Ljoined_7, i10, i20, n1, q1]
            simp only [c_Ljoined, ev_CS_seq, t0, t1, t2, t3, t4, t5, t6, t7]
            simp [g]
          | true =>
            rw [k1] at q1
            cases k2 : eqV w2 v2 with
            | false =>
              rw [k2] at q2
              have t7 : (t_Ljoined_7 K T w mg).ev [.d v1, .d v2, .d (.int m), .d (.str (mkS j))] = .rt .non := by simp [t_Ljoined_7, i10, i20, n1, n2, q1, q2]
              simp only [c_Ljoined, ev_CS_seq, t0, t1, t2, t3, t4, t5, t6, t7]
              simp [g]
            | true =>
              rw [k2] at q2
              have t7 : (t_Ljoined_7 K T w mg).ev [.d v1, .d v2, .d (.int m), .d (.str (mkS j))] = .nx [.d v1, .d v2, .d (.int m), .d (.str (mkS j))] := by simp [t_Ljoined_7, i10, i20, n1, n2, q1, q2]
              have t8 : (t_Ljoined_8 K T w mg).ev [.d v1, .d v2, .d (.int m), .d (.str (mkS j))] = .rt (.str (mkS j)) := by simp [t_Ljoined_8]
              simp only [c_Ljoined, ev_CS_seq, t0, t1, t2, t3, t4, t5, t6, t7, t8]
              simp [hm.trans g]
        · have t1 : (t_Ljoined_1 K T w mg).ev [.d v1, .d v2, .d (.int m), .un] = .rt .non := by simp [t_Ljoined_1, h4, i23, g]
          simp only [c_Ljoined, ev_CS_seq, t0, t1]
          simp [hm, g]
      · exact absurd rfl hb
    · exact absurd rfl hb
  · exact absurd rfl hb
theorem ok_Ljoined {P : Program} {w : World} {K : PySem.W.Frag} {mg : Str → Option Value} {base : Heap} {T : Nat → Addr} {f : Addr} {fd : FuncData} (B : Blt mg) (F : Fun K "_law_joined" "_law_joined" s_Ljoined f fd) (C_Lheard : Cal P w K mg base "_law_heard" 1 (spF K T 1 P_Lheard)) (C_Lseen : Cal P w K mg base "_law_seen" 1 (spF K T 4 P_Lseen)) : FnOk P w K mg base (L2N.CX P w) 2 f fd ["_law_one", "_law_two"] (spF K T 2 P_Ljoined) := by
  refine (ok_fn F sc_Ljoined (c_Ljoined K T w mg) fun cdv A outer s H E hr => ?_).imp (spF_le fun ds hl hb => e_Ljoined K T w mg ds hb)
  · have tk : L2N.Takes (cxOf (L2N.CX P w) P w K mg base sc_Ljoined_N "_law_joined" (defScope s_Ljoined) f cdv A outer s H E) (fun cls d _ H => E cls d H) := L2N.takes_of rfl rfl rfl rfl
    have hr1 : Room 1 _ := hr.mono (by decide)
    have hu64 := hr.units
    exact (d_seq (d_set (i := 2) sc_Ljoined.nd (d_bin op_add (d_cal C_Lheard tk hr1 (d_acons (d_var (i := 0)) d_anil)) (d_ix ix_tup (d_var (i := 0)) d_int))) (d_seq (d_if (d_cmpT op_ne (d_var (i := 2)) (d_bin op_add (d_cal C_Lheard tk hr1 (d_acons (d_var (i := 1)) d_anil)) (d_ix ix_tup (d_var (i := 1)) d_int)) (nomark _)) (d_one (d_ret d_non)) d_nil) (d_seq (d_set (i := 3) sc_Ljoined.nd d_str) (d_seq (d_if (d_cmpT op_gt (d_cal C_Lheard tk hr1 (d_acons (d_var (i := 0)) d_anil)) (d_cal C_Lheard tk hr1 (d_acons (d_var (i := 1)) d_anil)) (nomark _)) (d_one (d_set (i := 3) sc_Ljoined.nd (d_bin op_add_str (d_ix ix_tup (d_var (i := 0)) d_int) d_str))) d_nil) (d_seq (d_if (d_cmpT op_lt (d_cal C_Lheard tk hr1 (d_acons (d_var (i := 0)) d_anil)) (d_cal C_Lheard tk hr1 (d_acons (d_var (i := 1)) d_anil)) (nomark _)) (d_one (d_set (i := 3) sc_Ljoined.nd (d_bin op_add_str (d_ix ix_tup (d_var (i := 1)) d_int) d_str))) d_nil) (d_seq (d_if (PW.pt (d_andT (d_cmpT op_eq (d_cal C_Lheard tk hr1 (d_acons (d_var (i := 0)) d_anil)) (d_cal C_Lheard tk hr1 (d_acons (d_var (i := 1)) d_anil)) (nomark _)) (d_and1 (d_cmpT op_gt (d_cal C_Lheard tk hr1 (d_acons (d_var (i := 0)) d_anil)) d_int (nomark _))))) (d_one (d_set (i := 3) sc_Ljoined.nd (d_bin op_add_str (d_ix ix_tup (d_var (i := 0)) d_int) d_str))) d_nil) (d_seq (d_set (i := 3) sc_Ljoined.nd (d_bin op_add_str (d_var (i := 3)) (d_bin op_mul_str d_str (d_bin op_sub (d_var (i := 2)) (d_blt call_len_str B.len_ (by decide +kernel) (d_acons (d_var (i := 3)) d_anil)))))) (d_seq (d_if (PW.pt (d_orT (d_cmpT (op_neD hu64) (d_cal C_Lseen tk hr1 (d_acons (d_ix ix_tup (d_var (i := 0)) d_int) (d_acons (d_ix ix_tup (d_var (i := 1)) d_int) (d_acons (d_var (i := 3)) (d_acons d_str d_anil))))) (d_var (i := 0)) (nomark _)) (d_or1 (d_cmpT (op_neD hu64) (d_cal C_Lseen tk hr1 (d_acons (d_ix ix_tup (d_var (i := 0)) d_int) (d_acons (d_ix ix_tup (d_var (i := 1)) d_int) (d_acons (d_var (i := 3)) (d_acons d_str d_anil))))) (d_var (i := 1)) (nomark _))))) (d_one (d_ret d_non)) d_nil) (d_one (d_ret (d_var (i := 3))))))))))))
/-! ### _law_grown -/
abbrev s_Lgrown : Stmt := topS 35
abbrev sc_Lgrown_N : List Str := ["_law_end", "_law_view_here", "_law_letter", "_law_grown_here", "e"]
theorem sc_Lgrown : FnScope sc_Lgrown_N ["_law_end", "_law_view_here", "_law_letter"] (defScope s_Lgrown) := ⟨rfl, rfl, rfl, by decide +kernel, rfl, by decide +kernel, by decide +kernel⟩
def y_Lgrown_0 (K : PySem.W.Frag) (T : Nat → Addr) (w : World) (mg : Str → Option Value) (fc : Fc K T mg) : CS K T := (.set 3 (.fn 3 P_grow (.cons (.var 0) (.cons (.var 1) (.cons (.var 2) .nil)))))
def u_Lgrown_0 (K : PySem.W.Frag) (T : Nat → Addr) (w : World) (mg : Str → Option Value) (fc : Fc K T mg) (a_ : Addr) (d_ : Option Addr) (c_ : Nat) : CS K T := (.ret (.tup (.cons (.str "end") (.cons (.exf a_ d_ c_ 4 2 "end") .nil))))
def v_Lgrown_0 (K : PySem.W.Frag) (T : Nat → Addr) (w : World) (mg : Str → Option Value) (fc : Fc K T mg) : Nat → List (Str × Dat) → Gam → SRes := fun c fs Γ => wrapX 4 ((u_Lgrown_0 K T w mg fc 0 none c).ev (Γ.set 4 (.ex 0 none c fs)))
theorem hv_Lgrown_0 (K : PySem.W.Frag) (T : Nat → Addr) (w : World) (mg : Str → Option Value) (fc : Fc K T mg) : ∀ a d c fs Γ, wrapX 4 ((u_Lgrown_0 K T w mg fc a d c).ev (Γ.set 4 (.ex a d c fs))) = v_Lgrown_0 K T w mg fc c fs Γ := by
  intro a d c fs Γ
  unfold v_Lgrown_0 u_Lgrown_0
  by_cases h : 4 < Γ.length <;> simp [-ev_CS_seq, ev_CS_seqT, List.getElem?_set, h]
def u_Lgrown_1 (K : PySem.W.Frag) (T : Nat → Addr) (w : World) (mg : Str → Option Value) (fc : Fc K T mg) (a_ : Addr) (d_ : Option Addr) (c_ : Nat) : CS K T := (.ret (.tup (.cons (.str "unmatched") (.cons .non .nil))))
def v_Lgrown_1 (K : PySem.W.Frag) (T : Nat → Addr) (w : World) (mg : Str → Option Value) (fc : Fc K T mg) : Nat → List (Str × Dat) → Gam → SRes := fun c fs Γ => wrapN ((u_Lgrown_1 K T w mg fc 0 none c).ev Γ)
theorem hv_Lgrown_1 (K : PySem.W.Frag) (T : Nat → Addr) (w : World) (mg : Str → Option Value) (fc : Fc K T mg) : ∀ a d c fs Γ, wrapN ((u_Lgrown_1 K T w mg fc a d c).ev Γ) = v_Lgrown_1 K T w mg fc c fs Γ := fun a d c fs Γ => rfl
def c_Lgrown (K : PySem.W.Frag) (T : Nat → Addr) (w : World) (mg : Str → Option Value) (fc : Fc K T mg) : CS K T := (.seq (.tryN [⟨2, some 4, sb_InvalidEnd, fc.mInvalidEnd, (u_Lgrown_0 K T w mg fc), (v_Lgrown_0 K T w mg fc), (hv_Lgrown_0 K T w mg fc)⟩, ⟨4, none, sb_Unmatched, fc.mUnmatched, (u_Lgrown_1 K T w mg fc), (v_Lgrown_1 K T w mg fc), (hv_Lgrown_1 K T w mg fc)⟩] (y_Lgrown_0 K T w mg fc)) (.ret (.tup (.cons (.str "view") (.cons (.var 3) .nil)))))
def unT : Dat := .tup [.str "unmatched", .non]
def enT (x : Str) : Dat := .tup [.str "end", .str x]
def vwT (v : Dat) : Dat := .tup [.str "view", v]
def grownR : Rs Dat → Rs Dat
  | .ok v => .ok (vwT v)
  | .exn c [] => if c = 4 then .ok unT else .bad
  | .exn c [(f, .str x)] => if c = 2 ∧ f = "end" then .ok (enT x) else .bad
  | _ => .bad
def P_Lgrown : List Dat → Rs Dat
  | [.str e, d, m] => grownR (P_grow [.str e, d, m])
  | _ => .bad
theorem e_Lgrown (K : PySem.W.Frag) (T : Nat → Addr) (w : World) (mg : Str → Option Value) (fc : Fc K T mg) : ∀ ds, P_Lgrown ds ≠ .bad → runF (c_Lgrown K T w mg fc) sc_Lgrown_N.length ds = P_Lgrown ds := by
  intro ds hb
  unfold P_Lgrown at hb ⊢
  split at hb
  · next e d m =>
    cases h : P_grow [.str e, d, m] with
    | bad => rw [h] at hb; exact absurd rfl hb
    | ok v => simp [runF, c_Lgrown, y_Lgrown_0, h, grownR, vwT, lim]
    | exn c fs =>
      rw [h] at hb
      unfold grownR at hb
      split at hb
      · next he => cases he
      · next c2 he =>
        cases he
        split at hb
        · next hc =>
          subst hc
          simp [runF, c_Lgrown, y_Lgrown_0, v_Lgrown_0, u_Lgrown_0, v_Lgrown_1, u_Lgrown_1, wrapN, h, grownR, unT, lim, sb_Unmatched, sb_InvalidEnd]
        · exact absurd rfl hb
      · next c2 f x he =>
        cases he
        split at hb
        · next hc =>
          obtain ⟨rfl, rfl⟩ := hc
          simp [runF, c_Lgrown, y_Lgrown_0, v_Lgrown_0, u_Lgrown_0, v_Lgrown_1, u_Lgrown_1, wrapN, h, grownR, enT, lim, sb_Unmatched, sb_InvalidEnd]
        · exact absurd rfl hb
      · exact absurd rfl hb
  · exact absurd rfl hb
theorem ok_Lgrown {P : Program} {w : World} {K : PySem.W.Frag} {mg : Str → Option Value} {base : Heap} {T : Nat → Addr} {f : Addr} {fd : FuncData} (B : Blt mg) (fc : Fc K T mg) (F : Fun K "_law_grown" "_law_grown" s_Lgrown f fd) (C_grow : Cal P w K mg base "grow" 8 (spF K T 3 P_grow)) : FnOk P w K mg base (L2N.CX P w) 9 f fd ["_law_end", "_law_view_here", "_law_letter"] (spF K T 3 P_Lgrown) := by
  refine (ok_fn F sc_Lgrown (c_Lgrown K T w mg fc) fun cdv A outer s H E hr => ?_).imp (spF_le fun ds hl hb => e_Lgrown K T w mg fc ds hb)
  · have tk : L2N.Takes (cxOf (L2N.CX P w) P w K mg base sc_Lgrown_N "_law_grown" (defScope s_Lgrown) f cdv A outer s H E) (fun cls d _ H => E cls d H) := L2N.takes_of rfl rfl rfl rfl
    have hr8 : Room 8 _ := hr.mono (by decide)
    have hu64 := hr.units
    exact (d_seq (d_tryN rfl tk sc_Lgrown.nd (fun W_ pn_ xe_ tk' pw => (d_one (d_set (i := 3) sc_Lgrown.nd (d_cal C_grow tk' hr8 (d_acons (d_var (i := 0)) (d_acons (d_var (i := 1)) (d_acons (d_var (i := 2)) d_anil))))))) (d_ncons fc.gInvalidEnd (fun a_ oe_ d_ c_ pn_ hz hf => (d_one (d_ret (d_tup (d_acons d_str (d_acons (d_exf rfl fc.xInvalidEnd fc.nInvalidEnd_end hz hf) d_anil)))))) (d_nconsN fc.gUnmatched (fun a_ oe_ d_ c_ pn_ hz hf => (d_one (d_ret (d_tup (d_acons d_str (d_acons d_non d_anil)))))) d_nnil))) (d_one (d_ret (d_tup (d_acons d_str (d_acons (d_var (i := 3)) d_anil))))))
end My

set_option Elab.async false
set_option linter.all false
set_option maxRecDepth 100000
set_option maxHeartbeats 4000000
namespace My
open PySem L2 Evl PySem.Spec PyProof.Rows Cz
/-! ### law -/
abbrev s_law : Stmt := topS 36
abbrev sc_law_N : List Str := ["_law_script", "_law_bits", "_law_text", "_law_changed_here", "_law_others", "_law_wrong", "_law_k", "_law_end", "_law_mine", "_law_theirs", "_law_fate", "_law_letter", "_law_answer", "_law_joined_here", "_law_odd", "_law_pair"]
theorem sc_law : FnScope sc_law_N ["_law_script"] (defScope s_law) := ⟨rfl, rfl, rfl, by decide +kernel, rfl, by decide +kernel, by decide +kernel⟩
def t_law_0 (K : PySem.W.Frag) (T : Nat → Addr) (w : World) (mg : Str → Option Value) : CS K T := (.set 1 (.fn 3 P_Ldraws (.cons (.fn 2 P_Lcell (.cons (.var 0) (.cons (.int 0) .nil))) (.cons (.int 4) (.cons (.int 2) .nil)))))
def t_law_1 (K : PySem.W.Frag) (T : Nat → Addr) (w : World) (mg : Str → Option Value) : CS K T := (.set 2 (.fn 2 P_Lfates (.cons (.fn 2 P_Lcell (.cons (.var 0) (.cons (.int 2) .nil))) (.cons (.op2 oMod (.opN oInt (.cons (.fn 2 P_Lcell (.cons (.var 0) (.cons (.int 1) .nil))) .nil)) (.int 41)) .nil))))
def t_law_2 (K : PySem.W.Frag) (T : Nat → Addr) (w : World) (mg : Str → Option Value) : CS K T := (.set 3 (.fn 3 P_Lchanged (.cons (.var 0) (.cons (.int 3) (.cons (.var 2) .nil)))))
def t_law_3 (K : PySem.W.Frag) (T : Nat → Addr) (w : World) (mg : Str → Option Value) : CS K T := (.set 4 (CO.ce (CO.slL (.var 1) .none (.some (.int 2)))))
def t_law_4 (K : PySem.W.Frag) (T : Nat → Addr) (w : World) (mg : Str → Option Value) : CS K T := (.ifs (.test (.op2 oEq (.op2 oMod (.opN oInt (.cons (.fn 2 P_Lcell (.cons (.var 0) (.cons (.int 6) .nil))) .nil)) (.int 3)) (.int 1))) (.set 4 (CO.ce (CO.slL (.var 1) (.some (.int 2)) .none))) .pass)
def t_law_5 (K : PySem.W.Frag) (T : Nat → Addr) (w : World) (mg : Str → Option Value) : CS K T := (.set 5 (.op2 oIxL (CO.ce (CO.lst (.cons (.str "") (.cons (.str "First") (.cons (.str "third") (.cons (.str "second ") (.cons (.str "fi") (.cons (.str "n") .nil)))))))) (.op2 oMod (.opN oInt (.cons (.fn 2 P_Lcell (.cons (.var 0) (.cons (.int 7) .nil))) .nil)) (.int 6))))
def q_law_0 (K : PySem.W.Frag) (T : Nat → Addr) (w : World) (mg : Str → Option Value) : CS K T := (.set 7 (.op2 oIxL (CO.ce (CO.lst (.cons (.str "first") (.cons (.str "second") .nil)))) (.var 6)))
def q_law_1 (K : PySem.W.Frag) (T : Nat → Addr) (w : World) (mg : Str → Option Value) : CS K T := (.set 8 (.fn 4 P_Lseen (.cons (.op2 oIxL (.var 1) (.int 0)) (.cons (.op2 oIxL (.var 1) (.int 1)) (.cons (.var 2) (.cons (.var 7) .nil))))))
def q_law_2 (K : PySem.W.Frag) (T : Nat → Addr) (w : World) (mg : Str → Option Value) : CS K T := (.set 9 (.fn 4 P_Lseen (.cons (.op2 oIxL (.var 1) (.int 0)) (.cons (.op2 oIxL (.var 1) (.int 1)) (.cons (.var 2) (.cons (.op2 oIxL (CO.ce (CO.lst (.cons (.str "second") (.cons (.str "first") .nil)))) (.var 6)) .nil))))))
def b_law_0 (K : PySem.W.Frag) (T : Nat → Addr) (w : World) (mg : Str → Option Value) : CS K T := (.seq (.set 11 .non) (.seq (.ifs (.test (.op2 oInS (.var 10) (.op2 oIxL (CO.ce (CO.lst (.cons (.str "bf") (.cons (.str "bs") .nil)))) (.var 6)))) (.set 11 (.var 9)) .pass) (.seq (.set 12 (.fn 3 P_Lgrown (.cons (.var 7) (.cons (.var 8) (.cons (.var 11) .nil))))) (.ifs (.or (.test (.op2 oNe (.op2 oIxT (.var 12) (.int 0)) (.str "view"))) (.not (.b (.fn 2 P_Lview (.cons (.op2 oIxT (.var 12) (.int 1)) (.cons (.fn 4 P_Lseen (.cons (.op2 oIxL (.var 1) (.int 0)) (.cons (.op2 oIxL (.var 1) (.int 1)) (.cons (.op2 oAddS (.var 2) (.var 10)) (.cons (.var 7) .nil))))) .nil)))))) (.ret (.bl false)) .pass))))
def q_law_3 (K : PySem.W.Frag) (T : Nat → Addr) (w : World) (mg : Str → Option Value) : CS K T := (.forS (CI.str (.str "bfsn")) (CG.name 10) (b_law_0 K T w mg))
def q_law_4 (K : PySem.W.Frag) (T : Nat → Addr) (w : World) (mg : Str → Option Value) : CS K T := (.set 11 (.fn 4 P_Lseen (.cons (.op2 oIxL (.var 4) (.int 0)) (.cons (.op2 oIxL (.var 4) (.int 1)) (.cons (.var 3) (.cons (.op2 oIxL (CO.ce (CO.lst (.cons (.str "second") (.cons (.str "first") .nil)))) (.var 6)) .nil))))))
def q_law_5 (K : PySem.W.Frag) (T : Nat → Addr) (w : World) (mg : Str → Option Value) : CS K T := (.set 13 (.fn 2 P_Ljoined (.cons (.op2 oIxL (CO.ce (CO.lst (.cons (.var 8) (.cons (.var 11) .nil)))) (.var 6)) (.cons (.op2 oIxL (CO.ce (CO.lst (.cons (.var 11) (.cons (.var 8) .nil)))) (.var 6)) .nil))))
def q_law_6 (K : PySem.W.Frag) (T : Nat → Addr) (w : World) (mg : Str → Option Value) : CS K T := (.set 12 (.fn 3 P_Lgrown (.cons (.var 7) (.cons (.var 8) (.cons (.var 11) .nil)))))
def q_law_7 (K : PySem.W.Frag) (T : Nat → Addr) (w : World) (mg : Str → Option Value) : CS K T := (.ifs (.and (.test (.op2 oIsN (.var 13) .non)) (.test (.op2 oNeD (.var 12) (.tup (.cons (.str "unmatched") (.cons .non .nil)))))) (.ret (.bl false)) .pass)
def q_law_8 (K : PySem.W.Frag) (T : Nat → Addr) (w : World) (mg : Str → Option Value) : CS K T := (.ifs (.and (.test (.op2 oNotN (.var 13) .non)) (.or (.test (.op2 oNe (.op2 oIxT (.var 12) (.int 0)) (.str "view"))) (.not (.b (.fn 2 P_Lview (.cons (.op2 oIxT (.var 12) (.int 1)) (.cons (.tup (.cons (.op2 oIxT (.var 8) (.int 0)) (.cons (.op2 oIxT (.var 11) (.int 0)) (.cons (.var 13) (.cons (.int 0) .nil))))) .nil))))))) (.ret (.bl false)) .pass)
def q_law_9 (K : PySem.W.Frag) (T : Nat → Addr) (w : World) (mg : Str → Option Value) : CS K T := (.set 14 (.tup (.cons (.op2 oIxT (.var 8) (.int 0)) (.cons .non (.cons (.var 2) (.cons (.op2 oIxT (.var 8) (.int 3)) .nil))))))
def q_law_10 (K : PySem.W.Frag) (T : Nat → Addr) (w : World) (mg : Str → Option Value) : CS K T := (.set 12 (.fn 3 P_Lgrown (.cons (.var 7) (.cons (.var 14) (.cons .non .nil)))))
def q_law_11 (K : PySem.W.Frag) (T : Nat → Addr) (w : World) (mg : Str → Option Value) : CS K T := (.ifs (.or (.test (.op2 oNe (.op2 oIxT (.var 12) (.int 0)) (.str "view"))) (.not (.b (.fn 2 P_Lview (.cons (.op2 oIxT (.var 12) (.int 1)) (.cons (.tup (.cons (.op2 oIxT (.var 8) (.int 0)) (.cons .non (.cons (.var 2) (.cons (.op2 oAdd (.op2 oIxT (.var 8) (.int 3)) (.int 1)) .nil))))) .nil)))))) (.ret (.bl false)) .pass)
def b_law_1 (K : PySem.W.Frag) (T : Nat → Addr) (w : World) (mg : Str → Option Value) : CS K T := (.seq (.set 13 (.fn 2 P_Ljoined (.cons (.op2 oIxL (.var 15) (.var 6)) (.cons (.op2 oIxL (.var 15) (.op2 oSub (.int 1) (.var 6))) .nil)))) (.seq (.set 12 (.fn 3 P_Lgrown (.cons (.var 7) (.cons (.op2 oIxL (.var 15) (.int 0)) (.cons (.op2 oIxL (.var 15) (.int 1)) .nil))))) (.seq (.ifs (.and (.test (.op2 oIsN (.var 13) .non)) (.test (.op2 oNeD (.var 12) (.tup (.cons (.str "unmatched") (.cons .non .nil)))))) (.ret (.bl false)) .pass) (.ifs (.and (.test (.op2 oNotN (.var 13) .non)) (.test (.op2 oNeD (.var 12) (.tup (.cons (.str "view") (.cons (.tup (.cons (.op2 oIxT (.var 8) (.int 0)) (.cons (.op2 oIxT (.var 11) (.int 0)) (.cons (.var 13) (.cons (.int 0) .nil))))) .nil)))))) (.ret (.bl false)) .pass))))
def q_law_12 (K : PySem.W.Frag) (T : Nat → Addr) (w : World) (mg : Str → Option Value) : CS K T := (.forS (CI.list (CO.ce (CO.lst (.cons (CO.ce (CO.lst (.cons (.var 14) (.cons (.var 11) .nil)))) (.cons (CO.ce (CO.lst (.cons (.var 8) (.cons (.tup (.cons (.op2 oIxT (.var 11) (.int 0)) (.cons .non (.cons (.op2 oAddS (.op2 oIxT (.var 11) (.int 2)) (.str "b")) (.cons (.op2 oIxT (.var 11) (.int 3)) .nil))))) .nil)))) .nil))))) (CG.name 15) (b_law_1 K T w mg))
def q_law_13 (K : PySem.W.Frag) (T : Nat → Addr) (w : World) (mg : Str → Option Value) : CS K T := (.ifs (.or (.test (.op2 oNeD (.fn 3 P_Lgrown (.cons (.var 5) (.cons (.var 8) (.cons (.var 11) .nil)))) (.tup (.cons (.str "end") (.cons (.var 5) .nil))))) (.test (.op2 oNeD (.fn 3 P_Lgrown (.cons (.var 5) (.cons (.var 8) (.cons .non .nil)))) (.tup (.cons (.str "end") (.cons (.var 5) .nil)))))) (.ret (.bl false)) .pass)
def b_law_2 (K : PySem.W.Frag) (T : Nat → Addr) (w : World) (mg : Str → Option Value) : CS K T := (.seq (q_law_0 K T w mg) (.seq (q_law_1 K T w mg) (.seq (q_law_2 K T w mg) (.seq (q_law_3 K T w mg) (.seq (q_law_4 K T w mg) (.seq (q_law_5 K T w mg) (.seq (q_law_6 K T w mg) (.seq (q_law_7 K T w mg) (.seq (q_law_8 K T w mg) (.seq (q_law_9 K T w mg) (.seq (q_law_10 K T w mg) (.seq (q_law_11 K T w mg) (.seq (q_law_12 K T w mg) (q_law_13 K T w mg))))))))))))))
def t_law_6 (K : PySem.W.Frag) (T : Nat → Addr) (w : World) (mg : Str → Option Value) : CS K T := (.forS (CI.range1 (.cons (.int 2) .nil)) (CG.name 6) (b_law_2 K T w mg))
def t_law_7 (K : PySem.W.Frag) (T : Nat → Addr) (w : World) (mg : Str → Option Value) : CS K T := (.ret (.bl true))
def c_law (K : PySem.W.Frag) (T : Nat → Addr) (w : World) (mg : Str → Option Value) : CS K T := (.seq (t_law_0 K T w mg) (.seq (t_law_1 K T w mg) (.seq (t_law_2 K T w mg) (.seq (t_law_3 K T w mg) (.seq (t_law_4 K T w mg) (.seq (t_law_5 K T w mg) (.seq (t_law_6 K T w mg) (t_law_7 K T w mg))))))))
theorem lastA_none {l : List Nat} {e : Str} : ∀ {n : Nat}, lastA l e n = none → ∀ k, k < n → endD (l.getD k 0) e = false
  | 0, _, k, h => absurd h (Nat.not_lt_zero _)
  | n + 1, h, k, hk => by
    unfold lastA at h
    split at h
    · cases h
    · next q =>
      by_cases e : k = n
      · subst e
        simpa using q
      · exact lastA_none h k (by omega)
theorem lastA_some {l : List Nat} {e : Str} : ∀ {n i : Nat}, lastA l e n = some i → endD (l.getD i 0) e = true ∧ ∀ k, i < k → k < n → endD (l.getD k 0) e = false
  | 0, _, h => by cases h
  | n + 1, i, h => by
    unfold lastA at h
    split at h
    · next q =>
      cases h
      exact ⟨q, fun k h1 h2 => by omega⟩
    · next q =>
      obtain ⟨h1, h2⟩ := lastA_some h
      refine ⟨h1, fun k h3 h4 => ?_⟩
      by_cases e : k = n
      · subst e
        simpa using q
      · exact h2 k h3 (by omega)
theorem tail_n {l : List Nat} {i : Nat} (hi : i < l.length) (h : ∀ k, i < k → k < l.length → l.getD k 0 = 110) : l = l.take i ++ ([l.getD i 0] ++ List.replicate (l.length - i - 1) 110) := by
  have e1 : l.drop (i + 1) = List.replicate (l.length - i - 1) 110 := by
    rw [List.eq_replicate_iff]
    refine ⟨by rw [List.length_drop]; omega, fun b hb => ?_⟩
    obtain ⟨k, hk, rfl⟩ := List.mem_iff_getElem.mp hb
    rw [List.length_drop] at hk
    have := h (i + 1 + k) (by omega) (by omega)
    rw [List.getD_eq_getElem?_getD, List.getElem?_eq_getElem (by omega)] at this
    rw [List.getElem_drop]
    simpa using this
  have e2 : l.drop i = l[i] :: l.drop (i + 1) := List.drop_eq_getElem_cons hi
  have e3 : l.getD i 0 = l[i] := by rw [List.getD_eq_getElem?_getD, List.getElem?_eq_getElem hi]; rfl
  rw [e3, ← e1, List.singleton_append, ← e2, List.take_append_drop]
theorem endF {c : Nat} (h : c = 98 ∨ c = 102 ∨ c = 115 ∨ c = 110) : endD c "first" = decide (c = 98 ∨ c = 102) := by simp [endD]
theorem endS {c : Nat} : endD c "second" = decide (c = 98 ∨ c = 115) := by simp [endD, ends_ne]
/-- the two views of one run show its fates -/
theorem two_views (a b : Int) {l : List Nat} (hF : Fts l) : ∃ (o1 o2 : Option Int) (l1 l2 : List Nat) (s1 s2 : Int), viewD a b l "first" = vD a o1 l1 s1 ∧ viewD a b l "second" = vD b o2 l2 s2 ∧ Fts l1 ∧ Fts l2 ∧ l1.length ≤ l.length ∧ l2.length ≤ l.length ∧ 0 ≤ s1 ∧ s1 ≤ l.length ∧ 0 ≤ s2 ∧ s2 ≤ l.length ∧ hZ o1 l1 + s1 = hZ o2 l2 + s2 ∧ joinL o1 l1 s1 o2 l2 s2 = l := by
  have mem : ∀ k, k < l.length → l.getD k 0 = 98 ∨ l.getD k 0 = 102 ∨ l.getD k 0 = 115 ∨ l.getD k 0 = 110 := fun k hk => by
    refine hF _ ?_
    rw [List.getD_eq_getElem?_getD, List.getElem?_eq_getElem hk]
    exact List.getElem_mem _
  have nN : ∀ k, k < l.length → endD (l.getD k 0) "first" = false → endD (l.getD k 0) "second" = false → l.getD k 0 = 110 := fun k hk h1 h2 => by
    rw [endF (mem k hk)] at h1
    rw [endS] at h2
    have h1 := of_decide_eq_false h1
    have h2 := of_decide_eq_false h2
    have := mem k hk
    omega
  have nil : Fts [] := fun c hc => by cases hc
  have vA : ∀ i, lastA l "first" l.length = some i → viewD a b l "first" = vD a (some b) (l.take i) ((l.length : Int) - (i : Int) - 1) := fun i h => by
    unfold viewD
    rw [h]
    simp [vD, optD]
  have vB : ∀ i, lastA l "second" l.length = some i → viewD a b l "second" = vD b (some a) (l.take i) ((l.length : Int) - (i : Int) - 1) := fun i h => by
    unfold viewD
    rw [h]
    simp [vD, optD, ends_ne]
  have vA0 : lastA l "first" l.length = none → viewD a b l "first" = vD a none [] l.length := fun h => by
    unfold viewD
    rw [h]
    simp [vD, optD, empty_is]
  have vB0 : lastA l "second" l.length = none → viewD a b l "second" = vD b none [] l.length := fun h => by
    unfold viewD
    rw [h]
    simp [vD, optD, empty_is, ends_ne]
  have tl : ∀ i, i < l.length → (l.take i).length = i := fun i hi => by rw [List.length_take]; omega
  have nt : ∀ i, i < l.length → ((l.length : Int) - (i : Int) - 1).toNat = l.length - i - 1 := fun i hi => by omega
  cases hA : lastA l "first" l.length with
  | none =>
    cases hB : lastA l "second" l.length with
    | none =>
      refine ⟨_, _, _, _, _, _, vA0 hA, vB0 hB, nil, nil, by simp, by simp, by omega, by omega, by omega, by omega, rfl, ?_⟩
      have e : l = List.replicate l.length 110 := by
        rw [List.eq_replicate_iff]
        refine ⟨rfl, fun c hc => ?_⟩
        obtain ⟨k, hk, rfl⟩ := List.mem_iff_getElem.mp hc
        have := nN k hk (lastA_none hA k hk) (lastA_none hB k hk)
        rw [List.getD_eq_getElem?_getD, List.getElem?_eq_getElem hk] at this
        simpa using this
      have j : joinL none [] (l.length : Nat) none [] (l.length : Nat) = List.replicate l.length 110 := by simp [joinL, hZ]
      rw [j]
      exact e.symm
    | some j =>
      have hj := lastA_lt l _ _ _ hB
      obtain ⟨q1, q2⟩ := lastA_some hB
      refine ⟨_, _, _, _, _, _, vA0 hA, vB _ hB, nil, hF.take _, by simp, by rw [tl j hj]; omega, by omega, by omega, by omega, by omega, by simp only [hZ, tl j hj]; omega, ?_⟩
      have e := tail_n hj fun k h1 h2 => nN k h2 (lastA_none hA k h2) (q2 k h1 h2)
      have c : l.getD j 0 = 115 := by
        have h1 := lastA_none hA j hj
        rw [endF (mem j hj)] at h1
        rw [endS] at q1
        have h1 := of_decide_eq_false h1
        have q1 := of_decide_eq_true q1
        omega
      rw [c] at e
      have x1 : ¬ ((j : Int) + 1 = 0) := by omega
      have x2 : ¬ ((j : Int) + 1 < 0) := by omega
      have x3 : 0 < (j : Int) + 1 := by omega
      have g : joinL none [] (l.length : Nat) (some a) (l.take j) ((l.length : Int) - (j : Int) - 1) = l.take j ++ ([115] ++ List.replicate (l.length - j - 1) 110) := by
        unfold joinL
        simp only [hZ, tl j hj, nt j hj]
        rw [if_neg (fun z => x1 z.2), if_neg x2, if_pos x3]
      rw [g]
      exact e.symm
  | some i =>
    have hi := lastA_lt l _ _ _ hA
    obtain ⟨p1, p2⟩ := lastA_some hA
    cases hB : lastA l "second" l.length with
    | none =>
      refine ⟨_, _, _, _, _, _, vA _ hA, vB0 hB, hF.take _, nil, by rw [tl i hi]; omega, by simp, by omega, by omega, by omega, by omega, by simp only [hZ, tl i hi]; omega, ?_⟩
      have e := tail_n hi fun k h1 h2 => nN k h2 (p2 k h1 h2) (lastA_none hB k h2)
      have c : l.getD i 0 = 102 := by
        have h1 := lastA_none hB i hi
        rw [endS] at h1
        rw [endF (mem i hi)] at p1
        have h1 := of_decide_eq_false h1
        have p1 := of_decide_eq_true p1
        omega
      rw [c] at e
      have x1 : ¬ ((i : Int) + 1 = 0) := by omega
      have x3 : 0 < (i : Int) + 1 := by omega
      have g : joinL (some b) (l.take i) ((l.length : Int) - (i : Int) - 1) none [] (l.length : Nat) = l.take i ++ ([102] ++ List.replicate (l.length - i - 1) 110) := by
        unfold joinL
        simp only [hZ, tl i hi, nt i hi]
        rw [if_neg (fun z => x1 z.1), if_pos x3]
      rw [g]
      exact e.symm
    | some j =>
      have hj := lastA_lt l _ _ _ hB
      obtain ⟨q1, q2⟩ := lastA_some hB
      refine ⟨_, _, _, _, _, _, vA _ hA, vB _ hB, hF.take _, hF.take _, by rw [tl i hi]; omega, by rw [tl j hj]; omega, by omega, by omega, by omega, by omega, by simp only [hZ, tl i hi, tl j hj]; omega, ?_⟩
      have x1 : ¬ ((i : Int) + 1 = 0) := by omega
      have g : joinL (some b) (l.take i) ((l.length : Int) - (i : Int) - 1) (some a) (l.take j) ((l.length : Int) - (j : Int) - 1) = if (j : Int) + 1 < (i : Int) + 1 then l.take i ++ ([102] ++ List.replicate (l.length - i - 1) 110) else if (i : Int) + 1 < (j : Int) + 1 then l.take j ++ ([115] ++ List.replicate (l.length - j - 1) 110) else l.take i ++ ([98] ++ List.replicate (l.length - i - 1) 110) := by
        unfold joinL
        simp only [hZ, tl i hi, tl j hj, nt i hi, nt j hj]
        rw [if_neg (fun z => x1 z.1)]
      rw [g]
      by_cases h1 : j < i
      · rw [if_pos (by omega)]
        have e := tail_n hi fun k g1 g2 => nN k g2 (p2 k g1 g2) (q2 k (by omega) g2)
        have c : l.getD i 0 = 102 := by
          have h2 := q2 i h1 hi
          rw [endS] at h2
          rw [endF (mem i hi)] at p1
          have h2 := of_decide_eq_false h2
          have p1 := of_decide_eq_true p1
          omega
        rw [c] at e
        exact e.symm
      · rw [if_neg (by omega)]
        by_cases h2 : i < j
        · rw [if_pos (by omega)]
          have e := tail_n hj fun k g1 g2 => nN k g2 (p2 k (by omega) g2) (q2 k g1 g2)
          have c : l.getD j 0 = 115 := by
            have h3 := p2 j h2 hj
            rw [endF (mem j hj)] at h3
            rw [endS] at q1
            have h3 := of_decide_eq_false h3
            have q1 := of_decide_eq_true q1
            omega
          rw [c] at e
          exact e.symm
        · rw [if_neg (by omega)]
          have hij : i = j := by omega
          subst hij
          have e := tail_n hi fun k g1 g2 => nN k g2 (p2 k g1 g2) (q2 k g1 g2)
          have c : l.getD i 0 = 98 := by
            rw [endF (mem i hi)] at p1
            rw [endS] at q1
            have p1 := of_decide_eq_true p1
            have q1 := of_decide_eq_true q1
            omega
          rw [c] at e
          exact e.symm
theorem view_good {a b : Int} {l : List Nat} {e : Str} (ha : (if e = "first" then a else b) = 0 ∨ (if e = "first" then a else b) = 1) (hF : Fts l) (hl : l.length ≤ 900) : ∃ o l' s', viewD a b l e = vD (if e = "first" then a else b) o l' s' ∧ goodV (if e = "first" then a else b) l' s' := by
  refine ⟨_, _, _, viewD_is a b l e, ha, ?_, ?_⟩
  · cases lastA l e l.length with
    | none => intro c hc; cases hc
    | some i => exact hF.take i
  · cases h : lastA l e l.length with
    | none => exact ⟨by simp, by simp, by simp; omega⟩
    | some i =>
      have hi := lastA_lt l _ _ _ h
      exact ⟨by simp; omega, by simp; omega, by simp; omega⟩
theorem lastA_app (l r : List Nat) (e : Str) : ∀ n, n ≤ l.length → lastA (l ++ r) e n = lastA l e n
  | 0, _ => rfl
  | n + 1, h => by
    have g : (l ++ r).getD n 0 = l.getD n 0 := by
      rw [List.getD_eq_getElem?_getD, List.getD_eq_getElem?_getD, List.getElem?_append_left (by omega)]
    unfold lastA
    rw [g, lastA_app l r e n (by omega)]
theorem lastA_snoc (l : List Nat) (c : Nat) (e : Str) : lastA (l ++ [c]) e (l ++ [c]).length = if endD c e = true then some l.length else lastA l e l.length := by
  have g : (l ++ [c]).getD l.length 0 = c := by
    rw [List.getD_eq_getElem?_getD, List.getElem?_append_right (by omega)]
    simp
  rw [List.length_append, List.length_singleton]
  show (if endD ((l ++ [c]).getD l.length 0) e = true then some l.length else lastA (l ++ [c]) e l.length) = _
  rw [g, lastA_app l [c] e l.length (Nat.le_refl _)]
def ownB (a b : Int) (e : Str) : Int := if e = "first" then a else b
def othB (a b : Int) (e : Str) : Int := if e = "first" then b else a
def oth (e : Str) : Str := if e = "first" then "second" else "first"
theorem snoc1 (a b : Int) {l : List Nat} {c : Nat} {e : Str} (h : endD c e = true) : viewD a b (l ++ [c]) e = vD (ownB a b e) (some (othB a b e)) l 0 := by
  unfold viewD
  rw [lastA_snoc, if_pos h]
  have t : (l ++ [c]).take l.length = l := by simp
  have z : ((l ++ [c]).length : Int) - (l.length : Nat) - 1 = 0 := by rw [List.length_append, List.length_singleton]; omega
  show Dat.tup _ = _
  rw [t, z]
  rfl
theorem snoc0 (a b : Int) {l : List Nat} {c : Nat} {e : Str} (hF : Fts l) (hl : l.length ≤ 900) (h : endD c e = false) : ∃ o m s, viewD a b l e = vD (ownB a b e) o m s ∧ viewD a b (l ++ [c]) e = vD (ownB a b e) o m (s + 1) := by
  have hn : ¬ endD c e = true := by rw [h]; decide
  cases q : lastA l e l.length with
  | none =>
    refine ⟨none, [], l.length, ?_, ?_⟩
    · unfold viewD
      rw [q]
      simp [vD, optD, empty_is, ownB]
    · unfold viewD
      rw [lastA_snoc, if_neg hn, q]
      simp [vD, optD, empty_is, ownB]
  | some i =>
    have hi := lastA_lt l e _ _ q
    refine ⟨some (othB a b e), l.take i, (l.length : Int) - (i : Int) - 1, ?_, ?_⟩
    · unfold viewD
      rw [q]
      rfl
    · unfold viewD
      rw [lastA_snoc, if_neg hn, q]
      have t : (l ++ [c]).take i = l.take i := by
        rw [List.take_append_of_le_length (by omega)]
      have z : ((l ++ [c]).length : Int) - (i : Int) - 1 = (l.length : Int) - (i : Int) - 1 + 1 := by rw [List.length_append, List.length_singleton]; omega
      show Dat.tup _ = _
      rw [t, z]
      rfl
theorem join_run {a b : Int} {l : List Nat} (ha : a = 0 ∨ a = 1) (hb : b = 0 ∨ b = 1) (hF : Fts l) (hl : l.length ≤ 900) : P_join_views [viewD a b l "first", viewD a b l "second"] = .ok (runD a b (mkS l)) := by
  obtain ⟨o1, o2, l1, l2, s1, s2, v1, v2, f1, f2, n1, n2, m1, m2, m3, m4, hr, hj⟩ := two_views a b hF
  have q1 : eqV (viewD a b l "first") (viewD a b l "first") = true := by
    unfold eqV
    rw [viewD_eq hF]
  have q2 : eqV (viewD a b l "second") (viewD a b l "second") = true := by
    unfold eqV
    rw [viewD_eq hF]
  rw [v1] at q1
  rw [v2] at q2
  have g1 : goodV a l1 s1 := ⟨ha, f1, by omega, m1, by omega⟩
  have g2 : goodV b l2 s2 := ⟨hb, f2, by omega, m3, by omega⟩
  rw [v1, v2]
  have e2 : P_join_views [vD a o1 l1 s1, vD b o2 l2 s2] = if hZ o1 l1 + s1 = hZ o2 l2 + s2 then (if fitV (vD a o1 l1 s1) (vD b o2 l2 s2) a b (joinL o1 l1 s1 o2 l2 s2) = true then .ok (runD a b (mkS (joinL o1 l1 s1 o2 l2 s2))) else .exn 4 []) else .exn 4 [] := by
    unfold P_join_views
    simp only [asV_vD, g1, g2, and_self, if_true]
  have e4 : fitV (vD a o1 l1 s1) (vD b o2 l2 s2) a b (joinL o1 l1 s1 o2 l2 s2) = true := by
    unfold fitV
    rw [hj, v1, v2, q1, q2]
    rfl
  rw [e2, if_pos hr, if_pos e4, hj]
theorem grow_is (e : Str) (a : Int) (o : Option Int) (l : List Nat) (s : Int) (m : Dat) (he : e = "first" ∨ e = "second") : P_grow [.str e, vD a o l s, m] = if isN m = true then .ok (vD a o l (s + 1)) else match asV m with
      | some (a2, _, _, _) => (P_join_views (if e = "first" then [vD a o l s, m] else [m, vD a o l s])).bind fun r => match asRun r with
        | some (_, _, x) => .ok (vD a (some a2) x.cps.toList 0)
        | none => .bad
      | none => .bad := by
  unfold P_grow
  simp only [asV_vD, end_ok he, Rs.bind_ok]
  try rfl
theorem view_own {a b : Int} {l : List Nat} {e : Str} (ha : a = 0 ∨ a = 1) (hb : b = 0 ∨ b = 1) (hF : Fts l) (hl : l.length ≤ 900) : ∃ o l' s', viewD a b l e = vD (ownB a b e) o l' s' ∧ goodV (ownB a b e) l' s' :=
  view_good (by split <;> assumption) hF hl
theorem grown_fate {a b : Int} {l : List Nat} {e : Str} {c : Nat} (ha : a = 0 ∨ a = 1) (hb : b = 0 ∨ b = 1) (hF : Fts l) (hl : l.length ≤ 900) (he : e = "first" ∨ e = "second") : P_Lgrown [.str e, viewD a b l e, if endD c e = true then viewD a b l (oth e) else .non] = .ok (vwT (viewD a b (l ++ [c]) e)) := by
  have e3 : ∀ d m, P_Lgrown [.str e, d, m] = grownR (P_grow [.str e, d, m]) := fun _ _ => rfl
  rw [e3]
  by_cases h : endD c e = true
  · rw [if_pos h, snoc1 a b h]
    obtain ⟨o, l', s', v, g⟩ := view_own (e := e) ha hb hF hl
    obtain ⟨o2, l2, s2, v2, g2⟩ := view_own (e := oth e) ha hb hF hl
    have hj := join_run ha hb hF hl
    have ob : ownB a b (oth e) = othB a b e := by
      unfold ownB oth othB
      rcases he with rfl | rfl <;> simp [ends_ne]
    have hj2 : P_join_views (if e = "first" then [viewD a b l e, viewD a b l (oth e)] else [viewD a b l (oth e), viewD a b l e]) = .ok (runD a b (mkS l)) := by
      unfold oth
      rcases he with rfl | rfl
      · simpa using hj
      · simpa [ends_ne] using hj
    rw [v, v2, ob] at hj2
    rw [v, v2, ob, grow_is e _ _ _ _ _ he, if_neg (show ¬ isN (vD (othB a b e) o2 l2 s2) = true from by rw [isN_vD]; decide), asV_vD]
    simp only [hj2, Rs.bind_ok, asRun_runD, mkS_list]
    rfl
  · rw [if_neg h]
    have h : endD c e = false := by simpa using h
    obtain ⟨o, m, s, v1, v2⟩ := snoc0 a b hF hl h
    rw [v1, v2, grow_is e _ _ _ _ _ he, if_pos (show isN Dat.non = true from rfl)]
    rfl
theorem answers2 {e : Str} {a1 a2 : Int} {o1 o2 : Option Int} {l1 l2 : List Nat} {s1 s2 : Int} (he : e = "first" ∨ e = "second") (g1 : goodV a1 l1 s1) (g2 : goodV a2 l2 s2) :
    (P_Ljoined [if e = "first" then vD a1 o1 l1 s1 else vD a2 o2 l2 s2, if e = "first" then vD a2 o2 l2 s2 else vD a1 o1 l1 s1] = .ok .non ∧ P_Lgrown [.str e, vD a1 o1 l1 s1, vD a2 o2 l2 s2] = .ok unT) ∨
      ∃ j, Fts j ∧ P_Ljoined [if e = "first" then vD a1 o1 l1 s1 else vD a2 o2 l2 s2, if e = "first" then vD a2 o2 l2 s2 else vD a1 o1 l1 s1] = .ok (.str (mkS j)) ∧ P_Lgrown [.str e, vD a1 o1 l1 s1, vD a2 o2 l2 s2] = .ok (vwT (vD a1 (some a2) j 0)) := by
  have key : ∀ (a1 a2 : Int) (o1 o2 : Option Int) (l1 l2 : List Nat) (s1 s2 : Int), goodV a1 l1 s1 → goodV a2 l2 s2 → (P_Ljoined [vD a1 o1 l1 s1, vD a2 o2 l2 s2] = .ok .non ∧ P_join_views [vD a1 o1 l1 s1, vD a2 o2 l2 s2] = .exn 4 []) ∨ ∃ j, Fts j ∧ P_Ljoined [vD a1 o1 l1 s1, vD a2 o2 l2 s2] = .ok (.str (mkS j)) ∧ P_join_views [vD a1 o1 l1 s1, vD a2 o2 l2 s2] = .ok (runD a1 a2 (mkS j)) := fun a1 a2 o1 o2 l1 l2 s1 s2 g1 g2 => by
    have e1 : P_Ljoined [vD a1 o1 l1 s1, vD a2 o2 l2 s2] = if hZ o1 l1 + s1 = hZ o2 l2 + s2 then (if fitV (vD a1 o1 l1 s1) (vD a2 o2 l2 s2) a1 a2 (joinL o1 l1 s1 o2 l2 s2) = true then .ok (.str (mkS (joinL o1 l1 s1 o2 l2 s2))) else .ok .non) else .ok .non := by
      unfold P_Ljoined
      simp only [asV_vD, g1, g2, and_self, if_true]
    have e2 : P_join_views [vD a1 o1 l1 s1, vD a2 o2 l2 s2] = if hZ o1 l1 + s1 = hZ o2 l2 + s2 then (if fitV (vD a1 o1 l1 s1) (vD a2 o2 l2 s2) a1 a2 (joinL o1 l1 s1 o2 l2 s2) = true then .ok (runD a1 a2 (mkS (joinL o1 l1 s1 o2 l2 s2))) else .exn 4 []) else .exn 4 [] := by
      unfold P_join_views
      simp only [asV_vD, g1, g2, and_self, if_true]
    rw [e1, e2]
    by_cases h : hZ o1 l1 + s1 = hZ o2 l2 + s2
    · rw [if_pos h, if_pos h]
      by_cases q : fitV (vD a1 o1 l1 s1) (vD a2 o2 l2 s2) a1 a2 (joinL o1 l1 s1 o2 l2 s2) = true
      · rw [if_pos q, if_pos q]
        exact .inr ⟨_, joinL_fts g1.2.1 g2.2.1, rfl, rfl⟩
      · rw [if_neg q, if_neg q]
        exact .inl ⟨rfl, rfl⟩
    · rw [if_neg h, if_neg h]
      exact .inl ⟨rfl, rfl⟩
  have e3 : ∀ d m, P_Lgrown [.str e, d, m] = grownR (P_grow [.str e, d, m]) := fun _ _ => rfl
  rw [e3, grow_is e _ _ _ _ _ he, if_neg (show ¬ isN (vD a2 o2 l2 s2) = true from by rw [isN_vD]; decide), asV_vD]
  rcases he with rfl | rfl
  · have f : (("first" : Str) = "first") = True := eq_self _
    simp only [f, if_true]
    rcases key a1 a2 o1 o2 l1 l2 s1 s2 g1 g2 with ⟨h1, h2⟩ | ⟨j, hj, h1, h2⟩
    · rw [h1, h2]
      exact .inl ⟨rfl, by simp [grownR]⟩
    · rw [h1, h2]
      refine .inr ⟨j, hj, rfl, ?_⟩
      simp only [Rs.bind_ok, asRun_runD, mkS_list]
      rfl
  · simp only [ends_ne.2, if_false]
    rcases key a2 a1 o2 o1 l2 l1 s2 s1 g2 g1 with ⟨h1, h2⟩ | ⟨j, hj, h1, h2⟩
    · rw [h1, h2]
      exact .inl ⟨rfl, by simp [grownR]⟩
    · rw [h1, h2]
      refine .inr ⟨j, hj, rfl, ?_⟩
      simp only [Rs.bind_ok, asRun_runD, mkS_list]
      rfl
theorem vD_self {a : Int} {o : Option Int} {l : List Nat} {s : Int} (h : Fts l) : eqD (vD a o l s) (vD a o l s) = .ok true := eq_view a o l s h
theorem view_self {a : Int} {o : Option Int} {l : List Nat} {s : Int} (h : Fts l) : P_Lview [vD a o l s, vD a o l s] = .ok (.bl true) := by
  have hk : viewOk (vD a o l s) = true := by cases o <;> rfl
  have e1 : P_Lview [vD a o l s, vD a o l s] = if viewOk (vD a o l s) = true then (eqD (vD a o l s) (vD a o l s)).bind fun k => .ok (.bl k) else .bad := rfl
  rw [e1, if_pos hk, vD_self h]
  rfl
theorem vwT_self {a : Int} {o : Option Int} {l : List Nat} {s : Int} (h : Fts l) : eqD (vwT (vD a o l s)) (vwT (vD a o l s)) = .ok true := by
  have hp : (vwT (vD a o l s)).py = some (.tuple [.str "view", pV a o l s]) := by cases o <;> rfl
  have hc : PyData.canLay0 (optP o) = true := by cases o <;> rfl
  have hq : PyData.eqv (optP o) (optP o) = true := by cases o <;> simp [optP, PyData.eqv]
  have hv : PyData.strOk ("view" : Str) = true := by decide +kernel
  have hs : SeqAt.shaped (.tuple [.str "view", pV a o l s]) = true := by
    have h1 : PyData.canLay0 (.tuple [.str "view", pV a o l s]) = true := by simp [pV, PyData.canLay0, PyData.canLayAll0, strOk_fts h, hc, hv]
    have h2 : (PyData.tuple [.str "view", pV a o l s]).depth ≤ 64 := by
      have : (PyData.tuple [.str "view", pV a o l s]).depth = (PyData.tuple [.none, .tuple [.none, .none, .none, .none]]).depth := by cases o <;> rfl
      rw [this]
      decide +kernel
    unfold SeqAt.shaped
    rw [h1, decide_eq_true h2]
    rfl
  have he : PyData.eqv (.tuple [.str "view", pV a o l s]) (.tuple [.str "view", pV a o l s]) = true := by simp [pV, PyData.eqv, PyData.eqvAll, hq]
  unfold eqD
  rw [hp]
  simp only [hs, and_self, if_true, he]
theorem unT_self : eqD unT unT = .ok true := by kernel_rfl
theorem grown_no {e : Str} {a : Int} {o : Option Int} {l : List Nat} {s : Int} {m : Dat} (h : ¬ (e = "first" ∨ e = "second")) (h2 : e.length ≤ 90000) : P_Lgrown [.str e, vD a o l s, m] = .ok (enT e) := by
  have hc : P_check_end [.str e] = .exn 2 [("end", .str e)] := (if_neg h).trans (if_pos h2)
  have e1 : P_grow [.str e, vD a o l s, m] = .exn 2 [("end", .str e)] := by
    unfold P_grow
    simp only [asV_vD, hc, Rs.bind_exn]
  show grownR (P_grow [.str e, vD a o l s, m]) = _
  rw [e1]
  simp [grownR]
theorem view_own2 {a b : Int} {l : List Nat} {e : Str} (ha : a = 0 ∨ a = 1) (hb : b = 0 ∨ b = 1) (hF : Fts l) (hl : l.length ≤ 43) : ∃ o l' s', viewD a b l e = vD (ownB a b e) o l' s' ∧ goodV (ownB a b e) l' s' ∧ l'.length ≤ 43 := by
  refine ⟨_, _, _, viewD_is a b l e, ⟨by unfold ownB; split <;> assumption, ?_, ?_⟩, ?_⟩
  · cases lastA l e l.length with
    | none => intro c hc; cases hc
    | some i => exact hF.take i
  · cases h : lastA l e l.length with
    | none => exact ⟨by simp, by simp, by simp; omega⟩
    | some i =>
      have hi := lastA_lt l _ _ _ h
      exact ⟨by simp; omega, by simp; omega, by simp; omega⟩
  · cases h : lastA l e l.length with
    | none => simp
    | some i =>
      have hi := lastA_lt l _ _ _ h
      simp
      omega
abbrev P_law := P_lawT
theorem e_law (K : PySem.W.Frag) (T : Nat → Addr) (w : World) (mg : Str → Option Value) : ∀ ds, P_law ds ≠ .bad → runF (c_law K T w mg) sc_law_N.length ds = P_law ds := by
  intro ds hb
  obtain ⟨ns, rfl, hl63, hP⟩ := P_lawT_inv hb
  rw [show P_law [Dat.lst (List.map Dat.int ns)] = Rs.ok (Dat.bl true) from hP]
  obtain ⟨b0, b1, b2, b3, hbits, hb0, hb1, hb2, hb3⟩ : ∃ b0 b1 b2 b3 : Int, drawsI (cellI ns 0) 4 2 = [b0, b1, b2, b3] ∧ (b0 = 0 ∨ b0 = 1) ∧ (b1 = 0 ∨ b1 = 1) ∧ (b2 = 0 ∨ b2 = 1) ∧ (b3 = 0 ∨ b3 = 1) := by
    have r : ∀ k, drawI (cellI ns 0) 2 k = 0 ∨ drawI (cellI ns 0) 2 k = 1 := fun k => by
      have := drawI_range (c := cellI ns 0) (b := 2) (k := k) (by decide)
      omega
    exact ⟨_, _, _, _, rfl, r 0, r 1, r 2, r 3⟩
  have pd : P_Ldraws [.int (cellI ns 0), .int 4, .int 2] = .ok (.lst [.int b0, .int b1, .int b2, .int b3]) := by
    have e : P_Ldraws [.int (cellI ns 0), .int 4, .int 2] = .ok (.lst ((drawsI (cellI ns 0) 4 2).map .int)) := rfl
    rw [e, hbits]
    rfl
  have L4_0 : ∀ a b c d : Dat, ixL (.lst [a, b, c, d]) (.int 0) = .ok a := fun _ _ _ _ => rfl
  have L4_1 : ∀ a b c d : Dat, ixL (.lst [a, b, c, d]) (.int 1) = .ok b := fun _ _ _ _ => rfl
  have L2_0 : ∀ a b : Dat, ixL (.lst [a, b]) (.int 0) = .ok a := fun _ _ => rfl
  have L2_1 : ∀ a b : Dat, ixL (.lst [a, b]) (.int 1) = .ok b := fun _ _ => rfl
  have C1 : ∀ a b c d : Dat, cutD [a, b, c, d] none (some 2) = [a, b] := fun _ _ _ _ => rfl
  have C2 : ∀ a b c d : Dat, cutD [a, b, c, d] (some 2) none = [c, d] := fun _ _ _ _ => rfl
  have st0 : (t_law_0 K T w mg).ev [.d (.lst (ns.map .int)), .un, .un, .un, .un, .un, .un, .un, .un, .un, .un, .un, .un, .un, .un, .un] = .nx [.d (.lst (ns.map .int)), .d (.lst [.int b0, .int b1, .int b2, .int b3]), .un, .un, .un, .un, .un, .un, .un, .un, .un, .un, .un, .un, .un, .un] := by
    simp [t_law_0, P_cell, pd]
  obtain ⟨n, hn⟩ : ∃ n, cellI ns 1 % 41 = n := ⟨_, rfl⟩
  have n1 : 0 ≤ n ∧ n < 41 := by have := mod_range (a := cellI ns 1) (b := 41) (by decide); omega
  obtain ⟨l, hl⟩ : ∃ l, fatesI (cellI ns 2) n.toNat = l := ⟨_, rfl⟩
  have l1 : Fts l := hl ▸ fatesI_fts _ _
  have l2 : l.length ≤ 40 := by rw [← hl, fatesI_len]; omega
  have hlim : l.length ≤ lim := by unfold lim; omega
  have st1 : (t_law_1 K T w mg).ev [.d (.lst (ns.map .int)), .d (.lst [.int b0, .int b1, .int b2, .int b3]), .un, .un, .un, .un, .un, .un, .un, .un, .un, .un, .un, .un, .un, .un] = .nx [.d (.lst (ns.map .int)), .d (.lst [.int b0, .int b1, .int b2, .int b3]), .d (.str (mkS l)), .un, .un, .un, .un, .un, .un, .un, .un, .un, .un, .un, .un, .un] := by
    have : n ≤ 99999 := by omega
    simp [t_law_1, P_cell, P_Lfates, hn, n1.1, this, hl]
  obtain ⟨c0, hc0, cf0, cl0⟩ : ∃ c, changedL ns 3 l = c ∧ Fts c ∧ c.length ≤ 43 := ⟨_, rfl, changedL_fts l1, Nat.le_trans changedL_len (by omega)⟩
  have pc : P_Lchanged [.lst (ns.map .int), .int 3, .str (mkS l)] = .ok (.str (mkS c0)) := by
    have h5 : l.length ≤ 5000 := by omega
    unfold P_Lchanged
    simp only [toInts_map, mkS_len, mkS_list, h5, and_true, hc0]
    rfl
  have st2 : (t_law_2 K T w mg).ev [.d (.lst (ns.map .int)), .d (.lst [.int b0, .int b1, .int b2, .int b3]), .d (.str (mkS l)), .un, .un, .un, .un, .un, .un, .un, .un, .un, .un, .un, .un, .un] = .nx [.d (.lst (ns.map .int)), .d (.lst [.int b0, .int b1, .int b2, .int b3]), .d (.str (mkS l)), .d (.str (mkS c0)), .un, .un, .un, .un, .un, .un, .un, .un, .un, .un, .un, .un] := by
    simp [t_law_2, pc]
  have st3 : (t_law_3 K T w mg).ev [.d (.lst (ns.map .int)), .d (.lst [.int b0, .int b1, .int b2, .int b3]), .d (.str (mkS l)), .d (.str (mkS c0)), .un, .un, .un, .un, .un, .un, .un, .un, .un, .un, .un, .un] = .nx [.d (.lst (ns.map .int)), .d (.lst [.int b0, .int b1, .int b2, .int b3]), .d (.str (mkS l)), .d (.str (mkS c0)), .d (.lst [.int b0, .int b1]), .un, .un, .un, .un, .un, .un, .un, .un, .un, .un, .un] := by
    simp [t_law_3, C1, lim]
  obtain ⟨p, q, hpq, hp, hq⟩ : ∃ p q : Int, (if cellI ns 6 % 3 = 1 then Dat.lst [.int b2, .int b3] else .lst [.int b0, .int b1]) = .lst [.int p, .int q] ∧ (p = 0 ∨ p = 1) ∧ (q = 0 ∨ q = 1) := by
    split
    · exact ⟨_, _, rfl, hb2, hb3⟩
    · exact ⟨_, _, rfl, hb0, hb1⟩
  have st4 : (t_law_4 K T w mg).ev [.d (.lst (ns.map .int)), .d (.lst [.int b0, .int b1, .int b2, .int b3]), .d (.str (mkS l)), .d (.str (mkS c0)), .d (.lst [.int b0, .int b1]), .un, .un, .un, .un, .un, .un, .un, .un, .un, .un, .un] = .nx [.d (.lst (ns.map .int)), .d (.lst [.int b0, .int b1, .int b2, .int b3]), .d (.str (mkS l)), .d (.str (mkS c0)), .d (.lst [.int p, .int q]), .un, .un, .un, .un, .un, .un, .un, .un, .un, .un, .un] := by
    rw [← hpq]
    by_cases h : cellI ns 6 % 3 = 1 <;> simp [t_law_4, P_cell, h, C2, lim]
  obtain ⟨m, hm⟩ : ∃ m, cellI ns 7 % 6 = m := ⟨_, rfl⟩
  have m2 : 0 ≤ m ∧ m < 6 := by have := mod_range (a := cellI ns 7) (b := 6) (by decide); omega
  obtain ⟨wr, hwr, w1, w2, w3⟩ : ∃ e, ixL (.lst [.str "", .str "First", .str "third", .str "second ", .str "fi", .str "n"]) (.int m) = .ok (.str e) ∧ ¬ (e = "first" ∨ e = "second") ∧ e.length ≤ 90000 ∧ eqD (enT e) (enT e) = .ok true := by
    have : m = 0 ∨ m = 1 ∨ m = 2 ∨ m = 3 ∨ m = 4 ∨ m = 5 := by omega
    rcases this with rfl | rfl | rfl | rfl | rfl | rfl <;> exact ⟨_, rfl, by decide +kernel, by decide +kernel, by kernel_rfl⟩
  have st5 : (t_law_5 K T w mg).ev [.d (.lst (ns.map .int)), .d (.lst [.int b0, .int b1, .int b2, .int b3]), .d (.str (mkS l)), .d (.str (mkS c0)), .d (.lst [.int p, .int q]), .un, .un, .un, .un, .un, .un, .un, .un, .un, .un, .un] = .nx [.d (.lst (ns.map .int)), .d (.lst [.int b0, .int b1, .int b2, .int b3]), .d (.str (mkS l)), .d (.str (mkS c0)), .d (.lst [.int p, .int q]), .d (.str wr), .un, .un, .un, .un, .un, .un, .un, .un, .un, .un] := by
    simp [t_law_5, P_cell, hm, hwr, lim]
  have turn : ∀ k : Int, k = 0 ∨ k = 1 → ∀ o7 o8 o9 o10 o11 o12 o13 o14 o15 : Cz.Slot, ∃ r7 r8 r9 r10 r11 r12 r13 r14 r15 : Cz.Slot, (b_law_2 K T w mg).ev [.d (.lst (ns.map .int)), .d (.lst [.int b0, .int b1, .int b2, .int b3]), .d (.str (mkS l)), .d (.str (mkS c0)), .d (.lst [.int p, .int q]), .d (.str wr), .d (.int k), o7, o8, o9, o10, o11, o12, o13, o14, o15] = .nx [.d (.lst (ns.map .int)), .d (.lst [.int b0, .int b1, .int b2, .int b3]), .d (.str (mkS l)), .d (.str (mkS c0)), .d (.lst [.int p, .int q]), .d (.str wr), .d (.int k), r7, r8, r9, r10, r11, r12, r13, r14, r15] := by
    intro k hk o7 o8 o9 o10 o11 o12 o13 o14 o15
    obtain ⟨e, he, hE1, hE2, hN, hP, hP'⟩ : ∃ e : Str, (e = "first" ∨ e = "second") ∧ ixL (.lst [.str "first", .str "second"]) (.int k) = .ok (.str e) ∧ ixL (.lst [.str "second", .str "first"]) (.int k) = .ok (.str (oth e)) ∧ ixL (.lst [.str "bf", .str "bs"]) (.int k) = .ok (.str (mkS (newsL e))) ∧ (∀ x y : Dat, ixL (.lst [x, y]) (.int k) = .ok (if e = "first" then x else y)) ∧ (∀ x y : Dat, ixL (.lst [x, y]) (.int (1 - k)) = .ok (if e = "first" then y else x)) := by
      rcases hk with rfl | rfl
      · refine ⟨"first", .inl rfl, rfl, ?_, ?_, fun x y => ?_, fun x y => ?_⟩
        · rw [show oth "first" = "second" from if_pos rfl]
          rfl
        · rw [show newsL "first" = [98, 102] from if_pos rfl, ← bf_is]
          rfl
        · rw [if_pos rfl]
          rfl
        · rw [if_pos rfl]
          rfl
      · have n : ¬ (("second" : Str) = "first") := by rw [ends_ne.2]; exact id
        refine ⟨"second", .inr rfl, rfl, ?_, ?_, fun x y => ?_, fun x y => ?_⟩
        · rw [show oth "second" = "first" from if_neg n]
          rfl
        · rw [show newsL "second" = [98, 115] from if_neg n, ← bs_is]
          rfl
        · rw [if_neg n]
          rfl
        · rw [if_neg n]
          rfl
    have ho : oth e = "first" ∨ oth e = "second" := by
      unfold oth
      split
      · exact .inr rfl
      · exact .inl rfl
    obtain ⟨o1, m1, s1, v1, g1⟩ := view_own (e := e) hb0 hb1 l1 (by omega)
    obtain ⟨o2, m2, s2, v2, g2, m2l⟩ := view_own2 (e := oth e) hp hq cf0 (by omega : c0.length ≤ 43)
    have z1 := Lseen_ok (a := b0) (b := b1) hlim l1 he
    have z2 := Lseen_ok (a := b0) (b := b1) hlim l1 ho
    have z3 := Lseen_ok (a := p) (b := q) (l := c0) (by unfold lim; omega) cf0 ho
    have gf := fun c => grown_fate (c := c) hb0 hb1 l1 (by omega) he
    have sn : ∀ c, (c = 98 ∨ c = 102 ∨ c = 115 ∨ c = 110) → P_Lseen [.int b0, .int b1, .str (mkS (l ++ [c])), .str e] = .ok (viewD b0 b1 (l ++ [c]) e) ∧ P_Lview [viewD b0 b1 (l ++ [c]) e, viewD b0 b1 (l ++ [c]) e] = .ok (.bl true) := fun c hc => by
      have f : Fts (l ++ [c]) := l1.append fun x hx => by rw [List.mem_singleton.mp hx]; exact hc
      have n : (l ++ [c]).length ≤ 41 := by rw [List.length_append, List.length_singleton]; omega
      refine ⟨Lseen_ok (by unfold lim; omega) f he, ?_⟩
      obtain ⟨o, m, s, v, g⟩ := view_own (e := e) hb0 hb1 f (by omega)
      rw [v]
      exact view_self g.2.1
    rw [v1] at z1 gf
    rw [v2] at z3
    obtain ⟨A1, hA1⟩ : ∃ A, ownB b0 b1 e = A := ⟨_, rfl⟩
    obtain ⟨A2, hA2⟩ : ∃ A, ownB p q (oth e) = A := ⟨_, rfl⟩
    rw [hA1] at z1 gf g1
    rw [hA2] at z3 g2
    obtain ⟨TH, hTH⟩ : ∃ T, viewD b0 b1 l (oth e) = T := ⟨_, rfl⟩
    rw [hTH] at z2 gf
    obtain ⟨M, hM⟩ : ∃ M, vD A1 o1 m1 s1 = M := ⟨_, rfl⟩
    obtain ⟨L, hL⟩ : ∃ L, vD A2 o2 m2 s2 = L := ⟨_, rfl⟩
    have i10 := ixv_0 A1 o1 m1 s1
    have i13 := ixv_3 A1 o1 m1 s1
    have i20 := ixv_0 A2 o2 m2 s2
    have i22 := ixv_2 A2 o2 m2 s2
    have i23 := ixv_3 A2 o2 m2 s2
    rw [hM] at i10 i13 z1 gf
    rw [hL] at i20 i22 i23 z3
    have q0 : (q_law_0 K T w mg).ev [.d (.lst (ns.map .int)), .d (.lst [.int b0, .int b1, .int b2, .int b3]), .d (.str (mkS l)), .d (.str (mkS c0)), .d (.lst [.int p, .int q]), .d (.str wr), .d (.int k), o7, o8, o9, o10, o11, o12, o13, o14, o15] = .nx [.d (.lst (ns.map .int)), .d (.lst [.int b0, .int b1, .int b2, .int b3]), .d (.str (mkS l)), .d (.str (mkS c0)), .d (.lst [.int p, .int q]), .d (.str wr), .d (.int k), .d (.str e), o8, o9, o10, o11, o12, o13, o14, o15] := by simp [q_law_0, hE1, lim]
    have q1 : (q_law_1 K T w mg).ev [.d (.lst (ns.map .int)), .d (.lst [.int b0, .int b1, .int b2, .int b3]), .d (.str (mkS l)), .d (.str (mkS c0)), .d (.lst [.int p, .int q]), .d (.str wr), .d (.int k), .d (.str e), o8, o9, o10, o11, o12, o13, o14, o15] = .nx [.d (.lst (ns.map .int)), .d (.lst [.int b0, .int b1, .int b2, .int b3]), .d (.str (mkS l)), .d (.str (mkS c0)), .d (.lst [.int p, .int q]), .d (.str wr), .d (.int k), .d (.str e), .d M, o9, o10, o11, o12, o13, o14, o15] := by simp [q_law_1, L4_0, L4_1, z1]
    have q2 : (q_law_2 K T w mg).ev [.d (.lst (ns.map .int)), .d (.lst [.int b0, .int b1, .int b2, .int b3]), .d (.str (mkS l)), .d (.str (mkS c0)), .d (.lst [.int p, .int q]), .d (.str wr), .d (.int k), .d (.str e), .d M, o9, o10, o11, o12, o13, o14, o15] = .nx [.d (.lst (ns.map .int)), .d (.lst [.int b0, .int b1, .int b2, .int b3]), .d (.str (mkS l)), .d (.str (mkS c0)), .d (.lst [.int p, .int q]), .d (.str wr), .d (.int k), .d (.str e), .d M, .d TH, o10, o11, o12, o13, o14, o15] := by simp [q_law_2, L4_0, L4_1, hE2, z2, lim]
    have fate : ∀ c, (c = 98 ∨ c = 102 ∨ c = 115 ∨ c = 110) → ∀ o11 o12, ∃ r11 r12, (b_law_0 K T w mg).ev [.d (.lst (ns.map .int)), .d (.lst [.int b0, .int b1, .int b2, .int b3]), .d (.str (mkS l)), .d (.str (mkS c0)), .d (.lst [.int p, .int q]), .d (.str wr), .d (.int k), .d (.str e), .d M, .d TH, .d (.str (mkS [c])), o11, o12, o13, o14, o15] = .nx [.d (.lst (ns.map .int)), .d (.lst [.int b0, .int b1, .int b2, .int b3]), .d (.str (mkS l)), .d (.str (mkS c0)), .d (.lst [.int p, .int q]), .d (.str wr), .d (.int k), .d (.str e), .d M, .d TH, .d (.str (mkS [c])), r11, r12, o13, o14, o15] := by
      intro c hc o11 o12
      obtain ⟨y1, y2⟩ := sn c hc
      have hm : (c ∈ newsL e) ↔ endD c e = true := by
        unfold newsL endD
        rcases he with rfl | rfl
        · simp
        · simp [ends_ne]
      have hgf := gf c
      have d1 : l.length + 1 ≤ 100000 := by omega
      obtain ⟨V, hV⟩ : ∃ V, viewD b0 b1 (l ++ [c]) e = V := ⟨_, rfl⟩
      rw [hV] at y1 y2 hgf
      have iV0 : ixT (vwT V) (.int 0) = .ok (.str "view") := rfl
      have iV1 : ixT (vwT V) (.int 1) = .ok V := rfl
      by_cases h : endD c e = true
      · rw [if_pos h] at hgf
        exact ⟨.d TH, .d (vwT V), by simp [b_law_0, hN, hm.mpr h, hgf, iV0, iV1, L4_0, L4_1, y1, y2, d1, lim]⟩
      · rw [if_neg h] at hgf
        exact ⟨.d .non, .d (vwT V), by simp [b_law_0, hN, mt hm.mp h, hgf, iV0, iV1, L4_0, L4_1, y1, y2, d1, lim]⟩
    obtain ⟨r10, r11, r12, q3⟩ : ∃ r10 r11 r12, (q_law_3 K T w mg).ev [.d (.lst (ns.map .int)), .d (.lst [.int b0, .int b1, .int b2, .int b3]), .d (.str (mkS l)), .d (.str (mkS c0)), .d (.lst [.int p, .int q]), .d (.str wr), .d (.int k), .d (.str e), .d M, .d TH, o10, o11, o12, o13, o14, o15] = .nx [.d (.lst (ns.map .int)), .d (.lst [.int b0, .int b1, .int b2, .int b3]), .d (.str (mkS l)), .d (.str (mkS c0)), .d (.lst [.int p, .int q]), .d (.str wr), .d (.int k), .d (.str e), .d M, .d TH, r10, r11, r12, o13, o14, o15] := by
      have g : ∀ (x : Str) (o10 o11 o12 : Cz.Slot), (CG.name 10 : CG K T).ev (.str x) [.d (.lst (ns.map .int)), .d (.lst [.int b0, .int b1, .int b2, .int b3]), .d (.str (mkS l)), .d (.str (mkS c0)), .d (.lst [.int p, .int q]), .d (.str wr), .d (.int k), .d (.str e), .d M, .d TH, o10, o11, o12, o13, o14, o15] = some [.d (.lst (ns.map .int)), .d (.lst [.int b0, .int b1, .int b2, .int b3]), .d (.str (mkS l)), .d (.str (mkS c0)), .d (.lst [.int p, .int q]), .d (.str wr), .d (.int k), .d (.str e), .d M, .d TH, .d (.str x), o11, o12, o13, o14, o15] := fun _ _ _ _ => rfl
      obtain ⟨a1, a2, f1⟩ := fate 98 (by simp) o11 o12
      obtain ⟨c1, c2, f2⟩ := fate 102 (by simp) a1 a2
      obtain ⟨d1, d2, f3⟩ := fate 115 (by simp) c1 c2
      obtain ⟨e1, e2, f4⟩ := fate 110 (by simp) d1 d2
      refine ⟨.d (.str (mkS [110])), e1, e2, ?_⟩
      have key : evFor (CG.name 10 : CG K T).ev (b_law_0 K T w mg).ev [.str (mkS [98]), .str (mkS [102]), .str (mkS [115]), .str (mkS [110])] [.d (.lst (ns.map .int)), .d (.lst [.int b0, .int b1, .int b2, .int b3]), .d (.str (mkS l)), .d (.str (mkS c0)), .d (.lst [.int p, .int q]), .d (.str wr), .d (.int k), .d (.str e), .d M, .d TH, o10, o11, o12, o13, o14, o15] = .nx [.d (.lst (ns.map .int)), .d (.lst [.int b0, .int b1, .int b2, .int b3]), .d (.str (mkS l)), .d (.str (mkS c0)), .d (.lst [.int p, .int q]), .d (.str wr), .d (.int k), .d (.str e), .d M, .d TH, .d (.str (mkS [110])), e1, e2, o13, o14, o15] := by
        rw [evFor_cons, g]
        simp only [f1]
        rw [evFor_cons, g]
        simp only [f2]
        rw [evFor_cons, g]
        simp only [f3]
        rw [evFor_cons, g]
        simp only [f4]
        rfl
      simp [q_law_3, bfsn_is, key]
    have q4 : (q_law_4 K T w mg).ev [.d (.lst (ns.map .int)), .d (.lst [.int b0, .int b1, .int b2, .int b3]), .d (.str (mkS l)), .d (.str (mkS c0)), .d (.lst [.int p, .int q]), .d (.str wr), .d (.int k), .d (.str e), .d M, .d TH, r10, r11, r12, o13, o14, o15] = .nx [.d (.lst (ns.map .int)), .d (.lst [.int b0, .int b1, .int b2, .int b3]), .d (.str (mkS l)), .d (.str (mkS c0)), .d (.lst [.int p, .int q]), .d (.str wr), .d (.int k), .d (.str e), .d M, .d TH, r10, .d L, r12, o13, o14, o15] := by simp [q_law_4, L2_0, L2_1, hE2, z3, lim]
    have two : ∀ {o1 o2 : Option Int} {l1 l2 : List Nat} {s1 s2 : Int}, goodV A1 l1 s1 → goodV A2 l2 s2 → ∃ X A, P_Ljoined [if e = "first" then vD A1 o1 l1 s1 else vD A2 o2 l2 s2, if e = "first" then vD A2 o2 l2 s2 else vD A1 o1 l1 s1] = .ok X ∧ P_Lgrown [.str e, vD A1 o1 l1 s1, vD A2 o2 l2 s2] = .ok A ∧ ((X = .non ∧ A = unT) ∨ ∃ j, Fts j ∧ X = .str (mkS j) ∧ A = vwT (vD A1 (some A2) j 0)) := fun {o1 o2 l1 l2 s1 s2} h1 h2 => by
      rcases answers2 (o1 := o1) (o2 := o2) he h1 h2 with ⟨x, y⟩ | ⟨j, hj, x, y⟩
      · exact ⟨_, _, x, y, .inl ⟨rfl, rfl⟩⟩
      · exact ⟨_, _, x, y, .inr ⟨j, hj, rfl, rfl⟩⟩
    have eV : ∀ (j : List Nat), Dat.tup [.int A1, .int A2, .str (mkS j), .int 0] = vD A1 (some A2) j 0 := fun _ => rfl
    have eN : ∀ (a : Int) (t : List Nat) (s : Int), Dat.tup [.int a, .non, .str (mkS t), .int s] = vD a none t s := fun _ _ _ => rfl
    have eW : ∀ v, Dat.tup [.str "view", v] = vwT v := fun _ => rfl
    have eU : Dat.tup [.str "unmatched", .non] = unT := rfl
    have eE : Dat.tup [.str "end", .str wr] = enT wr := rfl
    have iV0 : ∀ V, ixT (vwT V) (.int 0) = .ok (.str "view") := fun _ => rfl
    have iV1 : ∀ V, ixT (vwT V) (.int 1) = .ok V := fun _ => rfl
    have jn := two (o1 := o1) (o2 := o2) g1 g2
    rw [hM, hL] at jn
    obtain ⟨X, A, hX, hA, hXA⟩ := jn
    have q5 : (q_law_5 K T w mg).ev [.d (.lst (ns.map .int)), .d (.lst [.int b0, .int b1, .int b2, .int b3]), .d (.str (mkS l)), .d (.str (mkS c0)), .d (.lst [.int p, .int q]), .d (.str wr), .d (.int k), .d (.str e), .d M, .d TH, r10, .d L, r12, o13, o14, o15] = .nx [.d (.lst (ns.map .int)), .d (.lst [.int b0, .int b1, .int b2, .int b3]), .d (.str (mkS l)), .d (.str (mkS c0)), .d (.lst [.int p, .int q]), .d (.str wr), .d (.int k), .d (.str e), .d M, .d TH, r10, .d L, r12, .d X, o14, o15] := by simp [q_law_5, hP, hX, lim]
    have q6 : (q_law_6 K T w mg).ev [.d (.lst (ns.map .int)), .d (.lst [.int b0, .int b1, .int b2, .int b3]), .d (.str (mkS l)), .d (.str (mkS c0)), .d (.lst [.int p, .int q]), .d (.str wr), .d (.int k), .d (.str e), .d M, .d TH, r10, .d L, r12, .d X, o14, o15] = .nx [.d (.lst (ns.map .int)), .d (.lst [.int b0, .int b1, .int b2, .int b3]), .d (.str (mkS l)), .d (.str (mkS c0)), .d (.lst [.int p, .int q]), .d (.str wr), .d (.int k), .d (.str e), .d M, .d TH, r10, .d L, .d A, .d X, o14, o15] := by simp [q_law_6, hA]
    have q7 : (q_law_7 K T w mg).ev [.d (.lst (ns.map .int)), .d (.lst [.int b0, .int b1, .int b2, .int b3]), .d (.str (mkS l)), .d (.str (mkS c0)), .d (.lst [.int p, .int q]), .d (.str wr), .d (.int k), .d (.str e), .d M, .d TH, r10, .d L, .d A, .d X, o14, o15] = .nx [.d (.lst (ns.map .int)), .d (.lst [.int b0, .int b1, .int b2, .int b3]), .d (.str (mkS l)), .d (.str (mkS c0)), .d (.lst [.int p, .int q]), .d (.str wr), .d (.int k), .d (.str e), .d M, .d TH, r10, .d L, .d A, .d X, o14, o15] := by
      rcases hXA with ⟨rfl, rfl⟩ | ⟨j, hj, rfl, rfl⟩
      · simp [q_law_7, isN, eU, unT_self, lim]
      · simp [q_law_7, isN]
    have q8 : (q_law_8 K T w mg).ev [.d (.lst (ns.map .int)), .d (.lst [.int b0, .int b1, .int b2, .int b3]), .d (.str (mkS l)), .d (.str (mkS c0)), .d (.lst [.int p, .int q]), .d (.str wr), .d (.int k), .d (.str e), .d M, .d TH, r10, .d L, .d A, .d X, o14, o15] = .nx [.d (.lst (ns.map .int)), .d (.lst [.int b0, .int b1, .int b2, .int b3]), .d (.str (mkS l)), .d (.str (mkS c0)), .d (.lst [.int p, .int q]), .d (.str wr), .d (.int k), .d (.str e), .d M, .d TH, r10, .d L, .d A, .d X, o14, o15] := by
      rcases hXA with ⟨rfl, rfl⟩ | ⟨j, hj, rfl, rfl⟩
      · simp [q_law_8, isN]
      · simp [q_law_8, isN, iV0, iV1, i10, i20, eV, view_self hj, lim]
    have q9 : (q_law_9 K T w mg).ev [.d (.lst (ns.map .int)), .d (.lst [.int b0, .int b1, .int b2, .int b3]), .d (.str (mkS l)), .d (.str (mkS c0)), .d (.lst [.int p, .int q]), .d (.str wr), .d (.int k), .d (.str e), .d M, .d TH, r10, .d L, .d A, .d X, o14, o15] = .nx [.d (.lst (ns.map .int)), .d (.lst [.int b0, .int b1, .int b2, .int b3]), .d (.str (mkS l)), .d (.str (mkS c0)), .d (.lst [.int p, .int q]), .d (.str wr), .d (.int k), .d (.str e), .d M, .d TH, r10, .d L, .d A, .d X, .d (vD A1 none l s1), o15] := by simp [q_law_9, i10, i13, eN, lim]
    have gO : goodV A1 l s1 := ⟨g1.1, l1, by omega, g1.2.2.2⟩
    have q10 : (q_law_10 K T w mg).ev [.d (.lst (ns.map .int)), .d (.lst [.int b0, .int b1, .int b2, .int b3]), .d (.str (mkS l)), .d (.str (mkS c0)), .d (.lst [.int p, .int q]), .d (.str wr), .d (.int k), .d (.str e), .d M, .d TH, r10, .d L, .d A, .d X, .d (vD A1 none l s1), o15] = .nx [.d (.lst (ns.map .int)), .d (.lst [.int b0, .int b1, .int b2, .int b3]), .d (.str (mkS l)), .d (.str (mkS c0)), .d (.lst [.int p, .int q]), .d (.str wr), .d (.int k), .d (.str e), .d M, .d TH, r10, .d L, .d (vwT (vD A1 none l (s1 + 1))), .d X, .d (vD A1 none l s1), o15] := by
      have h : P_Lgrown [.str e, vD A1 none l s1, .non] = .ok (vwT (vD A1 none l (s1 + 1))) := by
        have e3 : ∀ d m, P_Lgrown [.str e, d, m] = grownR (P_grow [.str e, d, m]) := fun _ _ => rfl
        rw [e3, grow_is e _ _ _ _ _ he, if_pos (show isN Dat.non = true from rfl)]
        rfl
      simp [q_law_10, h]
    have q11 : (q_law_11 K T w mg).ev [.d (.lst (ns.map .int)), .d (.lst [.int b0, .int b1, .int b2, .int b3]), .d (.str (mkS l)), .d (.str (mkS c0)), .d (.lst [.int p, .int q]), .d (.str wr), .d (.int k), .d (.str e), .d M, .d TH, r10, .d L, .d (vwT (vD A1 none l (s1 + 1))), .d X, .d (vD A1 none l s1), o15] = .nx [.d (.lst (ns.map .int)), .d (.lst [.int b0, .int b1, .int b2, .int b3]), .d (.str (mkS l)), .d (.str (mkS c0)), .d (.lst [.int p, .int q]), .d (.str wr), .d (.int k), .d (.str e), .d M, .d TH, r10, .d L, .d (vwT (vD A1 none l (s1 + 1))), .d X, .d (vD A1 none l s1), o15] := by
      simp [q_law_11, iV0, iV1, i10, i13, eN, view_self l1, lim]
    have pair : ∀ (oa ob : Option Int) (la lb : List Nat) (sa sb : Int), goodV A1 la sa → goodV A2 lb sb → ∀ r12 r13, ∃ t12 t13, (b_law_1 K T w mg).ev [.d (.lst (ns.map .int)), .d (.lst [.int b0, .int b1, .int b2, .int b3]), .d (.str (mkS l)), .d (.str (mkS c0)), .d (.lst [.int p, .int q]), .d (.str wr), .d (.int k), .d (.str e), .d M, .d TH, r10, .d L, r12, r13, .d (vD A1 none l s1), .d (.lst [vD A1 oa la sa, vD A2 ob lb sb])] = .nx [.d (.lst (ns.map .int)), .d (.lst [.int b0, .int b1, .int b2, .int b3]), .d (.str (mkS l)), .d (.str (mkS c0)), .d (.lst [.int p, .int q]), .d (.str wr), .d (.int k), .d (.str e), .d M, .d TH, r10, .d L, t12, t13, .d (vD A1 none l s1), .d (.lst [vD A1 oa la sa, vD A2 ob lb sb])] := by
      intro oa ob la lb sa sb ga gb r12 r13
      obtain ⟨X, A, hX, hA, hXA⟩ := two (o1 := oa) (o2 := ob) ga gb
      obtain ⟨v, hv⟩ : ∃ v, vD A1 oa la sa = v := ⟨_, rfl⟩
      obtain ⟨u, hu⟩ : ∃ u, vD A2 ob lb sb = u := ⟨_, rfl⟩
      rw [hv, hu] at hX hA ⊢
      refine ⟨.d A, .d X, ?_⟩
      rcases hXA with ⟨rfl, rfl⟩ | ⟨j, hj, rfl, rfl⟩
      · simp [b_law_1, hP, hP', L2_0, L2_1, hX, hA, isN, eU, unT_self, lim]
      · simp [b_law_1, hP, hP', L2_0, L2_1, hX, hA, isN, i10, i20, eV, eW, vwT_self hj, lim]
    have g2' : goodV A2 (m2 ++ [98]) s2 := ⟨g2.1, g2.2.1.append fun x hx => by rw [List.mem_singleton.mp hx]; simp, by rw [List.length_append, List.length_singleton]; omega, g2.2.2.2⟩
    obtain ⟨t12, t13, p1⟩ := pair none o2 l m2 s1 s2 gO g2 (.d (vwT (vD A1 none l (s1 + 1)))) (.d X)
    obtain ⟨u12, u13, p2⟩ := pair o1 none m1 (m2 ++ [98]) s1 s2 g1 g2' t12 t13
    rw [hL] at p1
    rw [hM] at p2
    have q12 : (q_law_12 K T w mg).ev [.d (.lst (ns.map .int)), .d (.lst [.int b0, .int b1, .int b2, .int b3]), .d (.str (mkS l)), .d (.str (mkS c0)), .d (.lst [.int p, .int q]), .d (.str wr), .d (.int k), .d (.str e), .d M, .d TH, r10, .d L, .d (vwT (vD A1 none l (s1 + 1))), .d X, .d (vD A1 none l s1), o15] = .nx [.d (.lst (ns.map .int)), .d (.lst [.int b0, .int b1, .int b2, .int b3]), .d (.str (mkS l)), .d (.str (mkS c0)), .d (.lst [.int p, .int q]), .d (.str wr), .d (.int k), .d (.str e), .d M, .d TH, r10, .d L, u12, u13, .d (vD A1 none l s1), .d (.lst [M, vD A2 none (m2 ++ [98]) s2])] := by
      have g : ∀ (x : List Dat) (o12 o13 o15 : Cz.Slot), (CG.name 15 : CG K T).ev (.lst x) [.d (.lst (ns.map .int)), .d (.lst [.int b0, .int b1, .int b2, .int b3]), .d (.str (mkS l)), .d (.str (mkS c0)), .d (.lst [.int p, .int q]), .d (.str wr), .d (.int k), .d (.str e), .d M, .d TH, r10, .d L, o12, o13, .d (vD A1 none l s1), o15] = some [.d (.lst (ns.map .int)), .d (.lst [.int b0, .int b1, .int b2, .int b3]), .d (.str (mkS l)), .d (.str (mkS c0)), .d (.lst [.int p, .int q]), .d (.str wr), .d (.int k), .d (.str e), .d M, .d TH, r10, .d L, o12, o13, .d (vD A1 none l s1), .d (.lst x)] := fun _ _ _ _ => rfl
      have key : evFor (CG.name 15 : CG K T).ev (b_law_1 K T w mg).ev [.lst [vD A1 none l s1, L], .lst [M, vD A2 none (m2 ++ [98]) s2]] [.d (.lst (ns.map .int)), .d (.lst [.int b0, .int b1, .int b2, .int b3]), .d (.str (mkS l)), .d (.str (mkS c0)), .d (.lst [.int p, .int q]), .d (.str wr), .d (.int k), .d (.str e), .d M, .d TH, r10, .d L, .d (vwT (vD A1 none l (s1 + 1))), .d X, .d (vD A1 none l s1), o15] = .nx [.d (.lst (ns.map .int)), .d (.lst [.int b0, .int b1, .int b2, .int b3]), .d (.str (mkS l)), .d (.str (mkS c0)), .d (.lst [.int p, .int q]), .d (.str wr), .d (.int k), .d (.str e), .d M, .d TH, r10, .d L, u12, u13, .d (vD A1 none l s1), .d (.lst [M, vD A2 none (m2 ++ [98]) s2])] := by
        rw [evFor_cons, g]
        simp only [p1]
        rw [evFor_cons, g]
        simp only [p2]
        rfl
      have d1 : m2.length + 1 ≤ 100000 := by omega
      simp [q_law_12, i20, i22, i23, b_is, eN, key, d1, lim]
    have q13 : (q_law_13 K T w mg).ev [.d (.lst (ns.map .int)), .d (.lst [.int b0, .int b1, .int b2, .int b3]), .d (.str (mkS l)), .d (.str (mkS c0)), .d (.lst [.int p, .int q]), .d (.str wr), .d (.int k), .d (.str e), .d M, .d TH, r10, .d L, u12, u13, .d (vD A1 none l s1), .d (.lst [M, vD A2 none (m2 ++ [98]) s2])] = .nx [.d (.lst (ns.map .int)), .d (.lst [.int b0, .int b1, .int b2, .int b3]), .d (.str (mkS l)), .d (.str (mkS c0)), .d (.lst [.int p, .int q]), .d (.str wr), .d (.int k), .d (.str e), .d M, .d TH, r10, .d L, u12, u13, .d (vD A1 none l s1), .d (.lst [M, vD A2 none (m2 ++ [98]) s2])] := by
      have h1 := grown_no (a := A1) (o := o1) (l := m1) (s := s1) (m := L) w1 w2
      have h2 := grown_no (a := A1) (o := o1) (l := m1) (s := s1) (m := .non) w1 w2
      rw [hM] at h1 h2
      simp [q_law_13, h1, h2, eE, w3, lim]
    exact ⟨.d (.str e), .d M, .d TH, r10, .d L, u12, u13, .d (vD A1 none l s1), .d (.lst [M, vD A2 none (m2 ++ [98]) s2]), by simp only [b_law_2, ev_CS_seq, q0, q1, q2, q3, q4, q5, q6, q7, q8, q9, q10, q11, q12, q13]⟩
  obtain ⟨r7, r8, r9, r10, r11, r12, r13, r14, r15, t1⟩ := turn 0 (.inl rfl) .un .un .un .un .un .un .un .un .un
  obtain ⟨v7, v8, v9, v10, v11, v12, v13, v14, v15, t2⟩ := turn 1 (.inr rfl) r7 r8 r9 r10 r11 r12 r13 r14 r15
  have st6 : (t_law_6 K T w mg).ev [.d (.lst (ns.map .int)), .d (.lst [.int b0, .int b1, .int b2, .int b3]), .d (.str (mkS l)), .d (.str (mkS c0)), .d (.lst [.int p, .int q]), .d (.str wr), .un, .un, .un, .un, .un, .un, .un, .un, .un, .un] = .nx [.d (.lst (ns.map .int)), .d (.lst [.int b0, .int b1, .int b2, .int b3]), .d (.str (mkS l)), .d (.str (mkS c0)), .d (.lst [.int p, .int q]), .d (.str wr), .d (.int 1), v7, v8, v9, v10, v11, v12, v13, v14, v15] := by
    have g : ∀ (x : Int) (o6 o7 o8 o9 o10 o11 o12 o13 o14 o15 : Cz.Slot), (CG.name 6 : CG K T).ev (.int x) [.d (.lst (ns.map .int)), .d (.lst [.int b0, .int b1, .int b2, .int b3]), .d (.str (mkS l)), .d (.str (mkS c0)), .d (.lst [.int p, .int q]), .d (.str wr), o6, o7, o8, o9, o10, o11, o12, o13, o14, o15] = some [.d (.lst (ns.map .int)), .d (.lst [.int b0, .int b1, .int b2, .int b3]), .d (.str (mkS l)), .d (.str (mkS c0)), .d (.lst [.int p, .int q]), .d (.str wr), .d (.int x), o7, o8, o9, o10, o11, o12, o13, o14, o15] := fun _ _ _ _ _ _ _ _ _ _ _ => rfl
    have key : evFor (CG.name 6 : CG K T).ev (b_law_2 K T w mg).ev [.int 0, .int 1] [.d (.lst (ns.map .int)), .d (.lst [.int b0, .int b1, .int b2, .int b3]), .d (.str (mkS l)), .d (.str (mkS c0)), .d (.lst [.int p, .int q]), .d (.str wr), .un, .un, .un, .un, .un, .un, .un, .un, .un, .un] = .nx [.d (.lst (ns.map .int)), .d (.lst [.int b0, .int b1, .int b2, .int b3]), .d (.str (mkS l)), .d (.str (mkS c0)), .d (.lst [.int p, .int q]), .d (.str wr), .d (.int 1), v7, v8, v9, v10, v11, v12, v13, v14, v15] := by
      rw [evFor_cons, g]
      simp only [t1]
      rw [evFor_cons, g]
      simp only [t2]
      rfl
    have r2 : rangeD 0 2 = [.int 0, .int 1] := rfl
    simp [t_law_6, key, r2]
  have st7 : (t_law_7 K T w mg).ev [.d (.lst (ns.map .int)), .d (.lst [.int b0, .int b1, .int b2, .int b3]), .d (.str (mkS l)), .d (.str (mkS c0)), .d (.lst [.int p, .int q]), .d (.str wr), .d (.int 1), v7, v8, v9, v10, v11, v12, v13, v14, v15] = .rt (.bl true) := by
    simp [t_law_7]
  have e0 : [Dat.lst (ns.map .int)].map Slot.d ++ List.replicate (sc_law_N.length - [Dat.lst (ns.map Dat.int)].length) Slot.un = [.d (.lst (ns.map .int)), .un, .un, .un, .un, .un, .un, .un, .un, .un, .un, .un, .un, .un, .un, .un] := rfl
  unfold runF
  rw [e0]
  simp only [c_law, ev_CS_seq, st0, st1, st2, st3, st4, st5, st6, st7]
theorem ok_law {P : Program} {w : World} {K : PySem.W.Frag} {mg : Str → Option Value} {base : Heap} {T : Nat → Addr} {f : Addr} {fd : FuncData} (B : Blt mg) (F : Fun K "law" "law" s_law f fd) (C_Lcell : Cal P w K mg base "_law_cell" 1 (spF K T 2 P_Lcell)) (C_Lchanged : Cal P w K mg base "_law_changed" 3 (spF K T 3 P_Lchanged)) (C_Ldraws : Cal P w K mg base "_law_draws" 1 (spF K T 3 P_Ldraws)) (C_Lfates : Cal P w K mg base "_law_fates" 2 (spF K T 2 P_Lfates)) (C_Lgrown : Cal P w K mg base "_law_grown" 9 (spF K T 3 P_Lgrown)) (C_Ljoined : Cal P w K mg base "_law_joined" 2 (spF K T 2 P_Ljoined)) (C_Lseen : Cal P w K mg base "_law_seen" 1 (spF K T 4 P_Lseen)) (C_Lview : Cal P w K mg base "_law_view" 2 (spF K T 2 P_Lview)) : FnOk P w K mg base (L2N.CX P w) 10 f fd ["_law_script"] (spF K T 1 P_law) := by
  refine (ok_fn F sc_law (c_law K T w mg) fun cdv A outer s H E hr => ?_).imp (spF_le fun ds hl hb => e_law K T w mg ds hb)
  · have tk : L2N.Takes (cxOf (L2N.CX P w) P w K mg base sc_law_N "law" (defScope s_law) f cdv A outer s H E) (fun cls d _ H => E cls d H) := L2N.takes_of rfl rfl rfl rfl
    have hr1 : Room 1 _ := hr.mono (by decide)
    have hr2 : Room 2 _ := hr.mono (by decide)
    have hr3 : Room 3 _ := hr.mono (by decide)
    have hr9 : Room 9 _ := hr.mono (by decide)
    have hu64 := hr.units
    exact (d_seq (d_set (i := 1) sc_law.nd (d_cal C_Ldraws tk hr1 (d_acons (d_cal C_Lcell tk hr1 (d_acons (d_var (i := 0)) (d_acons d_int d_anil))) (d_acons d_int (d_acons d_int d_anil))))) (d_seq (d_set (i := 2) sc_law.nd (d_cal C_Lfates tk hr2 (d_acons (d_cal C_Lcell tk hr1 (d_acons (d_var (i := 0)) (d_acons d_int d_anil))) (d_acons (d_bin op_mod (d_typ call_int1 B.int_ (by decide +kernel) (d_acons (d_cal C_Lcell tk hr1 (d_acons (d_var (i := 0)) (d_acons d_int d_anil))) d_anil)) d_int) d_anil)))) (d_seq (d_set (i := 3) sc_law.nd (d_cal C_Lchanged tk hr3 (d_acons (d_var (i := 0)) (d_acons d_int (d_acons (d_var (i := 2)) d_anil))))) (d_seq (d_set (i := 4) sc_law.nd (d_ce (d_slL (d_var (i := 1)) d_none (d_some d_int)))) (d_seq (d_if (d_cmpT op_eq (d_bin op_mod (d_typ call_int1 B.int_ (by decide +kernel) (d_acons (d_cal C_Lcell tk hr1 (d_acons (d_var (i := 0)) (d_acons d_int d_anil))) d_anil)) d_int) d_int (nomark _)) (d_one (d_set (i := 4) sc_law.nd (d_ce (d_slL (d_var (i := 1)) (d_some d_int) d_none)))) d_nil) (d_seq (d_set (i := 5) sc_law.nd (d_ix ix_list (d_ce (d_lst (d_acons d_str (d_acons d_str (d_acons d_str (d_acons d_str (d_acons d_str (d_acons d_str d_anil)))))))) (d_bin op_mod (d_typ call_int1 B.int_ (by decide +kernel) (d_acons (d_cal C_Lcell tk hr1 (d_acons (d_var (i := 0)) (d_acons d_int d_anil))) d_anil)) d_int))) (d_seq (d_for (passes_of rfl) (d_range1 B.range_ (d_acons d_int d_anil)) (d_name (i := 6) sc_law.nd) (d_seq (d_set (i := 7) sc_law.nd (d_ix ix_list (d_ce (d_lst (d_acons d_str (d_acons d_str d_anil)))) (d_var (i := 6)))) (d_seq (d_set (i := 8) sc_law.nd (d_cal C_Lseen tk hr1 (d_acons (d_ix ix_list (d_var (i := 1)) d_int) (d_acons (d_ix ix_list (d_var (i := 1)) d_int) (d_acons (d_var (i := 2)) (d_acons (d_var (i := 7)) d_anil)))))) (d_seq (d_set (i := 9) sc_law.nd (d_cal C_Lseen tk hr1 (d_acons (d_ix ix_list (d_var (i := 1)) d_int) (d_acons (d_ix ix_list (d_var (i := 1)) d_int) (d_acons (d_var (i := 2)) (d_acons (d_ix ix_list (d_ce (d_lst (d_acons d_str (d_acons d_str d_anil)))) (d_var (i := 6))) d_anil)))))) (d_seq (d_for (passes_of rfl) (d_str_ d_str) (d_name (i := 10) sc_law.nd) (d_seq (d_set (i := 11) sc_law.nd d_non) (d_seq (d_if (d_cmpT op_in_sign (d_var (i := 10)) (d_ix ix_list (d_ce (d_lst (d_acons d_str (d_acons d_str d_anil)))) (d_var (i := 6))) (by with_unfolding_all rfl)) (d_one (d_set (i := 11) sc_law.nd (d_var (i := 9)))) d_nil) (d_seq (d_set (i := 12) sc_law.nd (d_cal C_Lgrown tk hr9 (d_acons (d_var (i := 7)) (d_acons (d_var (i := 8)) (d_acons (d_var (i := 11)) d_anil))))) (d_one (d_if (PW.pt (d_orT (d_cmpT op_ne (d_ix ix_tup (d_var (i := 12)) d_int) d_str (nomark _)) (d_or1 (d_notT (d_val (d_cal C_Lview tk hr2 (d_acons (d_ix ix_tup (d_var (i := 12)) d_int) (d_acons (d_cal C_Lseen tk hr1 (d_acons (d_ix ix_list (d_var (i := 1)) d_int) (d_acons (d_ix ix_list (d_var (i := 1)) d_int) (d_acons (d_bin op_add_str (d_var (i := 2)) (d_var (i := 10))) (d_acons (d_var (i := 7)) d_anil))))) d_anil)))))))) (d_one (d_ret d_bl)) d_nil)))))) (d_seq (d_set (i := 11) sc_law.nd (d_cal C_Lseen tk hr1 (d_acons (d_ix ix_list (d_var (i := 4)) d_int) (d_acons (d_ix ix_list (d_var (i := 4)) d_int) (d_acons (d_var (i := 3)) (d_acons (d_ix ix_list (d_ce (d_lst (d_acons d_str (d_acons d_str d_anil)))) (d_var (i := 6))) d_anil)))))) (d_seq (d_set (i := 13) sc_law.nd (d_cal C_Ljoined tk hr2 (d_acons (d_ix ix_list (d_ce (d_lst (d_acons (d_var (i := 8)) (d_acons (d_var (i := 11)) d_anil)))) (d_var (i := 6))) (d_acons (d_ix ix_list (d_ce (d_lst (d_acons (d_var (i := 11)) (d_acons (d_var (i := 8)) d_anil)))) (d_var (i := 6))) d_anil)))) (d_seq (d_set (i := 12) sc_law.nd (d_cal C_Lgrown tk hr9 (d_acons (d_var (i := 7)) (d_acons (d_var (i := 8)) (d_acons (d_var (i := 11)) d_anil))))) (d_seq (d_if (PW.pt (d_andT (d_cmpT op_isN (d_var (i := 13)) d_non (nomark _)) (d_and1 (d_cmpT (op_neD hu64) (d_var (i := 12)) (d_tup (d_acons d_str (d_acons d_non d_anil))) (nomark _))))) (d_one (d_ret d_bl)) d_nil) (d_seq (d_if (PW.pt (d_andT (d_cmpT op_notN (d_var (i := 13)) d_non (nomark _)) (d_and1 (PW.pt (d_orT (d_cmpT op_ne (d_ix ix_tup (d_var (i := 12)) d_int) d_str (nomark _)) (d_or1 (d_notT (d_val (d_cal C_Lview tk hr2 (d_acons (d_ix ix_tup (d_var (i := 12)) d_int) (d_acons (d_tup (d_acons (d_ix ix_tup (d_var (i := 8)) d_int) (d_acons (d_ix ix_tup (d_var (i := 11)) d_int) (d_acons (d_var (i := 13)) (d_acons d_int d_anil))))) d_anil))))))))))) (d_one (d_ret d_bl)) d_nil) (d_seq (d_set (i := 14) sc_law.nd (d_tup (d_acons (d_ix ix_tup (d_var (i := 8)) d_int) (d_acons d_non (d_acons (d_var (i := 2)) (d_acons (d_ix ix_tup (d_var (i := 8)) d_int) d_anil)))))) (d_seq (d_set (i := 12) sc_law.nd (d_cal C_Lgrown tk hr9 (d_acons (d_var (i := 7)) (d_acons (d_var (i := 14)) (d_acons d_non d_anil))))) (d_seq (d_if (PW.pt (d_orT (d_cmpT op_ne (d_ix ix_tup (d_var (i := 12)) d_int) d_str (nomark _)) (d_or1 (d_notT (d_val (d_cal C_Lview tk hr2 (d_acons (d_ix ix_tup (d_var (i := 12)) d_int) (d_acons (d_tup (d_acons (d_ix ix_tup (d_var (i := 8)) d_int) (d_acons d_non (d_acons (d_var (i := 2)) (d_acons (d_bin op_add (d_ix ix_tup (d_var (i := 8)) d_int) d_int) d_anil))))) d_anil)))))))) (d_one (d_ret d_bl)) d_nil) (d_seq (d_for (passes_of rfl) (d_list_ (d_ce (d_lst (d_acons (d_ce (d_lst (d_acons (d_var (i := 14)) (d_acons (d_var (i := 11)) d_anil)))) (d_acons (d_ce (d_lst (d_acons (d_var (i := 8)) (d_acons (d_tup (d_acons (d_ix ix_tup (d_var (i := 11)) d_int) (d_acons d_non (d_acons (d_bin op_add_str (d_ix ix_tup (d_var (i := 11)) d_int) d_str) (d_acons (d_ix ix_tup (d_var (i := 11)) d_int) d_anil))))) d_anil)))) d_anil))))) (d_name (i := 15) sc_law.nd) (d_seq (d_set (i := 13) sc_law.nd (d_cal C_Ljoined tk hr2 (d_acons (d_ix ix_list (d_var (i := 15)) (d_var (i := 6))) (d_acons (d_ix ix_list (d_var (i := 15)) (d_bin op_sub d_int (d_var (i := 6)))) d_anil)))) (d_seq (d_set (i := 12) sc_law.nd (d_cal C_Lgrown tk hr9 (d_acons (d_var (i := 7)) (d_acons (d_ix ix_list (d_var (i := 15)) d_int) (d_acons (d_ix ix_list (d_var (i := 15)) d_int) d_anil))))) (d_seq (d_if (PW.pt (d_andT (d_cmpT op_isN (d_var (i := 13)) d_non (nomark _)) (d_and1 (d_cmpT (op_neD hu64) (d_var (i := 12)) (d_tup (d_acons d_str (d_acons d_non d_anil))) (nomark _))))) (d_one (d_ret d_bl)) d_nil) (d_one (d_if (PW.pt (d_andT (d_cmpT op_notN (d_var (i := 13)) d_non (nomark _)) (d_and1 (d_cmpT (op_neD hu64) (d_var (i := 12)) (d_tup (d_acons d_str (d_acons (d_tup (d_acons (d_ix ix_tup (d_var (i := 8)) d_int) (d_acons (d_ix ix_tup (d_var (i := 11)) d_int) (d_acons (d_var (i := 13)) (d_acons d_int d_anil))))) d_anil))) (nomark _))))) (d_one (d_ret d_bl)) d_nil)))))) (d_one (d_if (PW.pt (d_orT (d_cmpT (op_neD hu64) (d_cal C_Lgrown tk hr9 (d_acons (d_var (i := 5)) (d_acons (d_var (i := 8)) (d_acons (d_var (i := 11)) d_anil)))) (d_tup (d_acons d_str (d_acons (d_var (i := 5)) d_anil))) (nomark _)) (d_or1 (d_cmpT (op_neD hu64) (d_cal C_Lgrown tk hr9 (d_acons (d_var (i := 5)) (d_acons (d_var (i := 8)) (d_acons d_non d_anil)))) (d_tup (d_acons d_str (d_acons (d_var (i := 5)) d_anil))) (nomark _))))) (d_one (d_ret d_bl)) d_nil)))))))))))))))) (d_one (d_ret d_bl)))))))))
end My

set_option Elab.async false
set_option linter.all false
set_option maxRecDepth 100000
set_option maxHeartbeats 4000000
namespace My
open PySem L2 Evl PySem.Spec PyProof.Rows Cz
theorem law_true (ns : List Int) (h : ns.length ≤ 63) : P_law [.lst (ns.map .int)] = .ok (.bl true) := by
  show P_lawT _ = _
  unfold P_lawT
  simp only [toInts_map, h, if_true]
/-! ### the end -/
def spTop (K : PySem.W.Frag) : Sp := fun vs H Q _ => ∃ (a : Addr) (ns : List Int), vs = [.ref a] ∧ ns.length ≤ 63 ∧ SqL K H a (ns.map V.int) ∧ ∀ H', Q (.bl true) H'
theorem top_le {K : PySem.W.Frag} {T : Nat → Addr} {F : List Dat → Rs Dat} (h : ∀ ns : List Int, ns.length ≤ 63 → F [.lst (ns.map .int)] = .ok (.bl true)) {vs : List V} {H : Hp} {Q : VK} {E : XK} (s : spTop K vs H Q E) : spF K T 1 F vs H Q E := by
  obtain ⟨a, ns, rfl, hl, hS, k⟩ := s
  refine ⟨rfl, H, [.lst (ns.map .int)], fun _ _ e => e, .cons (.lst hS (RepL.ints ns)) .nil, _, h ns hl, fun v G' H' _ r => ?_⟩
  cases r
  exact k H'
abbrev sx_InvalidFate : Stmt := inClass (topS 3) 0
abbrev nf_InvalidFate (cc cd : Addr) : NdefX.NF := ⟨"__init__", "InvalidFate.__init__", defArgs sx_InvalidFate, defBody sx_InvalidFate, defScope sx_InvalidFate, [(("__class__" : Str), cc)], cd⟩
theorem okx_InvalidFate {P : Program} {w : World} {K : PySem.W.Frag} {mg : Str → Option Value} {base : Heap} {f cc cd C : Addr} {oc doc pm ctv : Value} {od : Option Addr} {sl : Array (Option Value)} (lk : K.lookup f = some ⟨oc, od, .func ((nf_InvalidFate cc cd).fd doc pm ctv), sl⟩) (T : OexC K C)
    (S : SupF P K mg (nf_InvalidFate cc cd) f cc C) (hno : PySem.W.findIn K (.ref C) "at" = some none) : FnOk P w K mg base (L2N.CX P w) 1 f ((nf_InvalidFate cc cd).fd doc pm ctv) ["self", "at"] (spX C "at") :=
  ok_sup (at_ := "at") (pre := "no fate at index ") lk T S (NdefX.nscope_by (by show NdefX.nscB _ _ _ (defScope sx_InvalidFate) = true; decide +kernel)) hno (by decide) rfl rfl rfl (by decide) (by decide) rfl (fun _ => rfl)
abbrev sx_InvalidEnd : Stmt := inClass (topS 4) 0
abbrev nf_InvalidEnd (cc cd : Addr) : NdefX.NF := ⟨"__init__", "InvalidEnd.__init__", defArgs sx_InvalidEnd, defBody sx_InvalidEnd, defScope sx_InvalidEnd, [(("__class__" : Str), cc)], cd⟩
theorem okx_InvalidEnd {P : Program} {w : World} {K : PySem.W.Frag} {mg : Str → Option Value} {base : Heap} {f cc cd C : Addr} {oc doc pm ctv : Value} {od : Option Addr} {sl : Array (Option Value)} (lk : K.lookup f = some ⟨oc, od, .func ((nf_InvalidEnd cc cd).fd doc pm ctv), sl⟩) (T : OexC K C)
    (S : SupF P K mg (nf_InvalidEnd cc cd) f cc C) (hno : PySem.W.findIn K (.ref C) "end" = some none) : FnOk P w K mg base (L2N.CX P w) 1 f ((nf_InvalidEnd cc cd).fd doc pm ctv) ["self", "end"] (spX C "end") :=
  ok_sup (at_ := "end") (pre := "not an end: ") lk T S (NdefX.nscope_by (by show NdefX.nscB _ _ _ (defScope sx_InvalidEnd) = true; decide +kernel)) hno (by decide) rfl rfl rfl (by decide) (by decide) rfl (fun _ => rfl)
abbrev sx_InvalidBit : Stmt := inClass (topS 5) 0
abbrev nf_InvalidBit (cc cd : Addr) : NdefX.NF := ⟨"__init__", "InvalidBit.__init__", defArgs sx_InvalidBit, defBody sx_InvalidBit, defScope sx_InvalidBit, [(("__class__" : Str), cc)], cd⟩
theorem okx_InvalidBit {P : Program} {w : World} {K : PySem.W.Frag} {mg : Str → Option Value} {base : Heap} {f cc cd C : Addr} {oc doc pm ctv : Value} {od : Option Addr} {sl : Array (Option Value)} (lk : K.lookup f = some ⟨oc, od, .func ((nf_InvalidBit cc cd).fd doc pm ctv), sl⟩) (T : OexC K C)
    (S : SupF P K mg (nf_InvalidBit cc cd) f cc C) (hno : PySem.W.findIn K (.ref C) "bit" = some none) : FnOk P w K mg base (L2N.CX P w) 1 f ((nf_InvalidBit cc cd).fd doc pm ctv) ["self", "bit"] (spX C "bit") :=
  ok_sup (at_ := "bit") (pre := "not a bit: ") lk T S (NdefX.nscope_by (by show NdefX.nscB _ _ _ (defScope sx_InvalidBit) = true; decide +kernel)) hno (by decide) rfl rfl rfl (by decide) (by decide) rfl (fun _ => rfl)
theorem all_mk {P : Program} {w : World} {K : PySem.W.Frag} {h : Heap} {mg : Str → Option Value} {fa : Addr} (X : K.In h) (G : h.Ns mainGlobals mg) (hfa : mg "law" = some (.ref fa))
    {CRun CInvalidFate CInvalidEnd CInvalidBit CUnmatched CSureError : Addr}
    {nmInvalidFate qInvalidFate : Str} {NInvalidFate fInvalidFate ccInvalidFate cdInvalidFate : Addr} {bsInvalidFate bmInvalidFate subInvalidFate : List Value} {snInvalidFate : List Str} {abInvalidFate : Bool} {colInvalidFate : Option Bool} {ddInvalidFate odInvalidFate od2InvalidFate od3InvalidFate : Option Addr} {k0InvalidFate k1InvalidFate k2InvalidFate k3InvalidFate k5InvalidFate : Option Value} {ocInvalidFate oc2InvalidFate oc3InvalidFate dcInvalidFate pmInvalidFate ctInvalidFate : Value} {slInvalidFate sl2InvalidFate sl3InvalidFate : Array (Option Value)} {vsInvalidFate : Array Value} {fiInvalidFate : Str} {tfInvalidFate : Tok}
    {nmInvalidEnd qInvalidEnd : Str} {NInvalidEnd fInvalidEnd ccInvalidEnd cdInvalidEnd : Addr} {bsInvalidEnd bmInvalidEnd subInvalidEnd : List Value} {snInvalidEnd : List Str} {abInvalidEnd : Bool} {colInvalidEnd : Option Bool} {ddInvalidEnd odInvalidEnd od2InvalidEnd od3InvalidEnd : Option Addr} {k0InvalidEnd k1InvalidEnd k2InvalidEnd k3InvalidEnd k5InvalidEnd : Option Value} {ocInvalidEnd oc2InvalidEnd oc3InvalidEnd dcInvalidEnd pmInvalidEnd ctInvalidEnd : Value} {slInvalidEnd sl2InvalidEnd sl3InvalidEnd : Array (Option Value)} {vsInvalidEnd : Array Value} {fiInvalidEnd : Str} {tfInvalidEnd : Tok}
    {nmInvalidBit qInvalidBit : Str} {NInvalidBit fInvalidBit ccInvalidBit cdInvalidBit : Addr} {bsInvalidBit bmInvalidBit subInvalidBit : List Value} {snInvalidBit : List Str} {abInvalidBit : Bool} {colInvalidBit : Option Bool} {ddInvalidBit odInvalidBit od2InvalidBit od3InvalidBit : Option Addr} {k0InvalidBit k1InvalidBit k2InvalidBit k3InvalidBit k5InvalidBit : Option Value} {ocInvalidBit oc2InvalidBit oc3InvalidBit dcInvalidBit pmInvalidBit ctInvalidBit : Value} {slInvalidBit sl2InvalidBit sl3InvalidBit : Array (Option Value)} {vsInvalidBit : Array Value} {fiInvalidBit : Str} {tfInvalidBit : Tok}
    {tFATES : _}
    {DARRIVING : Addr} {esARRIVING : Array DictEntry} {nnARRIVING : Nat}
    {tARRIVING0 : _}
    {tARRIVING1 : _}
    {DENDS : Addr} {ddENDS : Option Addr} {itsENDS : Array Value} {nnENDS : Nat} {slENDS : Array (Option Value)} {tENDS0 : _} {tENDS1 : _}
    {fcheck_bit : Addr} {odcheck_bit ancheck_bit : Option Addr} {slcheck_bit : Array (Option Value)} {occheck_bit kVcheck_bit dccheck_bit pmcheck_bit cdcheck_bit ctcheck_bit : Value}
    {fcheck_fates : Addr} {odcheck_fates ancheck_fates : Option Addr} {slcheck_fates : Array (Option Value)} {occheck_fates kVcheck_fates dccheck_fates pmcheck_fates cdcheck_fates ctcheck_fates : Value}
    {fcheck_end : Addr} {odcheck_end ancheck_end : Option Addr} {slcheck_end : Array (Option Value)} {occheck_end kVcheck_end dccheck_end pmcheck_end cdcheck_end ctcheck_end : Value}
    {farrives : Addr} {odarrives anarrives : Option Addr} {slarrives : Array (Option Value)} {ocarrives kVarrives dcarrives pmarrives cdarrives ctarrives : Value}
    {flast_arrival : Addr} {odlast_arrival anlast_arrival : Option Addr} {sllast_arrival : Array (Option Value)} {oclast_arrival kVlast_arrival dclast_arrival pmlast_arrival cdlast_arrival ctlast_arrival : Value}
    {fRun_init : Addr} {odRun_init anRun_init : Option Addr} {slRun_init : Array (Option Value)} {ocRun_init kVRun_init dcRun_init pmRun_init cdRun_init ctRun_init : Value}
    {fRun_rounds : Addr} {odRun_rounds anRun_rounds : Option Addr} {slRun_rounds : Array (Option Value)} {ocRun_rounds kVRun_rounds dcRun_rounds pmRun_rounds cdRun_rounds ctRun_rounds : Value}
    {ppRun_rounds : Addr} {rrRun_rounds : List Value}
    {fRun_seen : Addr} {odRun_seen anRun_seen : Option Addr} {slRun_seen : Array (Option Value)} {ocRun_seen kVRun_seen dcRun_seen pmRun_seen cdRun_seen ctRun_seen : Value}
    {frounds_heard : Addr} {odrounds_heard anrounds_heard : Option Addr} {slrounds_heard : Array (Option Value)} {ocrounds_heard kVrounds_heard dcrounds_heard pmrounds_heard cdrounds_heard ctrounds_heard : Value}
    {frounds_of : Addr} {odrounds_of anrounds_of : Option Addr} {slrounds_of : Array (Option Value)} {ocrounds_of kVrounds_of dcrounds_of pmrounds_of cdrounds_of ctrounds_of : Value}
    {fjoined_fates : Addr} {odjoined_fates anjoined_fates : Option Addr} {sljoined_fates : Array (Option Value)} {ocjoined_fates kVjoined_fates dcjoined_fates pmjoined_fates cdjoined_fates ctjoined_fates : Value}
    {fjoin_views : Addr} {odjoin_views anjoin_views : Option Addr} {sljoin_views : Array (Option Value)} {ocjoin_views kVjoin_views dcjoin_views pmjoin_views cdjoin_views ctjoin_views : Value}
    {fgrow : Addr} {odgrow angrow : Option Addr} {slgrow : Array (Option Value)} {ocgrow kVgrow dcgrow pmgrow cdgrow ctgrow : Value}
    {fLcell : Addr} {odLcell anLcell : Option Addr} {slLcell : Array (Option Value)} {ocLcell kVLcell dcLcell pmLcell cdLcell ctLcell : Value}
    {fLdraws : Addr} {odLdraws anLdraws : Option Addr} {slLdraws : Array (Option Value)} {ocLdraws kVLdraws dcLdraws pmLdraws cdLdraws ctLdraws : Value}
    {fLfates : Addr} {odLfates anLfates : Option Addr} {slLfates : Array (Option Value)} {ocLfates kVLfates dcLfates pmLfates cdLfates ctLfates : Value}
    {fLchanged : Addr} {odLchanged anLchanged : Option Addr} {slLchanged : Array (Option Value)} {ocLchanged kVLchanged dcLchanged pmLchanged cdLchanged ctLchanged : Value}
    {fLinteger : Addr} {odLinteger anLinteger : Option Addr} {slLinteger : Array (Option Value)} {ocLinteger kVLinteger dcLinteger pmLinteger cdLinteger ctLinteger : Value}
    {fLseen : Addr} {odLseen anLseen : Option Addr} {slLseen : Array (Option Value)} {ocLseen kVLseen dcLseen pmLseen cdLseen ctLseen : Value}
    {fLview : Addr} {odLview anLview : Option Addr} {slLview : Array (Option Value)} {ocLview kVLview dcLview pmLview cdLview ctLview : Value}
    {fLheard : Addr} {odLheard anLheard : Option Addr} {slLheard : Array (Option Value)} {ocLheard kVLheard dcLheard pmLheard cdLheard ctLheard : Value}
    {fLjoined : Addr} {odLjoined anLjoined : Option Addr} {slLjoined : Array (Option Value)} {ocLjoined kVLjoined dcLjoined pmLjoined cdLjoined ctLjoined : Value}
    {fLgrown : Addr} {odLgrown anLgrown : Option Addr} {slLgrown : Array (Option Value)} {ocLgrown kVLgrown dcLgrown pmLgrown cdLgrown ctLgrown : Value}
    {flaw : Addr} {odlaw anlaw : Option Addr} {sllaw : Array (Option Value)} {oclaw kVlaw dclaw pmlaw cdlaw ctlaw : Value}
    (z_len : PySem.W.nsIn K mainGlobals "len" = some none)
    (z_range : PySem.W.nsIn K mainGlobals "range" = some none)
    (z_int : PySem.W.nsIn K mainGlobals "int" = some none)
    (z_isinstance : PySem.W.nsIn K mainGlobals "isinstance" = some none)
    (z_enumerate : PySem.W.nsIn K mainGlobals "enumerate" = some none)
    (z_zip : PySem.W.nsIn K mainGlobals "zip" = some none)
    (z_str : PySem.W.nsIn K mainGlobals "str" = some none)
    (z_list : PySem.W.nsIn K mainGlobals "list" = some none)
    (z_tuple : PySem.W.nsIn K mainGlobals "tuple" = some none)
    (z_all : PySem.W.nsIn K mainGlobals "all" = some none)
    (z_any : PySem.W.nsIn K mainGlobals "any" = some none)
    (z_reversed : PySem.W.nsIn K mainGlobals "reversed" = some none)
    (z_iter : PySem.W.nsIn K mainGlobals "iter" = some none)
    (z_bool : PySem.W.nsIn K mainGlobals "bool" = some none)
    (z_super : PySem.W.nsIn K mainGlobals "super" = some none)
    (z_dict : PySem.W.nsIn K mainGlobals "dict" = some none)
    (z_ValueError : PySem.W.nsIn K mainGlobals "ValueError" = some none)
    (aCRun : PySem.W.nsIn K mainGlobals "Run" = some (some (.ref CRun)))
    (pgRun : PySem.W.plainGet K CRun Str.empty = true)
    (hdRun : PySem.W.hasDictIn K CRun = true)
    (poRun : PySem.W.plainOver K CRun = true)
    (saRun : PySem.W.findIn K (.ref CRun) "__setattr__" = some (some (.builtin "object.__setattr__")))
    (mkRun : PySem.W.makesIn K CRun = true)
    (kcRun : PySem.W.keepIn K (.ref CRun) = true)
    (nRun_first : PySem.W.findIn K (.ref CRun) "first" = some none)
    (nRun_second : PySem.W.findIn K (.ref CRun) "second" = some none)
    (nRun_fates : PySem.W.findIn K (.ref CRun) "fates" = some none)
    (haRun : PySem.W.findIn K (.ref CRun) "__class__" = some (some (.builtin "object.__class__")))
    (hmRun : PySem.W.mroIn K CRun (.type "object") = some true)
    (opq : PySem.W.nsIn K cStatics "thirdparty.any" = some none)
    (topS_ : (P.main.scope.names.lookup ("super" : Str)).isSome = false)
    (aCSureError : PySem.W.nsIn K mainGlobals "SureError" = some (some (.ref CSureError)))
    (aCInvalidFate : PySem.W.nsIn K mainGlobals "InvalidFate" = some (some (.ref CInvalidFate)))
    (aCInvalidEnd : PySem.W.nsIn K mainGlobals "InvalidEnd" = some (some (.ref CInvalidEnd)))
    (aCInvalidBit : PySem.W.nsIn K mainGlobals "InvalidBit" = some (some (.ref CInvalidBit)))
    (aCUnmatched : PySem.W.nsIn K mainGlobals "Unmatched" = some (some (.ref CUnmatched)))
    (exCInvalidFate : PySem.W.subIn K (.ref CInvalidFate) (.type "BaseException") = some true)
    (tyCInvalidFate : PySem.W.typeIn K (.ref CInvalidFate) = some (.type "type"))
    (nInvalidFate : PySem.W.findIn K (.ref CInvalidFate) "at" = some none)
    (xLInvalidFate : K.lookup CInvalidFate = some (excClassObj nmInvalidFate qInvalidFate CInvalidFate NInvalidFate bsInvalidFate bmInvalidFate true snInvalidFate subInvalidFate abInvalidFate colInvalidFate ddInvalidFate k0InvalidFate k1InvalidFate k2InvalidFate k3InvalidFate k5InvalidFate "ValueError.__new__"))
    (xrInvalidFate : PySem.HandSPX.refsVE bmInvalidFate = true)
    (saInvalidFate : PySem.W.findIn K (.ref CInvalidFate) "__setattr__" = some (some (.builtin "object.__setattr__")))
    (kCInvalidFate : PySem.W.keepIn K (.ref CInvalidFate) = true)
    (aiInvalidFate : PySem.W.findIn K (.ref CInvalidFate) "__init__" = some (some (.ref fInvalidFate)))
    (tiInvalidFate : PySem.W.typeIn K (.ref fInvalidFate) = some (.type "function"))
    (liInvalidFate : K.lookup fInvalidFate = some ⟨ocInvalidFate, odInvalidFate, .func ((nf_InvalidFate ccInvalidFate cdInvalidFate).fd dcInvalidFate pmInvalidFate ctInvalidFate), slInvalidFate⟩)
    (ciInvalidFate : PySem.W.codeIn K (.ref cdInvalidFate) "InvalidFate.__init__" = true)
    (ceInvalidFate : K.lookup ccInvalidFate = some ⟨oc2InvalidFate, od2InvalidFate, .cell (some (.ref CInvalidFate)), sl2InvalidFate⟩)
    (coInvalidFate : K.lookup cdInvalidFate = some ⟨oc3InvalidFate, od3InvalidFate, .fields vsInvalidFate, sl3InvalidFate⟩)
    (cfInvalidFate : vsInvalidFate[2]? = some (.str fiInvalidFate tfInvalidFate))
    (cgInvalidFate : ((P.main.file : Str) == fiInvalidFate) = true)
    (suInvalidFate : PySem.W.ks_superIn K CInvalidFate CInvalidFate "__init__" = some (some (.builtin "ValueError.__init__")))
    (scInvalidFate : PySem.W.mroIn K CInvalidFate (.ref CInvalidFate) = some true)
    (svInvalidFate : PySem.W.subIn K (.ref CInvalidFate) (.type "ValueError") = some true)
    (exCInvalidEnd : PySem.W.subIn K (.ref CInvalidEnd) (.type "BaseException") = some true)
    (tyCInvalidEnd : PySem.W.typeIn K (.ref CInvalidEnd) = some (.type "type"))
    (hdInvalidEnd : PySem.W.hasDictIn K CInvalidEnd = true)
    (nInvalidEnd : PySem.W.findIn K (.ref CInvalidEnd) "end" = some none)
    (gaInvalidEnd : PySem.W.findIn K (.ref CInvalidEnd) "__getattribute__" = some (some (.builtin "BaseException.__getattribute__")))
    (ggInvalidEnd : PySem.W.findIn K (.ref CInvalidEnd) "__getattr__" = some none)
    (sbInvalidEnd_InvalidFate : PySem.W.subIn K (.ref CInvalidFate) (.ref CInvalidEnd) = some false)
    (sbInvalidEnd_InvalidEnd : PySem.W.subIn K (.ref CInvalidEnd) (.ref CInvalidEnd) = some true)
    (sbInvalidEnd_InvalidBit : PySem.W.subIn K (.ref CInvalidBit) (.ref CInvalidEnd) = some false)
    (sbInvalidEnd_Unmatched : PySem.W.subIn K (.ref CUnmatched) (.ref CInvalidEnd) = some false)
    (xLInvalidEnd : K.lookup CInvalidEnd = some (excClassObj nmInvalidEnd qInvalidEnd CInvalidEnd NInvalidEnd bsInvalidEnd bmInvalidEnd true snInvalidEnd subInvalidEnd abInvalidEnd colInvalidEnd ddInvalidEnd k0InvalidEnd k1InvalidEnd k2InvalidEnd k3InvalidEnd k5InvalidEnd "ValueError.__new__"))
    (xrInvalidEnd : PySem.HandSPX.refsVE bmInvalidEnd = true)
    (saInvalidEnd : PySem.W.findIn K (.ref CInvalidEnd) "__setattr__" = some (some (.builtin "object.__setattr__")))
    (kCInvalidEnd : PySem.W.keepIn K (.ref CInvalidEnd) = true)
    (aiInvalidEnd : PySem.W.findIn K (.ref CInvalidEnd) "__init__" = some (some (.ref fInvalidEnd)))
    (tiInvalidEnd : PySem.W.typeIn K (.ref fInvalidEnd) = some (.type "function"))
    (liInvalidEnd : K.lookup fInvalidEnd = some ⟨ocInvalidEnd, odInvalidEnd, .func ((nf_InvalidEnd ccInvalidEnd cdInvalidEnd).fd dcInvalidEnd pmInvalidEnd ctInvalidEnd), slInvalidEnd⟩)
    (ciInvalidEnd : PySem.W.codeIn K (.ref cdInvalidEnd) "InvalidEnd.__init__" = true)
    (ceInvalidEnd : K.lookup ccInvalidEnd = some ⟨oc2InvalidEnd, od2InvalidEnd, .cell (some (.ref CInvalidEnd)), sl2InvalidEnd⟩)
    (coInvalidEnd : K.lookup cdInvalidEnd = some ⟨oc3InvalidEnd, od3InvalidEnd, .fields vsInvalidEnd, sl3InvalidEnd⟩)
    (cfInvalidEnd : vsInvalidEnd[2]? = some (.str fiInvalidEnd tfInvalidEnd))
    (cgInvalidEnd : ((P.main.file : Str) == fiInvalidEnd) = true)
    (suInvalidEnd : PySem.W.ks_superIn K CInvalidEnd CInvalidEnd "__init__" = some (some (.builtin "ValueError.__init__")))
    (scInvalidEnd : PySem.W.mroIn K CInvalidEnd (.ref CInvalidEnd) = some true)
    (svInvalidEnd : PySem.W.subIn K (.ref CInvalidEnd) (.type "ValueError") = some true)
    (exCInvalidBit : PySem.W.subIn K (.ref CInvalidBit) (.type "BaseException") = some true)
    (tyCInvalidBit : PySem.W.typeIn K (.ref CInvalidBit) = some (.type "type"))
    (nInvalidBit : PySem.W.findIn K (.ref CInvalidBit) "bit" = some none)
    (xLInvalidBit : K.lookup CInvalidBit = some (excClassObj nmInvalidBit qInvalidBit CInvalidBit NInvalidBit bsInvalidBit bmInvalidBit true snInvalidBit subInvalidBit abInvalidBit colInvalidBit ddInvalidBit k0InvalidBit k1InvalidBit k2InvalidBit k3InvalidBit k5InvalidBit "ValueError.__new__"))
    (xrInvalidBit : PySem.HandSPX.refsVE bmInvalidBit = true)
    (saInvalidBit : PySem.W.findIn K (.ref CInvalidBit) "__setattr__" = some (some (.builtin "object.__setattr__")))
    (kCInvalidBit : PySem.W.keepIn K (.ref CInvalidBit) = true)
    (aiInvalidBit : PySem.W.findIn K (.ref CInvalidBit) "__init__" = some (some (.ref fInvalidBit)))
    (tiInvalidBit : PySem.W.typeIn K (.ref fInvalidBit) = some (.type "function"))
    (liInvalidBit : K.lookup fInvalidBit = some ⟨ocInvalidBit, odInvalidBit, .func ((nf_InvalidBit ccInvalidBit cdInvalidBit).fd dcInvalidBit pmInvalidBit ctInvalidBit), slInvalidBit⟩)
    (ciInvalidBit : PySem.W.codeIn K (.ref cdInvalidBit) "InvalidBit.__init__" = true)
    (ceInvalidBit : K.lookup ccInvalidBit = some ⟨oc2InvalidBit, od2InvalidBit, .cell (some (.ref CInvalidBit)), sl2InvalidBit⟩)
    (coInvalidBit : K.lookup cdInvalidBit = some ⟨oc3InvalidBit, od3InvalidBit, .fields vsInvalidBit, sl3InvalidBit⟩)
    (cfInvalidBit : vsInvalidBit[2]? = some (.str fiInvalidBit tfInvalidBit))
    (cgInvalidBit : ((P.main.file : Str) == fiInvalidBit) = true)
    (suInvalidBit : PySem.W.ks_superIn K CInvalidBit CInvalidBit "__init__" = some (some (.builtin "ValueError.__init__")))
    (scInvalidBit : PySem.W.mroIn K CInvalidBit (.ref CInvalidBit) = some true)
    (svInvalidBit : PySem.W.subIn K (.ref CInvalidBit) (.type "ValueError") = some true)
    (exCUnmatched : PySem.W.subIn K (.ref CUnmatched) (.type "BaseException") = some true)
    (tyCUnmatched : PySem.W.typeIn K (.ref CUnmatched) = some (.type "type"))
    (hdUnmatched : PySem.W.hasDictIn K CUnmatched = true)
    (sbUnmatched_InvalidFate : PySem.W.subIn K (.ref CInvalidFate) (.ref CUnmatched) = some false)
    (sbUnmatched_InvalidEnd : PySem.W.subIn K (.ref CInvalidEnd) (.ref CUnmatched) = some false)
    (sbUnmatched_InvalidBit : PySem.W.subIn K (.ref CInvalidBit) (.ref CUnmatched) = some false)
    (sbUnmatched_Unmatched : PySem.W.subIn K (.ref CUnmatched) (.ref CUnmatched) = some true)
    (q0Unmatched : PySem.W.excIn K CUnmatched [.type "ValueError", .type "Exception", .type "BaseException", .type "object"] "ValueError.__new__" = true)
    (k0Unmatched : PySem.W.keepIn K (.ref CUnmatched) = true)
    (hnC : PySem.W.specialIn K (.builtin "object.__class__") "__get__" = some (some (.builtin "getset_descriptor.__get__")))
    (htC : PySem.W.takesIn K (.builtin "object.__class__") = some true)
    (aFATES : PySem.W.nsIn K mainGlobals "FATES" = some (some (.str "bfsn" tFATES)))
    (aARRIVING : PySem.W.nsIn K mainGlobals "ARRIVING" = some (some (.ref DARRIVING)))
    (lARRIVING : K.lookup DARRIVING = some { cls := .type "dict", data := .dict esARRIVING nnARRIVING })
    (kARRIVING : PySem.W.KeysLit w.params esARRIVING.toList)
    (vARRIVING0 : PySem.W.nsIn K DARRIVING "first" = some (some (.str "bf" tARRIVING0)))
    (vARRIVING1 : PySem.W.nsIn K DARRIVING "second" = some (some (.str "bs" tARRIVING1)))
    (aENDS : PySem.W.nsIn K mainGlobals "ENDS" = some (some (.ref DENDS)))
    (lENDS : K.lookup DENDS = some ⟨.type "tuple", ddENDS, .seq itsENDS nnENDS, slENDS⟩)
    (jENDS : itsENDS.toList = [.str "first" tENDS0, .str "second" tENDS1])
    (acheck_bit : PySem.W.nsIn K mainGlobals "check_bit" = some (some (.ref fcheck_bit)))
    (lcheck_bit : K.lookup fcheck_bit = some ⟨occheck_bit, odcheck_bit, .func (PySem.W.fnOf "check_bit" "check_bit" (defArgs s_check_bit) (defBody s_check_bit) (defScope s_check_bit) .none kVcheck_bit dccheck_bit pmcheck_bit ancheck_bit cdcheck_bit ctcheck_bit), slcheck_bit⟩)
    (ccheck_bit : PySem.W.codeIn K cdcheck_bit "check_bit" = true)
    (kcheck_bit : PySem.W.keepIn K (.ref fcheck_bit) = true)
    (acheck_fates : PySem.W.nsIn K mainGlobals "check_fates" = some (some (.ref fcheck_fates)))
    (lcheck_fates : K.lookup fcheck_fates = some ⟨occheck_fates, odcheck_fates, .func (PySem.W.fnOf "check_fates" "check_fates" (defArgs s_check_fates) (defBody s_check_fates) (defScope s_check_fates) .none kVcheck_fates dccheck_fates pmcheck_fates ancheck_fates cdcheck_fates ctcheck_fates), slcheck_fates⟩)
    (ccheck_fates : PySem.W.codeIn K cdcheck_fates "check_fates" = true)
    (kcheck_fates : PySem.W.keepIn K (.ref fcheck_fates) = true)
    (acheck_end : PySem.W.nsIn K mainGlobals "check_end" = some (some (.ref fcheck_end)))
    (lcheck_end : K.lookup fcheck_end = some ⟨occheck_end, odcheck_end, .func (PySem.W.fnOf "check_end" "check_end" (defArgs s_check_end) (defBody s_check_end) (defScope s_check_end) .none kVcheck_end dccheck_end pmcheck_end ancheck_end cdcheck_end ctcheck_end), slcheck_end⟩)
    (ccheck_end : PySem.W.codeIn K cdcheck_end "check_end" = true)
    (kcheck_end : PySem.W.keepIn K (.ref fcheck_end) = true)
    (aarrives : PySem.W.nsIn K mainGlobals "arrives" = some (some (.ref farrives)))
    (larrives : K.lookup farrives = some ⟨ocarrives, odarrives, .func (PySem.W.fnOf "arrives" "arrives" (defArgs s_arrives) (defBody s_arrives) (defScope s_arrives) .none kVarrives dcarrives pmarrives anarrives cdarrives ctarrives), slarrives⟩)
    (carrives : PySem.W.codeIn K cdarrives "arrives" = true)
    (karrives : PySem.W.keepIn K (.ref farrives) = true)
    (alast_arrival : PySem.W.nsIn K mainGlobals "last_arrival" = some (some (.ref flast_arrival)))
    (llast_arrival : K.lookup flast_arrival = some ⟨oclast_arrival, odlast_arrival, .func (PySem.W.fnOf "last_arrival" "last_arrival" (defArgs s_last_arrival) (defBody s_last_arrival) (defScope s_last_arrival) .none kVlast_arrival dclast_arrival pmlast_arrival anlast_arrival cdlast_arrival ctlast_arrival), sllast_arrival⟩)
    (clast_arrival : PySem.W.codeIn K cdlast_arrival "last_arrival" = true)
    (klast_arrival : PySem.W.keepIn K (.ref flast_arrival) = true)
    (aRun_init : PySem.W.findIn K (.ref CRun) "__init__" = some (some (.ref fRun_init)))
    (iRun_init : PySem.W.isFn K (.ref fRun_init) = true)
    (lRun_init : K.lookup fRun_init = some ⟨ocRun_init, odRun_init, .func (PySem.W.fnOf "__init__" "Run.__init__" (defArgs s_Run_init) (defBody s_Run_init) (defScope s_Run_init) .none kVRun_init dcRun_init pmRun_init anRun_init cdRun_init ctRun_init), slRun_init⟩)
    (cRun_init : PySem.W.codeIn K cdRun_init "Run.__init__" = true)
    (kRun_init : PySem.W.keepIn K (.ref fRun_init) = true)
    (pRun_rounds : PySem.W.findIn K (.ref CRun) "rounds" = some (some (.ref ppRun_rounds)))
    (pg_Run_rounds : PySem.W.specialIn K (.ref ppRun_rounds) "__get__" = some (some (.builtin "property.__get__")))
    (pt_Run_rounds : PySem.W.takesIn K (.ref ppRun_rounds) = some true)
    (pr_Run_rounds : PySem.W.recIn K ppRun_rounds "property" = some (.ref fRun_rounds :: rrRun_rounds))
    (lRun_rounds : K.lookup fRun_rounds = some ⟨ocRun_rounds, odRun_rounds, .func (PySem.W.fnOf "rounds" "Run.rounds" (defArgs s_Run_rounds) (defBody s_Run_rounds) (defScope s_Run_rounds) .none kVRun_rounds dcRun_rounds pmRun_rounds anRun_rounds cdRun_rounds ctRun_rounds), slRun_rounds⟩)
    (cRun_rounds : PySem.W.codeIn K cdRun_rounds "Run.rounds" = true)
    (kRun_rounds : PySem.W.keepIn K (.ref fRun_rounds) = true)
    (aRun_seen : PySem.W.findIn K (.ref CRun) "seen" = some (some (.ref fRun_seen)))
    (iRun_seen : PySem.W.isFn K (.ref fRun_seen) = true)
    (lRun_seen : K.lookup fRun_seen = some ⟨ocRun_seen, odRun_seen, .func (PySem.W.fnOf "seen" "Run.seen" (defArgs s_Run_seen) (defBody s_Run_seen) (defScope s_Run_seen) .none kVRun_seen dcRun_seen pmRun_seen anRun_seen cdRun_seen ctRun_seen), slRun_seen⟩)
    (cRun_seen : PySem.W.codeIn K cdRun_seen "Run.seen" = true)
    (kRun_seen : PySem.W.keepIn K (.ref fRun_seen) = true)
    (arounds_heard : PySem.W.nsIn K mainGlobals "rounds_heard" = some (some (.ref frounds_heard)))
    (lrounds_heard : K.lookup frounds_heard = some ⟨ocrounds_heard, odrounds_heard, .func (PySem.W.fnOf "rounds_heard" "rounds_heard" (defArgs s_rounds_heard) (defBody s_rounds_heard) (defScope s_rounds_heard) .none kVrounds_heard dcrounds_heard pmrounds_heard anrounds_heard cdrounds_heard ctrounds_heard), slrounds_heard⟩)
    (crounds_heard : PySem.W.codeIn K cdrounds_heard "rounds_heard" = true)
    (krounds_heard : PySem.W.keepIn K (.ref frounds_heard) = true)
    (arounds_of : PySem.W.nsIn K mainGlobals "rounds_of" = some (some (.ref frounds_of)))
    (lrounds_of : K.lookup frounds_of = some ⟨ocrounds_of, odrounds_of, .func (PySem.W.fnOf "rounds_of" "rounds_of" (defArgs s_rounds_of) (defBody s_rounds_of) (defScope s_rounds_of) .none kVrounds_of dcrounds_of pmrounds_of anrounds_of cdrounds_of ctrounds_of), slrounds_of⟩)
    (crounds_of : PySem.W.codeIn K cdrounds_of "rounds_of" = true)
    (krounds_of : PySem.W.keepIn K (.ref frounds_of) = true)
    (ajoined_fates : PySem.W.nsIn K mainGlobals "joined_fates" = some (some (.ref fjoined_fates)))
    (ljoined_fates : K.lookup fjoined_fates = some ⟨ocjoined_fates, odjoined_fates, .func (PySem.W.fnOf "joined_fates" "joined_fates" (defArgs s_joined_fates) (defBody s_joined_fates) (defScope s_joined_fates) .none kVjoined_fates dcjoined_fates pmjoined_fates anjoined_fates cdjoined_fates ctjoined_fates), sljoined_fates⟩)
    (cjoined_fates : PySem.W.codeIn K cdjoined_fates "joined_fates" = true)
    (kjoined_fates : PySem.W.keepIn K (.ref fjoined_fates) = true)
    (ajoin_views : PySem.W.nsIn K mainGlobals "join_views" = some (some (.ref fjoin_views)))
    (ljoin_views : K.lookup fjoin_views = some ⟨ocjoin_views, odjoin_views, .func (PySem.W.fnOf "join_views" "join_views" (defArgs s_join_views) (defBody s_join_views) (defScope s_join_views) .none kVjoin_views dcjoin_views pmjoin_views anjoin_views cdjoin_views ctjoin_views), sljoin_views⟩)
    (cjoin_views : PySem.W.codeIn K cdjoin_views "join_views" = true)
    (kjoin_views : PySem.W.keepIn K (.ref fjoin_views) = true)
    (agrow : PySem.W.nsIn K mainGlobals "grow" = some (some (.ref fgrow)))
    (lgrow : K.lookup fgrow = some ⟨ocgrow, odgrow, .func (PySem.W.fnOf "grow" "grow" (defArgs s_grow) (defBody s_grow) (defScope s_grow) .none kVgrow dcgrow pmgrow angrow cdgrow ctgrow), slgrow⟩)
    (cgrow : PySem.W.codeIn K cdgrow "grow" = true)
    (kgrow : PySem.W.keepIn K (.ref fgrow) = true)
    (aLcell : PySem.W.nsIn K mainGlobals "_law_cell" = some (some (.ref fLcell)))
    (lLcell : K.lookup fLcell = some ⟨ocLcell, odLcell, .func (PySem.W.fnOf "_law_cell" "_law_cell" (defArgs s_Lcell) (defBody s_Lcell) (defScope s_Lcell) .none kVLcell dcLcell pmLcell anLcell cdLcell ctLcell), slLcell⟩)
    (cLcell : PySem.W.codeIn K cdLcell "_law_cell" = true)
    (kLcell : PySem.W.keepIn K (.ref fLcell) = true)
    (aLdraws : PySem.W.nsIn K mainGlobals "_law_draws" = some (some (.ref fLdraws)))
    (lLdraws : K.lookup fLdraws = some ⟨ocLdraws, odLdraws, .func (PySem.W.fnOf "_law_draws" "_law_draws" (defArgs s_Ldraws) (defBody s_Ldraws) (defScope s_Ldraws) .none kVLdraws dcLdraws pmLdraws anLdraws cdLdraws ctLdraws), slLdraws⟩)
    (cLdraws : PySem.W.codeIn K cdLdraws "_law_draws" = true)
    (kLdraws : PySem.W.keepIn K (.ref fLdraws) = true)
    (aLfates : PySem.W.nsIn K mainGlobals "_law_fates" = some (some (.ref fLfates)))
    (lLfates : K.lookup fLfates = some ⟨ocLfates, odLfates, .func (PySem.W.fnOf "_law_fates" "_law_fates" (defArgs s_Lfates) (defBody s_Lfates) (defScope s_Lfates) .none kVLfates dcLfates pmLfates anLfates cdLfates ctLfates), slLfates⟩)
    (cLfates : PySem.W.codeIn K cdLfates "_law_fates" = true)
    (kLfates : PySem.W.keepIn K (.ref fLfates) = true)
    (aLchanged : PySem.W.nsIn K mainGlobals "_law_changed" = some (some (.ref fLchanged)))
    (lLchanged : K.lookup fLchanged = some ⟨ocLchanged, odLchanged, .func (PySem.W.fnOf "_law_changed" "_law_changed" (defArgs s_Lchanged) (defBody s_Lchanged) (defScope s_Lchanged) .none kVLchanged dcLchanged pmLchanged anLchanged cdLchanged ctLchanged), slLchanged⟩)
    (cLchanged : PySem.W.codeIn K cdLchanged "_law_changed" = true)
    (kLchanged : PySem.W.keepIn K (.ref fLchanged) = true)
    (aLinteger : PySem.W.nsIn K mainGlobals "_law_integer" = some (some (.ref fLinteger)))
    (lLinteger : K.lookup fLinteger = some ⟨ocLinteger, odLinteger, .func (PySem.W.fnOf "_law_integer" "_law_integer" (defArgs s_Linteger) (defBody s_Linteger) (defScope s_Linteger) .none kVLinteger dcLinteger pmLinteger anLinteger cdLinteger ctLinteger), slLinteger⟩)
    (cLinteger : PySem.W.codeIn K cdLinteger "_law_integer" = true)
    (kLinteger : PySem.W.keepIn K (.ref fLinteger) = true)
    (aLseen : PySem.W.nsIn K mainGlobals "_law_seen" = some (some (.ref fLseen)))
    (lLseen : K.lookup fLseen = some ⟨ocLseen, odLseen, .func (PySem.W.fnOf "_law_seen" "_law_seen" (defArgs s_Lseen) (defBody s_Lseen) (defScope s_Lseen) .none kVLseen dcLseen pmLseen anLseen cdLseen ctLseen), slLseen⟩)
    (cLseen : PySem.W.codeIn K cdLseen "_law_seen" = true)
    (kLseen : PySem.W.keepIn K (.ref fLseen) = true)
    (aLview : PySem.W.nsIn K mainGlobals "_law_view" = some (some (.ref fLview)))
    (lLview : K.lookup fLview = some ⟨ocLview, odLview, .func (PySem.W.fnOf "_law_view" "_law_view" (defArgs s_Lview) (defBody s_Lview) (defScope s_Lview) .none kVLview dcLview pmLview anLview cdLview ctLview), slLview⟩)
    (cLview : PySem.W.codeIn K cdLview "_law_view" = true)
    (kLview : PySem.W.keepIn K (.ref fLview) = true)
    (aLheard : PySem.W.nsIn K mainGlobals "_law_heard" = some (some (.ref fLheard)))
    (lLheard : K.lookup fLheard = some ⟨ocLheard, odLheard, .func (PySem.W.fnOf "_law_heard" "_law_heard" (defArgs s_Lheard) (defBody s_Lheard) (defScope s_Lheard) .none kVLheard dcLheard pmLheard anLheard cdLheard ctLheard), slLheard⟩)
    (cLheard : PySem.W.codeIn K cdLheard "_law_heard" = true)
    (kLheard : PySem.W.keepIn K (.ref fLheard) = true)
    (aLjoined : PySem.W.nsIn K mainGlobals "_law_joined" = some (some (.ref fLjoined)))
    (lLjoined : K.lookup fLjoined = some ⟨ocLjoined, odLjoined, .func (PySem.W.fnOf "_law_joined" "_law_joined" (defArgs s_Ljoined) (defBody s_Ljoined) (defScope s_Ljoined) .none kVLjoined dcLjoined pmLjoined anLjoined cdLjoined ctLjoined), slLjoined⟩)
    (cLjoined : PySem.W.codeIn K cdLjoined "_law_joined" = true)
    (kLjoined : PySem.W.keepIn K (.ref fLjoined) = true)
    (aLgrown : PySem.W.nsIn K mainGlobals "_law_grown" = some (some (.ref fLgrown)))
    (lLgrown : K.lookup fLgrown = some ⟨ocLgrown, odLgrown, .func (PySem.W.fnOf "_law_grown" "_law_grown" (defArgs s_Lgrown) (defBody s_Lgrown) (defScope s_Lgrown) .none kVLgrown dcLgrown pmLgrown anLgrown cdLgrown ctLgrown), slLgrown⟩)
    (cLgrown : PySem.W.codeIn K cdLgrown "_law_grown" = true)
    (kLgrown : PySem.W.keepIn K (.ref fLgrown) = true)
    (alaw : PySem.W.nsIn K mainGlobals "law" = some (some (.ref flaw)))
    (llaw : K.lookup flaw = some ⟨oclaw, odlaw, .func (PySem.W.fnOf "law" "law" (defArgs s_law) (defBody s_law) (defScope s_law) .none kVlaw dclaw pmlaw anlaw cdlaw ctlaw), sllaw⟩)
    (claw : PySem.W.codeIn K cdlaw "law" = true)
    (klaw : PySem.W.keepIn K (.ref flaw) = true) :
    ∃ fd : FuncData, (∀ (s : Shared) (v : Value), BindsTo s fd ⟨[v], []⟩ [("_law_script", v)]) ∧ ∀ base : Heap, K.In base → base.Ns mainGlobals mg → FnOk P w K mg base (L2N.CX P w) 10 fa fd ["_law_script"] (spTop K) := by
  have e := hfa.symm.trans (PySem.W.mg_of X G alaw)
  cases e
  have B : Blt mg := ⟨PySem.W.mg_none_of X G z_len, PySem.W.mg_none_of X G z_range, PySem.W.mg_none_of X G z_int, PySem.W.mg_none_of X G z_isinstance, PySem.W.mg_none_of X G z_enumerate, PySem.W.mg_none_of X G z_zip, PySem.W.mg_none_of X G z_str, PySem.W.mg_none_of X G z_list, PySem.W.mg_none_of X G z_tuple, PySem.W.mg_none_of X G z_all, PySem.W.mg_none_of X G z_any, PySem.W.mg_none_of X G z_reversed, PySem.W.mg_none_of X G z_iter, PySem.W.mg_none_of X G z_bool, PySem.W.mg_none_of X G z_super, PySem.W.mg_none_of X G z_dict, PySem.W.mg_none_of X G z_ValueError⟩
  have clRun : Cls K CRun := ⟨pgRun, hdRun, poRun, saRun⟩
  have oxInvalidFate : OexC K CInvalidFate := ⟨⟨_, _, _, _, _, _, _, _, _, _, _, _, _, _, _, xLInvalidFate, xrInvalidFate⟩, saInvalidFate, exCInvalidFate, tyCInvalidFate, kCInvalidFate⟩
  have sfInvalidFate : SupF P K mg (nf_InvalidFate ccInvalidFate cdInvalidFate) fInvalidFate ccInvalidFate CInvalidFate := ⟨⟨_, _, _, _, _, _, liInvalidFate⟩, ciInvalidFate, rfl, ⟨_, _, _, ceInvalidFate⟩, ⟨_, _, _, _, _, _, coInvalidFate, cfInvalidFate, cgInvalidFate⟩, suInvalidFate, scInvalidFate, svInvalidFate, opq, B.super_, topS_⟩
  have X_InvalidFate : ∀ base, CalX P w K mg base "InvalidFate" CInvalidFate "at" := fun base => ⟨⟨_, _, _, oxInvalidFate, aiInvalidFate, tiInvalidFate, okx_InvalidFate liInvalidFate oxInvalidFate sfInvalidFate nInvalidFate, Binds.all fun us hl => match us, hl with | [_, _], _ => rfl, PySem.W.mg_of X G aCInvalidFate⟩⟩
  have mInvalidEnd : ∀ c b, sb_InvalidEnd c = some b → PySem.W.exmOne K (.ref ((fun i => [CRun, CInvalidFate, CInvalidEnd, CInvalidBit, CUnmatched, CSureError].getD i 0) c)) (.ref ((fun i => [CRun, CInvalidFate, CInvalidEnd, CInvalidBit, CUnmatched, CSureError].getD i 0) 2)) = some b := fun c b h => by
    unfold sb_InvalidEnd at h
    split at h
    · cases h
      exact PySem.W.exm_ref exCInvalidEnd hdInvalidEnd tyCInvalidEnd sbInvalidEnd_InvalidFate
    · cases h
      exact PySem.W.exm_ref exCInvalidEnd hdInvalidEnd tyCInvalidEnd sbInvalidEnd_InvalidEnd
    · cases h
      exact PySem.W.exm_ref exCInvalidEnd hdInvalidEnd tyCInvalidEnd sbInvalidEnd_InvalidBit
    · cases h
      exact PySem.W.exm_ref exCInvalidEnd hdInvalidEnd tyCInvalidEnd sbInvalidEnd_Unmatched
    · cases h
  have oxInvalidEnd : OexC K CInvalidEnd := ⟨⟨_, _, _, _, _, _, _, _, _, _, _, _, _, _, _, xLInvalidEnd, xrInvalidEnd⟩, saInvalidEnd, exCInvalidEnd, tyCInvalidEnd, kCInvalidEnd⟩
  have sfInvalidEnd : SupF P K mg (nf_InvalidEnd ccInvalidEnd cdInvalidEnd) fInvalidEnd ccInvalidEnd CInvalidEnd := ⟨⟨_, _, _, _, _, _, liInvalidEnd⟩, ciInvalidEnd, rfl, ⟨_, _, _, ceInvalidEnd⟩, ⟨_, _, _, _, _, _, coInvalidEnd, cfInvalidEnd, cgInvalidEnd⟩, suInvalidEnd, scInvalidEnd, svInvalidEnd, opq, B.super_, topS_⟩
  have X_InvalidEnd : ∀ base, CalX P w K mg base "InvalidEnd" CInvalidEnd "end" := fun base => ⟨⟨_, _, _, oxInvalidEnd, aiInvalidEnd, tiInvalidEnd, okx_InvalidEnd liInvalidEnd oxInvalidEnd sfInvalidEnd nInvalidEnd, Binds.all fun us hl => match us, hl with | [_, _], _ => rfl, PySem.W.mg_of X G aCInvalidEnd⟩⟩
  have oxInvalidBit : OexC K CInvalidBit := ⟨⟨_, _, _, _, _, _, _, _, _, _, _, _, _, _, _, xLInvalidBit, xrInvalidBit⟩, saInvalidBit, exCInvalidBit, tyCInvalidBit, kCInvalidBit⟩
  have sfInvalidBit : SupF P K mg (nf_InvalidBit ccInvalidBit cdInvalidBit) fInvalidBit ccInvalidBit CInvalidBit := ⟨⟨_, _, _, _, _, _, liInvalidBit⟩, ciInvalidBit, rfl, ⟨_, _, _, ceInvalidBit⟩, ⟨_, _, _, _, _, _, coInvalidBit, cfInvalidBit, cgInvalidBit⟩, suInvalidBit, scInvalidBit, svInvalidBit, opq, B.super_, topS_⟩
  have X_InvalidBit : ∀ base, CalX P w K mg base "InvalidBit" CInvalidBit "bit" := fun base => ⟨⟨_, _, _, oxInvalidBit, aiInvalidBit, tiInvalidBit, okx_InvalidBit liInvalidBit oxInvalidBit sfInvalidBit nInvalidBit, Binds.all fun us hl => match us, hl with | [_, _], _ => rfl, PySem.W.mg_of X G aCInvalidBit⟩⟩
  have mUnmatched : ∀ c b, sb_Unmatched c = some b → PySem.W.exmOne K (.ref ((fun i => [CRun, CInvalidFate, CInvalidEnd, CInvalidBit, CUnmatched, CSureError].getD i 0) c)) (.ref ((fun i => [CRun, CInvalidFate, CInvalidEnd, CInvalidBit, CUnmatched, CSureError].getD i 0) 4)) = some b := fun c b h => by
    unfold sb_Unmatched at h
    split at h
    · cases h
      exact PySem.W.exm_ref exCUnmatched hdUnmatched tyCUnmatched sbUnmatched_InvalidFate
    · cases h
      exact PySem.W.exm_ref exCUnmatched hdUnmatched tyCUnmatched sbUnmatched_InvalidEnd
    · cases h
      exact PySem.W.exm_ref exCUnmatched hdUnmatched tyCUnmatched sbUnmatched_InvalidBit
    · cases h
      exact PySem.W.exm_ref exCUnmatched hdUnmatched tyCUnmatched sbUnmatched_Unmatched
    · cases h
  have Y_Unmatched : CalX0 K mg "Unmatched" CUnmatched := ⟨⟨_, _, _, _, PySem.F.excBase_ValueError, q0Unmatched⟩, PySem.W.mg_of X G aCUnmatched, k0Unmatched, exCUnmatched, tyCUnmatched⟩
  have fc : Fc K (fun i => [CRun, CInvalidFate, CInvalidEnd, CInvalidBit, CUnmatched, CSureError].getD i 0) mg := { xInvalidEnd := ⟨gaInvalidEnd, ggInvalidEnd, exCInvalidEnd, hdInvalidEnd⟩, nInvalidEnd_end := nInvalidEnd, mInvalidEnd := mInvalidEnd, gInvalidEnd := PySem.W.mg_of X G aCInvalidEnd, mUnmatched := mUnmatched, gUnmatched := PySem.W.mg_of X G aCUnmatched, cRun := clRun, nRun_first := nRun_first, nRun_second := nRun_second, nRun_fates := nRun_fates, iRun := ⟨clRun, haRun, hnC, htC, hmRun⟩, gRun := PySem.W.mg_of X G aCRun }
  have gFATES : mg "FATES" = some (.str "bfsn" tFATES) ∧ L2.RelV (.str "bfsn") (.str "bfsn" tFATES) := ⟨PySem.W.mg_of X G aFATES, _, rfl⟩
  have tARRIVING : mg "ARRIVING" = some (.ref DARRIVING) ∧ ∀ z d, tabARRIVING.lookup z = some d → ∃ v, KDct K w DARRIVING z v ∧ ∀ G, Rep K (fun i => [CRun, CInvalidFate, CInvalidEnd, CInvalidBit, CUnmatched, CSureError].getD i 0) G v d := ⟨PySem.W.mg_of X G aARRIVING, fun z d h => by
    unfold tabARRIVING at h
    rw [lkp_cons] at h
    split at h
    · next e =>
      cases e
      cases h
      exact ⟨.str "bf", ⟨_, _, _, lARRIVING, kARRIVING, vARRIVING0, _, rfl⟩, fun _ => .str _⟩
    rw [lkp_cons] at h
    split at h
    · next e =>
      cases e
      cases h
      exact ⟨.str "bs", ⟨_, _, _, lARRIVING, kARRIVING, vARRIVING1, _, rfl⟩, fun _ => .str _⟩
    cases h⟩
  have rENDS : mg "ENDS" = some (.ref DENDS) ∧ ∀ G, Rep K (fun i => [CRun, CInvalidFate, CInvalidEnd, CInvalidBit, CUnmatched, CSureError].getD i 0) G (.ref DENDS) (.tup [.str "first", .str "second"]) := ⟨PySem.W.mg_of X G aENDS, rep_txts (l := ["first", "second"]) lENDS jENDS (.cons ⟨_, rfl⟩ (.cons ⟨_, rfl⟩ .nil)) (by decide)⟩
  have Fcheck_bit := fun_mk (x := "check_bit") (st := s_check_bit) lcheck_bit ccheck_bit kcheck_bit
  have bcheck_bit := Fcheck_bit.binds (ps := ["bit"]) fun _ _ _ _ _ _ us hl => match us, hl with | [_], _ => rfl
  have Fcheck_fates := fun_mk (x := "check_fates") (st := s_check_fates) lcheck_fates ccheck_fates kcheck_fates
  have bcheck_fates := Fcheck_fates.binds (ps := ["fates"]) fun _ _ _ _ _ _ us hl => match us, hl with | [_], _ => rfl
  have Fcheck_end := fun_mk (x := "check_end") (st := s_check_end) lcheck_end ccheck_end kcheck_end
  have bcheck_end := Fcheck_end.binds (ps := ["end"]) fun _ _ _ _ _ _ us hl => match us, hl with | [_], _ => rfl
  have Farrives := fun_mk (x := "arrives") (st := s_arrives) larrives carrives karrives
  have Flast_arrival := fun_mk (x := "last_arrival") (st := s_last_arrival) llast_arrival clast_arrival klast_arrival
  have blast_arrival := Flast_arrival.binds (ps := ["fates", "end"]) fun _ _ _ _ _ _ us hl => match us, hl with | [_, _], _ => rfl
  have FRun_init := fun_mk (x := "__init__") (st := s_Run_init) lRun_init cRun_init kRun_init
  have bRun_init := FRun_init.binds (ps := ["self", "first", "second", "fates"]) fun _ _ _ _ _ _ us hl => match us, hl with | [_, _, _, _], _ => rfl
  have FRun_rounds := fun_mk (x := "rounds") (st := s_Run_rounds) lRun_rounds cRun_rounds kRun_rounds
  have bRun_rounds := FRun_rounds.binds (ps := ["self"]) fun _ _ _ _ _ _ us hl => match us, hl with | [_], _ => rfl
  have FRun_seen := fun_mk (x := "seen") (st := s_Run_seen) lRun_seen cRun_seen kRun_seen
  have bRun_seen := FRun_seen.binds (ps := ["self", "end"]) fun _ _ _ _ _ _ us hl => match us, hl with | [_, _], _ => rfl
  have Frounds_heard := fun_mk (x := "rounds_heard") (st := s_rounds_heard) lrounds_heard crounds_heard krounds_heard
  have brounds_heard := Frounds_heard.binds (ps := ["view"]) fun _ _ _ _ _ _ us hl => match us, hl with | [_], _ => rfl
  have Frounds_of := fun_mk (x := "rounds_of") (st := s_rounds_of) lrounds_of crounds_of krounds_of
  have brounds_of := Frounds_of.binds (ps := ["view"]) fun _ _ _ _ _ _ us hl => match us, hl with | [_], _ => rfl
  have Fjoined_fates := fun_mk (x := "joined_fates") (st := s_joined_fates) ljoined_fates cjoined_fates kjoined_fates
  have bjoined_fates := Fjoined_fates.binds (ps := ["first_view", "second_view"]) fun _ _ _ _ _ _ us hl => match us, hl with | [_, _], _ => rfl
  have Fjoin_views := fun_mk (x := "join_views") (st := s_join_views) ljoin_views cjoin_views kjoin_views
  have bjoin_views := Fjoin_views.binds (ps := ["first_view", "second_view"]) fun _ _ _ _ _ _ us hl => match us, hl with | [_, _], _ => rfl
  have Fgrow := fun_mk (x := "grow") (st := s_grow) lgrow cgrow kgrow
  have bgrow := Fgrow.binds (ps := ["end", "view", "letter"]) fun _ _ _ _ _ _ us hl => match us, hl with | [_, _, _], _ => rfl
  have FLcell := fun_mk (x := "_law_cell") (st := s_Lcell) lLcell cLcell kLcell
  have bLcell := FLcell.binds (ps := ["_law_script", "_law_k"]) fun _ _ _ _ _ _ us hl => match us, hl with | [_, _], _ => rfl
  have FLdraws := fun_mk (x := "_law_draws") (st := s_Ldraws) lLdraws cLdraws kLdraws
  have bLdraws := FLdraws.binds (ps := ["_law_cell_here", "_law_many", "_law_base"]) fun _ _ _ _ _ _ us hl => match us, hl with | [_, _, _], _ => rfl
  have FLfates := fun_mk (x := "_law_fates") (st := s_Lfates) lLfates cLfates kLfates
  have bLfates := FLfates.binds (ps := ["_law_cell_here", "_law_many"]) fun _ _ _ _ _ _ us hl => match us, hl with | [_, _], _ => rfl
  have FLchanged := fun_mk (x := "_law_changed") (st := s_Lchanged) lLchanged cLchanged kLchanged
  have bLchanged := FLchanged.binds (ps := ["_law_script", "_law_place", "_law_text"]) fun _ _ _ _ _ _ us hl => match us, hl with | [_, _, _], _ => rfl
  have FLinteger := fun_mk (x := "_law_integer") (st := s_Linteger) lLinteger cLinteger kLinteger
  have bLinteger := FLinteger.binds (ps := ["_law_actual"]) fun _ _ _ _ _ _ us hl => match us, hl with | [_], _ => rfl
  have FLseen := fun_mk (x := "_law_seen") (st := s_Lseen) lLseen cLseen kLseen
  have bLseen := FLseen.binds (ps := ["_law_first", "_law_second", "_law_fates_here", "_law_end"]) fun _ _ _ _ _ _ us hl => match us, hl with | [_, _, _, _], _ => rfl
  have FLview := fun_mk (x := "_law_view") (st := s_Lview) lLview cLview kLview
  have bLview := FLview.binds (ps := ["_law_actual", "_law_expected"]) fun _ _ _ _ _ _ us hl => match us, hl with | [_, _], _ => rfl
  have FLheard := fun_mk (x := "_law_heard") (st := s_Lheard) lLheard cLheard kLheard
  have bLheard := FLheard.binds (ps := ["_law_view_here"]) fun _ _ _ _ _ _ us hl => match us, hl with | [_], _ => rfl
  have FLjoined := fun_mk (x := "_law_joined") (st := s_Ljoined) lLjoined cLjoined kLjoined
  have bLjoined := FLjoined.binds (ps := ["_law_one", "_law_two"]) fun _ _ _ _ _ _ us hl => match us, hl with | [_, _], _ => rfl
  have FLgrown := fun_mk (x := "_law_grown") (st := s_Lgrown) lLgrown cLgrown kLgrown
  have bLgrown := FLgrown.binds (ps := ["_law_end", "_law_view_here", "_law_letter"]) fun _ _ _ _ _ _ us hl => match us, hl with | [_, _, _], _ => rfl
  have Flaw := fun_mk (x := "law") (st := s_law) llaw claw klaw
  have blaw := Flaw.binds (ps := ["_law_script"]) fun _ _ _ _ _ _ us hl => match us, hl with | [_], _ => rfl
  refine ⟨PySem.W.fnOf "law" "law" (defArgs s_law) (defBody s_law) (defScope s_law) .none kVlaw dclaw pmlaw anlaw cdlaw ctlaw, fun s v => .of_eq rfl, fun base _ _ => ?_⟩
  have GRun_rounds := ok_Run_rounds (P := P) (w := w) (base := base) (T := (fun i => [CRun, CInvalidFate, CInvalidEnd, CInvalidBit, CUnmatched, CSureError].getD i 0)) B fc FRun_rounds
  have K_Run_rounds : CalP P w K mg base CRun "rounds" 1 _ := ⟨clRun, ⟨_, _, _, _, ⟨pRun_rounds, pg_Run_rounds, pt_Run_rounds, _, pr_Run_rounds⟩, bRun_rounds, GRun_rounds⟩⟩
  have Grounds_heard := ok_rounds_heard (P := P) (w := w) (base := base) (T := (fun i => [CRun, CInvalidFate, CInvalidEnd, CInvalidBit, CUnmatched, CSureError].getD i 0)) B Frounds_heard
  have K_rounds_heard : Cal P w K mg base "rounds_heard" 1 _ := ⟨⟨_, _, _, PySem.W.mg_of X G arounds_heard, krounds_heard, brounds_heard, Grounds_heard⟩⟩
  have GLcell := ok_Lcell (P := P) (w := w) (base := base) (T := (fun i => [CRun, CInvalidFate, CInvalidEnd, CInvalidBit, CUnmatched, CSureError].getD i 0)) B FLcell
  have K_Lcell : Cal P w K mg base "_law_cell" 1 _ := ⟨⟨_, _, _, PySem.W.mg_of X G aLcell, kLcell, bLcell, GLcell⟩⟩
  have GLdraws := ok_Ldraws (P := P) (w := w) (base := base) (T := (fun i => [CRun, CInvalidFate, CInvalidEnd, CInvalidBit, CUnmatched, CSureError].getD i 0)) B FLdraws
  have K_Ldraws : Cal P w K mg base "_law_draws" 1 _ := ⟨⟨_, _, _, PySem.W.mg_of X G aLdraws, kLdraws, bLdraws, GLdraws⟩⟩
  have GLinteger := ok_Linteger (P := P) (w := w) (base := base) (T := (fun i => [CRun, CInvalidFate, CInvalidEnd, CInvalidBit, CUnmatched, CSureError].getD i 0)) B FLinteger
  have K_Linteger : Cal P w K mg base "_law_integer" 1 _ := ⟨⟨_, _, _, PySem.W.mg_of X G aLinteger, kLinteger, bLinteger, GLinteger⟩⟩
  have GLseen := ok_Lseen (P := P) (w := w) (base := base) (T := (fun i => [CRun, CInvalidFate, CInvalidEnd, CInvalidBit, CUnmatched, CSureError].getD i 0)) B FLseen
  have K_Lseen : Cal P w K mg base "_law_seen" 1 _ := ⟨⟨_, _, _, PySem.W.mg_of X G aLseen, kLseen, bLseen, GLseen⟩⟩
  have GLheard := ok_Lheard (P := P) (w := w) (base := base) (T := (fun i => [CRun, CInvalidFate, CInvalidEnd, CInvalidBit, CUnmatched, CSureError].getD i 0)) B FLheard
  have K_Lheard : Cal P w K mg base "_law_heard" 1 _ := ⟨⟨_, _, _, PySem.W.mg_of X G aLheard, kLheard, bLheard, GLheard⟩⟩
  have Grounds_of := ok_rounds_of (P := P) (w := w) (base := base) (T := (fun i => [CRun, CInvalidFate, CInvalidEnd, CInvalidBit, CUnmatched, CSureError].getD i 0)) B Frounds_of K_rounds_heard
  have K_rounds_of : Cal P w K mg base "rounds_of" 2 _ := ⟨⟨_, _, _, PySem.W.mg_of X G arounds_of, krounds_of, brounds_of, Grounds_of⟩⟩
  have GLfates := ok_Lfates (P := P) (w := w) (base := base) (T := (fun i => [CRun, CInvalidFate, CInvalidEnd, CInvalidBit, CUnmatched, CSureError].getD i 0)) B FLfates K_Ldraws
  have K_Lfates : Cal P w K mg base "_law_fates" 2 _ := ⟨⟨_, _, _, PySem.W.mg_of X G aLfates, kLfates, bLfates, GLfates⟩⟩
  have GLview := ok_Lview (P := P) (w := w) (base := base) (T := (fun i => [CRun, CInvalidFate, CInvalidEnd, CInvalidBit, CUnmatched, CSureError].getD i 0)) B FLview K_Linteger
  have K_Lview : Cal P w K mg base "_law_view" 2 _ := ⟨⟨_, _, _, PySem.W.mg_of X G aLview, kLview, bLview, GLview⟩⟩
  have GLjoined := ok_Ljoined (P := P) (w := w) (base := base) (T := (fun i => [CRun, CInvalidFate, CInvalidEnd, CInvalidBit, CUnmatched, CSureError].getD i 0)) B FLjoined K_Lheard K_Lseen
  have K_Ljoined : Cal P w K mg base "_law_joined" 2 _ := ⟨⟨_, _, _, PySem.W.mg_of X G aLjoined, kLjoined, bLjoined, GLjoined⟩⟩
  have Gcheck_bit := ok_check_bit (P := P) (w := w) (base := base) (T := (fun i => [CRun, CInvalidFate, CInvalidEnd, CInvalidBit, CUnmatched, CSureError].getD i 0)) B Fcheck_bit (X_InvalidBit base)
  have K_check_bit : Cal P w K mg base "check_bit" 3 _ := ⟨⟨_, _, _, PySem.W.mg_of X G acheck_bit, kcheck_bit, bcheck_bit, Gcheck_bit⟩⟩
  have Gcheck_fates := ok_check_fates (P := P) (w := w) (base := base) (T := (fun i => [CRun, CInvalidFate, CInvalidEnd, CInvalidBit, CUnmatched, CSureError].getD i 0)) B Fcheck_fates (X_InvalidFate base) gFATES
  have K_check_fates : Cal P w K mg base "check_fates" 3 _ := ⟨⟨_, _, _, PySem.W.mg_of X G acheck_fates, kcheck_fates, bcheck_fates, Gcheck_fates⟩⟩
  have Gcheck_end := ok_check_end (P := P) (w := w) (base := base) (T := (fun i => [CRun, CInvalidFate, CInvalidEnd, CInvalidBit, CUnmatched, CSureError].getD i 0)) B DENDS rENDS Fcheck_end (X_InvalidEnd base)
  have K_check_end : Cal P w K mg base "check_end" 3 _ := ⟨⟨_, _, _, PySem.W.mg_of X G acheck_end, kcheck_end, bcheck_end, Gcheck_end⟩⟩
  have Gjoined_fates := ok_joined_fates (P := P) (w := w) (base := base) (T := (fun i => [CRun, CInvalidFate, CInvalidEnd, CInvalidBit, CUnmatched, CSureError].getD i 0)) B Fjoined_fates K_rounds_heard K_rounds_of
  have K_joined_fates : Cal P w K mg base "joined_fates" 3 _ := ⟨⟨_, _, _, PySem.W.mg_of X G ajoined_fates, kjoined_fates, bjoined_fates, Gjoined_fates⟩⟩
  have GLchanged := ok_Lchanged (P := P) (w := w) (base := base) (T := (fun i => [CRun, CInvalidFate, CInvalidEnd, CInvalidBit, CUnmatched, CSureError].getD i 0)) B FLchanged K_Lcell K_Lfates
  have K_Lchanged : Cal P w K mg base "_law_changed" 3 _ := ⟨⟨_, _, _, PySem.W.mg_of X G aLchanged, kLchanged, bLchanged, GLchanged⟩⟩
  have Garrives := ok_arrives (P := P) (w := w) (base := base) (T := (fun i => [CRun, CInvalidFate, CInvalidEnd, CInvalidBit, CUnmatched, CSureError].getD i 0)) B DARRIVING tARRIVING Farrives K_check_end K_check_fates
  have K_arrives : CalK P w K mg base "arrives" 1 1 ["at"] 4 _ := ⟨⟨_, _, _, PySem.W.mg_of X G aarrives, karrives, ⟨fun s us ws _ hl => (by
    unfold kbG at hl ⊢
    split at hl
    · next h =>
      rw [if_pos h]
      match us, ws, h with
      | [_], [_], _ => exact .of_eq rfl
    · cases hl), kbG_rel⟩, Garrives⟩⟩
  have GRun_init := ok_Run_init (P := P) (w := w) (base := base) (T := (fun i => [CRun, CInvalidFate, CInvalidEnd, CInvalidBit, CUnmatched, CSureError].getD i 0)) B fc FRun_init K_check_bit K_check_fates
  have K_Run_init : CalI P w K mg base "Run" CRun 4 _ := ⟨⟨_, _, _, PySem.W.mg_of X G aCRun, ⟨mkRun, aRun_init, iRun_init, kcRun⟩, bRun_init, GRun_init⟩⟩
  have Glast_arrival := ok_last_arrival (P := P) (w := w) (base := base) (T := (fun i => [CRun, CInvalidFate, CInvalidEnd, CInvalidBit, CUnmatched, CSureError].getD i 0)) B Flast_arrival K_arrives
  have K_last_arrival : Cal P w K mg base "last_arrival" 5 _ := ⟨⟨_, _, _, PySem.W.mg_of X G alast_arrival, klast_arrival, blast_arrival, Glast_arrival⟩⟩
  have GRun_seen := ok_Run_seen (P := P) (w := w) (base := base) (T := (fun i => [CRun, CInvalidFate, CInvalidEnd, CInvalidBit, CUnmatched, CSureError].getD i 0)) B fc FRun_seen K_Run_rounds K_check_end K_last_arrival
  have K_Run_seen : CalM P w K mg base CRun "seen" 6 _ := ⟨clRun, ⟨_, _, _, ⟨aRun_seen, iRun_seen, kRun_seen⟩, bRun_seen, GRun_seen⟩⟩
  have Gjoin_views := ok_join_views (P := P) (w := w) (base := base) (T := (fun i => [CRun, CInvalidFate, CInvalidEnd, CInvalidBit, CUnmatched, CSureError].getD i 0)) B fc Fjoin_views K_Run_init K_Run_seen K_joined_fates K_rounds_of Y_Unmatched
  have K_join_views : Cal P w K mg base "join_views" 7 _ := ⟨⟨_, _, _, PySem.W.mg_of X G ajoin_views, kjoin_views, bjoin_views, Gjoin_views⟩⟩
  have Ggrow := ok_grow (P := P) (w := w) (base := base) (T := (fun i => [CRun, CInvalidFate, CInvalidEnd, CInvalidBit, CUnmatched, CSureError].getD i 0)) B fc Fgrow K_check_end K_join_views
  have K_grow : Cal P w K mg base "grow" 8 _ := ⟨⟨_, _, _, PySem.W.mg_of X G agrow, kgrow, bgrow, Ggrow⟩⟩
  have GLgrown := ok_Lgrown (P := P) (w := w) (base := base) (T := (fun i => [CRun, CInvalidFate, CInvalidEnd, CInvalidBit, CUnmatched, CSureError].getD i 0)) B fc FLgrown K_grow
  have K_Lgrown : Cal P w K mg base "_law_grown" 9 _ := ⟨⟨_, _, _, PySem.W.mg_of X G aLgrown, kLgrown, bLgrown, GLgrown⟩⟩
  have Glaw := ok_law (P := P) (w := w) (base := base) (T := (fun i => [CRun, CInvalidFate, CInvalidEnd, CInvalidBit, CUnmatched, CSureError].getD i 0)) B Flaw K_Lcell K_Lchanged K_Ldraws K_Lfates K_Lgrown K_Ljoined K_Lseen K_Lview
  exact Glaw.imp fun _ _ _ _ s => top_le law_true s
end My
open PySem PySem.W PyProof.Rows
set_option maxRecDepth 100000 in
set_option maxHeartbeats 0 in
theorem PySem.Challenge.cw_bothsure_k09_views_grow_holds : PySem.Challenge.rw_bothsure_k09_views_grow.Holds := by
  w_on; o_law; k_head; (case hw => w_witness2)
  k_fill
  refine L2.walk_of (l := PySem.Challenge.rw_bothsure_k09_views_grow) (n := 63) (k := 10) (x := "_law_script") (CX := fun w => L2N.CX PySem.Challenge.rw_bothsure_k09_views_grow.prog w) (sp := fun w => My.spTop _) rfl (by decide) rfl ⟨rfl, by decide, by decide⟩ (fun w h Y => PySem.W.kIn_of Y) ?F (fun _ _ a ns hl _ hS => ⟨a, ns, rfl, hl, hS, fun _ => rfl⟩) fun _ _ _ _ _ ⟨_, _, _, _, _, _, _, _, _, _, _, _, z⟩ => z
  case F =>
    intro w mg fa h KX G hmg
    refine' My.all_mk KX G hmg ?z_len ?z_range ?z_int ?z_isinstance ?z_enumerate ?z_zip ?z_str ?z_list ?z_tuple ?z_all ?z_any ?z_reversed ?z_iter ?z_bool ?z_super ?z_dict ?z_ValueError ?aCRun ?pgRun ?hdRun ?poRun ?saRun ?mkRun ?kcRun ?nRun_first ?nRun_second ?nRun_fates ?haRun ?hmRun ?opq ?topS_ ?aCSureError ?aCInvalidFate ?aCInvalidEnd ?aCInvalidBit ?aCUnmatched ?exCInvalidFate ?tyCInvalidFate ?nInvalidFate ?xLInvalidFate ?xrInvalidFate ?saInvalidFate ?kCInvalidFate ?aiInvalidFate ?tiInvalidFate ?liInvalidFate ?ciInvalidFate ?ceInvalidFate ?coInvalidFate ?cfInvalidFate ?cgInvalidFate ?suInvalidFate ?scInvalidFate ?svInvalidFate ?exCInvalidEnd ?tyCInvalidEnd ?hdInvalidEnd ?nInvalidEnd ?gaInvalidEnd ?ggInvalidEnd ?sbInvalidEnd_InvalidFate ?sbInvalidEnd_InvalidEnd ?sbInvalidEnd_InvalidBit ?sbInvalidEnd_Unmatched ?xLInvalidEnd ?xrInvalidEnd ?saInvalidEnd ?kCInvalidEnd ?aiInvalidEnd ?tiInvalidEnd ?liInvalidEnd ?ciInvalidEnd ?ceInvalidEnd ?coInvalidEnd ?cfInvalidEnd ?cgInvalidEnd ?suInvalidEnd ?scInvalidEnd ?svInvalidEnd ?exCInvalidBit ?tyCInvalidBit ?nInvalidBit ?xLInvalidBit ?xrInvalidBit ?saInvalidBit ?kCInvalidBit ?aiInvalidBit ?tiInvalidBit ?liInvalidBit ?ciInvalidBit ?ceInvalidBit ?coInvalidBit ?cfInvalidBit ?cgInvalidBit ?suInvalidBit ?scInvalidBit ?svInvalidBit ?exCUnmatched ?tyCUnmatched ?hdUnmatched ?sbUnmatched_InvalidFate ?sbUnmatched_InvalidEnd ?sbUnmatched_InvalidBit ?sbUnmatched_Unmatched ?q0Unmatched ?k0Unmatched ?hnC ?htC ?aFATES ?aARRIVING ?lARRIVING ?kARRIVING ?vARRIVING0 ?vARRIVING1 ?aENDS ?lENDS ?jENDS ?acheck_bit ?lcheck_bit ?ccheck_bit ?kcheck_bit ?acheck_fates ?lcheck_fates ?ccheck_fates ?kcheck_fates ?acheck_end ?lcheck_end ?ccheck_end ?kcheck_end ?aarrives ?larrives ?carrives ?karrives ?alast_arrival ?llast_arrival ?clast_arrival ?klast_arrival ?aRun_init ?iRun_init ?lRun_init ?cRun_init ?kRun_init ?pRun_rounds ?pg_Run_rounds ?pt_Run_rounds ?pr_Run_rounds ?lRun_rounds ?cRun_rounds ?kRun_rounds ?aRun_seen ?iRun_seen ?lRun_seen ?cRun_seen ?kRun_seen ?arounds_heard ?lrounds_heard ?crounds_heard ?krounds_heard ?arounds_of ?lrounds_of ?crounds_of ?krounds_of ?ajoined_fates ?ljoined_fates ?cjoined_fates ?kjoined_fates ?ajoin_views ?ljoin_views ?cjoin_views ?kjoin_views ?agrow ?lgrow ?cgrow ?kgrow ?aLcell ?lLcell ?cLcell ?kLcell ?aLdraws ?lLdraws ?cLdraws ?kLdraws ?aLfates ?lLfates ?cLfates ?kLfates ?aLchanged ?lLchanged ?cLchanged ?kLchanged ?aLinteger ?lLinteger ?cLinteger ?kLinteger ?aLseen ?lLseen ?cLseen ?kLseen ?aLview ?lLview ?cLview ?kLview ?aLheard ?lLheard ?cLheard ?kLheard ?aLjoined ?lLjoined ?cLjoined ?kLjoined ?aLgrown ?lLgrown ?cLgrown ?kLgrown ?alaw ?llaw ?claw ?klaw
    (case z_len => k_is)
    (case z_range => k_is)
    (case z_int => k_is)
    (case z_isinstance => k_is)
    (case z_enumerate => k_is)
    (case z_zip => k_is)
    (case z_str => k_is)
    (case z_list => k_is)
    (case z_tuple => k_is)
    (case z_all => k_is)
    (case z_any => k_is)
    (case z_reversed => k_is)
    (case z_iter => k_is)
    (case z_bool => k_is)
    (case z_super => k_is)
    (case z_dict => k_is)
    (case z_ValueError => k_is)
    (case aCRun => k_is)
    (case pgRun => k_is)
    (case hdRun => k_is)
    (case poRun => k_is)
    (case saRun => k_is)
    (case mkRun => k_is)
    (case kcRun => k_is)
    (case nRun_first => k_is)
    (case nRun_second => k_is)
    (case nRun_fates => k_is)
    (case haRun => k_is)
    (case hmRun => k_is)
    (case opq => k_is)
    (case topS_ => (first | rfl | decide +kernel))
    (case aCSureError => k_is)
    (case aCInvalidFate => k_is)
    (case aCInvalidEnd => k_is)
    (case aCInvalidBit => k_is)
    (case aCUnmatched => k_is)
    (case exCInvalidFate => k_is)
    (case tyCInvalidFate => k_is)
    (case nInvalidFate => k_is)
    (case xLInvalidFate => k_is)
    (case xrInvalidFate => (first | rfl | decide +kernel))
    (case saInvalidFate => k_is)
    (case kCInvalidFate => k_is)
    (case aiInvalidFate => k_is)
    (case tiInvalidFate => k_is)
    (case liInvalidFate => k_is)
    (case ciInvalidFate => k_is)
    (case ceInvalidFate => k_is)
    (case coInvalidFate => k_is)
    (case cfInvalidFate => rfl)
    (case cgInvalidFate => (first | rfl | decide +kernel))
    (case suInvalidFate => kernel_rfl)
    (case scInvalidFate => k_is)
    (case svInvalidFate => k_is)
    (case exCInvalidEnd => k_is)
    (case tyCInvalidEnd => k_is)
    (case hdInvalidEnd => k_is)
    (case nInvalidEnd => k_is)
    (case gaInvalidEnd => k_is)
    (case ggInvalidEnd => k_is)
    (case sbInvalidEnd_InvalidFate => k_is)
    (case sbInvalidEnd_InvalidEnd => k_is)
    (case sbInvalidEnd_InvalidBit => k_is)
    (case sbInvalidEnd_Unmatched => k_is)
    (case xLInvalidEnd => k_is)
    (case xrInvalidEnd => (first | rfl | decide +kernel))
    (case saInvalidEnd => k_is)
    (case kCInvalidEnd => k_is)
    (case aiInvalidEnd => k_is)
    (case tiInvalidEnd => k_is)
    (case liInvalidEnd => k_is)
    (case ciInvalidEnd => k_is)
    (case ceInvalidEnd => k_is)
    (case coInvalidEnd => k_is)
    (case cfInvalidEnd => rfl)
    (case cgInvalidEnd => (first | rfl | decide +kernel))
    (case suInvalidEnd => kernel_rfl)
    (case scInvalidEnd => k_is)
    (case svInvalidEnd => k_is)
    (case exCInvalidBit => k_is)
    (case tyCInvalidBit => k_is)
    (case nInvalidBit => k_is)
    (case xLInvalidBit => k_is)
    (case xrInvalidBit => (first | rfl | decide +kernel))
    (case saInvalidBit => k_is)
    (case kCInvalidBit => k_is)
    (case aiInvalidBit => k_is)
    (case tiInvalidBit => k_is)
    (case liInvalidBit => k_is)
    (case ciInvalidBit => k_is)
    (case ceInvalidBit => k_is)
    (case coInvalidBit => k_is)
    (case cfInvalidBit => rfl)
    (case cgInvalidBit => (first | rfl | decide +kernel))
    (case suInvalidBit => kernel_rfl)
    (case scInvalidBit => k_is)
    (case svInvalidBit => k_is)
    (case exCUnmatched => k_is)
    (case tyCUnmatched => k_is)
    (case hdUnmatched => k_is)
    (case sbUnmatched_InvalidFate => k_is)
    (case sbUnmatched_InvalidEnd => k_is)
    (case sbUnmatched_InvalidBit => k_is)
    (case sbUnmatched_Unmatched => k_is)
    (case q0Unmatched => k_exc)
    (case k0Unmatched => k_is)
    (case hnC => k_is)
    (case htC => k_is)
    (case aFATES => k_is)
    (case aARRIVING => k_is)
    (case lARRIVING => k_is)
    (case kARRIVING => k_keys)
    (case vARRIVING0 => k_is)
    (case vARRIVING1 => k_is)
    (case aENDS => k_is)
    (case lENDS => k_is)
    (case jENDS => rfl)
    (case acheck_bit => k_is)
    (case lcheck_bit => k_is)
    (case ccheck_bit => k_is)
    (case kcheck_bit => k_is)
    (case acheck_fates => k_is)
    (case lcheck_fates => k_is)
    (case ccheck_fates => k_is)
    (case kcheck_fates => k_is)
    (case acheck_end => k_is)
    (case lcheck_end => k_is)
    (case ccheck_end => k_is)
    (case kcheck_end => k_is)
    (case aarrives => k_is)
    (case larrives => k_is)
    (case carrives => k_is)
    (case karrives => k_is)
    (case alast_arrival => k_is)
    (case llast_arrival => k_is)
    (case clast_arrival => k_is)
    (case klast_arrival => k_is)
    (case aRun_init => k_is)
    (case iRun_init => k_is)
    (case lRun_init => k_is)
    (case cRun_init => k_is)
    (case kRun_init => k_is)
    (case pRun_rounds => k_is)
    (case pg_Run_rounds => k_is)
    (case pt_Run_rounds => k_is)
    (case pr_Run_rounds => k_is)
    (case lRun_rounds => k_is)
    (case cRun_rounds => k_is)
    (case kRun_rounds => k_is)
    (case aRun_seen => k_is)
    (case iRun_seen => k_is)
    (case lRun_seen => k_is)
    (case cRun_seen => k_is)
    (case kRun_seen => k_is)
    (case arounds_heard => k_is)
    (case lrounds_heard => k_is)
    (case crounds_heard => k_is)
    (case krounds_heard => k_is)
    (case arounds_of => k_is)
    (case lrounds_of => k_is)
    (case crounds_of => k_is)
    (case krounds_of => k_is)
    (case ajoined_fates => k_is)
    (case ljoined_fates => k_is)
    (case cjoined_fates => k_is)
    (case kjoined_fates => k_is)
    (case ajoin_views => k_is)
    (case ljoin_views => k_is)
    (case cjoin_views => k_is)
    (case kjoin_views => k_is)
    (case agrow => k_is)
    (case lgrow => k_is)
    (case cgrow => k_is)
    (case kgrow => k_is)
    (case aLcell => k_is)
    (case lLcell => k_is)
    (case cLcell => k_is)
    (case kLcell => k_is)
    (case aLdraws => k_is)
    (case lLdraws => k_is)
    (case cLdraws => k_is)
    (case kLdraws => k_is)
    (case aLfates => k_is)
    (case lLfates => k_is)
    (case cLfates => k_is)
    (case kLfates => k_is)
    (case aLchanged => k_is)
    (case lLchanged => k_is)
    (case cLchanged => k_is)
    (case kLchanged => k_is)
    (case aLinteger => k_is)
    (case lLinteger => k_is)
    (case cLinteger => k_is)
    (case kLinteger => k_is)
    (case aLseen => k_is)
    (case lLseen => k_is)
    (case cLseen => k_is)
    (case kLseen => k_is)
    (case aLview => k_is)
    (case lLview => k_is)
    (case cLview => k_is)
    (case kLview => k_is)
    (case aLheard => k_is)
    (case lLheard => k_is)
    (case cLheard => k_is)
    (case kLheard => k_is)
    (case aLjoined => k_is)
    (case lLjoined => k_is)
    (case cLjoined => k_is)
    (case kLjoined => k_is)
    (case aLgrown => k_is)
    (case lLgrown => k_is)
    (case cLgrown => k_is)
    (case kLgrown => k_is)
    (case alaw => k_is)
    (case llaw => k_is)
    (case claw => k_is)
    (case klaw => k_is)
