import PyProof.Rows.All
import HandS.ForMost
import HandS.Evl
import KE.KDictKeyed
import HandS.ForExc
import HandS.ExcCtx
import HandS.HotCalls
import HandS.SuiteRaise
import HandS.IsInst
import HandS.Replace
import HandS.Property
import PyProof.Draws
import PyProof.EnumMake
import HandS.RevRange
import HandS.More
import HandS.TupLe
import KE.KExcSuper
import KE.KSuper
import HandS.Nested
import HandS.ExcInit
import HandS.FStr
import HandS.ClsMeth
import HandS.ExcField
import HandS.ExcIs
import KE.KExcIs
import HandS.FStrTup
import Wide.All
import OpenK.AllK
import Wide.FinOn
import PySem.Challenge.RW_bothsure_k00_errors_and_their_fields
set_option Elab.async false
set_option linter.all false
set_option maxRecDepth 100000
set_option maxHeartbeats 2000000
/-! Dicts whose keys are nested tuples of ints and None: as objects of the hand layer. -/
namespace Cz
open PySem L2 Evl PyProof.Rows

mutual
def noTx : NestedKey → Bool
  | .none => true | .num _ => true | .text _ => false
  | .tup ks => noTxs ks
def noTxs : List NestedKey → Bool
  | [] => true
  | k :: ks => noTx k && noTxs ks
end
mutual
theorem hash_w (w w' : World) : ∀ k : NestedKey, noTx k = true → k.hash w = k.hash w'
  | .none, _ => rfl
  | .num i, _ => rfl
  | .text x, h => by simp [noTx] at h
  | .tup ks, h => by
    unfold NestedKey.hash
    rw [hashes_w w w' ks (by simpa [noTx] using h)]
theorem hashes_w (w w' : World) : ∀ ks : List NestedKey, noTxs ks = true → NestedKey.hashes w ks = NestedKey.hashes w' ks
  | [], _ => rfl
  | k :: ks, h => by
    simp only [noTxs, Bool.and_eq_true] at h
    unfold NestedKey.hashes
    rw [hash_w w w' k h.1, hashes_w w w' ks h.2]
end
abbrev NEnt := NestedKey × Addr × V
def NRel (p : NEnt) (q : NestedKey × Addr × Value) : Prop := q.1 = p.1 ∧ q.2.1 = p.2.1 ∧ RelV p.2.2 q.2.2
def NDp (a : Addr) (xs : List NEnt) (h : Heap) : Prop :=
  (a == sysModules) = false ∧ xs.length ≤ sizeLine ∧ (∀ x ∈ xs, noTx x.1 = true) ∧ ∃ ys : List (NestedKey × Addr × Value), Paired NRel xs ys ∧ ∃ o es ep, h.get? a = some o ∧ o.ExactDict ∧ o.data = .dict es ep ∧
    (∀ w : World, es.toList = ys.map fun x => (⟨x.1.hash w, .ref x.2.1, x.2.2⟩ : DictEntry)) ∧ (ys.map (·.1)).Nodup
/-- such a dict -/
def ND (a : Addr) (xs : List NEnt) : HO := .ext (NDp a xs)
theorem nd_stay {a : Addr} {xs : List NEnt} (h1 h2 : Heap) (p : NDp a xs h1) (k : ∀ o, h1.get? a = some o → h2.get? a = some o) : NDp a xs h2 := by
  obtain ⟨q1, q2, q3, ys, q4, o, es, ep, q5, q6⟩ := p
  exact ⟨q1, q2, q3, ys, q4, o, es, ep, k _ q5, q6⟩
theorem nd_ok {P : Program} {w : World} {H : Hp} {h : Heap} {a : Addr} {xs : List NEnt} (p : NDp a xs h) : ObjOk P w H h a (ND a xs) :=
  ⟨p, let ⟨_, _, _, _, _, o, _, _, q, _⟩ := p; ⟨o, q⟩, nd_stay⟩

/-! a key in the abstract heap -/
mutual
inductive NK (K : PySem.W.Frag) (H : Hp) : NestedKey → V → Prop
  | none : NK K H .none .non
  | num (i : Int) : NK K H (.num i) (.int i)
  | tup {p : Addr} {vs : List V} {ks : List NestedKey} : SqT K H p vs → NKs K H ks vs → NK K H (.tup ks) (.ref p)
inductive NKs (K : PySem.W.Frag) (H : Hp) : List NestedKey → List V → Prop
  | nil : NKs K H [] []
  | cons {k : NestedKey} {v : V} {ks : List NestedKey} {vs : List V} : NK K H k v → NKs K H ks vs → NKs K H (k :: ks) (v :: vs)
end
section
variable {K : PySem.W.Frag} {G H : Hp}
mutual
theorem NK.mono (e : Ex G H) : ∀ {k : NestedKey} {v : V}, NK K G k v → NK K H k v
  | _, _, .none => .none
  | _, _, .num i => .num i
  | _, _, .tup h r => .tup (ex_t e h) (NKs.mono e r)
theorem NKs.mono (e : Ex G H) : ∀ {k : List NestedKey} {v : List V}, NKs K G k v → NKs K H k v
  | _, _, .nil => .nil
  | _, _, .cons h r => .cons (NK.mono e h) (NKs.mono e r)
end
mutual
theorem NK.tx : ∀ {k : NestedKey} {v : V}, NK K H k v → noTx k = true
  | _, _, .none => rfl
  | _, _, .num i => rfl
  | _, _, .tup h r => by simp [noTx, NKs.tx r]
theorem NKs.tx : ∀ {k : List NestedKey} {v : List V}, NKs K H k v → noTxs k = true
  | _, _, .nil => rfl
  | _, _, .cons h r => by simp [noTxs, NK.tx h, NKs.tx r]
end
end
section
variable {X : Cx} {pins : List (Addr × Obj)} {σ : L2.St} {H : Hp} {s : Shared}
mutual
theorem NK.is (I : Inv X pins σ H s) : ∀ {k : NestedKey} {v : V} {u : Value}, NK X.K H k v → RelV v u → NestedIs s.heap k u
  | _, _, _, .none, r => by cases (show _ = Value.none from r); exact .none
  | _, _, _, .num i, r => by
    obtain ⟨t, e⟩ := (show ∃ t, _ = Value.int i t from r)
    subst e
    exact .int i t
  | _, _, _, .tup h q, r => by
    cases r
    obtain ⟨its, rv, ⟨o, h1, h2, n, h3⟩, _⟩ := I.tuple h
    exact .tup h1 h2 h3 (by simpa using NKs.is I q rv)
theorem NKs.is (I : Inv X pins σ H s) : ∀ {k : List NestedKey} {v : List V} {u : List Value}, NKs X.K H k v → Vals v u → NestedAll s.heap k u
  | _, _, _, .nil, .nil => .nil
  | _, _, _, .cons h q, .cons r rr => .cons (NK.is I h r) (NKs.is I q rr)
end
/-! ### the operations -/
/-- what stands at the key k -/
def ndLook (k : NestedKey) : List NEnt → Option V
  | [] => none
  | x :: r => if x.1 = k then some x.2.2 else ndLook k r
/-- the entries behind d[k] = v -/
def ndPut (k : NestedKey) (p : Addr) (v : V) (xs : List NEnt) : List NEnt :=
  if (ndLook k xs).isSome then xs.map fun x => if x.1 = k then (x.1, x.2.1, v) else x else xs ++ [(k, p, v)]
theorem nd_look {k : NestedKey} : ∀ {xs : List NEnt} {ys : List (NestedKey × Addr × Value)}, Paired NRel xs ys → RelO (ndLook k xs) ((atKey ys k).map (·.2))
  | _, _, .nil => True.intro
  | _, _, .cons (a := x) (b := y) h r => by
    have ih := nd_look (k := k) r
    obtain ⟨e1, e2, e3⟩ := h
    unfold ndLook
    unfold atKey at ih ⊢
    by_cases hk : x.1 = k
    · rw [if_pos hk, List.find?_cons_of_pos (by simpa [e1] using hk)]
      exact e3
    · rw [if_neg hk, List.find?_cons_of_neg (by simpa [e1] using hk)]
      exact ih
theorem nd_isSome {k : NestedKey} {xs : List NEnt} {ys : List (NestedKey × Addr × Value)} (r : Paired NRel xs ys) : (ndLook k xs).isSome = (atKey ys k).isSome := by
  have h := (nd_look (k := k) r).isSome_eq
  rw [h, Option.isSome_map]
theorem nd_put {k : NestedKey} {p : Addr} {v : V} {u : Value} (rv : RelV v u) {xs : List NEnt} {ys : List (NestedKey × Addr × Value)} (r : Paired NRel xs ys) : Paired NRel (ndPut k p v xs) (storedH ys k p u) := by
  have key : ∀ {xs : List NEnt} {ys : List (NestedKey × Addr × Value)}, Paired NRel xs ys → Paired NRel (xs.map fun x => if x.1 = k then (x.1, x.2.1, v) else x) (ys.map (putAt k u)) := by
    intro xs ys r
    induction r with
    | nil => exact .nil
    | @cons x y xs ys h r ih =>
      refine .cons ?_ ih
      obtain ⟨e1, e2, e3⟩ := h
      show NRel (if x.1 = k then (x.1, x.2.1, v) else x) _
      by_cases hk : x.1 = k
      · rw [if_pos hk]
        unfold putAt
        rw [if_pos (by rw [e1]; exact hk)]
        exact ⟨e1, e2, rv⟩
      · rw [if_neg hk]
        unfold putAt
        rw [if_neg (by rw [e1]; exact hk)]
        exact ⟨e1, e2, e3⟩
  have app : ∀ {xs : List NEnt} {ys : List (NestedKey × Addr × Value)}, Paired NRel xs ys → Paired NRel (xs ++ [(k, p, v)]) (ys ++ [(k, p, u)]) := by
    intro xs ys r
    induction r with
    | nil => exact .cons ⟨rfl, rfl, rv⟩ .nil
    | @cons x y xs ys h r ih => exact .cons h ih
  unfold ndPut storedH
  rw [nd_isSome r]
  split
  · exact key r
  · exact app r
theorem ndPut_len (k : NestedKey) (p : Addr) (v : V) (xs : List NEnt) : (ndPut k p v xs).length ≤ xs.length + 1 := by
  unfold ndPut
  split
  · simp
  · simp
theorem ndPut_mem {k : NestedKey} {p : Addr} {v : V} {xs : List NEnt} {x : NEnt} (h : x ∈ ndPut k p v xs) : (∃ y ∈ xs, x.1 = y.1 ∧ x.2.1 = y.2.1) ∨ (x.1 = k ∧ x.2.1 = p) := by
  unfold ndPut at h
  split at h
  · obtain ⟨y, hy, rfl⟩ := List.mem_map.mp h
    left
    refine ⟨y, hy, ?_⟩
    split
    · exact ⟨rfl, rfl⟩
    · exact ⟨rfl, rfl⟩
  · rcases List.mem_append.mp h with h | h
    · exact .inl ⟨x, h, rfl, rfl⟩
    · right
      have : x = (k, p, v) := by simpa using h
      subst this
      exact ⟨rfl, rfl⟩
theorem nrel_mem {xs : List NEnt} {ys : List (NestedKey × Addr × Value)} (r : Paired NRel xs ys) : ∀ y ∈ ys, ∃ x ∈ xs, NRel x y := by
  induction r with
  | nil => intro y hy; cases hy
  | @cons x y xs ys h r ih =>
    intro z hz
    rcases List.mem_cons.mp hz with rfl | hz
    · exact ⟨x, by simp, h⟩
    · obtain ⟨w, hw, q⟩ := ih z hz
      exact ⟨w, by simp [hw], q⟩
theorem nrel_tx {xs : List NEnt} {ys : List (NestedKey × Addr × Value)} (r : Paired NRel xs ys) (h : ∀ x ∈ xs, noTx x.1 = true) : ∀ y ∈ ys, noTx y.1 = true := fun y hy => by
  obtain ⟨x, hx, e, _⟩ := nrel_mem r y hy
  rw [e]
  exact h x hx
/-- the keys stand -/
def NKeys (K : PySem.W.Frag) (H : Hp) (xs : List NEnt) : Prop := ∀ x ∈ xs, NK K H x.1 (.ref x.2.1) ∧ x.1.depth ≤ 8
theorem nd_dict {a : Addr} {xs : List NEnt} (I : Inv X pins σ H s) (e : H a = some (ND a xs)) (hk : NKeys X.K H xs) :
    (a == sysModules) = false ∧ xs.length ≤ sizeLine ∧ ∃ ys, Paired NRel xs ys ∧ s.heap.DictOfH (nestedKind X.prog X.w) a ys := by
  obtain ⟨⟨h1, h2, h3, ys, r, o, es, ep, q1, q2, q3, q4, q5⟩, _⟩ := I.hok a _ e
  refine ⟨h1, h2, ys, r, o, es, ep, q1, q2, q3, q4 X.w, fun y hy => ?_, q5⟩
  obtain ⟨x, hx, e1, e2, _⟩ : ∃ x ∈ xs, NRel x y := by
    exact nrel_mem r y hy
  obtain ⟨k1, k2⟩ := hk x hx
  rw [e1, e2]
  exact ⟨NK.is I k1 rfl, k2⟩
theorem nd_is {k : NestedKey} {p : Addr} (I : Inv X pins σ H s) (kk : NK X.K H k (.ref p)) (kd : k.depth ≤ 8) : (nestedKind X.prog X.w).is s.heap k p := ⟨NK.is I kk rfl, kd⟩
theorem nd_room {A : Around} (hu : A.units + 64 < cLine) : (nestedKind X.prog X.w).room A.in1 := by
  show A.units + 1 + 8 < cLine
  omega
/-- y in d, y not in d -/
def rNIn (K : PySem.W.Frag) (neg : Bool) : R2 := fun y x H Q => ∃ a xs k p, x = .ref a ∧ y = .ref p ∧ H a = some (ND a xs) ∧ NKeys K H xs ∧ NK K H k (.ref p) ∧ k.depth ≤ 8 ∧ Q (.bl (if neg then !(ndLook k xs).isSome else (ndLook k xs).isSome)) H
theorem op_nIn (hu : X.A.units + 64 < cLine) : OpR X (compareOp .In) (rNIn X.K false) := by
  intro pins s σ H x y v u Q I rx ry h
  obtain ⟨a, xs, k, p, rfl, rfl, e, hk, kk, kd, q⟩ := h
  cases (show v = Value.ref p from rx)
  cases (show u = Value.ref a from ry)
  obtain ⟨h1, h2, ys, r, dd⟩ := nd_dict I e hk
  refine wpAny_in_heap (nd_room hu) (nd_is I kk kd) h1 dd ?_
  rw [← nd_isSome r]
  exact ⟨.bl _, H, I.tok _, rfl, q⟩
theorem op_nNotIn (hu : X.A.units + 64 < cLine) : OpR X (compareOp .NotIn) (rNIn X.K true) := by
  intro pins s σ H x y v u Q I rx ry h
  obtain ⟨a, xs, k, p, rfl, rfl, e, hk, kk, kd, q⟩ := h
  cases (show v = Value.ref p from rx)
  cases (show u = Value.ref a from ry)
  obtain ⟨h1, h2, ys, r, dd⟩ := nd_dict I e hk
  refine wpAny_notIn_heap (nd_room hu) (nd_is I kk kd) h1 dd ?_
  rw [← nd_isSome r]
  exact ⟨.bl _, H, I.tok _, rfl, q⟩
/-- d[y], there -/
def rNGet (K : PySem.W.Frag) : R2 := fun x y H Q => ∃ a xs k p v, x = .ref a ∧ y = .ref p ∧ H a = some (ND a xs) ∧ NKeys K H xs ∧ NK K H k (.ref p) ∧ k.depth ≤ 8 ∧ ndLook k xs = some v ∧ Q v H
theorem ix_nGet (hu : X.A.units + 64 < cLine) : IxR X (rNGet X.K) := by
  intro value slice pins s σ H x y v u Q I rx ry h hs
  obtain ⟨a, xs, k, p, z, rfl, rfl, e, hk, kk, kd, hl, q⟩ := h
  cases (show v = Value.ref a from rx)
  cases (show u = Value.ref p from ry)
  obtain ⟨h1, h2, ys, r, dd⟩ := nd_dict I e hk
  obtain ⟨w', hw, rw'⟩ := RelO.some_of (v := z) (o := (atKey ys k).map (·.2)) (by rw [← hl]; exact nd_look r)
  obtain ⟨pp, hp, hp2⟩ := Option.map_eq_some_iff.mp hw
  have fin : EP X pins σ Q w' { s with toks := s.toks + (nestedKind X.prog X.w).draws k } := ⟨z, H, I.tok _, rw', q⟩
  unfold subscriptTail
  refine wpAny_bind ?_
  rw [getitemInPython_of_ne dd.typeIs.not_modules]
  refine wpAny_bind (wpAny_specialOf dd.typeIs PySem.F.slot_dict_getitem.lookup ?_)
  have fin2 : wpAny (model X.prog X.w) X.A (subscripted slice false (.ref a) (.ref p)) (fun r s₃ => wpAny (model X.prog X.w) X.A (letTemporaryGo value (.ref a) r >>= fun _ => pure r) (EP X pins σ Q) X.xe s₃) X.xe s := by
    rw [hs]
    refine wpAny_operating (wpAny_getItem_heap (nd_room hu) (nd_is I kk kd) dd hp ?_)
    rw [hp2]
    exact wpAny_bind (wpAny_letTemporaryGo (wpAny_pure fin))
  first
    | exact wpAny_pure (wpAny_bind fin2)
    | exact wpAny_bind (wpAny_pure (wpAny_bind fin2))
    | exact wpAny_bind fin2
theorem nd_write {a p : Addr} {xs : List NEnt} {k : NestedKey} {v : V} {u : Value} {h' : Heap} {ys : List (NestedKey × Addr × Value)} {t' : Nat} (I : Inv X pins σ H s) (e : H a = some (ND a xs)) (hl : xs.length < sizeLine) (kt : noTx k = true) (rv : RelV v u) (r : Paired NRel xs ys)
    (dd' : h'.DictOfH (nestedKind X.prog X.w) a (storedH ys k p u)) (hs : Heap.SameBut a s.heap h') : Inv X pins σ (upd H a (ND a (ndPut k p v xs))) { s with heap := h', toks := t' } := by
  obtain ⟨⟨h1, h2, h3, _⟩, _⟩ := I.hok a _ e
  obtain ⟨q, es, ep, hq, g2, g3, g4, _, g5⟩ := dd'
  refine d_write I (by rw [e]; exact True.intro) hs ⟨q, hq⟩ (nd_ok ⟨h1, by have := ndPut_len k p v xs; omega, fun x hx => ?_, _, nd_put rv r, q, es, ep, hq, g2, g3, fun w => ?_, g5⟩)
  · rcases ndPut_mem hx with ⟨y, hy, e1, _⟩ | ⟨e1, _⟩
    · rw [e1]; exact h3 y hy
    · rw [e1]; exact kt
  · rw [g4]
    refine List.map_congr_left fun y hy => ?_
    have : noTx y.1 = true := by
      refine nrel_tx (nd_put (k := k) (p := p) rv r) (fun x hx => ?_) y hy
      rcases ndPut_mem hx with ⟨y, hy, e1, _⟩ | ⟨e1, _⟩
      · rw [e1]; exact h3 y hy
      · rw [e1]; exact kt
    show (⟨y.1.hash X.w, .ref y.2.1, y.2.2⟩ : DictEntry) = _
    rw [hash_w X.w w y.1 this]
/-- d[y] = v -/
def rNSet (K : PySem.W.Frag) : TSet := fun x y v H Q => ∃ a xs k p, x = .ref a ∧ y = .ref p ∧ H a = some (ND a xs) ∧ NKeys K H xs ∧ NK K H k (.ref p) ∧ k.depth ≤ 8 ∧ xs.length < sizeLine ∧ Q (upd H a (ND a (ndPut k p v xs)))
theorem set_nd (hu : X.A.units + 64 < cLine) : PSet X (rNSet X.K) := by
  intro pins s σ H o i v ov iv u Q I ro ri rv h
  obtain ⟨a, xs, k, p, rfl, rfl, e, hk, kk, kd, hl, q⟩ := h
  cases (show ov = Value.ref a from ro)
  cases (show iv = Value.ref p from ri)
  obtain ⟨h1, h2, ys, r, dd⟩ := nd_dict I e hk
  refine wpAny_setItem_heap (hsz := by rw [← Paired.length r]; exact h2) (nd_room hu) (nd_is I kk kd) dd fun h' dd' hs => ?_
  exact ⟨_, nd_write I e hl (NK.tx kk) rv r dd' hs, q⟩
/-- d.setdefault(y, v) -/
def rNSetd (K : PySem.W.Frag) : V → List V → Hp → VK → Prop := fun x ys H Q => ∃ a xs k p v, x = .ref a ∧ ys = [.ref p, v] ∧ H a = some (ND a xs) ∧ NKeys K H xs ∧ NK K H k (.ref p) ∧ k.depth ≤ 8 ∧ xs.length < sizeLine ∧
  (∀ z, ndLook k xs = some z → Q z H) ∧ (ndLook k xs = none → Q v (upd H a (ND a (ndPut k p v xs))))
theorem mt_nSetd (hu : X.A.units + 64 < cLine) : MtM X "dict.setdefault" (rNSetd X.K) := by
  intro pins s σ H x ys vv us Q I rx rs h
  obtain ⟨a, xs, k, p, v, rfl, rfl, e, hk, kk, kd, hl, q1, q2⟩ := h
  cases (show vv = Value.ref a from rx)
  cases rs with
  | cons r1 rs =>
    cases rs with
    | cons r2 rs =>
      cases rs
      cases r1
      obtain ⟨h1, h2, ys, r, dd⟩ := nd_dict I e hk
      have look := nd_look (k := k) r
      refine call_setdefault_heap (hsz := by rw [← Paired.length r]; exact h2) (nd_room hu) (nd_is I kk kd) h1 dd (fun pp hp => ?_) fun hn h' dd' hs => ?_
      · rw [hp] at look
        cases hz : ndLook k xs with
        | none => rw [hz] at look; exact look.elim
        | some z => rw [hz] at look; exact ⟨z, H, I.tok _, look, q1 z hz⟩
      · rw [hn] at look
        cases hz : ndLook k xs with
        | some z => rw [hz] at look; exact look.elim
        | none => exact ⟨v, _, nd_write I e hl (NK.tx kk) r2 r dd' hs, r2, q2 hz⟩
/-- len(d) -/
def rNLen (K : PySem.W.Frag) : List V → Hp → VK → Prop := fun vs H Q => ∃ a xs, vs = [.ref a] ∧ H a = some (ND a xs) ∧ NKeys K H xs ∧ Q (.int xs.length) H
theorem call_nLen : CallR X (.builtin "len") (rNLen X.K) := by
  intro pins s σ H vs us Q I rs h
  obtain ⟨a, xs, rfl, e, hk, q⟩ := h
  cases rs with
  | cons r rs =>
    cases rs
    cases r
    obtain ⟨h1, h2, ys, r, dd⟩ := nd_dict I e hk
    have hl := Paired.length r
    refine PyProof.Rows.call_len_slot (n := xs.length) dd.typeIs PySem.F.slot_dict_len (fun Q' hq => len_keyed h1 ⟨ys, dd, rfl⟩ (by rw [pairsH_length, ← hl]; exact hq)) (by omega) (by rw [sizeLine_eq] at h2; omega) ?_
    exact ⟨.int xs.length, H, I.tok _, ⟨_, rfl⟩, q⟩
/-- {} -/
def tDNewN : TE := fun _ H Q => ∀ p, H p = none → Q (.ref p) (upd H p (ND p []))
theorem nd_empty (h : Heap) (hb : sysModules < h.objs.size) : NDp h.objs.size [] (h.push { cls := .type "dict", data := .dict #[] }) :=
  ⟨beq_eq_false_iff_ne.mpr (Ne.symm (Nat.ne_of_lt hb)), Nat.zero_le _, (fun _ h => nomatch h), [], .nil, _, #[], 0, Heap.get?_push_size _ rfl, ⟨rfl, rfl, rfl⟩, rfl, (fun _ => rfl), List.nodup_nil⟩
theorem pe_dnewN {pos : Pos} : PE X (.Dict [] [] pos) tDNewN := ⟨fun pins s σ H Q I h =>
  wpAny_Dict_empty ⟨.ref s.heap.objs.size, _, I.laid (a := s.heap.objs.size) (o := ND s.heap.objs.size []) (t' := s.toks) (fun _ _ q => Heap.get?_push_of_some _ q) (Nat.le_refl _) (nd_ok (nd_empty s.heap I.big)), rfl, h _ (I.hok.fresh (Nat.le_refl _))⟩⟩
end
end Cz

set_option Elab.async false
set_option linter.all false
set_option maxRecDepth 100000
set_option maxHeartbeats 2000000
/-! Certified pieces: data, what stands for it, slots with owned lists. -/
namespace Cz
open PySem L2 Evl

/-- plain data of the program -/
inductive Dat where
  | non | bl (b : Bool) | int (i : Int) | str (x : Str)
  | tup (ds : List Dat) | lst (ds : List Dat)
  | ins (c : Nat) (fs : List (Str × Dat))
  | dic (kvs : List (Key × Dat))
  | dicN (kvs : List (Dat × Dat))
  | cls (n : String) | own (c : Nat)

mutual
/-- data as a key of a dict: tuples of ints and None -/
def Dat.key : Dat → Option NestedKey
  | .non => some .none
  | .int i => some (.num i)
  | .tup ds => (keyL ds).map .tup
  | _ => none
def keyL : List Dat → Option (List NestedKey)
  | [] => some []
  | d :: r => match d.key, keyL r with
    | some p, some q => some (p :: q)
    | _, _ => none
end
mutual
inductive Rep (K : PySem.W.Frag) (T : Nat → Addr) (G : Hp) : V → Dat → Prop
  | non : Rep K T G .non .non
  | bl (b : Bool) : Rep K T G (.bl b) (.bl b)
  | int (i : Int) : Rep K T G (.int i) (.int i)
  | str (x : Str) : Rep K T G (.str x) (.str x)
  | tup {a : Addr} {vs : List V} {ds : List Dat} : SqT K G a vs → RepL K T G vs ds → Rep K T G (.ref a) (.tup ds)
  | lst {a : Addr} {vs : List V} {ds : List Dat} : SqL K G a vs → RepL K T G vs ds → Rep K T G (.ref a) (.lst ds)
  | ins {a : Addr} {c : Nat} {dx : Addr} {fvs : List (Str × V)} {fs : List (Str × Dat)} : G a = some (.ins (T c) dx fvs) → RepF K T G fvs fs → Rep K T G (.ref a) (.ins c fs)
  | dic {a : Addr} {kvs : List (Key × V)} {ds : List (Key × Dat)} : G a = some (.dK kvs) → RepK K T G kvs ds → Rep K T G (.ref a) (.dic ds)
  | dicN {a : Addr} {xs : List NEnt} {ds : List (Dat × Dat)} : G a = some (ND a xs) → RepN K T G xs ds → Rep K T G (.ref a) (.dicN ds)
  | cls (n : String) : Rep K T G (.ty n) (.cls n)
  | own (c : Nat) : Rep K T G (.ref (T c)) (.own c)
inductive RepL (K : PySem.W.Frag) (T : Nat → Addr) (G : Hp) : List V → List Dat → Prop
  | nil : RepL K T G [] []
  | cons {v : V} {vs : List V} {d : Dat} {ds : List Dat} : Rep K T G v d → RepL K T G vs ds → RepL K T G (v :: vs) (d :: ds)
inductive RepF (K : PySem.W.Frag) (T : Nat → Addr) (G : Hp) : List (Str × V) → List (Str × Dat) → Prop
  | nil : RepF K T G [] []
  | cons {f : Str} {v : V} {vs : List (Str × V)} {d : Dat} {ds : List (Str × Dat)} : Rep K T G v d → RepF K T G vs ds → RepF K T G ((f, v) :: vs) ((f, d) :: ds)
inductive RepK (K : PySem.W.Frag) (T : Nat → Addr) (G : Hp) : List (Key × V) → List (Key × Dat) → Prop
  | nil : RepK K T G [] []
  | cons {f : Key} {v : V} {vs : List (Key × V)} {d : Dat} {ds : List (Key × Dat)} : Rep K T G v d → RepK K T G vs ds → RepK K T G ((f, v) :: vs) ((f, d) :: ds)
inductive RepN (K : PySem.W.Frag) (T : Nat → Addr) (G : Hp) : List NEnt → List (Dat × Dat) → Prop
  | nil : RepN K T G [] []
  | cons {k : NestedKey} {p : Addr} {v : V} {vs : List NEnt} {kd d : Dat} {ds : List (Dat × Dat)} : Rep K T G (.ref p) kd → kd.key = some k → k.depth ≤ 8 → Rep K T G v d → RepN K T G vs ds → RepN K T G ((k, p, v) :: vs) ((kd, d) :: ds)
end

section
variable {K : PySem.W.Frag} {T : Nat → Addr} {G G' H H' : Hp}
mutual
theorem Rep.mono (e : Ex G G') : ∀ {v : V} {d : Dat}, Rep K T G v d → Rep K T G' v d
  | _, _, .non => .non
  | _, _, .bl b => .bl b
  | _, _, .int i => .int i
  | _, _, .str x => .str x
  | _, _, .tup h r => .tup (ex_t e h) (RepL.mono e r)
  | _, _, .lst h r => .lst (ex_l e h) (RepL.mono e r)
  | _, _, .ins h r => .ins (e _ _ h) (RepF.mono e r)
  | _, _, .dic h r => .dic (e _ _ h) (RepK.mono e r)
  | _, _, .dicN h r => .dicN (e _ _ h) (RepN.mono e r)
  | _, _, .cls n => .cls n
  | _, _, .own c => .own c
theorem RepL.mono (e : Ex G G') : ∀ {v : List V} {d : List Dat}, RepL K T G v d → RepL K T G' v d
  | _, _, .nil => .nil
  | _, _, .cons h r => .cons (Rep.mono e h) (RepL.mono e r)
theorem RepF.mono (e : Ex G G') : ∀ {v : List (Str × V)} {d : List (Str × Dat)}, RepF K T G v d → RepF K T G' v d
  | _, _, .nil => .nil
  | _, _, .cons h r => .cons (Rep.mono e h) (RepF.mono e r)
theorem RepK.mono (e : Ex G G') : ∀ {v : List (Key × V)} {d : List (Key × Dat)}, RepK K T G v d → RepK K T G' v d
  | _, _, .nil => .nil
  | _, _, .cons h r => .cons (Rep.mono e h) (RepK.mono e r)
theorem RepN.mono (e : Ex G G') : ∀ {v : List NEnt} {d : List (Dat × Dat)}, RepN K T G v d → RepN K T G' v d
  | _, _, .nil => .nil
  | _, _, .cons h k kd q r => .cons (Rep.mono e h) k kd (Rep.mono e q) (RepN.mono e r)
end
mutual
theorem Rep.nk : ∀ {v : V} {d : Dat} {k : NestedKey}, Rep K T G v d → d.key = some k → NK K G k v
  | _, _, _, .non, h => by simp [Dat.key] at h; subst h; exact .none
  | _, _, _, .int i, h => by simp [Dat.key] at h; subst h; exact .num i
  | _, _, _, .tup s r, h => by
    simp only [Dat.key, Option.map_eq_some_iff] at h
    obtain ⟨q, h1, rfl⟩ := h
    exact .tup s (RepL.nk r h1)
  | _, _, _, .bl b, h => by simp [Dat.key] at h
  | _, _, _, .str b, h => by simp [Dat.key] at h
  | _, _, _, .lst _ _, h => by simp [Dat.key] at h
  | _, _, _, .ins _ _, h => by simp [Dat.key] at h
  | _, _, _, .dic _ _, h => by simp [Dat.key] at h
  | _, _, _, .dicN _ _, h => by simp [Dat.key] at h
  | _, _, _, .cls _, h => by simp [Dat.key] at h
  | _, _, _, .own _, h => by simp [Dat.key] at h
theorem RepL.nk : ∀ {v : List V} {d : List Dat} {k : List NestedKey}, RepL K T G v d → keyL d = some k → NKs K G k v
  | _, _, _, .nil, h => by simp [keyL] at h; subst h; exact .nil
  | _, _, _, .cons (d := d) (ds := ds) a r, h => by
    unfold keyL at h
    cases h1 : d.key with
    | none => simp [h1] at h
    | some p =>
      cases h2 : keyL ds with
      | none => simp [h1, h2] at h
      | some q =>
        simp [h1, h2] at h
        subst h
        exact .cons (Rep.nk a h1) (RepL.nk r h2)
end
theorem RepL.length : ∀ {v : List V} {d : List Dat}, RepL K T G v d → v.length = d.length
  | _, _, .nil => rfl
  | _, _, .cons _ r => by rw [List.length_cons, List.length_cons, RepL.length r]
theorem RepL.get : ∀ {v : List V} {d : List Dat} {i : Nat} {x : V}, RepL K T G v d → v[i]? = some x → ∃ y, d[i]? = some y ∧ Rep K T G x y
  | _, _, i, _, .nil, e => by simp at e
  | _, _, 0, x, .cons h _, e => by simp at e; subst e; exact ⟨_, rfl, h⟩
  | _, _, i + 1, x, .cons _ r, e => by
    obtain ⟨y, h1, h2⟩ := RepL.get (i := i) (x := x) r (by simpa using e)
    exact ⟨y, by simpa using h1, h2⟩
theorem RepL.get' : ∀ {v : List V} {d : List Dat} {i : Nat} {y : Dat}, RepL K T G v d → d[i]? = some y → ∃ x, v[i]? = some x ∧ Rep K T G x y
  | _, _, i, _, .nil, e => by simp at e
  | _, _, 0, x, .cons h _, e => by simp at e; subst e; exact ⟨_, rfl, h⟩
  | _, _, i + 1, x, .cons _ r, e => by
    obtain ⟨y, h1, h2⟩ := RepL.get' (i := i) (y := x) r (by simpa using e)
    exact ⟨y, by simpa using h1, h2⟩
theorem RepL.append : ∀ {v w : List V} {d e : List Dat}, RepL K T G v d → RepL K T G w e → RepL K T G (v ++ w) (d ++ e)
  | _, _, _, _, .nil, s => s
  | _, _, _, _, .cons h r, s => .cons h (RepL.append r s)
theorem RepL.take : ∀ {v : List V} {d : List Dat} (n : Nat), RepL K T G v d → RepL K T G (v.take n) (d.take n)
  | _, _, 0, _ => .nil
  | _, _, _ + 1, .nil => .nil
  | _, _, n + 1, .cons h r => .cons h (RepL.take n r)
theorem RepL.drop : ∀ {v : List V} {d : List Dat} (n : Nat), RepL K T G v d → RepL K T G (v.drop n) (d.drop n)
  | _, _, 0, r => r
  | _, _, _ + 1, .nil => .nil
  | _, _, n + 1, .cons _ r => RepL.drop n r
theorem RepL.set {x : V} {y : Dat} (h : Rep K T G x y) : ∀ {v : List V} {d : List Dat} (n : Nat), RepL K T G v d → RepL K T G (v.set n x) (d.set n y)
  | _, _, _, .nil => .nil
  | _, _, 0, .cons _ r => .cons h r
  | _, _, n + 1, .cons q r => .cons q (RepL.set h n r)
theorem RepL.one {v : V} {d : Dat} (h : Rep K T G v d) : RepL K T G [v] [d] := .cons h .nil
theorem RepL.dropLast : ∀ {v : List V} {d : List Dat}, RepL K T G v d → RepL K T G v.dropLast d.dropLast := fun {v d} r => by
  rw [List.dropLast_eq_take, List.dropLast_eq_take, r.length]
  exact r.take _
theorem RepL.ints : ∀ (ns : List Int), RepL K T G (ns.map V.int) (ns.map Dat.int)
  | [] => .nil
  | n :: r => .cons (.int n) (RepL.ints r)

/-- G: what is frozen, H: the heap; what an expression does to them -/
structure Grow (G H G' H' : Hp) : Prop where
  g : Ex G G'
  gh : Ex G' H'
  h : Ex H H'
  nw : ∀ a o, G' a = some o → G a = some o ∨ H a = none
theorem Grow.refl (e : Ex G H) : Grow G H G H := ⟨Ex.refl G, e, Ex.refl H, fun _ _ h => .inl h⟩
theorem Grow.trans {G1 H1 G2 H2 : Hp} (a : Grow G H G1 H1) (b : Grow G1 H1 G2 H2) : Grow G H G2 H2 :=
  ⟨a.g.trans b.g, b.gh, a.h.trans b.h, fun x o h => by
    rcases b.nw x o h with h | h
    · exact a.nw x o h
    · exact .inr (fresh_back a.h h)⟩
theorem upd_ex {G H : Hp} {p : Addr} {o : HO} (e : Ex G H) : Ex (upd G p o) (upd H p o) := fun a u h => by
  by_cases q : a = p
  · subst q; rw [upd_same] at h ⊢; exact h
  · rw [upd_ne q] at h ⊢; exact e _ _ h
theorem Grow.new {p : Addr} {o : HO} (e : Ex G H) (n : H p = none) : Grow G H (upd G p o) (upd H p o) :=
  ⟨Ex.new (fresh_back e n), upd_ex e, Ex.new n, fun a u h => by
    by_cases q : a = p
    · subst q; exact .inr n
    · rw [upd_ne q] at h; exact .inl h⟩
/-- a new object that is not frozen -/
theorem Grow.newH {p : Addr} {o : HO} (e : Ex G H) (n : H p = none) : Grow G H G (upd H p o) :=
  ⟨Ex.refl G, e.trans (Ex.new n), Ex.new n, fun a u h => .inl h⟩
theorem Grow.free {G1 H1 : Hp} (w : Grow G H G1 H1) {a : Addr} (g : G a = none) (h : H a ≠ none) : G1 a = none := by
  cases e : G1 a with
  | none => rfl
  | some o =>
    rcases w.nw a o e with q | q
    · rw [g] at q; cases q
    · exact absurd q h

/-- an exception in flight -/
def RepX (K : PySem.W.Frag) (T : Nat → Addr) (G : Hp) (cls : Value) (d : Option Addr) (c : Nat) (fs : List (Str × Dat)) : Prop :=
  cls = .ref (T c) ∧ ((fs = [] ∧ d = none) ∨ ∃ dx fvs, d = some dx ∧ G dx = some (.xd fvs) ∧ RepF K T G fvs fs)
theorem RepX.mono {cls : Value} {d : Option Addr} {c : Nat} {fs : List (Str × Dat)} (e : Ex G G') (r : RepX K T G cls d c fs) : RepX K T G' cls d c fs :=
  ⟨r.1, r.2.elim .inl fun ⟨dx, fvs, h1, h2, h3⟩ => .inr ⟨dx, fvs, h1, e _ _ h2, h3.mono e⟩⟩
/-! ### slots -/
inductive Slot where
  | un
  | d (x : Dat)
  | ol (xs : List Dat)
  | oll (xss : List (List Dat))
  | od (kvs : List (Key × Dat))
  | on (kvs : List (Dat × Dat))
  | oi (a dx : Addr) (c : Nat) (fs : List (Str × Dat))
  | ex (a : Addr) (d : Option Addr) (c : Nat) (fs : List (Str × Dat))

/-- the rows of a list of lists, each owned -/
inductive RepR (K : PySem.W.Frag) (T : Nat → Addr) (G H : Hp) : List V → List (List Dat) → List Addr → Prop
  | nil : RepR K T G H [] [] []
  | cons {a : Addr} {vs ws : List V} {xs : List Dat} {xss : List (List Dat)} {fp : List Addr} : H a = some (.lst ws) → RepL K T G ws xs → RepR K T G H vs xss fp → RepR K T G H (.ref a :: vs) (xs :: xss) (a :: fp)

inductive SR (K : PySem.W.Frag) (T : Nat → Addr) (G H : Hp) : Option V → Slot → List Addr → Prop
  | un (o : Option V) : SR K T G H o .un []
  | d {v : V} {x : Dat} : Rep K T G v x → SR K T G H (some v) (.d x) []
  | ol {a : Addr} {vs : List V} {xs : List Dat} : H a = some (.lst vs) → RepL K T G vs xs → SR K T G H (some (.ref a)) (.ol xs) [a]
  | oll {a : Addr} {vs : List V} {xss : List (List Dat)} {fp : List Addr} : H a = some (.lst vs) → RepR K T G H vs xss fp → SR K T G H (some (.ref a)) (.oll xss) (a :: fp)
  | od {a : Addr} {kvs : List (Key × V)} {ds : List (Key × Dat)} : H a = some (.dK kvs) → RepK K T G kvs ds → SR K T G H (some (.ref a)) (.od ds) [a]
  | on {a : Addr} {xs : List NEnt} {ds : List (Dat × Dat)} : H a = some (ND a xs) → RepN K T G xs ds → SR K T G H (some (.ref a)) (.on ds) [a]
  | oi {a dx : Addr} {c : Nat} {fvs : List (Str × V)} {fs : List (Str × Dat)} : H a = some (.ins (T c) dx fvs) → RepF K T G fvs fs → SR K T G H (some (.ref a)) (.oi a dx c fs) [a]
  | ex {a : Addr} {d : Option Addr} {c : Nat} {fs : List (Str × Dat)} : RepX K T G (.ref (T c)) d c fs → SR K T G H (some (.ref a)) (.ex a d c fs) []

theorem RepR.mono (g : Ex G G') : ∀ {vs : List V} {xss : List (List Dat)} {fp : List Addr}, (∀ a ∈ fp, H' a = H a) → RepR K T G H vs xss fp → RepR K T G' H' vs xss fp
  | _, _, _, _, .nil => .nil
  | _, _, _, k, .cons h r s => .cons ((k _ (List.mem_cons_self ..)).trans h) (r.mono g) (RepR.mono g (fun a m => k a (List.mem_cons_of_mem _ m)) s)
theorem SR.mono (g : Ex G G') : ∀ {o : Option V} {s : Slot} {fp : List Addr}, (∀ a ∈ fp, H' a = H a) → SR K T G H o s fp → SR K T G' H' o s fp
  | _, _, _, _, .un o => .un o
  | _, _, _, _, .d r => .d (r.mono g)
  | _, _, _, k, .ol h r => .ol ((k _ (List.mem_cons_self ..)).trans h) (r.mono g)
  | _, _, _, k, .oll h r => .oll ((k _ (List.mem_cons_self ..)).trans h) (r.mono g fun a m => k a (List.mem_cons_of_mem _ m))
  | _, _, _, k, .od h r => .od ((k _ (List.mem_cons_self ..)).trans h) (r.mono g)
  | _, _, _, k, .on h r => .on ((k _ (List.mem_cons_self ..)).trans h) (r.mono g)
  | _, _, _, k, .oi h r => .oi ((k _ (List.mem_cons_self ..)).trans h) (r.mono g)
  | _, _, _, _, .ex r => .ex (r.mono g)

abbrev Gam := List Slot

/-- the state of a body: G0, H0 at its entry; fx: further objects of its own -/
structure SG (K : PySem.W.Frag) (T : Nat → Addr) (fx : List Addr) (G0 H0 G H : Hp) (σ : L2.St) (Γ : Gam) : Prop where
  len : σ.length = Γ.length
  gh : Ex G H
  g : Ex G0 G
  h : Ex H0 H
  nw : ∀ a o, G a = some o → G0 a = some o ∨ H0 a = none
  own : ∃ fp : Nat → List Addr, (∀ (i : Nat) (o : Option V) (s : Slot), σ[i]? = some o → Γ[i]? = some s → SR K T G H o s (fp i)) ∧
    (∀ i a, a ∈ fp i → G a = none ∧ H a ≠ none ∧ H0 a = none ∧ a ∉ fx) ∧ (∀ i, (fp i).Nodup) ∧ (∀ i j a, i ≠ j → a ∈ fp i → a ∉ fp j)
  fxs : ∀ a ∈ fx, G a = none ∧ H a ≠ none ∧ H0 a = none

variable {fx : List Addr} {G0 H0 : Hp} {σ : L2.St} {Γ : Gam}
theorem SG.grow (s : SG K T fx G0 H0 G H σ Γ) (w : Grow G H G' H') : SG K T fx G0 H0 G' H' σ Γ := by
  obtain ⟨fp, f1, f2, f3, f4⟩ := s.own
  have keep : ∀ a, H a ≠ none → H' a = H a := fun a h => by
    cases e : H a with
    | none => exact absurd e h
    | some o => exact w.h a o e
  exact ⟨s.len, w.gh, s.g.trans w.g, s.h.trans w.h, fun a o h => by
      rcases w.nw a o h with q | q
      · exact s.nw a o q
      · exact .inr (fresh_back s.h q),
    ⟨fp, fun i o t h1 h2 => (f1 i o t h1 h2).mono w.g fun a m => keep a (f2 i a m).2.1,
      fun i a m => ⟨w.free (f2 i a m).1 (f2 i a m).2.1, by rw [keep a (f2 i a m).2.1]; exact (f2 i a m).2.1, (f2 i a m).2.2⟩, f3, f4⟩,
    fun a m => ⟨w.free (s.fxs a m).1 (s.fxs a m).2.1, by rw [keep a (s.fxs a m).2.1]; exact (s.fxs a m).2.1, (s.fxs a m).2.2⟩⟩
theorem SG.start (e : Ex G H) {vs : List V} {ds : List Dat} (r : RepL K T G vs ds) (n : Nat) :
    SG K T [] G H G H (vs.map some ++ List.replicate n none) (ds.map Slot.d ++ List.replicate n Slot.un) := by
  refine ⟨by simp [r.length], e, Ex.refl _, Ex.refl _, fun _ _ h => .inl h, ⟨fun _ => [], fun i o s h1 h2 => ?_, fun _ _ m => by simp at m, fun _ => by simp, fun _ _ _ _ m => by simp at m⟩, fun _ m => by simp at m⟩
  by_cases hi : i < vs.length
  · rw [List.getElem?_append_left (by simpa using hi)] at h1
    rw [List.getElem?_append_left (by simpa [r.length] using hi)] at h2
    rw [List.getElem?_map] at h1 h2
    rw [List.getElem?_eq_getElem hi] at h1
    obtain ⟨y, e1, e2⟩ := r.get (List.getElem?_eq_getElem hi)
    rw [e1] at h2
    simp at h1 h2
    subst h1 h2
    exact .d e2
  · rw [List.getElem?_append_right (by simpa using hi)] at h1
    rw [List.getElem?_append_right (by simpa [r.length] using hi)] at h2
    rw [List.getElem?_replicate] at h1 h2
    split at h1 <;> simp at h1
    split at h2 <;> simp at h2
    subst h1 h2
    exact .un _
/-- a slot that holds data -/
theorem SG.get (s : SG K T fx G0 H0 G H σ Γ) {i : Nat} {x : Dat} (h : Γ[i]? = some (.d x)) : ∃ v, σ[i]? = some (some v) ∧ Rep K T G v x := by
  obtain ⟨fp, f1, _⟩ := s.own
  obtain ⟨hi, _⟩ := List.getElem?_eq_some_iff.mp h
  have hs : i < σ.length := by rw [s.len]; exact hi
  have q := f1 i _ _ (List.getElem?_eq_getElem hs) h
  rw [List.getElem?_eq_getElem hs]
  generalize σ[i] = o at q
  generalize fp i = p at q
  cases q with
  | d r => exact ⟨_, rfl, r⟩
theorem SG.getL (s : SG K T fx G0 H0 G H σ Γ) {i : Nat} {xs : List Dat} (h : Γ[i]? = some (.ol xs)) : ∃ a vs, σ[i]? = some (some (.ref a)) ∧ H a = some (.lst vs) ∧ RepL K T G vs xs ∧ G a = none ∧ H0 a = none := by
  obtain ⟨fp, f1, f2, _⟩ := s.own
  obtain ⟨hi, _⟩ := List.getElem?_eq_some_iff.mp h
  have hs : i < σ.length := by rw [s.len]; exact hi
  have q := f1 i _ _ (List.getElem?_eq_getElem hs) h
  have f2 := f2 i
  rw [List.getElem?_eq_getElem hs]
  generalize σ[i] = o at q
  generalize fp i = p at q f2
  cases q with
  | @ol a vs _ h r =>
    have z := f2 a (by simp)
    exact ⟨a, vs, rfl, h, r, z.1, z.2.2.1⟩
theorem SG.getD (s : SG K T fx G0 H0 G H σ Γ) {i : Nat} {xs : List (Key × Dat)} (h : Γ[i]? = some (.od xs)) : ∃ a vs, σ[i]? = some (some (.ref a)) ∧ H a = some (.dK vs) ∧ RepK K T G vs xs ∧ G a = none ∧ H0 a = none := by
  obtain ⟨fp, f1, f2, _⟩ := s.own
  obtain ⟨hi, _⟩ := List.getElem?_eq_some_iff.mp h
  have hs : i < σ.length := by rw [s.len]; exact hi
  have q := f1 i _ _ (List.getElem?_eq_getElem hs) h
  have f2 := f2 i
  rw [List.getElem?_eq_getElem hs]
  generalize σ[i] = o at q
  generalize fp i = p at q f2
  cases q with
  | @od a vs _ h r =>
    have z := f2 a (by simp)
    exact ⟨a, vs, rfl, h, r, z.1, z.2.2.1⟩
theorem SG.getI (s : SG K T fx G0 H0 G H σ Γ) {i c : Nat} {a dx : Addr} {xs : List (Str × Dat)} (h : Γ[i]? = some (.oi a dx c xs)) : ∃ vs, σ[i]? = some (some (.ref a)) ∧ H a = some (.ins (T c) dx vs) ∧ RepF K T G vs xs ∧ G a = none ∧ H0 a = none := by
  obtain ⟨fp, f1, f2, _⟩ := s.own
  obtain ⟨hi, _⟩ := List.getElem?_eq_some_iff.mp h
  have hs : i < σ.length := by rw [s.len]; exact hi
  have q := f1 i _ _ (List.getElem?_eq_getElem hs) h
  have f2 := f2 i
  rw [List.getElem?_eq_getElem hs]
  generalize σ[i] = o at q
  generalize fp i = p at q f2
  cases q with
  | oi h r =>
    have z := f2 a (by simp)
    exact ⟨_, rfl, h, r, z.1, z.2.2.1⟩
/-- a slot is set, its own objects given up, to something with the objects q -/
theorem SG.put (s : SG K T fx G0 H0 G H σ Γ) {i : Nat} {o : Option V} {t : Slot} {q : List Addr} (w : Grow G H G' H')
    (r : SR K T G' H' o t q) (hq : ∀ a ∈ q, H a = none ∧ G' a = none ∧ H' a ≠ none) (nd : q.Nodup) : SG K T fx G0 H0 G' H' (σ.set i o) (Γ.set i t) := by
  have s' := s.grow w
  obtain ⟨fp, f1, f2, f3, f4⟩ := s.own
  have keep : ∀ a, H a ≠ none → H' a = H a := fun a h => by
    cases e : H a with
    | none => exact absurd e h
    | some o => exact w.h a o e
  have g1 : ∀ (i : Nat) (o : Option V) (s : Slot), σ[i]? = some o → Γ[i]? = some s → SR K T G' H' o s (fp i) := fun i o t h1 h2 => (f1 i o t h1 h2).mono w.g fun a m => keep a (f2 i a m).2.1
  have g2 : ∀ i a, a ∈ fp i → G' a = none ∧ H' a ≠ none ∧ H0 a = none ∧ a ∉ fx := fun i a m => ⟨w.free (f2 i a m).1 (f2 i a m).2.1, by rw [keep a (f2 i a m).2.1]; exact (f2 i a m).2.1, (f2 i a m).2.2⟩
  refine ⟨by simp [s.len], s'.gh, s'.g, s'.h, s'.nw, ⟨fun j => if j = i then q else fp j, fun j o' t' h1 h2 => ?_, fun j a m => ?_, fun j => ?_, fun j k a n m1 m2 => ?_⟩, s'.fxs⟩
  · by_cases hj : j = i
    · subst hj
      have hl : j < (σ.set j o).length := (List.getElem?_eq_some_iff.mp h1).1
      rw [List.length_set] at hl
      rw [List.getElem?_set_self hl] at h1
      rw [List.getElem?_set_self (by rw [← s.len]; exact hl)] at h2
      simp at h1 h2
      subst h1 h2
      simpa using r
    · rw [List.getElem?_set_ne (Ne.symm hj)] at h1 h2
      simpa [hj] using g1 j o' t' h1 h2
  · by_cases hj : j = i
    · simp [hj] at m
      obtain ⟨z1, z2, z3⟩ := hq a m
      exact ⟨z2, z3, fresh_back s.h z1, fun h => (s.fxs a h).2.1 z1⟩
    · simp [hj] at m
      exact g2 j a m
  · by_cases hj : j = i
    · simpa [hj] using nd
    · simpa [hj] using f3 j
  · by_cases hj : j = i
    · subst hj
      simp at m1
      simp [Ne.symm n] at m2
      exact (f2 k a m2).2.1 (hq a m1).1
    · by_cases hk : k = i
      · subst hk
        simp at m2
        simp [hj] at m1
        exact (f2 j a m1).2.1 (hq a m2).1
      · simp [hj] at m1
        simp [hk] at m2
        exact f4 j k a n m1 m2
theorem SG.setD (s : SG K T fx G0 H0 G H σ Γ) {i : Nat} {v : V} {x : Dat} (r : Rep K T G v x) : SG K T fx G0 H0 G H (σ.set i (some v)) (Γ.set i (.d x)) :=
  s.put (Grow.refl s.gh) (.d r) (fun _ m => by simp at m) (by simp)
theorem SG.setU (s : SG K T fx G0 H0 G H σ Γ) {i : Nat} (o : Option V) : SG K T fx G0 H0 G H (σ.set i o) (Γ.set i .un) :=
  s.put (Grow.refl s.gh) (.un o) (fun _ m => by simp at m) (by simp)
/-- a new list, owned -/
theorem SG.setL (s : SG K T fx G0 H0 G H σ Γ) {i : Nat} {p : Addr} {vs : List V} {xs : List Dat} (r : RepL K T G vs xs) (n : H p = none) :
    SG K T fx G0 H0 G (upd H p (.lst vs)) (σ.set i (some (.ref p))) (Γ.set i (.ol xs)) :=
  s.put (Grow.newH s.gh n) (.ol upd_same r) (fun a m => by
    simp at m; subst m
    exact ⟨n, fresh_back s.gh n, by rw [upd_same]; simp⟩) (by simp)
/-- a new dict, owned -/
theorem SG.setK (s : SG K T fx G0 H0 G H σ Γ) {i : Nat} {p : Addr} {vs : List (Key × V)} {xs : List (Key × Dat)} (r : RepK K T G vs xs) (n : H p = none) :
    SG K T fx G0 H0 G (upd H p (.dK vs)) (σ.set i (some (.ref p))) (Γ.set i (.od xs)) :=
  s.put (Grow.newH s.gh n) (.od upd_same r) (fun a m => by
    simp at m; subst m
    exact ⟨n, fresh_back s.gh n, by rw [upd_same]; simp⟩) (by simp)
/-- an owned object is changed -/
theorem SG.mut (s : SG K T fx G0 H0 G H σ Γ) {i : Nat} {a : Addr} {u : HO} {t t' : Slot} (h1 : σ[i]? = some (some (.ref a))) (h2 : Γ[i]? = some t)
    (ho : ∀ fp, SR K T G H (some (.ref a)) t fp → a ∈ fp ∧ SR K T G (upd H a u) (some (.ref a)) t' fp) : SG K T fx G0 H0 G (upd H a u) σ (Γ.set i t') := by
  obtain ⟨fp, f1, f2, f3, f4⟩ := s.own
  obtain ⟨ha, hr⟩ := ho _ (f1 i _ _ h1 h2)
  obtain ⟨z1, z2, z3, z4⟩ := f2 i a ha
  have up : ∀ b, b ≠ a → upd H a u b = H b := fun b h => upd_ne h
  refine ⟨by simp [s.len], Ex.mut s.gh z1, s.g, Ex.mut s.h z3, s.nw, ⟨fp, fun j o t1 e1 e2 => ?_, fun j b m => ?_, f3, f4⟩, fun b m => ?_⟩
  · by_cases hj : j = i
    · subst hj
      rw [h1] at e1
      rw [List.getElem?_set_self (List.getElem?_eq_some_iff.mp h2).1] at e2
      simp at e1 e2
      subst e1 e2
      exact hr
    · rw [List.getElem?_set_ne (Ne.symm hj)] at e2
      exact (f1 j o t1 e1 e2).mono (Ex.refl G) fun b m => up b fun e => by subst e; exact f4 j i b hj m ha
  · obtain ⟨y1, y2, y3, y4⟩ := f2 j b m
    refine ⟨y1, ?_, y3, y4⟩
    by_cases e : b = a
    · subst e; rw [upd_same]; simp
    · rw [up b e]; exact y2
  · obtain ⟨y1, y2, y3⟩ := s.fxs b m
    refine ⟨y1, ?_, y3⟩
    rw [up b fun e => by subst e; exact z4 m]; exact y2
theorem SG.mutL (s : SG K T fx G0 H0 G H σ Γ) {i : Nat} {a : Addr} {vs : List V} {xs ys : List Dat} (h1 : σ[i]? = some (some (.ref a))) (h2 : Γ[i]? = some (.ol xs)) (r : RepL K T G vs ys) :
    SG K T fx G0 H0 G (upd H a (.lst vs)) σ (Γ.set i (.ol ys)) :=
  s.mut h1 h2 fun fp q => by
    cases q with
    | ol h0 r0 => exact ⟨by simp, .ol upd_same r⟩
theorem SG.mutK (s : SG K T fx G0 H0 G H σ Γ) {i : Nat} {a : Addr} {vs : List (Key × V)} {xs ys : List (Key × Dat)} (h1 : σ[i]? = some (some (.ref a))) (h2 : Γ[i]? = some (.od xs)) (r : RepK K T G vs ys) :
    SG K T fx G0 H0 G (upd H a (.dK vs)) σ (Γ.set i (.od ys)) :=
  s.mut h1 h2 fun fp q => by
    cases q with
    | od h0 r0 => exact ⟨by simp, .od upd_same r⟩
/-- an owned object is frozen as it is -/
theorem SG.freeze (s : SG K T fx G0 H0 G H σ Γ) {i : Nat} {a : Addr} {u : HO} {t : Slot} {x : Dat} (h1 : σ[i]? = some (some (.ref a))) (h2 : Γ[i]? = some t) (hu : H a = some u)
    (ho : ∀ fp, SR K T G H (some (.ref a)) t fp → a ∈ fp) (r : Rep K T (upd G a u) (.ref a) x) : SG K T fx G0 H0 (upd G a u) H σ (Γ.set i (.d x)) := by
  obtain ⟨fp, f1, f2, f3, f4⟩ := s.own
  have ha := ho _ (f1 i _ _ h1 h2)
  obtain ⟨z1, z2, z3, z4⟩ := f2 i a ha
  have gg : Ex G (upd G a u) := Ex.new z1
  refine ⟨by simp [s.len], fun b o e => ?_, s.g.trans gg, s.h, fun b o e => ?_, ⟨fun j => if j = i then [] else fp j, fun j o t1 e1 e2 => ?_, fun j b m => ?_, fun j => ?_, fun j k b n m1 m2 => ?_⟩, fun b m => ?_⟩
  · by_cases q : b = a
    · subst q; rw [upd_same] at e; rw [hu]; exact e
    · rw [upd_ne q] at e; exact s.gh b o e
  · by_cases q : b = a
    · subst q; exact .inr z3
    · rw [upd_ne q] at e; exact s.nw b o e
  · by_cases hj : j = i
    · subst hj
      rw [h1] at e1
      rw [List.getElem?_set_self (List.getElem?_eq_some_iff.mp h2).1] at e2
      simp at e1 e2
      subst e1 e2
      simpa using SR.d r
    · rw [List.getElem?_set_ne (Ne.symm hj)] at e2
      simpa [hj] using (f1 j o t1 e1 e2).mono gg fun b m => rfl
  · by_cases hj : j = i
    · simp [hj] at m
    · simp [hj] at m
      obtain ⟨y1, y2⟩ := f2 j b m
      refine ⟨?_, y2⟩
      rw [upd_ne fun e => by subst e; exact f4 j i b hj m ha]; exact y1
  · by_cases hj : j = i
    · simp [hj]
    · simpa [hj] using f3 j
  · by_cases hj : j = i
    · simp [hj] at m1
    · by_cases hk : k = i
      · simp [hk] at m2
      · simp [hj] at m1
        simp [hk] at m2
        exact f4 j k b n m1 m2
  · obtain ⟨y1, y2⟩ := s.fxs b m
    refine ⟨?_, y2⟩
    rw [upd_ne fun e => by subst e; exact z4 m]; exact y1
theorem SG.freezeL (s : SG K T fx G0 H0 G H σ Γ) {i : Nat} {xs : List Dat} (h2 : Γ[i]? = some (.ol xs)) : ∃ G', SG K T fx G0 H0 G' H σ (Γ.set i (.d (.lst xs))) := by
  obtain ⟨a, vs, h1, ha, r, g, _⟩ := s.getL h2
  exact ⟨_, s.freeze h1 h2 ha (fun fp q => by
    cases q with
    | ol h0 r0 => simp) (.lst (sq_of upd_same) (r.mono (Ex.new g)))⟩
theorem SG.freezeK (s : SG K T fx G0 H0 G H σ Γ) {i : Nat} {xs : List (Key × Dat)} (h2 : Γ[i]? = some (.od xs)) : ∃ G', SG K T fx G0 H0 G' H σ (Γ.set i (.d (.dic xs))) := by
  obtain ⟨a, vs, h1, ha, r, g, _⟩ := s.getD h2
  exact ⟨_, s.freeze h1 h2 ha (fun fp q => by
    cases q with
    | od h0 r0 => simp) (.dic upd_same (r.mono (Ex.new g)))⟩
/-- what is behind the end, seen from the entry -/
theorem SG.fin (s : SG K T fx G0 H0 G H σ Γ) : Grow G0 H0 G H := ⟨s.g, s.gh, s.h, s.nw⟩
end
end Cz

set_option Elab.async false
set_option linter.all false
set_option maxRecDepth 100000
set_option maxHeartbeats 2000000
/-! What is owned, frozen for good or for a look. -/
namespace Cz
open PySem L2 Evl

/-- an owned slot's content as data -/
def Slot.dat : Slot → Option Dat
  | .ol xs => some (.lst xs)
  | .oll xss => some (.lst (xss.map .lst))
  | .od kvs => some (.dic kvs)
  | .on kvs => some (.dicN kvs)
  | _ => none
/-! no list, no dict in it -/
mutual
def pureD : Dat → Bool
  | .lst _ => false
  | .dic _ => false
  | .dicN _ => false
  | .tup ds => pureL ds
  | .ins _ fs => pureF fs
  | _ => true
def pureL : List Dat → Bool
  | [] => true
  | d :: r => pureD d && pureL r
def pureF : List (Str × Dat) → Bool
  | [] => true
  | d :: r => pureD d.2 && pureF r
end
def MutO : Option HO → Prop
  | some (.lst _) => True
  | some (.dK _) => True
  | some (.ext _) => True
  | _ => False
def rmL (G : Hp) (fp : List Addr) : Hp := fun b => if b ∈ fp then none else G b
def frzG (G H : Hp) (fp : List Addr) : Hp := fun b => if b ∈ fp then H b else G b

section
variable {K : PySem.W.Frag} {T : Nat → Addr} {G G' H H' : Hp} {fp : List Addr}
theorem rmL_ne {b : Addr} (h : b ∉ fp) : rmL G fp b = G b := if_neg h
theorem rmL_keep {b : Addr} {o : HO} (hm : ∀ a ∈ fp, MutO (G a)) (h : G b = some o) (hn : ¬ MutO (some o)) : rmL G fp b = some o := by
  have : b ∉ fp := fun m => hn (h ▸ hm b m)
  rw [rmL_ne this, h]
theorem sqt_rm {a : Addr} {vs : List V} (hm : ∀ a ∈ fp, MutO (G a)) (h : SqT K G a vs) : SqT K (rmL G fp) a vs := by
  rcases h with (h | ⟨o, h⟩) | h
  · exact .inl (.inl (rmL_keep hm h fun z => z))
  · exact .inl (.inr ⟨o, rmL_keep hm h fun z => z⟩)
  · exact .inr h
mutual
theorem Rep.pure (hm : ∀ a ∈ fp, MutO (G a)) : ∀ {v : V} {d : Dat}, Rep K T G v d → pureD d = true → Rep K T (rmL G fp) v d
  | _, _, .non, _ => .non
  | _, _, .bl b, _ => .bl b
  | _, _, .int i, _ => .int i
  | _, _, .str x, _ => .str x
  | _, _, .tup h r, p => .tup (sqt_rm hm h) (RepL.pure hm r (by simpa [pureD] using p))
  | _, _, .lst h r, p => by simp [pureD] at p
  | _, _, .ins h r, p => .ins (rmL_keep hm h fun z => z) (RepF.pure hm r (by simpa [pureD] using p))
  | _, _, .dic h r, p => by simp [pureD] at p
  | _, _, .dicN h r, p => by simp [pureD] at p
  | _, _, .cls n, _ => .cls n
  | _, _, .own c, _ => .own c
theorem RepL.pure (hm : ∀ a ∈ fp, MutO (G a)) : ∀ {v : List V} {d : List Dat}, RepL K T G v d → pureL d = true → RepL K T (rmL G fp) v d
  | _, _, .nil, _ => .nil
  | _, _, .cons h r, p => by
    simp only [pureL, Bool.and_eq_true] at p
    exact .cons (Rep.pure hm h p.1) (RepL.pure hm r p.2)
theorem RepF.pure (hm : ∀ a ∈ fp, MutO (G a)) : ∀ {v : List (Str × V)} {d : List (Str × Dat)}, RepF K T G v d → pureF d = true → RepF K T (rmL G fp) v d
  | _, _, .nil, _ => .nil
  | _, _, .cons h r, p => by
    simp only [pureF, Bool.and_eq_true] at p
    exact .cons (Rep.pure hm h p.1) (RepF.pure hm r p.2)
end
theorem RepR.rep (hf : ∀ a ∈ fp, G' a = H a) (e : Ex G G') {vs : List V} {xss : List (List Dat)} {fq : List Addr} (s : ∀ a ∈ fq, a ∈ fp) (r : RepR K T G H vs xss fq) : RepL K T G' vs (xss.map .lst) := by
  induction r with
  | nil => exact .nil
  | @cons a vs ws xs xss fq h r q ih => exact .cons (.lst (sq_of (by rw [hf a (s a (by simp)), h])) (r.mono e)) (ih fun b m => s b (by simp [m]))
theorem RepR.mut : ∀ {vs : List V} {xss : List (List Dat)} {fq : List Addr}, RepR K T G H vs xss fq → ∀ a ∈ fq, MutO (H a)
  | _, _, _, .nil, a, m => by cases m
  | _, _, _, .cons h r q, a, m => by
    rcases List.mem_cons.mp m with rfl | m
    · rw [h]; trivial
    · exact RepR.mut q a m
variable {fx : List Addr} {G0 H0 : Hp} {σ : L2.St} {Γ : Gam}
/-- what is owned is frozen: as data -/
theorem SG.freezeA (s : SG K T fx G0 H0 G H σ Γ) {i : Nat} {t : Slot} {x : Dat} (h2 : Γ[i]? = some t) (hx : t.dat = some x) :
    ∃ fp, SG K T fx G0 H0 (frzG G H fp) H σ (Γ.set i (.d x)) ∧ Ex G (frzG G H fp) ∧ (∀ a ∈ fp, G a = none ∧ H0 a = none ∧ MutO (H a)) := by
  obtain ⟨fp, f1, f2, f3, f4⟩ := s.own
  have hi : i < σ.length := by rw [s.len]; exact (List.getElem?_eq_some_iff.mp h2).1
  obtain ⟨ov, ho⟩ : ∃ o, σ[i]? = some o := ⟨_, List.getElem?_eq_getElem hi⟩
  have hr := f1 i ov t ho h2
  have gg : Ex G (frzG G H (fp i)) := fun b o e => by
    unfold frzG
    by_cases hb : b ∈ fp i
    · rw [(f2 i b hb).1] at e; cases e
    · rw [if_neg hb]; exact e
  have gf : ∀ a ∈ fp i, frzG G H (fp i) a = H a := fun a m => if_pos m
  have main : ∃ v, ov = some v ∧ Rep K T (frzG G H (fp i)) v x ∧ ∀ a ∈ fp i, MutO (H a) := by
    generalize fp i = q at hr gg gf
    cases hr with
    | un o => cases hx
    | d r => cases hx
    | ex r => cases hx
    | oi h r => cases hx
    | ol h r =>
      cases hx
      exact ⟨_, rfl, .lst (sq_of (by rw [gf _ (by simp), h])) (r.mono gg), fun a m => by
        rw [List.mem_singleton.mp m, h]; trivial⟩
    | oll h r =>
      cases hx
      exact ⟨_, rfl, .lst (sq_of (by rw [gf _ (by simp), h])) (RepR.rep gf gg (fun a m => by simp [m]) r), fun a m => by
        rcases List.mem_cons.mp m with rfl | m
        · rw [h]; trivial
        · exact RepR.mut r a m⟩
    | od h r =>
      cases hx
      exact ⟨_, rfl, .dic (by rw [gf _ (by simp), h]) (r.mono gg), fun a m => by
        rw [List.mem_singleton.mp m, h]; trivial⟩
    | on h r =>
      cases hx
      exact ⟨_, rfl, .dicN (by rw [gf _ (by simp), h]) (r.mono gg), fun a m => by
        rw [List.mem_singleton.mp m, h]; trivial⟩
  obtain ⟨v, rfl, rv, hm⟩ := main
  refine ⟨fp i, ⟨by simp [s.len], fun b o e => ?_, s.g.trans gg, s.h, fun b o e => ?_, ⟨fun j => if j = i then [] else fp j, fun j o t1 e1 e2 => ?_, fun j b m => ?_, fun j => ?_, fun j k b n m1 m2 => ?_⟩, fun b m => ?_⟩, gg, fun a m => ⟨(f2 i a m).1, (f2 i a m).2.2.1, hm a m⟩⟩
  · unfold frzG at e
    split at e
    · exact e
    · exact s.gh b o e
  · unfold frzG at e
    split at e
    · next hb => exact .inr (f2 i b hb).2.2.1
    · exact s.nw b o e
  · by_cases hj : j = i
    · subst hj
      rw [ho] at e1
      rw [List.getElem?_set_self (List.getElem?_eq_some_iff.mp h2).1] at e2
      simp at e1 e2
      subst e1 e2
      simpa using SR.d rv
    · rw [List.getElem?_set_ne (Ne.symm hj)] at e2
      simpa [hj] using (f1 j o t1 e1 e2).mono gg fun b m => rfl
  · by_cases hj : j = i
    · simp [hj] at m
    · simp [hj] at m
      obtain ⟨y1, y2⟩ := f2 j b m
      refine ⟨?_, y2⟩
      unfold frzG
      rw [if_neg fun q => f4 j i b hj m q]
      exact y1
  · by_cases hj : j = i
    · simp [hj]
    · simpa [hj] using f3 j
  · by_cases hj : j = i
    · simp [hj] at m1
    · by_cases hk : k = i
      · simp [hk] at m2
      · simp [hj] at m1
        simp [hk] at m2
        exact f4 j k b n m1 m2
  · obtain ⟨y1, y2⟩ := s.fxs b m
    refine ⟨?_, y2⟩
    unfold frzG
    rw [if_neg fun q => (f2 i b q).2.2.2 m]
    exact y1
/-- behind a look: what was frozen is free again -/
theorem Grow.thaw (w : Grow (frzG G H fp) H G' H') (hf : ∀ a ∈ fp, G a = none ∧ MutO (H a)) : Grow G H (rmL G' fp) H' ∧ ∀ a ∈ fp, MutO (G' a) := by
  have hm : ∀ a ∈ fp, MutO (G' a) := fun a m => by
    obtain ⟨_, q⟩ := hf a m
    cases h : H a with
    | none => rw [h] at q; exact q.elim
    | some o =>
      have : frzG G H fp a = some o := by unfold frzG; rw [if_pos m, h]
      rw [w.g a o this]
      rw [h] at q
      exact q
  refine ⟨⟨fun b o h => ?_, fun b o h => ?_, w.h, fun b o h => ?_⟩, hm⟩
  · have hb : b ∉ fp := fun m => by rw [(hf b m).1] at h; cases h
    rw [rmL_ne hb]
    exact w.g b o (by unfold frzG; rw [if_neg hb, h])
  · unfold rmL at h
    split at h
    · cases h
    · exact w.gh b o h
  · unfold rmL at h
    split at h
    · cases h
    · next hb =>
      rcases w.nw b o h with q | q
      · unfold frzG at q
        rw [if_neg hb] at q
        exact .inl q
      · exact .inr q
theorem SG.getN (s : SG K T fx G0 H0 G H σ Γ) {i : Nat} {xs : List (Dat × Dat)} (h : Γ[i]? = some (.on xs)) : ∃ a vs, σ[i]? = some (some (.ref a)) ∧ H a = some (ND a vs) ∧ RepN K T G vs xs ∧ G a = none ∧ H0 a = none := by
  obtain ⟨fp, f1, f2, _⟩ := s.own
  obtain ⟨hi, _⟩ := List.getElem?_eq_some_iff.mp h
  have hs : i < σ.length := by rw [s.len]; exact hi
  have q := f1 i _ _ (List.getElem?_eq_getElem hs) h
  rw [List.getElem?_eq_getElem hs]
  generalize σ[i] = o at q
  have z := f2 i
  generalize fp i = p at q z
  cases q with
  | @on a _ _ h r =>
    have z1 := z a (by simp)
    exact ⟨_, _, rfl, h, r, z1.1, z1.2.2.1⟩
theorem SG.getLL (s : SG K T fx G0 H0 G H σ Γ) {i : Nat} {xss : List (List Dat)} (h : Γ[i]? = some (.oll xss)) : ∃ a vs fp, σ[i]? = some (some (.ref a)) ∧ H a = some (.lst vs) ∧ RepR K T G H vs xss fp ∧ (a :: fp).Nodup ∧ (∀ b ∈ a :: fp, G b = none ∧ H b ≠ none ∧ H0 b = none ∧ b ∉ fx) := by
  obtain ⟨fp, f1, f2, f3, _⟩ := s.own
  obtain ⟨hi, _⟩ := List.getElem?_eq_some_iff.mp h
  have hs : i < σ.length := by rw [s.len]; exact hi
  have q := f1 i _ _ (List.getElem?_eq_getElem hs) h
  rw [List.getElem?_eq_getElem hs]
  generalize σ[i] = o at q
  have z := f2 i
  have z3 := f3 i
  generalize fp i = p at q z z3
  cases q with
  | oll h r => exact ⟨_, _, _, rfl, h, r, z3, z⟩
theorem SG.setN (s : SG K T fx G0 H0 G H σ Γ) {i : Nat} {p : Addr} {vs : List NEnt} {xs : List (Dat × Dat)} (r : RepN K T G vs xs) (n : H p = none) :
    SG K T fx G0 H0 G (upd H p (ND p vs)) (σ.set i (some (.ref p))) (Γ.set i (.on xs)) :=
  s.put (Grow.newH s.gh n) (.on upd_same r) (fun a m => by
    simp at m; subst m
    exact ⟨n, fresh_back s.gh n, by rw [upd_same]; simp⟩) (by simp)
theorem SG.mutN (s : SG K T fx G0 H0 G H σ Γ) {i : Nat} {a : Addr} {vs : List NEnt} {xs ys : List (Dat × Dat)} (h1 : σ[i]? = some (some (.ref a))) (h2 : Γ[i]? = some (.on xs)) (r : RepN K T G vs ys) :
    SG K T fx G0 H0 G (upd H a (ND a vs)) σ (Γ.set i (.on ys)) :=
  s.mut h1 h2 fun fp q => by
    cases q with
    | on h0 r0 => exact ⟨by simp, .on upd_same r⟩
/-! ### nested keys as data -/
def lookN (k : Dat) : List (Dat × Dat) → Option Dat
  | [] => none
  | x :: r => if x.1.key = k.key then some x.2 else lookN k r
def putN (k d : Dat) (xs : List (Dat × Dat)) : List (Dat × Dat) :=
  if (lookN k xs).isSome then xs.map fun x => if x.1.key = k.key then (x.1, d) else x else xs ++ [(k, d)]
theorem RepN.length : ∀ {vs : List NEnt} {ds : List (Dat × Dat)}, RepN K T G vs ds → vs.length = ds.length
  | _, _, .nil => rfl
  | _, _, .cons _ _ _ _ r => by rw [List.length_cons, List.length_cons, RepN.length r]
theorem RepN.look {k : Dat} {nk : NestedKey} (hk : k.key = some nk) : ∀ {vs : List NEnt} {ds : List (Dat × Dat)}, RepN K T G vs ds → match lookN k ds with | some d => ∃ v, ndLook nk vs = some v ∧ Rep K T G v d | none => ndLook nk vs = none
  | _, _, .nil => rfl
  | _, _, .cons (k := k') (kd := kd) (v := v) (d := d) h1 h2 h3 h4 r => by
    have ih := RepN.look hk r
    unfold lookN ndLook
    by_cases e : k' = nk
    · rw [if_pos (by rw [h2, hk, e]), if_pos e]
      exact ⟨v, rfl, h4⟩
    · rw [if_neg (by rw [h2, hk]; simpa using e), if_neg e]
      exact ih
theorem RepN.keys (e : Ex G H) : ∀ {vs : List NEnt} {ds : List (Dat × Dat)}, RepN K T G vs ds → NKeys K H vs
  | _, _, .nil, x, m => by cases m
  | _, _, .cons h1 h2 h3 h4 r, x, m => by
    rcases List.mem_cons.mp m with rfl | m
    · exact ⟨(h1.nk h2).mono e, h3⟩
    · exact RepN.keys e r x m
theorem RepN.app {p : Addr} {v : V} {k d : Dat} {nk : NestedKey} (a1 : Rep K T G (.ref p) k) (hk : k.key = some nk) (hd : nk.depth ≤ 8) (a2 : Rep K T G v d) : ∀ {vs : List NEnt} {ds : List (Dat × Dat)}, RepN K T G vs ds → RepN K T G (vs ++ [(nk, p, v)]) (ds ++ [(k, d)])
  | _, _, .nil => .cons a1 hk hd a2 .nil
  | _, _, .cons h1 h2 h3 h4 r => .cons h1 h2 h3 h4 (RepN.app a1 hk hd a2 r)
theorem RepN.over {v : V} {k d : Dat} {nk : NestedKey} (hk : k.key = some nk) (a2 : Rep K T G v d) : ∀ {vs : List NEnt} {ds : List (Dat × Dat)}, RepN K T G vs ds → RepN K T G (vs.map fun x => if x.1 = nk then (x.1, x.2.1, v) else x) (ds.map fun x => if x.1.key = k.key then (x.1, d) else x)
  | _, _, .nil => .nil
  | _, _, .cons (k := k') h1 h2 h3 h4 r => by
    have ih := RepN.over hk a2 r
    simp only [List.map_cons]
    by_cases e : k' = nk
    · rw [if_pos e, if_pos (by rw [h2, hk, e])]
      exact .cons h1 h2 h3 a2 ih
    · rw [if_neg e, if_neg (by rw [h2, hk]; simpa using e)]
      exact .cons h1 h2 h3 h4 ih
theorem RepN.put {p : Addr} {v : V} {k d : Dat} {nk : NestedKey} (a1 : Rep K T G (.ref p) k) (hk : k.key = some nk) (hd : nk.depth ≤ 8) (a2 : Rep K T G v d) {vs : List NEnt} {ds : List (Dat × Dat)} (r : RepN K T G vs ds) : RepN K T G (ndPut nk p v vs) (putN k d ds) := by
  have hl := r.look hk
  unfold ndPut putN
  cases e : lookN k ds with
  | some x =>
    rw [e] at hl
    obtain ⟨z, hz, _⟩ := hl
    rw [hz]
    exact r.over hk a2
  | none =>
    rw [e] at hl
    rw [hl]
    exact r.app a1 hk hd a2
end
end Cz

set_option Elab.async false
set_option linter.all false
set_option maxRecDepth 100000
set_option maxHeartbeats 2000000
/-! Certified expressions. -/
namespace Cz
open PySem L2 Evl

inductive Rs (α : Type) where
  | ok (a : α) | exn (c : Nat) (fs : List (Str × Dat)) | bad
def Rs.bind {α β : Type} : Rs α → (α → Rs β) → Rs β
  | .ok a, f => f a
  | .exn c fs, _ => .exn c fs
  | .bad, _ => .bad
@[simp] theorem Rs.bind_ok {α β : Type} (a : α) (f : α → Rs β) : (Rs.ok a).bind f = f a := rfl
@[simp] theorem Rs.bind_exn {α β : Type} (c : Nat) (fs : List (Str × Dat)) (f : α → Rs β) : (Rs.exn c fs : Rs α).bind f = .exn c fs := rfl
@[simp] theorem Rs.bind_bad {α β : Type} (f : α → Rs β) : (Rs.bad : Rs α).bind f = .bad := rfl

section
variable (K : PySem.W.Frag) (T : Nat → Addr)
def Hd {β α : Type} (W : WX) (G H : Hp) (σ : L2.St) (R : Hp → β → α → Prop) (r : Rs α) (t : (β → Hp → Prop) → Prop) : Prop :=
  match r with
  | .ok d => ∀ Q : β → Hp → Prop, (∀ v G' H', Grow G H G' H' → R G' v d → Q v H') → t Q
  | .exn c fs => (∀ cls d G' H', Grow G H G' H' → RepX K T G' cls d c fs → W cls d σ H') → ∀ Q : β → Hp → Prop, t Q
  | .bad => True
end
section
variable {K : PySem.W.Frag} {T : Nat → Addr} {W : WX} {G H : Hp} {σ : L2.St}
theorem Hd.bind {β α β' α' : Type} {R : Hp → β → α → Prop} {R' : Hp → β' → α' → Prop} {r : Rs α} {f : α → Rs α'} {t : (β → Hp → Prop) → Prop} {k : β → Hp → (β' → Hp → Prop) → Prop}
    (h : Hd K T W G H σ R r t) (h2 : ∀ v d G' H', Grow G H G' H' → R G' v d → r = .ok d → Hd K T W G' H' σ R' (f d) (k v H')) : Hd K T W G H σ R' (r.bind f) (fun Q => t fun v H' => k v H' Q) := by
  cases r with
  | bad => trivial
  | exn c fs => exact fun w Q => h w _
  | ok d =>
    show Hd K T W G H σ R' (f d) _
    have key : ∀ v G' H', Grow G H G' H' → R G' v d → Hd K T W G' H' σ R' (f d) (k v H') := fun v G' H' w r => h2 v d G' H' w r rfl
    generalize f d = z at key ⊢
    cases z with
    | bad => trivial
    | ok e => exact fun Q q => h _ fun v G' H' w r => key v G' H' w r Q fun v' G'' H'' w' r' => q v' G'' H'' (w.trans w') r'
    | exn c fs => exact fun w Q => h _ fun v G' H' w1 r => key v G' H' w1 r (fun cls d G'' H'' w2 r2 => w cls d G'' H'' (w1.trans w2) r2) Q
theorem Hd.ret {β α : Type} {R : Hp → β → α → Prop} {v : β} {d : α} {t : (β → Hp → Prop) → Prop} (e : Ex G H) (r : R G v d) (h : ∀ Q : β → Hp → Prop, Q v H → t Q) : Hd K T W G H σ R (.ok d) t :=
  fun Q q => h Q (q v G H (Grow.refl e) r)
theorem Hd.imp {β α : Type} {R : Hp → β → α → Prop} {r : Rs α} {t t' : (β → Hp → Prop) → Prop} (h : Hd K T W G H σ R r t) (i : ∀ Q, t Q → t' Q) : Hd K T W G H σ R r t' := by
  cases r with
  | bad => trivial
  | ok d => exact fun Q q => i _ (h Q q)
  | exn c fs => exact fun w Q => i _ (h w Q)
theorem Hd.eq {β α : Type} {R : Hp → β → α → Prop} {r r' : Rs α} {t : (β → Hp → Prop) → Prop} (h : Hd K T W G H σ R r t) (e : r = r') : Hd K T W G H σ R r' t := e ▸ h
end

structure CE (K : PySem.W.Frag) (T : Nat → Addr) where
  te : WX → TE
  ev : Gam → Rs Dat
  ok : ∀ (W : WX) (fx : List Addr) (G0 H0 G H : Hp) (σ : L2.St) (Γ : Gam), SG K T fx G0 H0 G H σ Γ → Hd K T W G H σ (Rep K T) (ev Γ) (te W σ H)
structure CA (K : PySem.W.Frag) (T : Nat → Addr) where
  te : WX → TA
  ev : Gam → Rs (List Dat)
  ok : ∀ (W : WX) (fx : List Addr) (G0 H0 G H : Hp) (σ : L2.St) (Γ : Gam), SG K T fx G0 H0 G H σ Γ → Hd K T W G H σ (RepL K T) (ev Γ) (te W σ H)
structure CT (K : PySem.W.Frag) (T : Nat → Addr) where
  te : WX → TT
  ev : Gam → Rs Bool
  ok : ∀ (W : WX) (fx : List Addr) (G0 H0 G H : Hp) (σ : L2.St) (Γ : Gam), SG K T fx G0 H0 G H σ Γ → Hd K T W G H σ (fun _ a b => a = b) (ev Γ) (te W σ H)
structure CP (K : PySem.W.Frag) (T : Nat → Addr) where
  te : WX → TO
  ev : Gam → Rs (Option Int)
  ok : ∀ (W : WX) (fx : List Addr) (G0 H0 G H : Hp) (σ : L2.St) (Γ : Gam), SG K T fx G0 H0 G H σ Γ → Hd K T W G H σ (fun _ a b => a = b) (ev Γ) (te W σ H)
/-- an expression that makes a new list -/
structure CO (K : PySem.W.Frag) (T : Nat → Addr) where
  te : WX → TE
  ev : Gam → Rs (List Dat)
  ok : ∀ (W : WX) (fx : List Addr) (G0 H0 G H : Hp) (σ : L2.St) (Γ : Gam), SG K T fx G0 H0 G H σ Γ →
    match ev Γ with
    | .ok d => ∀ Q : VK, (∀ p vs G' H', Grow G H G' H' → H' p = none → RepL K T G' vs d → Q (.ref p) (upd H' p (.lst vs))) → te W σ H Q
    | .exn c fs => (∀ cls d G' H', Grow G H G' H' → RepX K T G' cls d c fs → W cls d σ H') → ∀ Q : VK, te W σ H Q
    | .bad => True

section
variable {K : PySem.W.Frag} {T : Nat → Addr}
/-- the new list, frozen at once -/
def CO.ce (c : CO K T) : CE K T := ⟨c.te, fun Γ => (c.ev Γ).bind fun xs => .ok (.lst xs), fun W fx G0 H0 G H σ Γ s => by
  have h := c.ok W fx G0 H0 G H σ Γ s
  cases e : c.ev Γ with
  | bad => trivial
  | exn cc fs => rw [e] at h; exact h
  | ok d =>
    rw [e] at h
    exact fun Q q => h Q fun p vs G' H' w n r => q _ (upd G' p (.lst vs)) _ (w.trans (Grow.new w.gh n)) (.lst (sq_of upd_same) (r.mono (Ex.new (fresh_back w.gh n))))⟩

/-! ### names and constants -/
def CE.var (i : Nat) : CE K T := ⟨fun _ => tVar i, fun Γ => match Γ[i]? with | some (.d x) => .ok x | _ => .bad, fun W fx G0 H0 G H σ Γ s => by
  split
  · next x h =>
    obtain ⟨v, e, r⟩ := s.get h
    exact Hd.ret s.gh r fun Q q => ⟨v, e, q⟩
  · trivial⟩
def CE.k (v : V) (d : Dat) (h : ∀ G, Rep K T G v d) : CE K T := ⟨fun _ => tC v, fun _ => .ok d, fun W fx G0 H0 G H σ Γ s => Hd.ret s.gh (h G) fun Q q => q⟩
abbrev CE.int (i : Int) : CE K T := .k (.int i) (.int i) fun _ => .int i
abbrev CE.bl (b : Bool) : CE K T := .k (.bl b) (.bl b) fun _ => .bl b
abbrev CE.str (x : Str) : CE K T := .k (.str x) (.str x) fun _ => .str x
abbrev CE.non : CE K T := .k .non .non fun _ => .non

/-! ### operators by values -/
structure Op2 (K : PySem.W.Frag) (T : Nat → Addr) where
  r : R2
  f : Dat → Dat → Rs Dat
  ok : ∀ (W : WX) (G H : Hp) (σ : L2.St) (x y : V) (a b : Dat), Ex G H → Rep K T G x a → Rep K T G y b → Hd K T W G H σ (Rep K T) (f a b) (r x y H)
structure Op1 (K : PySem.W.Frag) (T : Nat → Addr) where
  r : V → Hp → VK → Prop
  f : Dat → Rs Dat
  ok : ∀ (W : WX) (G H : Hp) (σ : L2.St) (x : V) (a : Dat), Ex G H → Rep K T G x a → Hd K T W G H σ (Rep K T) (f a) (r x H)
structure OpN (K : PySem.W.Frag) (T : Nat → Addr) where
  r : List V → Hp → VK → Prop
  f : List Dat → Rs Dat
  ok : ∀ (W : WX) (G H : Hp) (σ : L2.St) (xs : List V) (as : List Dat), Ex G H → RepL K T G xs as → Hd K T W G H σ (Rep K T) (f as) (r xs H)
def CE.op2 (o : Op2 K T) (a b : CE K T) : CE K T := ⟨fun W => tOp o.r (a.te W) (b.te W), fun Γ => (a.ev Γ).bind fun x => (b.ev Γ).bind fun y => o.f x y, fun W fx G0 H0 G H σ Γ s =>
  (a.ok W fx G0 H0 G H σ Γ s).bind fun v d G1 H1 w1 r1 _ => (b.ok W fx G0 H0 G1 H1 σ Γ (s.grow w1)).bind fun u e G2 H2 w2 r2 _ => o.ok W G2 H2 σ v u d e w2.gh (r1.mono w2.g) r2⟩
def CE.op1 (o : Op1 K T) (a : CE K T) : CE K T := ⟨fun W => tUn o.r (a.te W), fun Γ => (a.ev Γ).bind o.f, fun W fx G0 H0 G H σ Γ s =>
  (a.ok W fx G0 H0 G H σ Γ s).bind fun v d G1 H1 w1 r1 _ => o.ok W G1 H1 σ v d w1.gh r1⟩
/-! ### argument lists -/
def CA.nil : CA K T := ⟨fun _ => tNil, fun _ => .ok [], fun W fx G0 H0 G H σ Γ s => Hd.ret s.gh .nil fun Q q => q⟩
def CA.cons (a : CE K T) (r : CA K T) : CA K T := ⟨fun W => tCons (a.te W) (r.te W), fun Γ => (a.ev Γ).bind fun x => (r.ev Γ).bind fun xs => .ok (x :: xs), fun W fx G0 H0 G H σ Γ s =>
  (a.ok W fx G0 H0 G H σ Γ s).bind fun v d G1 H1 w1 r1 _ => (r.ok W fx G0 H0 G1 H1 σ Γ (s.grow w1)).bind fun u e G2 H2 w2 r2 _ => Hd.ret w2.gh (.cons (r1.mono w2.g) r2) fun Q q => q⟩
def CE.opN (o : OpN K T) (a : CA K T) : CE K T := ⟨fun W => tCB o.r (a.te W), fun Γ => (a.ev Γ).bind o.f, fun W fx G0 H0 G H σ Γ s =>
  (a.ok W fx G0 H0 G H σ Γ s).bind fun v d G1 H1 w1 r1 _ => o.ok W G1 H1 σ v d w1.gh r1⟩
def lim : Nat := 100000
def CE.tup (a : CA K T) : CE K T := ⟨fun W => tTup (a.te W), fun Γ => (a.ev Γ).bind fun xs => if xs.length ≤ lim then .ok (.tup xs) else .bad, fun W fx G0 H0 G H σ Γ s =>
  (a.ok W fx G0 H0 G H σ Γ s).bind fun v d G1 H1 w1 r1 _ => by
    split
    · next h => exact fun Q q => ⟨sz_of (by rw [r1.length]; exact h), fun p n => q _ (upd G1 p (.tup v)) _ (Grow.new w1.gh n) (.tup (st_of upd_same) (r1.mono (Ex.new (fresh_back w1.gh n))))⟩
    · trivial⟩
def CO.lst (a : CA K T) : CO K T := ⟨fun W => tLst (a.te W), fun Γ => (a.ev Γ).bind fun xs => if xs.length ≤ lim then .ok xs else .bad, fun W fx G0 H0 G H σ Γ s => by
  have h := a.ok W fx G0 H0 G H σ Γ s
  cases e : a.ev Γ with
  | bad => trivial
  | exn cc fs => rw [e] at h; exact fun w Q => h w _
  | ok d =>
    rw [e] at h
    show match (if d.length ≤ lim then Rs.ok d else Rs.bad) with | .ok d => _ | .exn c fs => _ | .bad => _
    split
    · next d' hd =>
      split at hd
      · next hl =>
        cases hd
        exact fun Q q => h _ fun v G' H' w r => ⟨sz_of (by rw [r.length]; exact hl), fun p n => q p v G' H' w n r⟩
      · cases hd
    · next c fs hd =>
      split at hd <;> cases hd
    · trivial⟩
/-! ### tests -/
def CT.test (a : CE K T) : CT K T := ⟨fun W => tTest (a.te W), fun Γ => (a.ev Γ).bind fun x => match x with | .bl b => .ok b | _ => .bad, fun W fx G0 H0 G H σ Γ s =>
  (a.ok W fx G0 H0 G H σ Γ s).bind fun v d G1 H1 w1 r1 _ => by
    cases r1 with
    | bl b => exact Hd.ret w1.gh rfl fun Q q => ⟨b, rfl, q⟩
    | _ => trivial⟩
def CT.b (a : CE K T) : CT K T := ⟨fun W => tB (a.te W), fun Γ => (a.ev Γ).bind fun x => match x with | .bl b => .ok b | _ => .bad, (CT.test a).ok⟩
def CT.and (a b : CT K T) : CT K T := ⟨fun W => tAnd (a.te W) (b.te W), fun Γ => (a.ev Γ).bind fun x => if x = true then b.ev Γ else .ok false, fun W fx G0 H0 G H σ Γ s =>
  (a.ok W fx G0 H0 G H σ Γ s).bind fun v d G1 H1 w1 r1 _ => by
    subst r1
    cases v with
    | true => exact b.ok W fx G0 H0 G1 H1 σ Γ (s.grow w1)
    | false => exact Hd.ret w1.gh rfl fun Q q => q⟩
def CT.or (a b : CT K T) : CT K T := ⟨fun W => tOr (a.te W) (b.te W), fun Γ => (a.ev Γ).bind fun x => if x = true then .ok true else b.ev Γ, fun W fx G0 H0 G H σ Γ s =>
  (a.ok W fx G0 H0 G H σ Γ s).bind fun v d G1 H1 w1 r1 _ => by
    subst r1
    cases v with
    | true => exact Hd.ret w1.gh rfl fun Q q => q
    | false => exact b.ok W fx G0 H0 G1 H1 σ Γ (s.grow w1)⟩
def CT.not (a : CT K T) : CT K T := ⟨fun W => tNot (a.te W), fun Γ => (a.ev Γ).bind fun x => .ok (!x), fun W fx G0 H0 G H σ Γ s =>
  (a.ok W fx G0 H0 G H σ Γ s).bind fun v d G1 H1 w1 r1 _ => by
    subst r1
    exact Hd.ret w1.gh rfl fun Q q => q⟩
/-- and, or, not of bools as values -/
def CE.and (a b : CE K T) : CE K T := ⟨fun W => tAndV (a.te W) (b.te W), fun Γ => (a.ev Γ).bind fun x => match x with | .bl c => if c = true then b.ev Γ else .ok (.bl false) | _ => .bad, fun W fx G0 H0 G H σ Γ s =>
  (a.ok W fx G0 H0 G H σ Γ s).bind fun v d G1 H1 w1 r1 _ => by
    cases r1 with
    | bl c =>
      cases c with
      | true => exact (b.ok W fx G0 H0 G1 H1 σ Γ (s.grow w1)).imp fun Q q => ⟨true, rfl, q⟩
      | false => exact Hd.ret w1.gh (.bl false) fun Q q => ⟨false, rfl, q⟩
    | _ => trivial⟩
def CE.or (a b : CE K T) : CE K T := ⟨fun W => tOrV (a.te W) (b.te W), fun Γ => (a.ev Γ).bind fun x => match x with | .bl c => if c = true then .ok (.bl true) else b.ev Γ | _ => .bad, fun W fx G0 H0 G H σ Γ s =>
  (a.ok W fx G0 H0 G H σ Γ s).bind fun v d G1 H1 w1 r1 _ => by
    cases r1 with
    | bl c =>
      cases c with
      | true => exact Hd.ret w1.gh (.bl true) fun Q q => ⟨true, rfl, q⟩
      | false => exact (b.ok W fx G0 H0 G1 H1 σ Γ (s.grow w1)).imp fun Q q => ⟨false, rfl, q⟩
    | _ => trivial⟩
def CE.not (a : CE K T) : CE K T := ⟨fun W => tNotV (a.te W), fun Γ => (a.ev Γ).bind fun x => match x with | .bl c => .ok (.bl (!c)) | _ => .bad, fun W fx G0 H0 G H σ Γ s =>
  (a.ok W fx G0 H0 G H σ Γ s).bind fun v d G1 H1 w1 r1 _ => by
    cases r1 with
    | bl c => exact Hd.ret w1.gh (.bl (!c)) fun Q q => ⟨c, rfl, q⟩
    | _ => trivial⟩
def CE.ifx (c : CT K T) (a b : CE K T) : CE K T := ⟨fun W => tIf (c.te W) (a.te W) (b.te W), fun Γ => (c.ev Γ).bind fun x => if x = true then a.ev Γ else b.ev Γ, fun W fx G0 H0 G H σ Γ s =>
  (c.ok W fx G0 H0 G H σ Γ s).bind fun v d G1 H1 w1 r1 _ => by
    subst r1
    cases v with
    | true => exact a.ok W fx G0 H0 G1 H1 σ Γ (s.grow w1)
    | false => exact b.ok W fx G0 H0 G1 H1 σ Γ (s.grow w1)⟩
/-- x <= y < z -/
def CE.chain (o o' : Op2 K T) (a b c : CE K T) : CE K T := ⟨fun W => tChain o.r o'.r (a.te W) (b.te W) (c.te W), fun Γ => (a.ev Γ).bind fun x => (b.ev Γ).bind fun y => (o.f x y).bind fun z => match z with | .bl k => if k = true then (c.ev Γ).bind fun u => o'.f y u else .ok (.bl false) | _ => .bad, fun W fx G0 H0 G H σ Γ s =>
  (a.ok W fx G0 H0 G H σ Γ s).bind fun v d G1 H1 w1 r1 _ => (b.ok W fx G0 H0 G1 H1 σ Γ (s.grow w1)).bind fun u e G2 H2 w2 r2 _ => (o.ok W G2 H2 σ v u d e w2.gh (r1.mono w2.g) r2).bind fun z f G3 H3 w3 r3 _ => by
    cases r3 with
    | bl k =>
      cases k with
      | true => exact ((c.ok W fx G0 H0 G3 H3 σ Γ (((s.grow w1).grow w2).grow w3)).bind fun q e' G4 H4 w4 r4 _ => o'.ok W G4 H4 σ u q e e' w4.gh (r2.mono (w3.g.trans w4.g)) r4).imp fun Q q => ⟨true, rfl, q⟩
      | false => exact Hd.ret w3.gh (.bl false) fun Q q => ⟨false, rfl, q⟩
    | _ => trivial⟩
/-! ### parts of slices -/
def CP.none : CP K T := ⟨fun _ => tNoPart, fun _ => .ok Option.none, fun W fx G0 H0 G H σ Γ s => Hd.ret s.gh rfl fun Q q => q⟩
def CP.some (a : CE K T) : CP K T := ⟨fun W => tPart (a.te W), fun Γ => (a.ev Γ).bind fun x => match x with | .int i => .ok (Option.some i) | _ => .bad, fun W fx G0 H0 G H σ Γ s =>
  (a.ok W fx G0 H0 G H σ Γ s).bind fun v d G1 H1 w1 r1 _ => by
    cases r1 with
    | int i => exact Hd.ret w1.gh rfl fun Q q => ⟨i, rfl, q⟩
    | _ => trivial⟩
end
end Cz

set_option Elab.async false
set_option linter.all false
set_option maxRecDepth 100000
set_option maxHeartbeats 2000000
/-! Certified statements, loops, comprehensions, defs. -/
namespace Cz
open PySem L2 Evl

inductive SRes where
  | nx (Γ : Gam) | rt (d : Dat) | bk (Γ : Gam) | ct (Γ : Gam) | exn (Γ : Gam) (c : Nat) (fs : List (Str × Dat)) | bad

section
variable (K : PySem.W.Frag) (T : Nat → Addr)
def SHd (W : WX) (D : Ends) (G0 H0 G : Hp) (r : SRes) (t : Prop) : Prop :=
  match r with
  | .nx Γ => (∀ G' H' σ', Ex G G' → SG K T [] G0 H0 G' H' σ' Γ → D.nx σ' H') → t
  | .bk Γ => (∀ G' H' σ', Ex G G' → SG K T [] G0 H0 G' H' σ' Γ → D.bk σ' H') → t
  | .ct Γ => (∀ G' H' σ', Ex G G' → SG K T [] G0 H0 G' H' σ' Γ → D.ct σ' H') → t
  | .rt d => (∀ v G' H', Grow G0 H0 G' H' → Rep K T G' v d → D.rt v H') → t
  | .exn Γ c fs => (∀ cls d G' H' σ', Ex G G' → SG K T [] G0 H0 G' H' σ' Γ → RepX K T G' cls d c fs → W cls d σ' H') → t
  | .bad => True
end
def Rs.st {α : Type} (r : Rs α) (Γ : Gam) (f : α → SRes) : SRes := match r with
  | .ok d => f d
  | .exn c fs => .exn Γ c fs
  | .bad => .bad
@[simp] theorem Rs.st_ok {α : Type} (a : α) (Γ : Gam) (f : α → SRes) : (Rs.ok a).st Γ f = f a := rfl
@[simp] theorem Rs.st_exn {α : Type} (c : Nat) (fs : List (Str × Dat)) (Γ : Gam) (f : α → SRes) : (Rs.exn c fs : Rs α).st Γ f = .exn Γ c fs := rfl
@[simp] theorem Rs.st_bad {α : Type} (Γ : Gam) (f : α → SRes) : (Rs.bad : Rs α).st Γ f = .bad := rfl

section
variable {K : PySem.W.Frag} {T : Nat → Addr} {W : WX} {D D' : Ends} {G0 H0 G G' H H' : Hp} {σ : L2.St} {Γ : Gam} {r : SRes} {t t' : Prop}
theorem SHd.imp (h : SHd K T W D G0 H0 G r t) (i : t → t') : SHd K T W D G0 H0 G r t' := by
  cases r <;> first | trivial | exact fun q => i (h q)
theorem SHd.back (e : Ex G G') (h : SHd K T W D G0 H0 G' r t) : SHd K T W D G0 H0 G r t := by
  cases r with
  | nx Γ => exact fun q => h fun A B s x => q A B s (e.trans x)
  | bk Γ => exact fun q => h fun A B s x => q A B s (e.trans x)
  | ct Γ => exact fun q => h fun A B s x => q A B s (e.trans x)
  | rt d => exact h
  | exn Γ c fs => exact fun q => h fun c d A B s x => q c d A B s (e.trans x)
  | bad => trivial
/-- many ways to one end -/
theorem SHd.all {ι : Type} {p : ι → Prop} (hp : ∀ i, SHd K T W D G0 H0 G r (p i)) (i : (∀ i, p i) → t) : SHd K T W D G0 H0 G r t := by
  cases r <;> first | trivial | exact fun q => i fun j => hp j q
theorem Hd.st {β α : Type} {R : Hp → β → α → Prop} {r : Rs α} {f : α → SRes} {t : (β → Hp → Prop) → Prop} {k : β → Hp → Prop} (s : SG K T [] G0 H0 G H σ Γ)
    (h : Hd K T W G H σ R r t) (h2 : ∀ v d G' H', Grow G H G' H' → R G' v d → r = .ok d → SHd K T W D G0 H0 G' (f d) (k v H')) : SHd K T W D G0 H0 G (r.st Γ f) (t k) := by
  cases r with
  | bad => trivial
  | exn c fs => exact fun q => h (fun cls d G' H' w r => q cls d G' H' σ w.g (s.grow w) r) k
  | ok d =>
    show SHd K T W D G0 H0 G (f d) _
    have key : ∀ v G' H', Grow G H G' H' → R G' v d → SHd K T W D G0 H0 G (f d) (k v H') := fun v G' H' w r => (h2 v d G' H' w r rfl).back w.g
    generalize f d = z at key ⊢
    cases z with
    | bad => trivial
    | nx Γ' => exact fun q => h k fun v G' H' w r => key v G' H' w r q
    | bk Γ' => exact fun q => h k fun v G' H' w r => key v G' H' w r q
    | ct Γ' => exact fun q => h k fun v G' H' w r => key v G' H' w r q
    | rt d => exact fun q => h k fun v G' H' w r => key v G' H' w r q
    | exn Γ' c fs => exact fun q => h k fun v G' H' w r => key v G' H' w r q
theorem SHd.nx (s : SG K T [] G0 H0 G H σ Γ) (h : D.nx σ H → t) : SHd K T W D G0 H0 G (.nx Γ) t := fun q => h (q G H σ (Ex.refl G) s)
end

structure CS (K : PySem.W.Frag) (T : Nat → Addr) where
  ts : WX → TS
  ev : Gam → SRes
  ok : ∀ (W : WX) (D : Ends) (G0 H0 G H : Hp) (σ : L2.St) (Γ : Gam), SG K T [] G0 H0 G H σ Γ → SHd K T W D G0 H0 G (ev Γ) (ts W D σ H)
/-- slots outside sl stand -/
def Kps (sl : List Nat) (σ σ' : L2.St) : Prop := σ'.length = σ.length ∧ ∀ i, i ∉ sl → σ'[i]? = σ[i]?
structure CG (K : PySem.W.Frag) (T : Nat → Addr) where
  g : TG
  sl : List Nat
  ev : Dat → Gam → Option Gam
  ok : ∀ (fx : List Addr) (G0 H0 G H : Hp) (σ : L2.St) (Γ Γ' : Gam) (v : V) (d : Dat), SG K T fx G0 H0 G H σ Γ → Rep K T G v d → ev d Γ = some Γ' → ∀ Q : L2.St → Hp → Prop, (∀ σ', SG K T fx G0 H0 G H σ' Γ' → Kps sl σ σ' → Q σ' H) → g v σ H Q
structure CGs (K : PySem.W.Frag) (T : Nat → Addr) where
  g : TGs
  sl : List Nat
  ev : List Dat → Gam → Option Gam
  ok : ∀ (fx : List Addr) (G0 H0 G H : Hp) (σ : L2.St) (Γ Γ' : Gam) (v : List V) (d : List Dat), SG K T fx G0 H0 G H σ Γ → RepL K T G v d → ev d Γ = some Γ' → ∀ Q : L2.St → Hp → Prop, (∀ σ', SG K T fx G0 H0 G H σ' Γ' → Kps sl σ σ' → Q σ' H) → g v σ H Q
/-- J walks the data ds -/
def ItOk (K : PySem.W.Frag) (T : Nat → Addr) (G : Hp) (J : It) (ds : List Dat) : Prop := ∀ G' H, Ex G G' → Ex G' H → (∀ i d, ds[i]? = some d → J.go i H ∧ ∀ x H', J.yld i H x H' → ∃ G'', Grow G' H G'' H' ∧ Rep K T G'' x d) ∧ ∀ i, ds.length ≤ i → J.stop i H
structure CI (K : PySem.W.Frag) (T : Nat → Addr) where
  te : WX → TI
  ev : Gam → Rs (List Dat)
  ok : ∀ (W : WX) (fx : List Addr) (G0 H0 G H : Hp) (σ : L2.St) (Γ : Gam), SG K T fx G0 H0 G H σ Γ → Hd K T W G H σ (ItOk K T) (ev Γ) (te W σ H)

section
variable {K : PySem.W.Frag} {T : Nat → Addr}
def CG.name (i : Nat) : CG K T := ⟨gName i, [i], fun d Γ => some (Γ.set i (.d d)), fun fx G0 H0 G H σ Γ Γ' v d s r e Q q => by
  cases e
  exact q _ (s.setD r) ⟨by simp, fun j h => List.getElem?_set_ne (by simpa using fun e => h (by simp [e]))⟩⟩
def CGs.nil : CGs K T := ⟨gNil, [], fun ds Γ => match ds with | [] => some Γ | _ => none, fun fx G0 H0 G H σ Γ Γ' v d s r e Q q => by
  cases r with
  | nil => cases e; exact ⟨rfl, q _ s ⟨rfl, fun _ _ => rfl⟩⟩
  | cons _ _ => cases e⟩
def CGs.cons (a : CG K T) (b : CGs K T) : CGs K T := ⟨gCons a.g b.g, a.sl ++ b.sl, fun ds Γ => match ds with | d :: r => (a.ev d Γ).bind fun Γ1 => b.ev r Γ1 | _ => none, fun fx G0 H0 G H σ Γ Γ' v d s r e Q q => by
  cases r with
  | nil => cases e
  | @cons v vs d ds h r =>
    cases e1 : a.ev d Γ with
    | none => simp [e1] at e
    | some Γ1 =>
      simp [e1] at e
      exact ⟨v, vs, rfl, a.ok fx G0 H0 G H σ Γ Γ1 v d s h e1 _ fun σ1 s1 k1 => b.ok fx G0 H0 G H σ1 Γ1 Γ' vs ds s1 r e Q fun σ2 s2 k2 => q σ2 s2 ⟨k2.1.trans k1.1, fun i hi => (k2.2 i fun m => hi (List.mem_append_right _ m)).trans (k1.2 i fun m => hi (List.mem_append_left _ m))⟩⟩⟩
def CG.tup (n : Nat) (t : CGs K T) : CG K T := ⟨gTup K n t.g, t.sl, fun d Γ => match d with | .tup ds => if ds.length = n then t.ev ds Γ else none | _ => none, fun fx G0 H0 G H σ Γ Γ' v d s r e Q q => by
  cases r with
  | @tup a vs ds h r =>
    simp at e
    exact ⟨a, vs, rfl, ex_t s.gh h, r.length.trans e.1, t.ok fx G0 H0 G H σ Γ Γ' vs ds s r e.2 Q q⟩
  | _ => cases e⟩

def CS.seq (a b : CS K T) : CS K T := ⟨fun W => tSeq (a.ts W) (b.ts W), fun Γ => match a.ev Γ with | .nx Γ' => b.ev Γ' | r => r, fun W D G0 H0 G H σ Γ s => by
  have h := a.ok W { D with nx := b.ts W D } G0 H0 G H σ Γ s
  show SHd K T W D G0 H0 G _ (a.ts W { D with nx := b.ts W D } σ H)
  cases e : a.ev Γ with
  | nx Γ' =>
    rw [e] at h
    exact SHd.all (p := fun i : { x : Hp × Hp × L2.St // Ex G x.1 ∧ SG K T [] G0 H0 x.1 x.2.1 x.2.2 Γ' } => b.ts W D i.1.2.2 i.1.2.1)
      (fun i => (b.ok W D G0 H0 i.1.1 i.1.2.1 i.1.2.2 Γ' i.2.2).back i.2.1) fun q => h fun G' H' σ' x y => q ⟨(G', H', σ'), x, y⟩
  | _ => rw [e] at h; exact h⟩
def CS.pass : CS K T := ⟨fun _ => tNext, fun Γ => .nx Γ, fun W D G0 H0 G H σ Γ s => SHd.nx s fun q => q⟩
def CS.brk : CS K T := ⟨fun _ => tBreak, fun Γ => .bk Γ, fun W D G0 H0 G H σ Γ s => fun q => q G H σ (Ex.refl G) s⟩
def CS.cont : CS K T := ⟨fun _ => tCont, fun Γ => .ct Γ, fun W D G0 H0 G H σ Γ s => fun q => q G H σ (Ex.refl G) s⟩
def CS.never : CS K T := ⟨fun _ => tNever, fun _ => .bad, fun _ _ _ _ _ _ _ _ _ => trivial⟩
def CS.set (i : Nat) (e : CE K T) : CS K T := ⟨fun W => tAsg (e.te W) (gName i), fun Γ => (e.ev Γ).st Γ fun d => .nx (Γ.set i (.d d)), fun W D G0 H0 G H σ Γ s =>
  Hd.st s (e.ok W [] G0 H0 G H σ Γ s) fun v d G1 H1 w r _ => SHd.nx ((s.grow w).setD r) fun q => q⟩
def CS.asg (g : CG K T) (e : CE K T) : CS K T := ⟨fun W => tAsg (e.te W) g.g, fun Γ => (e.ev Γ).st Γ fun d => match g.ev d Γ with | some Γ' => .nx Γ' | none => .bad, fun W D G0 H0 G H σ Γ s =>
  Hd.st s (e.ok W [] G0 H0 G H σ Γ s) fun v d G1 H1 w r _ => by
    cases h : g.ev d Γ with
    | none => trivial
    | some Γ' => exact fun q => g.ok [] G0 H0 G1 H1 σ Γ Γ' v d (s.grow w) r h _ fun σ' s' _ => q G1 H1 σ' (Ex.refl _) s'⟩
/-- a new list at a name, owned -/
def CS.setO (i : Nat) (c : CO K T) : CS K T := ⟨fun W => tAsg (c.te W) (gName i), fun Γ => (c.ev Γ).st Γ fun xs => .nx (Γ.set i (.ol xs)), fun W D G0 H0 G H σ Γ s => by
  have h := c.ok W [] G0 H0 G H σ Γ s
  show SHd K T W D G0 H0 G ((c.ev Γ).st Γ _) (c.te W σ H _)
  cases e : c.ev Γ with
  | bad => trivial
  | exn cc fs => rw [e] at h; exact fun q => h (fun cls d G' H' w r => q cls d G' H' σ w.g (s.grow w) r) _
  | ok d => rw [e] at h; exact fun q => h _ fun p vs G' H' w n r => q G' _ _ w.g ((s.grow w).setL r n)⟩
def CS.ret (e : CE K T) : CS K T := ⟨fun W => tRet (e.te W), fun Γ => (e.ev Γ).st Γ fun d => .rt d, fun W D G0 H0 G H σ Γ s =>
  Hd.st s (e.ok W [] G0 H0 G H σ Γ s) fun v d G1 H1 w r _ => fun q => q v G1 H1 (s.grow w).fin r⟩
def CS.retN : CS K T := ⟨fun _ => tRetN, fun _ => .rt .non, fun W D G0 H0 G H σ Γ s => fun q => q .non G H s.fin .non⟩
def CS.expr (e : CE K T) : CS K T := ⟨fun W => tDrop (e.te W), fun Γ => (e.ev Γ).st Γ fun _ => .nx Γ, fun W D G0 H0 G H σ Γ s =>
  Hd.st s (e.ok W [] G0 H0 G H σ Γ s) fun v d G1 H1 w r _ => SHd.nx (s.grow w) fun q => q⟩
def CS.ifs (c : CT K T) (a b : CS K T) : CS K T := ⟨fun W => tIfS (c.te W) (a.ts W) (b.ts W), fun Γ => (c.ev Γ).st Γ fun x => if x = true then a.ev Γ else b.ev Γ, fun W D G0 H0 G H σ Γ s =>
  Hd.st s (c.ok W [] G0 H0 G H σ Γ s) fun v d G1 H1 w r _ => by
    subst r
    cases v with
    | true => exact a.ok W D G0 H0 G1 H1 σ Γ (s.grow w)
    | false => exact b.ok W D G0 H0 G1 H1 σ Γ (s.grow w)⟩
/-- the owned object at a name is frozen ahead of a statement -/
def CS.frz (i : Nat) (a : CS K T) : CS K T := ⟨a.ts, fun Γ => match Γ[i]? with | some (.ol xs) => a.ev (Γ.set i (.d (.lst xs))) | some (.od xs) => a.ev (Γ.set i (.d (.dic xs))) | _ => a.ev Γ, fun W D G0 H0 G H σ Γ s => by
  split
  · next xs h =>
    obtain ⟨a0, vs, h1, ha, r, g, _⟩ := s.getL h
    exact (a.ok W D G0 H0 _ H σ _ (s.freeze h1 h ha (fun fp q => by
      cases q with
      | ol h0 r0 => simp) (.lst (sq_of upd_same) (r.mono (Ex.new g))))).back (Ex.new g)
  · next xs h =>
    obtain ⟨a0, vs, h1, ha, r, g, _⟩ := s.getD h
    exact (a.ok W D G0 H0 _ H σ _ (s.freeze h1 h ha (fun fp q => by
      cases q with
      | od h0 r0 => simp) (.dic upd_same (r.mono (Ex.new g))))).back (Ex.new g)
  · exact a.ok W D G0 H0 G H σ Γ s⟩
/-- x.append(e), x owned -/
def CS.app (i : Nat) (e : CE K T) : CS K T := ⟨fun W => tDrop (tBM K "list" rAppend (tVar i) (tCons (e.te W) tNil)), fun Γ => match Γ[i]? with | some (.ol xs) => (e.ev Γ).st Γ fun d => if xs.length < lim then .nx (Γ.set i (.ol (xs ++ [d]))) else .bad | _ => .bad, fun W D G0 H0 G H σ Γ s => by
  split
  · next xs h =>
    obtain ⟨a0, vs, h1, ha, r, g, _⟩ := s.getL h
    refine SHd.imp (t := e.te W σ H fun v H2 => rAppend (.ref a0) [v] H2 fun _ H3 => D.nx σ H3) ?_ fun q => ⟨.ref a0, h1, .inl ⟨rfl, vs, sq_of ha⟩, q⟩
    refine Hd.st s (e.ok W [] G0 H0 G H σ Γ s) fun v d G1 H1 w r1 _ => ?_
    split
    · next hl =>
      have s1 := s.grow w
      exact fun q => ⟨a0, vs, v, rfl, rfl, w.h _ _ ha, sz_lt (by rw [r.length]; exact hl), q G1 _ σ (Ex.refl _) (s1.mutL h1 h ((r.mono w.g).append (RepL.one r1)))⟩
    · trivial
  · trivial⟩

/-! ### loops -/
def evFor (g : Dat → Gam → Option Gam) (b : Gam → SRes) : List Dat → Gam → SRes
  | [], Γ => .nx Γ
  | d :: r, Γ => match g d Γ with
    | none => .bad
    | some Γ1 => match b Γ1 with
      | .nx Γ2 => evFor g b r Γ2
      | .ct Γ2 => evFor g b r Γ2
      | .bk Γ2 => .nx Γ2
      | .rt d => .rt d
      | .exn Γ2 c fs => .exn Γ2 c fs
      | .bad => .bad
theorem for_ok {W : WX} {D : Ends} {G0 H0 Gs G1 H1 : Hp} {σ1 : L2.St} {Γ1 : Gam} {J : It} {ds : List Dat} (g : CG K T) (b : CS K T) (s1 : SG K T [] G0 H0 G1 H1 σ1 Γ1) (hJ : ItOk K T Gs J ds) (e1 : Ex Gs G1) {r : SRes} (hr : evFor g.ev b.ev ds Γ1 = r) :
    SHd K T W D G0 H0 Gs r (∃ V : Nat → Nat → L2.St → Hp → Prop, (∃ m, V 0 m σ1 H1) ∧ ∀ i m σ H, V i m σ H →
      (J.stop i H ∧ D.nx σ H) ∨ (J.go i H ∧ ∃ N : L2.St → Hp → Prop, (∀ σ' H', N σ' H' → ∃ m', m' < m ∧ V (i + 1) m' σ' H') ∧ ∀ x H', J.yld i H x H' → g.g x σ H' fun σ2 H2 => b.ts W { D with nx := N, ct := N, bk := D.nx } σ2 H2)) := by
  -- the word: what is left of the walk gives r
  have start : ∃ m, (fun (i m : Nat) (σ : L2.St) (H : Hp) => i + m = ds.length ∧ ∃ G Γ, SG K T [] G0 H0 G H σ Γ ∧ Ex Gs G ∧ evFor g.ev b.ev (ds.drop i) Γ = r) 0 m σ1 H1 := ⟨ds.length, by omega, G1, Γ1, s1, e1, hr⟩
  have main : r ≠ .bad → (∀ Γ, r = .nx Γ → ∀ G' H' σ', Ex Gs G' → SG K T [] G0 H0 G' H' σ' Γ → D.nx σ' H') → (∀ Γ, r ≠ .bk Γ) → (∀ Γ, r ≠ .ct Γ) →
      (∀ d, r = .rt d → ∀ v G' H', Grow G0 H0 G' H' → Rep K T G' v d → D.rt v H') →
      (∀ Γ c fs, r = .exn Γ c fs → ∀ cls d G' H' σ', Ex Gs G' → SG K T [] G0 H0 G' H' σ' Γ → RepX K T G' cls d c fs → W cls d σ' H') →
      ∀ i m σ H, (i + m = ds.length ∧ ∃ G Γ, SG K T [] G0 H0 G H σ Γ ∧ Ex Gs G ∧ evFor g.ev b.ev (ds.drop i) Γ = r) →
      (J.stop i H ∧ D.nx σ H) ∨ (J.go i H ∧ ∃ N : L2.St → Hp → Prop, (∀ σ' H', N σ' H' → ∃ m', m' < m ∧ (i + 1 + m' = ds.length ∧ ∃ G Γ, SG K T [] G0 H0 G H' σ' Γ ∧ Ex Gs G ∧ evFor g.ev b.ev (ds.drop (i + 1)) Γ = r)) ∧
        ∀ x H', J.yld i H x H' → g.g x σ H' fun σ2 H2 => b.ts W { D with nx := N, ct := N, bk := D.nx } σ2 H2) := by
    intro hb hn hk hc hret hx i m σ H ⟨him, G, Γ, s, e, hv⟩
    obtain ⟨hgo, hstop⟩ := hJ G H e s.gh
    by_cases hi : i < ds.length
    · right
      have hd : ds[i]? = some ds[i] := List.getElem?_eq_getElem hi
      obtain ⟨go, yl⟩ := hgo i _ hd
      rw [List.drop_eq_getElem_cons hi] at hv
      refine ⟨go, fun σ' H' => ∃ G Γ, SG K T [] G0 H0 G H' σ' Γ ∧ Ex Gs G ∧ evFor g.ev b.ev (ds.drop (i + 1)) Γ = r, fun σ' H' hN => ⟨m - 1, by omega, by omega, hN⟩, fun x H' hy => ?_⟩
      obtain ⟨G2, w, rx⟩ := yl x H' hy
      have s2 := s.grow w
      have e2 := e.trans w.g
      unfold evFor at hv
      cases hg : g.ev ds[i] Γ with
      | none => rw [hg] at hv; exact absurd hv.symm hb
      | some Γ2 =>
        rw [hg] at hv
        refine g.ok [] G0 H0 G2 H' σ Γ Γ2 x ds[i] s2 rx hg _ fun σ3 s3 _ => ?_
        have hbody := b.ok W { D with nx := fun σ' H' => ∃ G Γ, SG K T [] G0 H0 G H' σ' Γ ∧ Ex Gs G ∧ evFor g.ev b.ev (ds.drop (i + 1)) Γ = r, ct := fun σ' H' => ∃ G Γ, SG K T [] G0 H0 G H' σ' Γ ∧ Ex Gs G ∧ evFor g.ev b.ev (ds.drop (i + 1)) Γ = r, bk := D.nx } G0 H0 G2 H' σ3 Γ2 s3
        cases hbv : b.ev Γ2 with
        | bad => simp [hbv] at hv; exact absurd hv.symm hb
        | nx Γ3 =>
          simp [hbv] at hv
          rw [hbv] at hbody
          exact hbody fun G' H'' σ' x1 x2 => ⟨G', Γ3, x2, e2.trans x1, hv⟩
        | ct Γ3 =>
          simp [hbv] at hv
          rw [hbv] at hbody
          exact hbody fun G' H'' σ' x1 x2 => ⟨G', Γ3, x2, e2.trans x1, hv⟩
        | bk Γ3 =>
          simp [hbv] at hv
          rw [hbv] at hbody
          exact hbody fun G' H'' σ' x1 x2 => hn Γ3 hv.symm G' H'' σ' (e2.trans x1) x2
        | rt d =>
          simp [hbv] at hv
          rw [hbv] at hbody
          exact hbody fun v G' H'' x1 x2 => hret d hv.symm v G' H'' x1 x2
        | exn Γ3 c fs =>
          simp [hbv] at hv
          rw [hbv] at hbody
          exact hbody fun cls d G' H'' σ' x1 x2 x3 => hx Γ3 c fs hv.symm cls d G' H'' σ' (e2.trans x1) x2 x3
    · left
      rw [List.drop_eq_nil_of_le (by omega)] at hv
      exact ⟨hstop i (by omega), hn Γ hv.symm G H σ e s⟩
  have nbk : ∀ (l : List Dat) (Γ Γ' : Gam), evFor g.ev b.ev l Γ ≠ .bk Γ' := by
    intro l
    induction l with
    | nil => intro Γ Γ' h; cases h
    | cons d l ih =>
      intro Γ Γ' h
      unfold evFor at h
      generalize g.ev d Γ = o at h
      cases o with
      | none => cases h
      | some Γ1 =>
        dsimp only at h
        generalize b.ev Γ1 = z at h
        cases z with
        | nx Γ2 => exact ih _ _ h
        | ct Γ2 => exact ih _ _ h
        | bk Γ2 => cases h
        | rt d => cases h
        | exn _ _ _ => cases h
        | bad => cases h
  have nct : ∀ (l : List Dat) (Γ Γ' : Gam), evFor g.ev b.ev l Γ ≠ .ct Γ' := by
    intro l
    induction l with
    | nil => intro Γ Γ' h; cases h
    | cons d l ih =>
      intro Γ Γ' h
      unfold evFor at h
      generalize g.ev d Γ = o at h
      cases o with
      | none => cases h
      | some Γ1 =>
        dsimp only at h
        generalize b.ev Γ1 = z at h
        cases z with
        | nx Γ2 => exact ih _ _ h
        | ct Γ2 => exact ih _ _ h
        | bk Γ2 => cases h
        | rt d => cases h
        | exn _ _ _ => cases h
        | bad => cases h
  cases hrr : r with
  | bad => trivial
  | nx Γ' => exact fun q => ⟨_, start, main (by rw [hrr]; simp) (fun Γ h => by rw [hrr] at h; cases h; exact q) (fun Γ h => by rw [hrr] at h; cases h) (fun Γ h => by rw [hrr] at h; cases h) (fun d h => by rw [hrr] at h; cases h) (fun Γ c fs h => by rw [hrr] at h; cases h)⟩
  | bk Γ' => exact absurd (hr.trans hrr) (nbk _ _ _)
  | ct Γ' => exact absurd (hr.trans hrr) (nct _ _ _)
  | rt d => exact fun q => ⟨_, start, main (by rw [hrr]; simp) (fun Γ h => by rw [hrr] at h; cases h) (fun Γ h => by rw [hrr] at h; cases h) (fun Γ h => by rw [hrr] at h; cases h) (fun d h => by rw [hrr] at h; cases h; exact q) (fun Γ c fs h => by rw [hrr] at h; cases h)⟩
  | exn Γ' c fs => exact fun q => ⟨_, start, main (by rw [hrr]; simp) (fun Γ h => by rw [hrr] at h; cases h) (fun Γ h => by rw [hrr] at h; cases h) (fun Γ h => by rw [hrr] at h; cases h) (fun d h => by rw [hrr] at h; cases h) (fun Γ c fs h => by rw [hrr] at h; cases h; exact q)⟩
def CS.forS (i : CI K T) (g : CG K T) (b : CS K T) : CS K T := ⟨fun W => tFor (i.te W) g.g (b.ts W), fun Γ => (i.ev Γ).st Γ fun ds => evFor g.ev b.ev ds Γ, fun W D G0 H0 G H σ Γ s =>
  Hd.st s (i.ok W [] G0 H0 G H σ Γ s) fun J ds G1 H1 w hJ _ => for_ok g b (s.grow w) hJ (Ex.refl _) rfl⟩

def evWhile (c : Gam → Rs Bool) (b : Gam → SRes) : Nat → Gam → SRes
  | 0, _ => .bad
  | n + 1, Γ => (c Γ).st Γ fun x => if x = true then (match b Γ with
      | .nx Γ2 => evWhile c b n Γ2
      | .ct Γ2 => evWhile c b n Γ2
      | .bk Γ2 => .nx Γ2
      | .rt d => .rt d
      | .exn Γ2 c fs => .exn Γ2 c fs
      | .bad => .bad) else .nx Γ
theorem nbk_while (c : Gam → Rs Bool) (b : Gam → SRes) : ∀ (n : Nat) (Γ Γ' : Gam), evWhile c b n Γ ≠ .bk Γ' ∧ evWhile c b n Γ ≠ .ct Γ' := by
  intro n
  induction n with
  | zero => intro Γ Γ'; exact ⟨fun h => (by cases h), fun h => (by cases h)⟩
  | succ n ih =>
    intro Γ Γ'
    unfold evWhile
    cases c Γ with
    | bad => exact ⟨fun h => (by cases h), fun h => (by cases h)⟩
    | exn cc fs => exact ⟨fun h => (by cases h), fun h => (by cases h)⟩
    | ok x =>
      cases x with
      | false => exact ⟨fun h => (by cases h), fun h => (by cases h)⟩
      | true =>
        simp only [Rs.st_ok, if_true]
        cases b Γ with
        | nx Γ2 => exact ih Γ2 Γ'
        | ct Γ2 => exact ih Γ2 Γ'
        | bk Γ2 => exact ⟨fun h => (by cases h), fun h => (by cases h)⟩
        | rt d => exact ⟨fun h => (by cases h), fun h => (by cases h)⟩
        | exn _ _ _ => exact ⟨fun h => (by cases h), fun h => (by cases h)⟩
        | bad => exact ⟨fun h => (by cases h), fun h => (by cases h)⟩
def CS.whileS (n : Nat) (c : CT K T) (b : CS K T) : CS K T := ⟨fun W => tWhile (c.te W) (b.ts W), fun Γ => evWhile c.ev b.ev n Γ, fun W D G0 H0 G H σ Γ s => by
  have main : ∀ r : SRes, r ≠ .bad → (∀ Γ, r = .nx Γ → ∀ G' H' σ', Ex G G' → SG K T [] G0 H0 G' H' σ' Γ → D.nx σ' H') →
      (∀ d, r = .rt d → ∀ v G' H', Grow G0 H0 G' H' → Rep K T G' v d → D.rt v H') →
      (∀ Γ c fs, r = .exn Γ c fs → ∀ cls d G' H' σ', Ex G G' → SG K T [] G0 H0 G' H' σ' Γ → RepX K T G' cls d c fs → W cls d σ' H') → evWhile c.ev b.ev n Γ = r →
      tWhile (c.te W) (b.ts W) D σ H := by
    intro r hb hn hret hx hr
    refine ⟨fun m σ H => ∃ G' Γ, SG K T [] G0 H0 G' H σ Γ ∧ Ex G G' ∧ evWhile c.ev b.ev m Γ = r, ⟨n, G, Γ, s, Ex.refl _, hr⟩, fun m σ H ⟨G1, Γ1, s1, e1, hv⟩ => ?_⟩
    cases m with
    | zero => exact absurd hv.symm hb
    | succ m =>
      unfold evWhile at hv
      have hc := c.ok W [] G0 H0 G1 H σ Γ1 s1
      cases hcv : c.ev Γ1 with
      | bad => rw [hcv] at hv; exact absurd hv.symm hb
      | exn cc fs =>
        rw [hcv] at hv hc
        exact hc (fun cls d G' H' w q => hx Γ1 cc fs hv.symm cls d G' H' σ (e1.trans w.g) (s1.grow w) q) _
      | ok x =>
        rw [hcv] at hv hc
        refine hc _ fun v G' H' w q => ?_
        subst q
        have s2 := s1.grow w
        have e2 := e1.trans w.g
        cases v with
        | false =>
          simp at hv
          show D.nx σ H'
          exact hn Γ1 hv.symm G' H' σ e2 s2
        | true =>
          simp only [Rs.st_ok, if_true] at hv
          show ∃ N : L2.St → Hp → Prop, _
          refine ⟨fun σ' H' => ∃ G' Γ, SG K T [] G0 H0 G' H' σ' Γ ∧ Ex G G' ∧ evWhile c.ev b.ev m Γ = r, fun σ' H' hN => ⟨m, by omega, hN⟩, ?_⟩
          have hbody := b.ok W { D with nx := fun σ' H' => ∃ G' Γ, SG K T [] G0 H0 G' H' σ' Γ ∧ Ex G G' ∧ evWhile c.ev b.ev m Γ = r, ct := fun σ' H' => ∃ G' Γ, SG K T [] G0 H0 G' H' σ' Γ ∧ Ex G G' ∧ evWhile c.ev b.ev m Γ = r, bk := D.nx } G0 H0 G' H' σ Γ1 s2
          cases hbv : b.ev Γ1 with
          | bad => simp [hbv] at hv; exact absurd hv.symm hb
          | nx Γ3 =>
            simp [hbv] at hv
            rw [hbv] at hbody
            exact hbody fun G' H'' σ' x1 x2 => ⟨G', Γ3, x2, e2.trans x1, hv⟩
          | ct Γ3 =>
            simp [hbv] at hv
            rw [hbv] at hbody
            exact hbody fun G' H'' σ' x1 x2 => ⟨G', Γ3, x2, e2.trans x1, hv⟩
          | bk Γ3 =>
            simp [hbv] at hv
            rw [hbv] at hbody
            exact hbody fun G' H'' σ' x1 x2 => hn Γ3 hv.symm G' H'' σ' (e2.trans x1) x2
          | rt d =>
            simp [hbv] at hv
            rw [hbv] at hbody
            exact hbody fun v G' H'' x1 x2 => hret d hv.symm v G' H'' x1 x2
          | exn Γ3 cc fs =>
            simp [hbv] at hv
            rw [hbv] at hbody
            exact hbody fun cls d G' H'' σ' x1 x2 x3 => hx Γ3 cc fs hv.symm cls d G' H'' σ' (e2.trans x1) x2 x3
  cases hrr : evWhile c.ev b.ev n Γ with
  | bad => trivial
  | nx Γ' => exact fun q => main _ (by simp) (fun Γ h => by cases h; exact q) (fun d h => by cases h) (fun Γ c fs h => by cases h) hrr
  | bk Γ' => exact absurd hrr (nbk_while _ _ _ _ _).1
  | ct Γ' => exact absurd hrr (nbk_while _ _ _ _ _).2
  | rt d => exact fun q => main _ (by simp) (fun Γ h => by cases h) (fun d h => by cases h; exact q) (fun Γ c fs h => by cases h) hrr
  | exn Γ' c fs => exact fun q => main _ (by simp) (fun Γ h => by cases h) (fun d h => by cases h) (fun Γ c fs h => by cases h; exact q) hrr⟩

/-! ### defs -/
def runF (b : CS K T) (n : Nat) (ds : List Dat) : Rs Dat := match b.ev (ds.map Slot.d ++ List.replicate (n - ds.length) Slot.un) with
  | .rt d => .ok d
  | .nx _ => .ok .non
  | .exn _ c fs => .exn c fs
  | _ => .bad
def spF (K : PySem.W.Frag) (T : Nat → Addr) (m : Nat) (F : List Dat → Rs Dat) : Sp := fun vs H Q E => vs.length = m ∧ ∃ G ds, Ex G H ∧ RepL K T G vs ds ∧ (∃ r, F ds = r ∧ match r with
    | .ok d => ∀ v G' H', Grow G H G' H' → Rep K T G' v d → Q v H'
    | .exn c fs => ∀ cls d G' H', Grow G H G' H' → RepX K T G' cls d c fs → E cls d H'
    | .bad => False)
theorem body_ok (b : CS K T) {N : List Str} {m : Nat} {vs : List V} {H : Hp} {Q : VK} {E : XK} (h : spF K T m (runF b N.length) vs H Q E) :
    b.ts (fun cls d _ H => E cls d H) { nx := fun _ H' => Q .non H', rt := Q } (L2.start N vs) H := by
  obtain ⟨hm, G, ds, e, r, rr, hr, q⟩ := h
  have s : SG K T [] G H G H (L2.start N vs) (ds.map Slot.d ++ List.replicate (N.length - ds.length) Slot.un) := by
    unfold L2.start
    rw [r.length]
    exact SG.start e r _
  have o := b.ok (fun cls d _ H => E cls d H) { nx := fun _ H' => Q .non H', rt := Q } G H G H _ _ s
  unfold runF at hr
  cases hb : b.ev (ds.map Slot.d ++ List.replicate (N.length - ds.length) Slot.un) with
  | rt d =>
    rw [hb] at o hr
    subst hr
    exact o q
  | nx Γ =>
    rw [hb] at o hr
    subst hr
    exact o fun G' H' σ' _ s' => q .non G' H' s'.fin .non
  | exn Γ c fs =>
    rw [hb] at o hr
    subst hr
    exact o fun cls d G' H' σ' _ s' x => q cls d G' H' s'.fin x
  | bk Γ => rw [hb] at hr; subst hr; exact q.elim
  | ct Γ => rw [hb] at hr; subst hr; exact q.elim
  | bad => rw [hb] at hr; subst hr; exact q.elim
/-- as Fun.okX, whatever the way of exceptions -/
theorem okC {CX : CXT} {P : Program} {w : World} {mg : Str → Option Value} {base : Heap} {x qual : Str} {st : Stmt} {f : Addr} {fd : FuncData} {N ps : List Str} {k : Nat} {sp : Sp} (F : Fun K x qual st f fd) (S : FnScope N ps (defScope st)) (len : ∀ vs H Q E, sp vs H Q E → vs.length = ps.length)
    (hbody : ∀ (cdv : Value) (A : Around) (outer : List Env) (s : Shared) (H : Hp) (vs : List V) (Q : VK) (E : XK), Room k (A.deeper (PyProof.Rows.envOfC qual (defScope st) s.heap.objs.size f cdv)) → sp vs H Q E →
      ∃ t, PSs (cxOf CX P w K mg base N qual (defScope st) f cdv A outer s H E) (defBody st) t ∧ t { nx := fun _ H' => Q .non H', rt := Q } (L2.start N vs) H) : FnOk P w K mg base CX (k + 1) f fd ps sp := by
  obtain ⟨oc, od, kV, doc, pm, an, cdv, ct, osl, rfl, lk, hcd⟩ := F.ex
  exact fn_of lk hcd S len fun A outer s H vs Q E hr hsp => hbody cdv A outer s H vs Q E hr hsp
theorem ok_fn {P : Program} {w : World} {mg : Str → Option Value} {base : Heap} {x qual : Str} {st : Stmt} {f : Addr} {fd : FuncData} {N ps : List Str} {k : Nat} (F : Fun K x qual st f fd) (S : FnScope N ps (defScope st)) (b : CS K T)
    (h : ∀ (cdv : Value) (A : Around) (outer : List Env) (s : Shared) (H : Hp) (E : XK), Room k (A.deeper (PyProof.Rows.envOfC qual (defScope st) s.heap.objs.size f cdv)) →
      PSs (cxOf (L2N.CX P w) P w K mg base N qual (defScope st) f cdv A outer s H E) (defBody st) (b.ts fun cls d _ H => E cls d H)) :
    FnOk P w K mg base (L2N.CX P w) (k + 1) f fd ps (spF K T ps.length (runF b N.length)) :=
  okC F S (fun vs H Q E h => h.1) fun cdv A outer s H vs Q E hr hsp => ⟨_, h cdv A outer s H E hr, body_ok b hsp⟩
/-- a call of a def -/
def CE.fn (m : Nat) (F : List Dat → Rs Dat) (a : CA K T) : CE K T := ⟨fun W => tCallS (spF K T m F) (WE W) (a.te W), fun Γ => (a.ev Γ).bind fun ds => if ds.length = m then F ds else .bad, fun W fx G0 H0 G H σ Γ s =>
  (a.ok W fx G0 H0 G H σ Γ s).bind fun v d G1 H1 w1 r1 _ => by
    split
    · next hl =>
      have hv : v.length = m := r1.length.trans hl
      show Hd K T W G1 H1 σ (Rep K T) (F d) fun Q => spF K T m F v H1 Q (WE W σ)
      cases hF : F d with
      | bad => trivial
      | ok x => exact fun Q q => ⟨hv, G1, d, w1.gh, r1, _, hF, fun v' G' H' w r => q v' G' H' w r⟩
      | exn c fs => exact fun w Q => ⟨hv, G1, d, w1.gh, r1, _, hF, fun cls d' G' H' w' r => w cls d' G' H' w' r⟩
    · trivial⟩
end
end Cz

set_option Elab.async false
set_option linter.all false
set_option maxRecDepth 100000
set_option maxHeartbeats 2000000
/-! Comprehensions, what is walked. -/
namespace Cz
open PySem L2 Evl

def rm (H : Hp) (a : Addr) : Hp := fun b => if b = a then none else H b
theorem rm_ne {H : Hp} {a b : Addr} (h : b ≠ a) : rm H a b = H b := if_neg h
theorem rm_same {H : Hp} {a : Addr} : rm H a a = none := if_pos rfl
theorem upd_rm {H : Hp} {a : Addr} {o : HO} (h : H a = some o) : upd (rm H a) a o = H := by
  funext b
  by_cases e : b = a
  · subst e; rw [upd_same, h]
  · rw [upd_ne e, rm_ne e]
theorem rm_upd {H : Hp} {a : Addr} {o : HO} (h : H a = none) : rm (upd H a o) a = H := by
  funext b
  by_cases e : b = a
  · subst e; rw [rm_same, h]
  · rw [rm_ne e, upd_ne e]
section
variable {K : PySem.W.Frag} {T : Nat → Addr} {fx : List Addr} {G0 H0 G G' H H' : Hp} {σ : L2.St} {Γ : Gam} {D : Addr} {o : HO}
theorem Grow.minus (w : Grow G H G' H') (g : G D = none) (h : H D ≠ none) : Grow G (rm H D) G' (rm H' D) := by
  have g' := w.free g h
  have nD : ∀ {X : Hp} {a : Addr} {u : HO}, X D = none → X a = some u → a ≠ D := fun n e z => by subst z; rw [n] at e; cases e
  refine ⟨w.g, fun a u e => ?_, fun a u e => ?_, fun a u e => ?_⟩
  · rw [rm_ne (nD g' e)]; exact w.gh a u e
  · have q := nD rm_same e
    rw [rm_ne q] at e ⊢
    exact w.h a u e
  · rcases w.nw a u e with z | z
    · exact .inl z
    · right
      rw [rm_ne (nD g' e)]; exact z
theorem SG.add (s : SG K T fx G0 H0 G (rm H D) σ Γ) (h : H D = some o) : SG K T (D :: fx) G0 H0 G H σ Γ := by
  have nD : ∀ {X : Hp} {a : Addr} {u : HO}, X D = none → X a = some u → a ≠ D := fun n e z => by subst z; rw [n] at e; cases e
  have gD : G D = none := fresh_back s.gh rm_same
  have hD : H0 D = none := fresh_back s.h rm_same
  obtain ⟨fp, f1, f2, f3, f4⟩ := s.own
  have nf : ∀ i a, a ∈ fp i → a ≠ D := fun i a m z => by subst z; exact (f2 i a m).2.1 rm_same
  refine ⟨s.len, fun a u e => ?_, s.g, fun a u e => ?_, s.nw, ⟨fp, fun i o' t h1 h2 => (f1 i o' t h1 h2).mono (Ex.refl _) fun a m => (rm_ne (nf i a m)).symm, fun i a m => ?_, f3, f4⟩, fun a m => ?_⟩
  · have := s.gh a u e
    rwa [rm_ne (nD gD e)] at this
  · have := s.h a u e
    rwa [rm_ne (nD hD e)] at this
  · obtain ⟨y1, y2, y3, y4⟩ := f2 i a m
    rw [rm_ne (nf i a m)] at y2
    exact ⟨y1, y2, y3, by simp [nf i a m, y4]⟩
  · rcases List.mem_cons.mp m with z | z
    · subst z; exact ⟨gD, by rw [h]; simp, hD⟩
    · obtain ⟨y1, y2, y3⟩ := s.fxs a z
      rw [rm_ne (fun q => by subst q; exact y2 rm_same)] at y2
      exact ⟨y1, y2, y3⟩
def wipeG (Γ : Gam) : List Nat → Gam
  | [] => Γ
  | v :: vs => (wipeG Γ vs).set v .un
theorem SG.wipe (s : SG K T fx G0 H0 G H σ Γ) : ∀ vs : List Nat, SG K T fx G0 H0 G H (L2.wipe σ vs) (wipeG Γ vs)
  | [] => s
  | v :: vs => (SG.wipe s vs).setU none
theorem wipe_get {σ : L2.St} : ∀ {vs : List Nat} {i : Nat}, (L2.wipe σ vs)[i]? = if i ∈ vs ∧ i < σ.length then some none else σ[i]?
  | [], i => by simp [L2.wipe]
  | v :: vs, i => by
    show ((L2.wipe σ vs).set v none)[i]? = _
    rw [List.getElem?_set]
    by_cases h : v = i
    · subst h
      simp [L2.wipe_length]
      by_cases hl : v < σ.length
      · simp [hl]
      · simp [hl]
    · rw [if_neg h, wipe_get]
      have : i ≠ v := fun e => h e.symm
      simp [this]
theorem wipe_keep {σ σ' : L2.St} {sl vs : List Nat} (k : Kps sl (L2.wipe σ vs) σ') (h : ∀ i ∈ sl, i ∈ vs) : L2.wipe σ' vs = L2.wipe σ vs := by
  have hl : σ'.length = σ.length := by rw [k.1, L2.wipe_length]
  refine List.ext_getElem? fun i => ?_
  rw [wipe_get, wipe_get, hl]
  by_cases hi : i ∈ vs
  · by_cases hlt : i < σ.length
    · simp [hi, hlt]
    · have e1 : σ'[i]? = none := List.getElem?_eq_none (by omega)
      have e2 : σ[i]? = none := List.getElem?_eq_none (by omega)
      simp [hi, hlt, e1, e2]
  · have := k.2 i fun m => hi (h i m)
    rw [wipe_get] at this
    simp [hi] at this ⊢
    exact this
end

section
variable {K : PySem.W.Frag} {T : Nat → Addr}
abbrev W0 : WX := fun _ _ _ _ => False
def evLc (g : Dat → Gam → Option Gam) (t : Gam → Rs Bool) (e : Gam → Rs Dat) (Γ : Gam) : List Dat → Rs (List Dat)
  | [] => .ok []
  | d :: r => match g d Γ with
    | none => .bad
    | some Γ1 => match t Γ1 with
      | .ok true => (match e Γ1 with
        | .ok y => (evLc g t e Γ r).bind fun ys => .ok (y :: ys)
        | _ => .bad)
      | .ok false => evLc g t e Γ r
      | _ => .bad
theorem evLc_exn {g : Dat → Gam → Option Gam} {t : Gam → Rs Bool} {e : Gam → Rs Dat} {Γ : Gam} : ∀ (l : List Dat) (c : Nat) (fs : List (Str × Dat)), evLc g t e Γ l ≠ .exn c fs
  | [], c, fs => by intro h; cases h
  | d :: r, c, fs => by
    intro h
    unfold evLc at h
    generalize g d Γ = o at h
    cases o with
    | none => cases h
    | some Γ1 =>
      dsimp only at h
      generalize t Γ1 = z at h
      cases z with
      | bad => cases h
      | exn _ _ => cases h
      | ok b =>
        cases b with
        | false => exact evLc_exn r c fs h
        | true =>
          dsimp only at h
          generalize e Γ1 = y at h
          cases y with
          | bad => cases h
          | exn _ _ => cases h
          | ok y =>
            dsimp only at h
            cases q : evLc g t e Γ r with
            | ok ys => rw [q] at h; cases h
            | exn c fs => exact evLc_exn r c fs q
            | bad => rw [q] at h; cases h
theorem evLc_len {g : Dat → Gam → Option Gam} {t : Gam → Rs Bool} {e : Gam → Rs Dat} {Γ : Gam} : ∀ (l ys : List Dat), evLc g t e Γ l = .ok ys → ys.length ≤ l.length
  | [], ys, h => by cases h; simp
  | d :: r, ys, h => by
    unfold evLc at h
    generalize g d Γ = o at h
    cases o with
    | none => cases h
    | some Γ1 =>
      dsimp only at h
      generalize t Γ1 = z at h
      cases z with
      | bad => cases h
      | exn _ _ => cases h
      | ok b =>
        cases b with
        | false => have := evLc_len r ys h; simp; omega
        | true =>
          dsimp only at h
          generalize e Γ1 = y at h
          cases y with
          | bad => cases h
          | exn _ _ => cases h
          | ok y =>
            dsimp only at h
            cases q : evLc g t e Γ r with
            | ok zs => rw [q] at h; cases h; have := evLc_len r zs q; simp; omega
            | exn c fs => rw [q] at h; cases h
            | bad => rw [q] at h; cases h
def CO.lc (i : CI K T) (g : CG K T) (t : CT K T) (e : CE K T) : CO K T := ⟨fun W => tLc (i.te W) g.g (t.te W0) (e.te W0) g.sl,
  fun Γ => (i.ev Γ).bind fun ds => if ds.length ≤ lim then evLc g.ev t.ev e.ev (wipeG Γ g.sl) ds else .bad, fun W fx G0 H0 G H σ Γ s => by
  have hi := i.ok W fx G0 H0 G H σ Γ s
  cases hie : i.ev Γ with
  | bad => trivial
  | exn c fs => rw [hie] at hi; exact fun w Q => hi w _
  | ok ds =>
    rw [hie] at hi
    show match (if ds.length ≤ lim then evLc g.ev t.ev e.ev (wipeG Γ g.sl) ds else Rs.bad) with | .ok d => _ | .exn c fs => _ | .bad => _
    split
    · next zs hz =>
      split at hz
      · next hlim =>
        intro Q q
        refine hi _ fun J G1 H1 w1 hJ => fun D hD => ?_
        have s1 := s.grow w1
        have gD1 : G1 D = none := fresh_back w1.gh hD
        refine ⟨fun j m H' => j + m = ds.length ∧ ∃ G' ws acc, H' D = some (.lst ws) ∧ RepL K T G' ws acc ∧ Grow G1 H1 G' (rm H' D) ∧ acc.length ≤ j ∧ ∃ rest, evLc g.ev t.ev e.ev (wipeG Γ g.sl) (ds.drop j) = .ok rest ∧ acc ++ rest = zs,
          ⟨ds.length, by omega, G1, [], [], upd_same, .nil, by rw [rm_upd hD]; exact Grow.refl w1.gh, by simp, zs, by simpa using hz, by simp⟩, fun j m H' ⟨hjm, G', ws, acc, eD, rw_, w, hacc, rest, hr, ha⟩ => ?_⟩
        have gD : G' D = none := fresh_back w.gh rm_same
        have gh' : Ex G' H' := fun a u x => by
          have z := w.gh a u x
          rwa [rm_ne (fun y => by subst y; rw [gD] at x; cases x)] at z
        have s2 : SG K T (D :: fx) G0 H0 G' H' σ Γ := (s1.grow w).add eD
        obtain ⟨hgo, hstop⟩ := hJ G' H' w.g gh'
        by_cases hj : j < ds.length
        · right
          have hd : ds[j]? = some ds[j] := List.getElem?_eq_getElem hj
          obtain ⟨go, yl⟩ := hgo j _ hd
          rw [List.drop_eq_getElem_cons hj] at hr
          unfold evLc at hr
          refine ⟨go, fun H'' => ∃ G' ws acc, H'' D = some (.lst ws) ∧ RepL K T G' ws acc ∧ Grow G1 H1 G' (rm H'' D) ∧ acc.length ≤ j + 1 ∧ ∃ rest, evLc g.ev t.ev e.ev (wipeG Γ g.sl) (ds.drop (j + 1)) = .ok rest ∧ acc ++ rest = zs, fun H'' hN => ⟨m - 1, by omega, by omega, hN⟩, fun x H2 hy => ?_⟩
          obtain ⟨G2, wy, rx⟩ := yl x H2 hy
          have s3 := (s2.grow wy).wipe g.sl
          cases hg : g.ev ds[j] (wipeG Γ g.sl) with
          | none => rw [hg] at hr; cases hr
          | some Γ1 =>
            rw [hg] at hr
            refine g.ok (D :: fx) G0 H0 G2 H2 _ _ Γ1 x ds[j] s3 rx hg _ fun σ2 s4 k4 => ⟨wipe_keep k4 (fun _ h => h), ?_⟩
            have ht := t.ok W0 (D :: fx) G0 H0 G2 H2 σ2 Γ1 s4
            cases htv : t.ev Γ1 with
            | bad => simp [htv] at hr
            | exn c fs => simp [htv] at hr
            | ok b =>
              rw [htv] at ht
              refine ht _ fun b' G3 H3 w3 eb => ?_
              subst eb
              cases b' with
              | false =>
                simp [htv] at hr
                show ∃ G' ws acc, _
                have wt := wy.trans w3
                refine ⟨G3, ws, acc, wt.h _ _ eD, rw_.mono wt.g, w.trans (wt.minus gD (by rw [eD]; simp)), by omega, rest, hr, ha⟩
              | true =>
                simp only [htv] at hr
                show e.te W0 σ2 H3 _
                have he := e.ok W0 (D :: fx) G0 H0 G3 H3 σ2 Γ1 (s4.grow w3)
                cases hev : e.ev Γ1 with
                | bad => simp [hev] at hr
                | exn c fs => simp [hev] at hr
                | ok y =>
                  rw [hev] at he
                  simp only [hev] at hr
                  refine he _ fun v G4 H4 w4 r4 => ?_
                  have wt := (wy.trans w3).trans w4
                  have e4 : H4 D = some (.lst ws) := wt.h _ _ eD
                  have g4 : G4 D = none := wt.free gD (by rw [eD]; simp)
                  refine ⟨ws, e4, sz_lt (by rw [rw_.length]; unfold lim at hlim; omega), ?_⟩
                  cases hrest : evLc g.ev t.ev e.ev (wipeG Γ g.sl) (ds.drop (j + 1)) with
                  | bad => rw [hrest] at hr; cases hr
                  | exn c fs => rw [hrest] at hr; cases hr
                  | ok ys =>
                    rw [hrest] at hr
                    cases hr
                    refine ⟨G4, ws ++ [v], acc ++ [y], upd_same, (rw_.mono wt.g).append (RepL.one r4), ?_, by simp; omega, ys, rfl, by simp [ha]⟩
                    have z := w.trans (wt.minus gD (by rw [eD]; simp))
                    have eq : rm (upd H4 D (.lst (ws ++ [v]))) D = rm H4 D := by
                      funext b
                      by_cases q : b = D
                      · subst q; rw [rm_same, rm_same]
                      · rw [rm_ne q, rm_ne q, upd_ne q]
                    rw [eq]
                    exact z
        · left
          rw [List.drop_eq_nil_of_le (by omega)] at hr
          cases hr
          refine ⟨hstop j (by omega), ?_⟩
          have z := q D ws G' (rm H' D) (w1.trans w) rm_same
          rw [upd_rm eD] at z
          refine z ?_
          rw [List.append_nil] at ha
          rw [← ha]
          exact rw_
      · cases hz
    · next c fs hz =>
      split at hz
      · exact absurd hz (evLc_exn _ _ _)
      · cases hz
    · trivial⟩

/-! ### what is walked -/
def CI.list (a : CE K T) : CI K T := ⟨fun W => iList K (a.te W), fun Γ => (a.ev Γ).bind fun d => match d with | .lst ds => .ok ds | _ => .bad, fun W fx G0 H0 G H σ Γ s =>
  (a.ok W fx G0 H0 G H σ Γ s).bind fun v d G1 H1 w1 r1 _ => by
    cases r1 with
    | @lst p vs ds h r => exact fun R q => ⟨p, rfl, ⟨vs, ex_l w1.gh h⟩, q _ G1 H1 (Grow.refl w1.gh) fun G' H' e1 e2 => ⟨fun i d hd => by
        obtain ⟨x, hx, rx⟩ := r.get' hd
        have hh := ex_l (e1.trans e2) h
        refine ⟨⟨vs, x, hh, hx⟩, fun y H'' hy => ?_⟩
        obtain ⟨rfl, hy⟩ := hy
        have := hy vs hh
        rw [hx] at this
        cases this
        exact ⟨G', Grow.refl e2, rx.mono e1⟩, fun i hi => ⟨vs, ex_l (e1.trans e2) h, by rw [r.length]; exact hi⟩⟩⟩
    | _ => trivial⟩
def CI.tuple (a : CE K T) : CI K T := ⟨fun W => iTup K (a.te W), fun Γ => (a.ev Γ).bind fun d => match d with | .tup ds => .ok ds | _ => .bad, fun W fx G0 H0 G H σ Γ s =>
  (a.ok W fx G0 H0 G H σ Γ s).bind fun v d G1 H1 w1 r1 _ => by
    cases r1 with
    | @tup p vs ds h r => exact fun R q => ⟨p, rfl, ⟨vs, ex_t w1.gh h⟩, q _ G1 H1 (Grow.refl w1.gh) fun G' H' e1 e2 => ⟨fun i d hd => by
        obtain ⟨x, hx, rx⟩ := r.get' hd
        have hh := ex_t (e1.trans e2) h
        refine ⟨⟨vs, x, hh, hx⟩, fun y H'' hy => ?_⟩
        obtain ⟨rfl, hy⟩ := hy
        have := hy vs hh
        rw [hx] at this
        cases this
        exact ⟨G', Grow.refl e2, rx.mono e1⟩, fun i hi => ⟨vs, ex_t (e1.trans e2) h, by rw [r.length]; exact hi⟩⟩⟩
    | _ => trivial⟩
/-- the signs of a text -/
def signs (x : Str) : List Dat := x.cps.toList.map fun c => .str ⟨#[c]⟩
def CI.str (a : CE K T) : CI K T := ⟨fun W => iStr (a.te W), fun Γ => (a.ev Γ).bind fun d => match d with | .str x => .ok (signs x) | _ => .bad, fun W fx G0 H0 G H σ Γ s =>
  (a.ok W fx G0 H0 G H σ Γ s).bind fun v d G1 H1 w1 r1 _ => by
    cases r1 with
    | str x => exact fun R q => ⟨x, rfl, q _ G1 H1 (Grow.refl w1.gh) fun G' H' e1 e2 => ⟨fun i d hd => by
        have hi : i < x.cps.size := by
          have := (List.getElem?_eq_some_iff.mp hd).1
          simpa [signs] using this
        refine ⟨hi, fun y H'' hy => ?_⟩
        obtain ⟨rfl, c, hc, rfl⟩ := hy
        have : d = .str ⟨#[c]⟩ := by
          unfold signs at hd
          rw [List.getElem?_map, Array.getElem?_toList, hc] at hd
          exact (Option.some.inj hd).symm
        subst this
        exact ⟨G', Grow.refl e2, .str _⟩, fun i hi => by
          show x.cps.size ≤ i
          simpa [signs] using hi⟩⟩
    | _ => trivial⟩
/-- range(n); range(a, b) -/
def rangeD (lo : Int) (n : Nat) : List Dat := (List.range n).map fun (i : Nat) => .int (lo + (i : Int))
theorem rangeD_ok {G : Hp} (lo : Int) (n : Nat) : ItOk K T G (Itr lo n) (rangeD lo n) := fun G' H' e1 e2 => ⟨fun i d hd => by
    have hi : i < n := by
      have := (List.getElem?_eq_some_iff.mp hd).1
      simpa [rangeD] using this
    refine ⟨hi, fun y H'' hy => ?_⟩
    obtain ⟨rfl, rfl⟩ := hy
    have : d = .int (lo + (i : Int)) := by
      unfold rangeD at hd
      rw [List.getElem?_map, List.getElem?_range hi] at hd
      exact (Option.some.inj hd).symm
    subst this
    exact ⟨G', Grow.refl e2, .int _⟩, fun i hi => by
      show n ≤ i
      simpa [rangeD] using hi⟩
def CI.range1 (a : CA K T) : CI K T := ⟨fun W => iRng1 (a.te W), fun Γ => (a.ev Γ).bind fun d => match d with | [.int n] => if -(2 ^ 62) ≤ n ∧ n < 2 ^ 62 then .ok (rangeD 0 n.toNat) else .bad | _ => .bad, fun W fx G0 H0 G H σ Γ s =>
  (a.ok W fx G0 H0 G H σ Γ s).bind fun v d G1 H1 w1 r1 _ => by
    split
    · next n _ =>
      split
      · next hn =>
        cases r1 with
        | cons h r =>
          cases h
          cases r
          exact fun R q => ⟨n, rfl, hn.1, hn.2, q _ G1 H1 (Grow.refl w1.gh) (rangeD_ok 0 n.toNat)⟩
      · trivial
    · trivial⟩
def CI.range2 (a : CA K T) : CI K T := ⟨fun W => iRng2 (a.te W), fun Γ => (a.ev Γ).bind fun d => match d with | [.int n, .int m] => if (-(2 ^ 62) ≤ n ∧ n < 2 ^ 62 ∧ -(2 ^ 62) ≤ m ∧ m < 2 ^ 62) then .ok (rangeD n (m - n).toNat) else .bad | _ => .bad, fun W fx G0 H0 G H σ Γ s =>
  (a.ok W fx G0 H0 G H σ Γ s).bind fun v d G1 H1 w1 r1 _ => by
    split
    · next n m _ =>
      split
      · next hn =>
        cases r1 with
        | cons h r =>
          cases h
          cases r with
          | cons h r =>
            cases h
            cases r
            exact fun R q => ⟨n, m, rfl, hn, q _ G1 H1 (Grow.refl w1.gh) (rangeD_ok n _)⟩
      · trivial
    · trivial⟩
end
end Cz

set_option Elab.async false
set_option linter.all false
set_option maxRecDepth 100000
set_option maxHeartbeats 2000000
/-! Operators and built-ins on data. -/
namespace Cz
open PySem L2 Evl

section
variable {K : PySem.W.Frag} {T : Nat → Addr}

/-! ### ints -/
def int2 (g : Int → Int → Dat) : Dat → Dat → Rs Dat
  | .int i, .int j => .ok (g i j)
  | _, _ => .bad
def int2c (c : Int → Int → Bool) (g : Int → Int → Dat) : Dat → Dat → Rs Dat
  | .int i, .int j => if c i j = true then .ok (g i j) else .bad
  | _, _ => .bad
def Op2.ints (gv : Int → Int → V) (g : Int → Int → Dat) (h : ∀ G i j, Rep K T G (gv i j) (g i j)) : Op2 K T := ⟨rI0 gv, int2 g, fun W G H σ x y a b e ra rb => by
  cases ra with
  | int i =>
    cases rb with
    | int j => exact Hd.ret e (h G i j) fun Q q => ⟨i, j, rfl, rfl, q⟩
    | _ => trivial
  | _ => trivial⟩
def Op2.intsC (C : Int → Int → Prop) (c : Int → Int → Bool) (hc : ∀ i j, c i j = true → C i j) (gv : Int → Int → V) (g : Int → Int → Dat) (h : ∀ G i j, Rep K T G (gv i j) (g i j)) : Op2 K T := ⟨rI C gv, int2c c g, fun W G H σ x y a b e ra rb => by
  cases ra with
  | int i =>
    cases rb with
    | int j =>
      show Hd K T W G H σ (Rep K T) (if c i j = true then .ok (g i j) else .bad) _
      split
      · next hh => exact Hd.ret e (h G i j) fun Q q => ⟨i, j, rfl, rfl, hc i j hh, q⟩
      · trivial
    | _ => trivial
  | _ => trivial⟩
abbrev oAdd : Op2 K T := Op2.ints (fun i j => .int (i + j)) (fun i j => .int (i + j)) fun _ _ _ => .int _
abbrev oSub : Op2 K T := Op2.ints (fun i j => .int (i - j)) (fun i j => .int (i - j)) fun _ _ _ => .int _
abbrev oMul : Op2 K T := Op2.intsC CMul (fun i j => decide ((-(2 ^ 64) < i ∧ i < 2 ^ 64) ∨ (-(2 ^ 64) < j ∧ j < 2 ^ 64))) (fun _ _ h => by unfold CMul; exact of_decide_eq_true h) (fun i j => .int (i * j)) (fun i j => .int (i * j)) fun _ _ _ => .int _
abbrev oDiv : Op2 K T := Op2.intsC CDiv (fun i j => decide (0 < j ∧ j < 1073741824)) (fun _ _ h => by simpa [CDiv] using h) (fun i j => .int (i / j)) (fun i j => .int (i / j)) fun _ _ _ => .int _
abbrev oMod : Op2 K T := Op2.intsC (fun _ j => 0 < j) (fun _ j => decide (0 < j)) (fun _ _ h => by simpa using h) (fun i j => .int (i % j)) (fun i j => .int (i % j)) fun _ _ _ => .int _
abbrev oPow : Op2 K T := Op2.intsC CPow (fun i j => decide (0 ≤ j ∧ j ≤ 1000000 ∧ i.natAbs < 2 ^ 64)) (fun _ _ h => by simpa [CPow] using h) (fun i j => .int (i ^ j.toNat)) (fun i j => .int (i ^ j.toNat)) fun _ _ _ => .int _
abbrev oLt : Op2 K T := Op2.ints (fun i j => .bl (decide (i < j))) (fun i j => .bl (decide (i < j))) fun _ _ _ => .bl _
abbrev oLe : Op2 K T := Op2.ints (fun i j => .bl (decide (i ≤ j))) (fun i j => .bl (decide (i ≤ j))) fun _ _ _ => .bl _
abbrev oGt : Op2 K T := Op2.ints (fun i j => .bl (decide (j < i))) (fun i j => .bl (decide (j < i))) fun _ _ _ => .bl _
abbrev oGe : Op2 K T := Op2.ints (fun i j => .bl (decide (j ≤ i))) (fun i j => .bl (decide (j ≤ i))) fun _ _ _ => .bl _
def oNeg : Op1 K T := ⟨rU fun i => .int (-i), fun a => match a with | .int i => .ok (.int (-i)) | _ => .bad, fun W G H σ x a e ra => by
  cases ra with
  | int i => exact Hd.ret e (.int _) fun Q q => ⟨i, rfl, q⟩
  | _ => trivial⟩

/-! ### == of scalars -/
def eqS : Dat → Dat → Rs Bool
  | .int i, .int j => .ok (decide (i = j))
  | .str i, .str j => .ok (decide (i = j))
  | .bl i, .bl j => .ok (decide (i = j))
  | .non, .non => .ok true
  | .non, .int _ => .ok false | .int _, .non => .ok false
  | .non, .str _ => .ok false | .str _, .non => .ok false
  | .non, .bl _ => .ok false | .bl _, .non => .ok false
  | .int _, .str _ => .ok false | .str _, .int _ => .ok false
  | .bl _, .str _ => .ok false | .str _, .bl _ => .ok false
  | _, _ => .bad
theorem eqS_ok {G : Hp} {x y : V} {a b : Dat} {k : Bool} (ra : Rep K T G x a) (rb : Rep K T G y b) (h : eqS a b = .ok k) : scal x y = true ∧ decide (x = y) = k := by
  cases ra <;> cases rb <;> first
    | (cases h; done)
    | (simp [eqS] at h; subst h; simp [scal])
def oEq : Op2 K T := ⟨rEq, fun a b => (eqS a b).bind fun k => .ok (.bl k), fun W G H σ x y a b e ra rb => by
  cases h : eqS a b with
  | ok k =>
    obtain ⟨h1, h2⟩ := eqS_ok ra rb h
    exact Hd.ret e (.bl k) fun Q q => ⟨h1, by rw [h2]; exact q⟩
  | bad => trivial
  | exn c fs => exact absurd h (by cases a <;> cases b <;> simp [eqS])⟩
def oNe : Op2 K T := ⟨rNe, fun a b => (eqS a b).bind fun k => .ok (.bl (!k)), fun W G H σ x y a b e ra rb => by
  cases h : eqS a b with
  | ok k =>
    obtain ⟨h1, h2⟩ := eqS_ok ra rb h
    exact Hd.ret e (.bl (!k)) fun Q q => ⟨h1, by rw [h2]; exact q⟩
  | bad => trivial
  | exn c fs => exact absurd h (by cases a <;> cases b <;> simp [eqS])⟩

/-! ### == of data -/
mutual
def Dat.py : Dat → Option PyData
  | .non => some .none
  | .bl b => some (.bool b)
  | .int i => some (.int i)
  | .str x => some (.str x)
  | .tup ds => (pyL ds).map .tuple
  | .lst ds => (pyL ds).map .list
  | _ => none
def pyL : List Dat → Option (List PyData)
  | [] => some []
  | d :: r => match d.py, pyL r with
    | some p, some q => some (p :: q)
    | _, _ => none
end
mutual
theorem Rep.dp {G : Hp} : ∀ {v : V} {d : Dat} {p : PyData}, Rep K T G v d → d.py = some p → Dp K G v p
  | _, _, _, .non, h => by simp [Dat.py] at h; subst h; exact .non
  | _, _, _, .bl b, h => by simp [Dat.py] at h; subst h; exact .bl b
  | _, _, _, .int i, h => by simp [Dat.py] at h; subst h; exact .int i
  | _, _, _, .str x, h => by simp [Dat.py] at h; subst h; exact .str x
  | _, _, _, .tup s r, h => by
    simp only [Dat.py, Option.map_eq_some_iff] at h
    obtain ⟨q, h1, rfl⟩ := h
    exact .tup s (RepL.dp r h1)
  | _, _, _, .lst s r, h => by
    simp only [Dat.py, Option.map_eq_some_iff] at h
    obtain ⟨q, h1, rfl⟩ := h
    exact .lst s (RepL.dp r h1)
  | _, _, _, .ins _ _, h => by simp [Dat.py] at h
  | _, _, _, .dic _ _, h => by simp [Dat.py] at h
  | _, _, _, .dicN _ _, h => by simp [Dat.py] at h
  | _, _, _, .cls _, h => by simp [Dat.py] at h
  | _, _, _, .own _, h => by simp [Dat.py] at h
theorem RepL.dp {G : Hp} : ∀ {v : List V} {d : List Dat} {p : List PyData}, RepL K T G v d → pyL d = some p → DpAll K G v p
  | _, _, _, .nil, h => by simp [pyL] at h; subst h; exact .nil
  | _, _, _, .cons (d := d) (ds := ds) a r, h => by
    unfold pyL at h
    cases h1 : d.py with
    | none => simp [h1] at h
    | some p =>
      cases h2 : pyL ds with
      | none => simp [h1, h2] at h
      | some q =>
        simp [h1, h2] at h
        subst h
        exact .cons (Rep.dp a h1) (RepL.dp r h2)
end
mutual
theorem dp_ex {G H : Hp} (e : Ex G H) : ∀ {v : V} {p : PyData}, Dp K G v p → Dp K H v p
  | _, _, .non => .non
  | _, _, .bl b => .bl b
  | _, _, .int b => .int b
  | _, _, .str b => .str b
  | _, _, .lst h r => .lst (ex_l e h) (dpA_ex e r)
  | _, _, .tup h r => .tup (ex_t e h) (dpA_ex e r)
theorem dpA_ex {G H : Hp} (e : Ex G H) : ∀ {v : List V} {p : List PyData}, DpAll K G v p → DpAll K H v p
  | _, _, .nil => .nil
  | _, _, .cons h r => .cons (dp_ex e h) (dpA_ex e r)
end
def eqD (a b : Dat) : Rs Bool := match a.py, b.py with
  | some p, some q => if SeqAt.shaped p = true ∧ SeqAt.shaped q = true then .ok (PyData.eqv p q) else .bad
  | _, _ => .bad
theorem eqD_ok {G H : Hp} (e : Ex G H) {x y : V} {a b : Dat} {k : Bool} (ra : Rep K T G x a) (rb : Rep K T G y b) (h : eqD a b = .ok k) : ∃ p q, Dp K H x p ∧ Dp K H y q ∧ SeqAt.shaped p = true ∧ SeqAt.shaped q = true ∧ PyData.eqv p q = k := by
  unfold eqD at h
  cases h1 : a.py with
  | none => simp [h1] at h
  | some p =>
    cases h2 : b.py with
    | none => simp [h1, h2] at h
    | some q =>
      simp only [h1, h2] at h
      split at h
      · next hs => cases h; exact ⟨p, q, dp_ex e (ra.dp h1), dp_ex e (rb.dp h2), hs.1, hs.2, rfl⟩
      · cases h
theorem eqD_exn {a b : Dat} {c : Nat} {fs : List (Str × Dat)} : eqD a b ≠ .exn c fs := by
  unfold eqD
  split
  · split <;> simp
  · simp
def oEqD : Op2 K T := ⟨rEqD K, fun a b => (eqD a b).bind fun k => .ok (.bl k), fun W G H σ x y a b e ra rb => by
  cases h : eqD a b with
  | ok k =>
    obtain ⟨p, q, h1, h2, h3, h4, h5⟩ := eqD_ok e ra rb h
    exact Hd.ret e (.bl k) fun Q z => ⟨p, q, h1, h2, h3, h4, by rw [h5]; exact z⟩
  | bad => trivial
  | exn c fs => exact absurd h eqD_exn⟩
def oNeD : Op2 K T := ⟨rNeD K, fun a b => (eqD a b).bind fun k => .ok (.bl (!k)), fun W G H σ x y a b e ra rb => by
  cases h : eqD a b with
  | ok k =>
    obtain ⟨p, q, h1, h2, h3, h4, h5⟩ := eqD_ok e ra rb h
    exact Hd.ret e (.bl (!k)) fun Q z => ⟨p, q, h1, h2, h3, h4, by rw [h5]; exact z⟩
  | bad => trivial
  | exn c fs => exact absurd h eqD_exn⟩

/-! ### is None; is True -/
def isN (a : Dat) : Bool := match a with | .non => true | _ => false
theorem isN_ok {G : Hp} {x : V} {a : Dat} (ra : Rep K T G x a) : decide (x = .non) = isN a := by
  cases ra <;> simp [isN]
def oIsN : Op2 K T := ⟨fun x y H Q => y = .non ∧ Q (.bl (decide (x = .non))) H, fun a b => match b with | .non => .ok (.bl (isN a)) | _ => .bad, fun W G H σ x y a b e ra rb => by
  cases rb with
  | non => exact Hd.ret e (.bl (isN a)) fun Q z => ⟨rfl, by rw [isN_ok ra]; exact z⟩
  | _ => trivial⟩
def oNotN : Op2 K T := ⟨fun x y H Q => y = .non ∧ Q (.bl (!decide (x = .non))) H, fun a b => match b with | .non => .ok (.bl (!isN a)) | _ => .bad, fun W G H σ x y a b e ra rb => by
  cases rb with
  | non => exact Hd.ret e (.bl (!isN a)) fun Q z => ⟨rfl, by rw [isN_ok ra]; exact z⟩
  | _ => trivial⟩
def oIsB : Op2 K T := ⟨fun x y H Q => ∃ a b, x = .bl a ∧ y = .bl b ∧ Q (.bl (decide (a = b))) H, fun a b => match a, b with | .bl p, .bl q => .ok (.bl (decide (p = q))) | _, _ => .bad, fun W G H σ x y a b e ra rb => by
  cases ra with
  | bl p =>
    cases rb with
    | bl q => exact Hd.ret e (.bl _) fun Q z => ⟨p, q, rfl, rfl, z⟩
    | _ => trivial
  | _ => trivial⟩
def oNotB : Op2 K T := ⟨fun x y H Q => ∃ a b, x = .bl a ∧ y = .bl b ∧ Q (.bl (!decide (a = b))) H, fun a b => match a, b with | .bl p, .bl q => .ok (.bl (!decide (p = q))) | _, _ => .bad, fun W G H σ x y a b e ra rb => by
  cases ra with
  | bl p =>
    cases rb with
    | bl q => exact Hd.ret e (.bl _) fun Q z => ⟨p, q, rfl, rfl, z⟩
    | _ => trivial
  | _ => trivial⟩

/-! ### texts -/
def addS : Dat → Dat → Rs Dat
  | .str i, .str j => if i.length + j.length ≤ lim then .ok (.str (i ++ j)) else .bad
  | _, _ => .bad
def oAddS : Op2 K T := ⟨fun x y H Q => ∃ i j, x = .str i ∧ y = .str j ∧ i.length + j.length ≤ sizeLine ∧ Q (.str (i ++ j)) H, addS, fun W G H σ x y a b e ra rb => by
  cases ra with
  | str i =>
    cases rb with
    | str j =>
      show Hd K T W G H σ (Rep K T) (if i.length + j.length ≤ lim then .ok (.str (i ++ j)) else .bad) _
      split
      · next h => exact Hd.ret e (.str _) fun Q z => ⟨i, j, rfl, rfl, sz_of h, z⟩
      · trivial
    | _ => trivial
  | _ => trivial⟩
/-- one sign in a text -/
def inS : Dat → Dat → Rs Bool
  | .str i, .str j => match i.cps.toList with
    | [c] => .ok (decide (c ∈ j.cps.toList))
    | _ => .bad
  | _, _ => .bad
theorem inS_ok {G : Hp} {x y : V} {a b : Dat} {k : Bool} (ra : Rep K T G x a) (rb : Rep K T G y b) (h : inS a b = .ok k) : ∃ (c : Nat) (z : Str), x = .str ⟨#[c]⟩ ∧ y = .str z ∧ decide (c ∈ z.cps.toList) = k := by
  cases ra with
  | str i =>
    cases rb with
    | str j =>
      obtain ⟨⟨l⟩⟩ := i
      match l, h with
      | [c], h => exact ⟨c, j, rfl, rfl, Rs.ok.inj h⟩
      | [], h => exact absurd h (by intro h; cases h)
      | _ :: _ :: _, h => exact absurd h (by intro h; cases h)
    | _ => cases h
  | _ => cases h
theorem inS_exn {a b : Dat} {c : Nat} {fs : List (Str × Dat)} : inS a b ≠ .exn c fs := by
  unfold inS
  split
  · split <;> simp
  · simp
def oInS : Op2 K T := ⟨fun x y H Q => ∃ (c : Nat) (z : Str), x = .str ⟨#[c]⟩ ∧ y = .str z ∧ Q (.bl (decide (c ∈ z.cps.toList))) H, fun a b => (inS a b).bind fun k => .ok (.bl k), fun W G H σ x y a b e ra rb => by
  cases h : inS a b with
  | ok k =>
    obtain ⟨c, z, h1, h2, h3⟩ := inS_ok ra rb h
    exact Hd.ret e (.bl k) fun Q q => ⟨c, z, h1, h2, by rw [h3]; exact q⟩
  | bad => trivial
  | exn c fs => exact absurd h inS_exn⟩
def oNotInS : Op2 K T := ⟨fun x y H Q => ∃ (c : Nat) (z : Str), x = .str ⟨#[c]⟩ ∧ y = .str z ∧ Q (.bl (!decide (c ∈ z.cps.toList))) H, fun a b => (inS a b).bind fun k => .ok (.bl (!k)), fun W G H σ x y a b e ra rb => by
  cases h : inS a b with
  | ok k =>
    obtain ⟨c, z, h1, h2, h3⟩ := inS_ok ra rb h
    exact Hd.ret e (.bl (!k)) fun Q q => ⟨c, z, h1, h2, by rw [h3]; exact q⟩
  | bad => trivial
  | exn c fs => exact absurd h inS_exn⟩
/-- in a tuple or list of flat items -/
def flat? : Dat → Option V
  | .non => some .non | .bl b => some (.bl b) | .int i => some (.int i) | .str x => some (.str x)
  | _ => none
theorem flat_ok {G : Hp} {x : V} {a : Dat} {u : V} (ra : Rep K T G x a) (h : flat? a = some u) : x = u ∧ flatV x = true := by
  cases ra <;> simp [flat?] at h <;> subst h <;> exact ⟨rfl, rfl⟩
def flats? : List Dat → Option (List V)
  | [] => some []
  | d :: r => match flat? d, flats? r with
    | some v, some vs => some (v :: vs)
    | _, _ => none
theorem flats_ok {G : Hp} : ∀ {xs : List V} {as : List Dat} {us : List V}, RepL K T G xs as → flats? as = some us → xs = us ∧ xs.all flatV = true
  | _, _, _, .nil, h => by simp [flats?] at h; subst h; exact ⟨rfl, rfl⟩
  | _, _, _, .cons (d := d) (ds := ds) a r, h => by
    unfold flats? at h
    cases h1 : flat? d with
    | none => simp [h1] at h
    | some v =>
      cases h2 : flats? ds with
      | none => simp [h1, h2] at h
      | some vs =>
        simp [h1, h2] at h
        subst h
        obtain ⟨e1, e2⟩ := flat_ok a h1
        obtain ⟨e3, e4⟩ := flats_ok r h2
        subst e1 e3
        exact ⟨rfl, by rw [List.all_cons, e2, e4]; rfl⟩
def inQ : Dat → Dat → Rs Bool
  | a, .tup ds => match flat? a, flats? ds with | some u, some us => .ok (inV u us) | _, _ => .bad
  | a, .lst ds => match flat? a, flats? ds with | some u, some us => .ok (inV u us) | _, _ => .bad
  | _, _ => .bad
def oIn (neg : Bool) : Op2 K T := ⟨rIn K neg, fun a b => (inQ a b).bind fun k => .ok (.bl (if neg then !k else k)), fun W G H σ x y a b e ra rb => by
  cases rb with
  | @tup p vs ds h r =>
    cases h1 : flat? a with
    | none => simp [inQ, h1]; trivial
    | some u =>
      cases h2 : flats? ds with
      | none => simp [inQ, h1, h2]; trivial
      | some us =>
        obtain ⟨e1, e2⟩ := flat_ok ra h1
        obtain ⟨e3, e4⟩ := flats_ok r h2
        subst e1 e3
        simp only [inQ, h1, h2, Rs.bind_ok]
        exact Hd.ret e (.bl _) fun Q q => ⟨p, vs, rfl, .inr (ex_t e h), e2, e4, q⟩
  | @lst p vs ds h r =>
    cases h1 : flat? a with
    | none => simp [inQ, h1]; trivial
    | some u =>
      cases h2 : flats? ds with
      | none => simp [inQ, h1, h2]; trivial
      | some us =>
        obtain ⟨e1, e2⟩ := flat_ok ra h1
        obtain ⟨e3, e4⟩ := flats_ok r h2
        subst e1 e3
        simp only [inQ, h1, h2, Rs.bind_ok]
        exact Hd.ret e (.bl _) fun Q q => ⟨p, vs, rfl, .inl (ex_l e h), e2, e4, q⟩
  | _ => trivial⟩

/-! ### items -/
theorem ixN_lt {n : Nat} {i : Int} {j : Nat} (h : ixN n i = some j) : j < n := by
  unfold ixN at h
  split at h
  · split at h
    · simp at h; omega
    · cases h
  · split at h
    · simp at h; omega
    · cases h
theorem atI_rep {G : Hp} {vs : List V} {ds : List Dat} {i : Int} {d : Dat} (r : RepL K T G vs ds) (h : atI ds i = some d) : ∃ v, atI vs i = some v ∧ Rep K T G v d := by
  unfold atI at h ⊢
  rw [r.length]
  cases e : ixN ds.length i with
  | none => simp [e] at h
  | some j =>
    simp [e] at h ⊢
    exact r.get' h
def ixL : Dat → Dat → Rs Dat
  | .lst ds, .int i => match atI ds i with | some d => .ok d | none => .bad
  | _, _ => .bad
def oIxL : Op2 K T := ⟨rIxL K, ixL, fun W G H σ x y a b e ra rb => by
  cases ra with
  | @lst p vs ds h r =>
    cases rb with
    | int i =>
      cases ha : atI ds i with
      | none => simp [ixL, ha]; trivial
      | some d =>
        obtain ⟨v, h1, h2⟩ := atI_rep r ha
        simp only [ixL, ha]
        exact Hd.ret e h2 fun Q q => ⟨p, vs, i, v, rfl, rfl, ex_l e h, h1, q⟩
    | _ => trivial
  | _ => trivial⟩
def ixT : Dat → Dat → Rs Dat
  | .tup ds, .int i => match atI ds i with | some d => .ok d | none => .bad
  | _, _ => .bad
def oIxT : Op2 K T := ⟨rIxT K, ixT, fun W G H σ x y a b e ra rb => by
  cases ra with
  | @tup p vs ds h r =>
    cases rb with
    | int i =>
      cases ha : atI ds i with
      | none => simp [ixT, ha]; trivial
      | some d =>
        obtain ⟨v, h1, h2⟩ := atI_rep r ha
        simp only [ixT, ha]
        exact Hd.ret e h2 fun Q q => ⟨p, vs, i, v, rfl, rfl, ex_t e h, h1, q⟩
    | _ => trivial
  | _ => trivial⟩
def ixS : Dat → Dat → Rs Dat
  | .str z, .int i => match atI z.cps.toList i with | some c => if z.length ≤ lim then .ok (.str ⟨#[c]⟩) else .bad | none => .bad
  | _, _ => .bad
def oIxS : Op2 K T := ⟨rIxS, ixS, fun W G H σ x y a b e ra rb => by
  cases ra with
  | str z =>
    cases rb with
    | int i =>
      cases ha : atI z.cps.toList i with
      | none => simp [ixS, ha]; trivial
      | some c =>
        simp only [ixS, ha]
        split
        · next hl => exact Hd.ret e (.str _) fun Q q => ⟨z, i, c, rfl, rfl, sz_of hl, ha, q⟩
        · trivial
    | _ => trivial
  | _ => trivial⟩
/-! ### slices -/
def CE.slS (a : CE K T) (l u : CP K T) : CE K T := ⟨fun W => tSl rSlS (a.te W) (l.te W) (u.te W), fun Γ => (a.ev Γ).bind fun x => (l.ev Γ).bind fun lo => (u.ev Γ).bind fun hi => match x with | .str z => if z.length ≤ lim then .ok (.str (cutS z lo hi)) else .bad | _ => .bad, fun W fx G0 H0 G H σ Γ s =>
  (a.ok W fx G0 H0 G H σ Γ s).bind fun v d G1 H1 w1 r1 _ => (l.ok W fx G0 H0 G1 H1 σ Γ (s.grow w1)).bind fun o o' G2 H2 w2 r2 _ => (u.ok W fx G0 H0 G2 H2 σ Γ ((s.grow w1).grow w2)).bind fun p p' G3 H3 w3 r3 _ => by
    subst r2 r3
    cases r1 with
    | str z =>
      show Hd K T W G3 H3 σ (Rep K T) (if z.length ≤ lim then .ok (.str (cutS z o p)) else .bad) _
      split
      · next hl => exact Hd.ret w3.gh (.str _) fun Q q => ⟨z, rfl, sz_of hl, q⟩
      · trivial
    | _ => trivial⟩
def cutD (xs : List Dat) (lo hi : Option Int) : List Dat := (xs.drop (HT.sIx xs.length 0 lo)).take (HT.sIx xs.length xs.length hi - HT.sIx xs.length 0 lo)
theorem RepL.cut {G : Hp} {vs : List V} {ds : List Dat} (r : RepL K T G vs ds) (lo hi : Option Int) : RepL K T G (cutV vs lo hi) (cutD ds lo hi) := by
  unfold cutV cutD
  rw [r.length]
  exact (r.drop _).take _
def CO.slL (a : CE K T) (l u : CP K T) : CO K T := ⟨fun W => tSl (rSlL K) (a.te W) (l.te W) (u.te W), fun Γ => (a.ev Γ).bind fun x => (l.ev Γ).bind fun lo => (u.ev Γ).bind fun hi => match x with | .lst z => .ok (cutD z lo hi) | _ => .bad, fun W fx G0 H0 G H σ Γ s => by
  have h1 := a.ok W fx G0 H0 G H σ Γ s
  cases e1 : a.ev Γ with
  | bad => trivial
  | exn c fs => rw [e1] at h1; exact fun w Q => h1 w _
  | ok x =>
    rw [e1] at h1
    have h2 := fun G1 H1 (w1 : Grow G H G1 H1) => l.ok W fx G0 H0 G1 H1 σ Γ (s.grow w1)
    cases e2 : l.ev Γ with
    | bad => trivial
    | exn c fs => simp only [e2] at h2; exact fun w Q => h1 _ fun v G1 H1 w1 r1 => h2 G1 H1 w1 (fun cls d G' H' w' => w cls d G' H' (w1.trans w')) _
    | ok lo =>
      simp only [e2] at h2
      have h3 := fun G1 H1 (w1 : Grow G H G1 H1) => u.ok W fx G0 H0 G1 H1 σ Γ (s.grow w1)
      cases e3 : u.ev Γ with
      | bad => trivial
      | exn c fs => simp only [e3] at h3; exact fun w Q => h1 _ fun v G1 H1 w1 r1 => h2 G1 H1 w1 _ fun o G2 H2 w2 r2 => h3 G2 H2 (w1.trans w2) (fun cls d G' H' w' => w cls d G' H' ((w1.trans w2).trans w')) _
      | ok hi =>
        simp only [e3] at h3
        cases x with
        | lst z =>
          exact fun Q q => h1 _ fun v G1 H1 w1 r1 => h2 G1 H1 w1 _ fun o G2 H2 w2 r2 => h3 G2 H2 (w1.trans w2) _ fun p G3 H3 w3 r3 => by
            subst r2 r3
            cases r1 with
            | @lst a0 vs ds h r => exact ⟨a0, vs, rfl, ex_l ((w2.g.trans w3.g).trans w3.gh) h, fun pp np => q pp _ G3 H3 ((w1.trans w2).trans w3) np ((r.mono (w2.g.trans w3.g)).cut o p)⟩
        | _ => trivial⟩

/-! ### built-ins -/
def oInt : OpN K T := ⟨fun xs H Q => (∃ i, xs = [.int i] ∧ Q (.int i) H) ∨ ∃ k, xs = [.bl k] ∧ Q (.int (if k then 1 else 0)) H, fun as => match as with | [.int i] => .ok (.int i) | _ => .bad, fun W G H σ xs as e r => by
  split
  · next i =>
    cases r with
    | cons h r =>
      cases h
      cases r
      exact Hd.ret e (.int i) fun Q q => .inl ⟨i, rfl, q⟩
  · trivial⟩
def oLenQ : OpN K T := ⟨fun xs H Q => ∃ p ys, xs = [.ref p] ∧ (SqL K H p ys ∨ SqT K H p ys) ∧ Q (.int ys.length) H, fun as => match as with | [.lst ds] => .ok (.int ds.length) | [.tup ds] => .ok (.int ds.length) | _ => .bad, fun W G H σ xs as e r => by
  split
  · next ds =>
    cases r with
    | cons h r =>
      cases r
      cases h with
      | @lst p vs ds h r => exact Hd.ret e (.int _) fun Q q => ⟨p, vs, rfl, .inl (ex_l e h), by rw [r.length]; exact q⟩
  · next ds =>
    cases r with
    | cons h r =>
      cases r
      cases h with
      | @tup p vs ds h r => exact Hd.ret e (.int _) fun Q q => ⟨p, vs, rfl, .inr (ex_t e h), by rw [r.length]; exact q⟩
  · trivial⟩
def oLenS : OpN K T := ⟨fun xs H Q => ∃ z, xs = [.str z] ∧ z.length ≤ sizeLine ∧ Q (.int z.length) H, fun as => match as with | [.str z] => if z.length ≤ lim then .ok (.int z.length) else .bad | _ => .bad, fun W G H σ xs as e r => by
  split
  · next z =>
    cases r with
    | cons h r =>
      cases r
      cases h
      split
      · next hl => exact Hd.ret e (.int _) fun Q q => ⟨z, rfl, sz_of hl, q⟩
      · trivial
  · trivial⟩
/-- tuple(a list) -/
def oTupL : OpN K T := ⟨fun xs H Q => ∃ p ys, xs = [.ref p] ∧ ((SqL K H p ys ∧ ∀ l, H l = none → Q (.ref l) (upd H l (.tup ys))) ∨ (SqT K H p ys ∧ Q (.ref p) H)), fun as => match as with | [.lst ds] => .ok (.tup ds) | [.tup ds] => .ok (.tup ds) | _ => .bad, fun W G H σ xs as e r => by
  split
  · next ds =>
    cases r with
    | cons h r =>
      cases r
      cases h with
      | @lst p vs ds h r => exact fun Q q => ⟨p, vs, rfl, .inl ⟨ex_l e h, fun l n => q _ (upd G l (.tup vs)) _ (Grow.new e n) (.tup (st_of upd_same) (r.mono (Ex.new (fresh_back e n))))⟩⟩
  · next ds =>
    cases r with
    | cons h r =>
      cases r
      cases h with
      | @tup p vs ds h r => exact Hd.ret e (.tup h r) fun Q q => ⟨p, vs, rfl, .inr ⟨ex_t e h, q⟩⟩
  · trivial⟩
/-- list(a list, a tuple) -/
def CO.listOf (a : CA K T) : CO K T := ⟨fun W => tCB (fun xs H Q => ∃ p ys, xs = [.ref p] ∧ (SqL K H p ys ∨ SqT K H p ys) ∧ ∀ l, H l = none → Q (.ref l) (upd H l (.lst ys))) (a.te W), fun Γ => (a.ev Γ).bind fun as => match as with | [.lst ds] => .ok ds | [.tup ds] => .ok ds | _ => .bad, fun W fx G0 H0 G H σ Γ s => by
  have h1 := a.ok W fx G0 H0 G H σ Γ s
  cases e1 : a.ev Γ with
  | bad => trivial
  | exn c fs => rw [e1] at h1; exact fun w Q => h1 w _
  | ok as =>
    rw [e1] at h1
    show match (match as with | [.lst ds] => Rs.ok ds | [.tup ds] => .ok ds | _ => .bad) with | .ok d => _ | .exn c fs => _ | .bad => _
    split
    · next d hd =>
      split at hd
      · next ds =>
        cases hd
        refine fun Q q => h1 _ fun v G1 H1 w1 r1 => ?_
        cases r1 with
        | cons h r =>
          cases r
          cases h with
          | @lst p vs ds h r => exact ⟨p, vs, rfl, .inl (ex_l w1.gh h), fun l n => q l vs G1 H1 w1 n r⟩
      · next ds =>
        cases hd
        refine fun Q q => h1 _ fun v G1 H1 w1 r1 => ?_
        cases r1 with
        | cons h r =>
          cases r
          cases h with
          | @tup p vs ds h r => exact ⟨p, vs, rfl, .inr (ex_t w1.gh h), fun l n => q l vs G1 H1 w1 n r⟩
      · cases hd
    · next c fs hd =>
      split at hd <;> cases hd
    · trivial⟩
/-- sep.join(a list of texts) -/
def strs? : List Dat → Option (List Str)
  | [] => some []
  | .str x :: r => (strs? r).map (x :: ·)
  | _ => none
theorem strs_ok {G : Hp} : ∀ {vs : List V} {ds : List Dat} {ys : List Str}, RepL K T G vs ds → strs? ds = some ys → vs = ys.map V.str
  | _, _, _, .nil, h => by simp [strs?] at h; subst h; rfl
  | _, _, _, .cons a r, h => by
    cases a with
    | str x =>
      simp only [strs?, Option.map_eq_some_iff] at h
      obtain ⟨q, h1, rfl⟩ := h
      rw [strs_ok r h1]
      rfl
    | _ => simp [strs?] at h
def rJoin (K : PySem.W.Frag) : V → List V → Hp → VK → Prop := fun x xs H Q => ∃ a p, ∃ ys : List Str, x = .str a ∧ xs = [.ref p] ∧ (SqL K H p (ys.map V.str) ∨ SqT K H p (ys.map V.str)) ∧
    (ys.map (·.length)).sum + ys.length * a.length ≤ 16777216 ∧ Q (.str (Txt.join a ys)) H
def CE.join (a b : CE K T) : CE K T := ⟨fun W => tBM K "str" (rJoin K) (a.te W) (tCons (b.te W) tNil), fun Γ => (a.ev Γ).bind fun x => match x with
    | .str z => (b.ev Γ).bind fun y => match y with
      | .lst ds => match strs? ds with
        | some ys => if (ys.map (·.length)).sum + ys.length * z.length ≤ 16777216 then .ok (.str (Txt.join z ys)) else .bad
        | none => .bad
      | _ => .bad
    | _ => .bad, fun W fx G0 H0 G H σ Γ s =>
  (a.ok W fx G0 H0 G H σ Γ s).bind fun v d G1 H1 w1 r1 _ => by
    cases r1 with
    | str z =>
      refine ((b.ok W fx G0 H0 G1 H1 σ Γ (s.grow w1)).bind (k := fun y H2 Q => rJoin K (.str z) [y] H2 Q) fun u e G2 H2 w2 r2 _ => ?_).imp fun Q q => ⟨rfl, q⟩
      cases r2 with
      | @lst p vs ds h r =>
        dsimp only
        split
        · next ys hy =>
          split
          · next hl =>
            have ev := strs_ok r hy
            subst ev
            exact Hd.ret w2.gh (.str _) fun Q q => ⟨z, p, ys, rfl, rfl, .inl (ex_l w2.gh h), hl, q⟩
          · trivial
        · trivial
      | _ => trivial
    | _ => trivial⟩
/-- z.index(a text) -/
def rSIndex : V → List V → Hp → VK → Prop := fun x xs H Q => ∃ a b i rest, x = .str a ∧ xs = [.str b] ∧ Builtin.Str.occurrences a b 0 a.length 1 = i :: rest ∧ Q (.int (i : Nat)) H
def CE.sindex (a b : CE K T) : CE K T := ⟨fun W => tBM K "str" rSIndex (a.te W) (tCons (b.te W) tNil), fun Γ => (a.ev Γ).bind fun x => match x with
    | .str z => (b.ev Γ).bind fun y => match y with
      | .str u => match Builtin.Str.occurrences z u 0 z.length 1 with
        | i :: _ => .ok (.int (i : Nat))
        | [] => .bad
      | _ => .bad
    | _ => .bad, fun W fx G0 H0 G H σ Γ s =>
  (a.ok W fx G0 H0 G H σ Γ s).bind fun v d G1 H1 w1 r1 _ => by
    cases r1 with
    | str z =>
      refine ((b.ok W fx G0 H0 G1 H1 σ Γ (s.grow w1)).bind (k := fun y H2 Q => rSIndex (.str z) [y] H2 Q) fun u e G2 H2 w2 r2 _ => ?_).imp fun Q q => ⟨rfl, q⟩
      cases r2 with
      | str u =>
        dsimp only
        split
        · next i rest hi => exact Hd.ret w2.gh (.int _) fun Q q => ⟨z, u, i, rest, rfl, rfl, hi, q⟩
        · trivial
      | _ => trivial
    | _ => trivial⟩
end
end Cz

set_option Elab.async false
set_option linter.all false
set_option maxRecDepth 100000
set_option maxHeartbeats 2000000
/-! Own classes. -/
namespace Cz
open PySem L2 Evl PySem.Spec PyProof.Rows

/-! ### rules whose exceptions know the slots -/
section
variable {X : Cx} {CX : CXT} {k : Nat} {f C : Addr} {fd : FuncData} {ps ks : List Str} {sp : Sp} {E : L2.St → XK} {x m : Str} {p pos apos : Pos} {e o : Expr} {es : List Expr} {kws : List Keyword} {ta : TE} {t tk : TA} {pl : Sem Bool}
def tMethS (C : Addr) (m : Str) (sp : Sp) (E : L2.St → XK) (ta : TE) (t : TA) : TE := fun σ H Q => ta σ H fun x H1 => ∃ a dx fs, x = .ref a ∧ H1 a = some (.ins C dx fs) ∧ fs.lookup m = none ∧ t σ H1 fun vs H2 => sp (x :: vs) H2 Q (E σ)
theorem pe_methS (he : PE X o ta) (c : Cls X.K C) (hm : Meth X.K C m f) (F : FnOk X.prog X.w X.K X.mg X.base CX k f fd ps sp) (hr : Room k X.A) (hb : Binds X.K fd ps []) (hx : ∀ σ, PassesAt CX X σ (E σ)) (ha : PA X (e :: es) t)
    (hst : starEach (e :: es) X.env = (false, eval e X.env) :: starEach es X.env := by rfl) (hpl : (backTo pos (starEach es X.env)).any (·.1) = false := by rfl)
    (ht : eval (.Call (.Attribute o m apos) (e :: es) [] pos) X.env = (do
      let ov ← eval o X.env
      standAt apos.atName
      let (f, first) ← holding [ov] (getMethod ov m pl)
      callWith pos f first (backTo pos (starEach (e :: es) X.env)) (backToKw pos (keywordEach [] X.env))) := by rfl) :
    PE X (.Call (.Attribute o m apos) (e :: es) [] pos) (tMethS C m sp E ta t) := by
  refine ⟨fun pins s σ H Q I h => ?_⟩
  refine PySem.W.methodCall_KW (pl := pl) (thn (he.run pins s σ H _ I h) fun u s1 ⟨x, H1, I1, rx, a, dx, fs, ex, ea, l, q⟩ => ?_) ht
  subst ex
  obtain rfl : u = Value.ref a := rx
  refine getmeth_ok I1 ea c hm l ?_
  refine PySem.W.callWith_K (first := [.ref a]) (h₀ := X.base) I.ok.mod.kin hm.kp (thn (ha.run pos pins s1 σ H1 _ I1 q) fun us s2 ⟨vs, H2, I2, r, q2⟩ => ⟨I2.kIn, ?_⟩) hst hpl
  exact run_fnS (us := .ref a :: us) (vs := .ref a :: vs) F hr hb (hx σ) I2 (.cons rfl r) q2
theorem pe_methS0 (he : PE X o ta) (c : Cls X.K C) (hm : Meth X.K C m f) (F : FnOk X.prog X.w X.K X.mg X.base CX k f fd ps sp) (hr : Room k X.A) (hb : Binds X.K fd ps []) (hx : ∀ σ, PassesAt CX X σ (E σ))
    (ht : eval (.Call (.Attribute o m apos) [] [] pos) X.env = (do
      let ov ← eval o X.env
      standAt apos.atName
      let (f, first) ← holding [ov] (getMethod ov m pl)
      callWith pos f first (backTo pos (starEach [] X.env)) (backToKw pos (keywordEach [] X.env))) := by rfl) :
    PE X (.Call (.Attribute o m apos) [] [] pos) (tMethS C m sp E ta tNil) := by
  refine ⟨fun pins s σ H Q I h => ?_⟩
  refine PySem.W.methodCall_KW (pl := pl) (thn (he.run pins s σ H _ I h) fun u s1 ⟨x, H1, I1, rx, a, dx, fs, ex, ea, l, q⟩ => ?_) ht
  subst ex
  obtain rfl : u = Value.ref a := rx
  refine getmeth_ok I1 ea c hm l ?_
  exact PySem.W.callWith_K0 (first := [.ref a]) I1.kIn hm.kp (run_fnS (us := [.ref a]) (vs := [.ref a]) F hr hb (hx σ) I1 (.cons rfl .nil) q)
theorem pe_callS0 (F : FnOk X.prog X.w X.K X.mg X.base CX k f fd ps sp) (hr : Room k X.A) (hg : Gl X x) (hm : X.mg x = some (.ref f)) (hk : PySem.W.keepIn X.K (.ref f) = true) (hb : Binds X.K fd ps []) (hx : ∀ σ, PassesAt CX X σ (E σ))
    (hdb : (x == ("__debug__" : Str)) = false := by decide) : PE X (.Call (.Name x p) [] [] pos) (tCallS sp E tNil) := by
  refine ⟨fun pins s σ H Q I h => ?_⟩
  refine wpAny_Call_Name_kw (ld_glob I hg hm ?_ hdb)
  exact PySem.W.callWith_K0 I.kIn hk (run_fnS (us := []) F hr hb (hx σ) I .nil h)
def tMakeS (C : Addr) (sp : Sp) (E : L2.St → XK) (t : TA) : TE := fun σ H Q => t σ H fun vs H1 => ∀ x dx, H1 x = none → H1 dx = none → dx ≠ x →
  sp (.ref x :: vs) (upd (upd H1 dx (.own x)) x (.ins C dx [])) (fun v H2 => v = .non ∧ Q (.ref x) H2) (E σ)
theorem run_makeS {pins : List (Addr × Obj)} {σ : L2.St} {H : Hp} {s : Shared} {Q : VK} {us : List Value} {vs : List V} (M : Mk X.K C f) (F : FnOk X.prog X.w X.K X.mg X.base CX k f fd ps sp) (hr : Room (k + 1) X.A) (hb : Binds X.K fd ps [])
    (hx : PassesAt CX X σ (E σ)) (I : Inv X pins σ H s) (r : Vals vs us)
    (h : ∀ x dx, H x = none → H dx = none → dx ≠ x → sp (.ref x :: vs) (upd (upd H dx (.own x)) x (.ins C dx [])) (fun v H2 => v = .non ∧ Q (.ref x) H2) (E σ)) :
    wpAny (model X.prog X.w) X.A (call (.ref C) us) (EP X pins σ Q) X.xe s := by
  have hq := h (s.heap.objs.size + 1) s.heap.objs.size (I.hok.fresh (Nat.le_succ _)) (I.hok.fresh (Nat.le_refl _)) (Nat.ne_of_lt (Nat.lt_succ_self _))
  have I2 := Inv.made (C := C) I
  have r2 : Vals (V.ref (s.heap.objs.size + 1) :: vs) (Value.ref (s.heap.objs.size + 1) :: us) := .cons rfl r
  have hl : (Value.ref (s.heap.objs.size + 1) :: us).length = ps.length := by
    have e := r2.length
    rw [F.len _ _ _ _ hq] at e
    exact e.symm
  have b := hb _ (Value.ref (s.heap.objs.size + 1) :: us) I2.kIn (by rw [List.append_nil]; exact hl)
  rw [List.append_nil] at b
  refine wpAny_call (make_map (f := f) I.kIn M.makes M.init (beq_iff_eq.mp M.fn) (codeAny_mono (F.run _ X.stack _ _ ⟨Value.ref (s.heap.objs.size + 1) :: us, []⟩ (Value.ref (s.heap.objs.size + 1) :: us) _ _ (E σ) (hr.make C us [])
    (I2.env0.make C us []) b r2 hq) fun r s' hq' => ?_))
  cases r with
  | error e => exact hx pins _ _ e s' I2 hq'
  | ok fl =>
    cases fl with
    | ret u =>
      obtain ⟨v, H', I3, rv, ev, q3⟩ := I2.after hq'
      subst ev
      exact ⟨rv, ⟨V.ref (s.heap.objs.size + 1), H', I3, rfl, q3⟩⟩
    | next => exact False.elim hq'
    | brk => exact False.elim hq'
    | cont => exact False.elim hq'
theorem pe_makeS (M : Mk X.K C f) (F : FnOk X.prog X.w X.K X.mg X.base CX k f fd ps sp) (hr : Room (k + 1) X.A) (hg : Gl X x) (hm : X.mg x = some (.ref C)) (hb : Binds X.K fd ps []) (hx : ∀ σ, PassesAt CX X σ (E σ))
    (ha : PA X (e :: es) t) (hdb : (x == ("__debug__" : Str)) = false := by decide) (he : starEach (e :: es) X.env = (false, eval e X.env) :: starEach es X.env := by rfl) (hpl : (backTo pos (starEach es X.env)).any (·.1) = false := by rfl) :
    PE X (.Call (.Name x p) (e :: es) [] pos) (tMakeS C sp E t) := by
  refine ⟨fun pins s σ H Q I h => ?_⟩
  refine wpAny_Call_Name_kw (ld_glob I hg hm ?_ hdb)
  refine PySem.W.callWith_K (h₀ := X.base) I.ok.mod.kin M.kp (thn (ha.run pos pins s σ H _ I h) fun us s1 ⟨vs, H1, I1, r, q⟩ => ⟨I1.kIn, ?_⟩) he hpl
  exact run_makeS M F hr hb (hx σ) I1 r q
def tCallKS (sp : Sp) (gV : List V → List V → List V) (E : L2.St → XK) (t tk : TA) : TE := fun σ H Q => t σ H fun vs H1 => tk σ H1 fun zs H2 => sp (gV vs zs) H2 Q (E σ)
variable {g : List Value → List Value → List Value} {gV : List V → List V → List V}
theorem run_fnkS {pins : List (Addr × Obj)} {σ : L2.St} {H : Hp} {s : Shared} {Q : VK} {us ws : List Value} {vs zs : List V} (F : FnOk X.prog X.w X.K X.mg X.base CX k f fd ps sp) (hr : Room k X.A) (hb : KBinds X.K fd ps ks g gV) (hx : PassesAt CX X σ (E σ))
    (I : Inv X pins σ H s) (r : Vals vs us) (rz : Vals zs ws) (h : sp (gV vs zs) H Q (E σ)) : wpAny (model X.prog X.w) X.A (call (.ref f) us (ks.zip ws)) (EP X pins σ Q) X.xe s := by
  have r2 := hb.rel r rz
  have hl : (g us ws).length = ps.length := by rw [← r2.length]; exact F.len _ _ _ _ h
  refine wpAny_call (codeAny_mono (F.run X.A X.stack s H ⟨us, ks.zip ws⟩ (g us ws) (gV vs zs) Q (E σ) hr I.env0 (hb.to s us ws I.kIn hl) r2 h) fun r s' hq => ?_)
  cases r with
  | error e => exact hx pins H s e s' I hq
  | ok fl =>
    cases fl with
    | ret u => exact I.after hq
    | next => exact False.elim hq
    | brk => exact False.elim hq
    | cont => exact False.elim hq
theorem pe_callKS (F : FnOk X.prog X.w X.K X.mg X.base CX k f fd ps sp) (hr : Room k X.A) (hg : Gl X x) (hm : X.mg x = some (.ref f)) (hk : PySem.W.keepIn X.K (.ref f) = true) (hb : KBinds X.K fd ps ks g gV) (hx : ∀ σ, PassesAt CX X σ (E σ))
    (ha : PA X (e :: es) t) (hkw : PK X kws tk) (hall : (backToKw pos (keywordEach kws X.env)).all (·.1.isSome) = true := by rfl) (hks : (backToKw pos (keywordEach kws X.env)).filterMap (·.1) = ks := by rfl)
    (hdb : (x == ("__debug__" : Str)) = false := by decide) (he : starEach (e :: es) X.env = (false, eval e X.env) :: starEach es X.env := by rfl)
    (hpl : ((backTo pos (starEach (e :: es) X.env)).any (·.1) || (backToKw pos (keywordEach kws X.env)).any (·.1.isNone)) = false := by rfl) :
    PE X (.Call (.Name x p) (e :: es) kws pos) (tCallKS sp gV E t tk) := by
  refine ⟨fun pins s σ H Q I h => ?_⟩
  refine wpAny_Call_Name_kw (ld_glob I hg hm ?_ hdb)
  refine PySem.W.callWith_KW (h₀ := X.base) I.ok.mod.kin hk hall (thn (ha.run pos pins s σ H _ I h) fun us s1 ⟨vs, H1, I1, r, q⟩ => ?_) hpl he
  refine thn (hkw.run pos pins s1 σ H1 _ I1 q) fun ws s2 ⟨zs, H2, I2, rz, q2⟩ => ⟨I2.kIn, ?_⟩
  rw [hks]
  exact run_fnkS F hr hb (hx σ) I2 r rz q2
/-- x op y by an own def of x's class -/
def rOwnC (C : Addr) (sp : Sp) (E : L2.St → XK) (σ : L2.St) : R2 := fun x y H Q => ∃ a dx fs b C' dy gs, x = .ref a ∧ y = .ref b ∧ H a = some (.ins C dx fs) ∧ H b = some (.ins C' dy gs) ∧ C' = C ∧ sp [x, y] H Q (E σ)
def tOwnC (C : Addr) (sp : Sp) (E : L2.St → XK) (ta tb : TE) : TE := fun σ H Q => ta σ H fun x H1 => tb σ H1 fun y H2 => rOwnC C sp E σ x y H2 Q
theorem cmpback {P : Value → Shared → Prop} {z : V} {v : Value} {s' : Shared} (r : RelV z v) (h : P v s') : PySem.W.CmpBack P v s' := by
  cases z with
  | non => cases (show v = Value.none from r); exact h
  | bl b => cases (show v = Value.bool b from r); exact h
  | int i => obtain ⟨t, e⟩ := (show ∃ t, v = Value.int i t from r); cases e; exact h
  | str x => obtain ⟨t, e⟩ := (show ∃ t, v = Value.str x t from r); cases e; exact h
  | byt b => obtain ⟨t, e⟩ := (show ∃ t, v = Value.bytes b t from r); cases e; exact h
  | flt b => obtain ⟨t, e⟩ := (show ∃ t, v = Value.float b t from r); cases e; exact h
  | ref a => cases (show v = Value.ref a from r); exact h
  | ty n => cases (show v = Value.type n from r); exact h
/-- operations whose exceptions know the slots -/
def OpS (X : Cx) (f : Value → Value → Sem Value) (r : L2.St → R2) : Prop :=
  ∀ (pins : List (Addr × Obj)) (s : Shared) (σ : L2.St) (H : Hp) (x y : V) (v u : Value) (Q : VK), Inv X pins σ H s → RelV x v → RelV y u → r σ x y H Q →
    wpAny (model X.prog X.w) X.A (f v u) (EP X pins σ Q) X.xe s
def tOpS (r : L2.St → R2) (ta tb : TE) : TE := fun σ H Q => ta σ H fun x H1 => tb σ H1 fun y H2 => r σ x y H2 Q
theorem pe_cmpS {op : CmpOp} {r : L2.St → R2} {a b : Expr} {ta tb : TE} (ho : OpS X (compareOp op) r) (ha : PE X a ta) (hb : PE X b tb) (hm : behindInMarks op b = false) : PE X (.Compare a [op] [b] pos) (tOpS r ta tb) := by
  refine ⟨fun pins s σ H Q I h => ?_⟩
  exact wpAny_Compare1 (binT ha hb I h fun v u s2 x y H2 I2 rx ry q => ho pins s2 σ H2 x y v u Q I2 rx ry q) hm
theorem pt_cmpS {op : CmpOp} {r : L2.St → R2} {a b : Expr} {ta tb : TE} (ho : OpS X (compareOp op) r) (ha : PE X a ta) (hb : PE X b tb) (hm : behindInMarks op b = false) : PT X (.Compare a [op] [b] pos) (tTest (tOpS r ta tb)) := by
  refine ⟨fun pins s σ H Q I h => ?_⟩
  refine wpAny_isTrue_Compare1 (thn (ha.run pins s σ H _ I h) fun v s1 ⟨x, H1, I1, r1, q1⟩ => thn (hb.run pins s1 σ H1 _ I1 q1) fun u s2 ⟨y, H2, I2, r2, q2⟩ =>
    thn (ho pins s2 σ H2 x y v u _ I2 r1 r2 q2) fun c s3 ⟨z, H3, I3, r3, k, e, q3⟩ => ?_) hm
  subst e
  cases r3
  exact wpAny_truthy_bool ⟨H3, I3, q3⟩
theorem op_ownC {op : CmpOp} (hop : ∀ a b, compareOp op a b = richCompare op a b) (hn : PySem.W.notFirst X.K C (.ref C) = true) (hs : PySem.W.findIn X.K (.ref C) (cmpInfo op).2.1 = some (some (.ref f))) (hf : PySem.W.isFn X.K (.ref f) = true)
    (F : FnOk X.prog X.w X.K X.mg X.base CX k f fd ps sp) (hr : Room k X.A) (hb : Binds X.K fd ps []) (hx : ∀ σ, PassesAt CX X σ (E σ)) : OpS X (compareOp op) (rOwnC C sp E) := by
  intro pins s σ H x y v u Q I rx ry h
  obtain ⟨a, dx, fs, b, C', dy, gs, rfl, rfl, ea, eb, rfl, q⟩ := h
  cases (show v = Value.ref a from rx)
  cases (show u = Value.ref b from ry)
  obtain ⟨mA, O, _, _, _, _⟩ := ins_get I.hok ea
  obtain ⟨od, J, _⟩ := O.look
  obtain ⟨mB, O', _, _, _, _⟩ := ins_get I.hok eb
  obtain ⟨od', J', _⟩ := O'.look
  obtain ⟨m, hF⟩ := I.fr
  rw [hop]
  refine PySem.W.cmp_K (op := op) (tb := .ref C') hr.units0 hF I.ok.mod.kin J J'.type hn hs hf ?_
  refine wpAny_mono (run_fnS (us := [.ref a, .ref b]) (vs := [.ref a, .ref b]) F hr hb (hx σ) I (.cons rfl (.cons rfl .nil)) q) (fun w s' z => ?_) fun _ _ x => x
  obtain ⟨z', H', I', rz, qz⟩ := z
  exact cmpback rz ⟨z', H', I', rz, qz⟩
end

section
variable {K : PySem.W.Frag} {T : Nat → Addr}
theorem lkp_cons {α : Type} (f g : Str) (y : α) (fs : List (Str × α)) : ((f, y) :: fs).lookup g = if g = f then some y else fs.lookup g := by
  by_cases h : g = f
  · subst h
    simp [List.lookup]
  · have e : (g == f) = false := by simpa using h
    rw [if_neg h]
    simp [List.lookup, e]
theorem RepF.get {G : Hp} : ∀ {vs : List (Str × V)} {ds : List (Str × Dat)} {f : Str} {d : Dat}, RepF K T G vs ds → ds.lookup f = some d → ∃ v, vs.lookup f = some v ∧ Rep K T G v d
  | _, _, f, _, .nil, h => by cases h
  | _, _, f, _, .cons (f := g) (v := v) (vs := vs) (d := d) (ds := ds) a r, h => by
    rw [lkp_cons] at h
    rw [lkp_cons]
    by_cases e : f = g
    · rw [if_pos e] at h ⊢
      cases h
      exact ⟨v, rfl, a⟩
    · rw [if_neg e] at h ⊢
      exact RepF.get r h
theorem RepF.none {G : Hp} : ∀ {vs : List (Str × V)} {ds : List (Str × Dat)} {f : Str}, RepF K T G vs ds → ds.lookup f = none → vs.lookup f = none
  | _, _, f, .nil, h => rfl
  | _, _, f, .cons (f := g) (v := v) (vs := vs) (d := d) (ds := ds) a r, h => by
    rw [lkp_cons] at h
    rw [lkp_cons]
    by_cases e : f = g
    · rw [if_pos e] at h; cases h
    · rw [if_neg e] at h ⊢
      exact RepF.none r h
theorem RepF.length {G : Hp} : ∀ {vs : List (Str × V)} {ds : List (Str × Dat)}, RepF K T G vs ds → vs.length = ds.length
  | _, _, .nil => rfl
  | _, _, .cons _ r => by rw [List.length_cons, List.length_cons, RepF.length r]
def putD (f : Str) (v : Dat) : List (Str × Dat) → List (Str × Dat)
  | [] => [(f, v)]
  | (g, x) :: r => if g = f then (g, v) :: r else (g, x) :: putD f v r
theorem RepF.put {G : Hp} {f : Str} {v : V} {d : Dat} (h : Rep K T G v d) : ∀ {vs : List (Str × V)} {ds : List (Str × Dat)}, RepF K T G vs ds → RepF K T G (putF f v vs) (putD f d ds)
  | _, _, .nil => .cons h .nil
  | _, _, .cons (f := g) a r => by
    unfold putF putD
    by_cases e : g = f
    · rw [if_pos e, if_pos e]; exact .cons h r
    · rw [if_neg e, if_neg e]; exact .cons a (RepF.put h r)
/-- e.f -/
def CE.fld (c : Nat) (f : Str) (hc : Cls K (T c)) (hn : NoAttr K (T c) f) (a : CE K T) : CE K T := ⟨fun W => tFld K (a.te W) f, fun Γ => (a.ev Γ).bind fun x => match x with
    | .ins c' fs => if c' = c then (match fs.lookup f with | some d => .ok d | none => .bad) else .bad
    | _ => .bad, fun W fx G0 H0 G H σ Γ s =>
  (a.ok W fx G0 H0 G H σ Γ s).bind fun v d G1 H1 w1 r1 _ => by
    cases r1 with
    | @ins a0 c' dx fvs fs h r =>
      dsimp only
      split
      · next hcc =>
        subst hcc
        split
        · next d hd =>
          obtain ⟨v, h1, h2⟩ := r.get hd
          exact Hd.ret w1.gh h2 fun Q q => ⟨a0, T c', dx, fvs, v, rfl, w1.gh _ _ h, hc, hn, h1, q⟩
        · trivial
      · trivial
    | _ => trivial⟩
/-- e.f of the instance that is being made or changed, at slot i -/
def CE.fldO (i c : Nat) (f : Str) (hc : Cls K (T c)) (hn : NoAttr K (T c) f) : CE K T := ⟨fun _ => tFld K (tVar i) f, fun Γ => match Γ[i]? with
    | some (.oi _ _ c' fs) => if c' = c then (match fs.lookup f with | some d => .ok d | none => .bad) else .bad
    | _ => .bad, fun W fx G0 H0 G H σ Γ s => by
  split
  · next a dx c' fs h =>
    split
    · next hcc =>
      subst hcc
      obtain ⟨vs, h1, h2, h3, _, _⟩ := s.getI h
      split
      · next d hd =>
        obtain ⟨v, h4, h5⟩ := h3.get hd
        exact Hd.ret s.gh h5 fun Q q => ⟨.ref a, h1, a, T c', dx, vs, v, rfl, h2, hc, hn, h4, q⟩
      · trivial
    · trivial
  · trivial⟩
/-- self.f = e -/
def CS.fldO (i c : Nat) (f : Str) (hc : Cls K (T c)) (hn : NoAttr K (T c) f) (e : CE K T) : CS K T := ⟨fun W => sFld K (tVar i) (e.te W) f, fun Γ => match Γ[i]? with
    | some (.oi a dx c' fs) => if c' = c ∧ fs.length < 1000 then (e.ev Γ).st Γ fun d => .nx (Γ.set i (.oi a dx c (putD f d fs))) else .bad
    | _ => .bad, fun W D G0 H0 G H σ Γ s => by
  split
  · next a dx c' fs h =>
    split
    · next hcc =>
      obtain ⟨rfl, hl⟩ := hcc
      refine Hd.st s (e.ok W [] G0 H0 G H σ Γ s) fun v d G1 H1 w r _ => ?_
      have s1 := s.grow w
      obtain ⟨vs, h1, h2, h3, _, _⟩ := s1.getI h
      exact fun q => ⟨.ref a, h1, a, T c', dx, vs, rfl, h2, hc, hn, by rw [h3.length]; exact hl, q G1 _ σ (Ex.refl _) (s1.mut h1 h fun fp z => by
        cases z with
        | oi h4 h5 => exact ⟨by simp, .oi upd_same (h3.put r)⟩)⟩
    · trivial
  · trivial⟩
/-! ### __init__ and making -/
def runI (b : CS K T) (c n : Nat) (x dx : Addr) (ds : List Dat) : Rs (List (Str × Dat)) := match b.ev (.oi x dx c [] :: (ds.map Slot.d ++ List.replicate (n - 1 - ds.length) Slot.un)) with
  | .nx Γ => (match (Γ[0]? : Option Slot) with | some (Slot.oi x' dx' c' fs) => if x' = x ∧ dx' = dx ∧ c' = c then .ok fs else .bad | _ => .bad)
  | .exn _ c fs => .exn c fs
  | _ => .bad
def spI (K : PySem.W.Frag) (T : Nat → Addr) (c m : Nat) (F : Addr → Addr → List Dat → Rs (List (Str × Dat))) : Sp := fun vs H Q E => vs.length = m + 1 ∧ ∃ x dx vs', vs = .ref x :: vs' ∧ H x = some (.ins (T c) dx []) ∧ ∃ G ds, Ex G (rm H x) ∧ RepL K T G vs' ds ∧ (∃ r, F x dx ds = r ∧ match r with
    | .ok fs => ∀ G' H' fvs, Grow G (rm H x) G' (rm H' x) → H' x = some (.ins (T c) dx fvs) → RepF K T G' fvs fs → Q .non H'
    | .exn c fs => ∀ cls d G' H', Grow G (rm H x) G' H' → RepX K T G' cls d c fs → E cls d H'
    | .bad => False)
theorem SG.startI {G H : Hp} {x dx c : Nat} (hx : H x = some (.ins (T c) dx [])) (e : Ex G (rm H x)) {vs : List V} {ds : List Dat} (r : RepL K T G vs ds) (n : Nat) :
    SG K T [] G (rm H x) G H (some (.ref x) :: (vs.map some ++ List.replicate n none)) (.oi x dx c [] :: (ds.map Slot.d ++ List.replicate n Slot.un)) := by
  have gx : G x = none := fresh_back e rm_same
  have e2 : Ex (rm H x) H := fun a o h => by
    by_cases q : a = x
    · subst q; rw [rm_same] at h; cases h
    · rw [rm_ne q] at h; exact h
  have s := SG.start (K := K) (T := T) e r n
  obtain ⟨fp, f1, f2, f3, f4⟩ := s.own
  refine ⟨by simp [r.length], e.trans e2, Ex.refl _, e2, fun _ _ h => .inl h, ⟨fun i => match i with | 0 => [x] | _ + 1 => [], fun i o t h1 h2 => ?_, fun i a m => ?_, fun i => ?_, fun i j a n m1 m2 => ?_⟩, fun _ m => by simp at m⟩
  · cases i with
    | zero =>
      simp at h1 h2
      subst h1 h2
      exact .oi hx .nil
    | succ i =>
      simp only [List.getElem?_cons_succ] at h1 h2
      have q := f1 i o t h1 h2
      have hd : t = .un ∨ ∃ y, t = .d y := by
        rw [List.getElem?_append] at h2
        split at h2
        · rw [List.getElem?_map] at h2
          cases z : ds[i]? with
          | none => rw [z] at h2; cases h2
          | some y => rw [z] at h2; exact .inr ⟨y, (Option.some.inj h2).symm⟩
        · rw [List.getElem?_replicate] at h2
          split at h2
          · exact .inl (Option.some.inj h2).symm
          · cases h2
      rcases hd with rfl | ⟨y, rfl⟩
      · exact .un _
      · generalize fp i = p at q
        cases q with
        | d r => exact .d r
  · cases i with
    | zero => simp at m; subst m; exact ⟨gx, by rw [hx]; simp, rm_same, by simp⟩
    | succ i => simp at m
  · cases i <;> simp
  · cases i <;> cases j <;> simp_all
theorem body_okI (b : CS K T) {N : List Str} {c m : Nat} {vs : List V} {H : Hp} {Q : VK} {E : XK} (hN : 0 < N.length) (h : spI K T c m (runI b c N.length) vs H Q E) :
    b.ts (fun cls d _ H => E cls d H) { nx := fun _ H' => Q .non H', rt := Q } (L2.start N vs) H := by
  obtain ⟨hm, x, dx, vs', rfl, hx, G, ds, e, r, rr, hr, q⟩ := h
  have s : SG K T [] G (rm H x) G H (L2.start N (.ref x :: vs')) (.oi x dx c [] :: (ds.map Slot.d ++ List.replicate (N.length - 1 - ds.length) Slot.un)) := by
    unfold L2.start
    have : N.length - (V.ref x :: vs').length = N.length - 1 - ds.length := by rw [List.length_cons, r.length]; omega
    rw [this]
    exact SG.startI hx e r _
  have o := b.ok (fun cls d _ H => E cls d H) { nx := fun _ H' => Q .non H', rt := Q } G (rm H x) G H _ _ s
  unfold runI at hr
  cases hb : b.ev (.oi x dx c [] :: (ds.map Slot.d ++ List.replicate (N.length - 1 - ds.length) Slot.un)) with
  | nx Γ =>
    rw [hb] at o hr
    dsimp only at hr
    split at hr
    · next x' dx' c' fs hΓ =>
      split at hr
      · next hcc =>
        obtain ⟨rfl, rfl, rfl⟩ := hcc
        subst hr
        refine o fun G' H' σ' _ s' => ?_
        obtain ⟨fvs, h1, h2, h3, h4, h5⟩ := s'.getI hΓ
        have w := s'.fin
        refine q G' H' fvs ⟨w.g, fun a o h => ?_, fun a o h => ?_, w.nw⟩ h2 h3
        · rw [rm_ne fun z => by subst z; rw [h4] at h; cases h]
          exact w.gh a o h
        · rw [rm_ne fun z => by subst z; rw [rm_same] at h; cases h]
          exact w.h a o h
      · subst hr; exact q.elim
    · subst hr; exact q.elim
  | exn Γ cc fs =>
    rw [hb] at o hr
    subst hr
    exact o fun cls d G' H' σ' _ s' x => q cls d G' H' s'.fin x
  | rt d => rw [hb] at hr; subst hr; exact q.elim
  | bk Γ => rw [hb] at hr; subst hr; exact q.elim
  | ct Γ => rw [hb] at hr; subst hr; exact q.elim
  | bad => rw [hb] at hr; subst hr; exact q.elim
theorem ok_init {P : Program} {w : World} {mg : Str → Option Value} {base : Heap} {x qual : Str} {st : Stmt} {f : Addr} {fd : FuncData} {N ps : List Str} {k c : Nat} (F : Fun K x qual st f fd) (S : FnScope N ps (defScope st)) (b : CS K T) (hp : 0 < ps.length) (hN : 0 < N.length)
    (h : ∀ (cdv : Value) (A : Around) (outer : List Env) (s : Shared) (H : Hp) (E : XK), Room k (A.deeper (PyProof.Rows.envOfC qual (defScope st) s.heap.objs.size f cdv)) →
      PSs (cxOf (L2N.CX P w) P w K mg base N qual (defScope st) f cdv A outer s H E) (defBody st) (b.ts fun cls d _ H => E cls d H)) :
    FnOk P w K mg base (L2N.CX P w) (k + 1) f fd ps (spI K T c (ps.length - 1) (runI b c N.length)) :=
  okC F S (fun vs H Q E h => by have := h.1; omega) fun cdv A outer s H vs Q E hr hsp => ⟨_, h cdv A outer s H E hr, body_okI b hN hsp⟩
/-- C(a, ..): the fields that __init__ leaves -/
def CE.make (c m : Nat) (F : Addr → Addr → List Dat → Rs (List (Str × Dat))) (R : List Dat → Rs (List (Str × Dat))) (hF : ∀ x dx ds, R ds ≠ .bad → F x dx ds = R ds) (a : CA K T) : CE K T := ⟨fun W => tMakeS (T c) (spI K T c m F) (WE W) (a.te W),
  fun Γ => (a.ev Γ).bind fun ds => if ds.length = m then (R ds).bind fun fs => .ok (.ins c fs) else .bad, fun W fx G0 H0 G H σ Γ s =>
  (a.ok W fx G0 H0 G H σ Γ s).bind fun v d G1 H1 w1 r1 _ => by
    split
    · next hl =>
      have hv : v.length = m := r1.length.trans hl
      have base : ∀ x dx, H1 x = none → H1 dx = none → dx ≠ x → Ex G1 (rm (upd (upd H1 dx (.own x)) x (.ins (T c) dx [])) x) ∧ Ex H1 (rm (upd (upd H1 dx (.own x)) x (.ins (T c) dx [])) x) := fun x dx hx hd ne => by
        have e : rm (upd (upd H1 dx (.own x)) x (.ins (T c) dx [])) x = upd H1 dx (.own x) := rm_upd (by rw [upd_ne (Ne.symm ne)]; exact hx)
        rw [e]
        exact ⟨w1.gh.trans (Ex.new hd), Ex.new hd⟩
      cases hR : R d with
      | bad => trivial
      | ok fs =>
        intro Q q x dx hx hd ne
        obtain ⟨e1, e2⟩ := base x dx hx hd ne
        refine ⟨by simp [hv], x, dx, v, rfl, upd_same, G1, d, e1, r1, _, (hF x dx d (by rw [hR]; simp)).trans hR, ?_⟩
        intro G' H' fvs w hH rf
        refine ⟨rfl, ?_⟩
        have gx : G' x = none := fresh_back w.gh rm_same
        have rmH : ∀ {a : Addr} {o : HO}, rm H' x a = some o → H' a = some o := fun {a o} h => by
          by_cases z : a = x
          · subst z; rw [rm_same] at h; cases h
          · rw [rm_ne z] at h; exact h
        refine q (.ref x) (upd G' x (.ins (T c) dx fvs)) H' ⟨w.g.trans (Ex.new gx), fun a o h => ?_, fun a o h => rmH (w.h a o (e2 a o h)), fun a o h => ?_⟩ (.ins upd_same (rf.mono (Ex.new gx)))
        · by_cases z : a = x
          · subst z; rw [upd_same] at h; rw [hH]; exact h
          · rw [upd_ne z] at h; exact rmH (w.gh a o h)
        · by_cases z : a = x
          · subst z; exact .inr hx
          · rw [upd_ne z] at h
            rcases w.nw a o h with y | y
            · exact .inl y
            · exact .inr (fresh_back e2 y)
      | exn cc fs =>
        intro wq Q x dx hx hd ne
        obtain ⟨e1, e2⟩ := base x dx hx hd ne
        refine ⟨by simp [hv], x, dx, v, rfl, upd_same, G1, d, e1, r1, _, (hF x dx d (by rw [hR]; simp)).trans hR, ?_⟩
        intro cls dd G' H' w rx
        exact wq cls dd G' H' ⟨w.g, w.gh, e2.trans w.h, fun a o h => by
          rcases w.nw a o h with y | y
          · exact .inl y
          · exact .inr (fresh_back e2 y)⟩ rx
    · trivial⟩
/-- o.m(a, ..) of frozen instances -/
def CE.meth (c : Nat) (m : Str) (n : Nat) (F : List Dat → Rs Dat) (o : CE K T) (a : CA K T) : CE K T := ⟨fun W => tMethS (T c) m (spF K T (n + 1) F) (WE W) (o.te W) (a.te W),
  fun Γ => (o.ev Γ).bind fun x => match x with
    | .ins c' fs => if c' = c ∧ fs.lookup m = none then (a.ev Γ).bind fun ds => if ds.length = n then F (.ins c fs :: ds) else .bad else .bad
    | _ => .bad, fun W fx G0 H0 G H σ Γ s =>
  (o.ok W fx G0 H0 G H σ Γ s).bind fun v d G1 H1 w1 r1 _ => by
    cases r1 with
    | @ins a0 c' dx fvs fs h r =>
      dsimp only
      split
      · next hcc =>
        obtain ⟨rfl, hm⟩ := hcc
        refine ((a.ok W fx G0 H0 G1 H1 σ Γ (s.grow w1)).bind (k := fun vs H2 Q => spF K T (n + 1) F (.ref a0 :: vs) H2 Q (WE W σ)) fun v d G2 H2 w2 r2 _ => ?_).imp fun Q q => ⟨a0, dx, fvs, rfl, w1.gh _ _ h, r.none hm, q⟩
        split
        · next hl =>
          have hv : v.length = n := r2.length.trans hl
          have rr : RepL K T G2 (.ref a0 :: v) (.ins c' fs :: d) := .cons ((Rep.ins h r).mono w2.g) r2
          cases hF : F (.ins c' fs :: d) with
          | bad => trivial
          | ok x => exact fun Q q => ⟨by simp [hv], G2, _, w2.gh, rr, _, hF, fun v' G' H' w r => q v' G' H' w r⟩
          | exn c fs => exact fun w Q => ⟨by simp [hv], G2, _, w2.gh, rr, _, hF, fun cls d' G' H' w' r => w cls d' G' H' w' r⟩
        · trivial
      · trivial
    | _ => trivial⟩
/-- e.f, a property whose getter raises nothing -/
def CE.prop (c : Nat) (F : List Dat → Rs Dat) (o : CE K T) : CE K T := ⟨fun W => tProp (T c) (spF K T 1 F) [] E0 (o.te W),
  fun Γ => (o.ev Γ).bind fun x => match x with
    | .ins c' fs => if c' = c then (match F [.ins c fs] with | .ok d => .ok d | _ => .bad) else .bad
    | _ => .bad, fun W fx G0 H0 G H σ Γ s =>
  (o.ok W fx G0 H0 G H σ Γ s).bind fun v d G1 H1 w1 r1 _ => by
    cases r1 with
    | @ins a0 c' dx fvs fs h r =>
      dsimp only
      split
      · next hcc =>
        subst hcc
        split
        · next d hF => exact fun Q q => ⟨a0, dx, fvs, rfl, w1.gh _ _ h, rfl, G1, _, w1.gh, .cons (.ins h r) .nil, _, hF, fun v' G' H' w r => q v' G' H' w r⟩
        · trivial
      · trivial
    | _ => trivial⟩
/-- x op y by an own def -/
def CE.ownC (c : Nat) (F : List Dat → Rs Dat) (a b : CE K T) : CE K T := ⟨fun W => tOpS (rOwnC (T c) (spF K T 2 F) (WE W)) (a.te W) (b.te W),
  fun Γ => (a.ev Γ).bind fun x => (b.ev Γ).bind fun y => match x, y with
    | .ins c1 f1, .ins c2 f2 => if c1 = c ∧ c2 = c then F [.ins c f1, .ins c f2] else .bad
    | _, _ => .bad, fun W fx G0 H0 G H σ Γ s =>
  (a.ok W fx G0 H0 G H σ Γ s).bind fun v d G1 H1 w1 r1 _ => (b.ok W fx G0 H0 G1 H1 σ Γ (s.grow w1)).bind (k := fun y H2 Q => rOwnC (T c) (spF K T 2 F) (WE W) σ v y H2 Q) fun u e G2 H2 w2 r2 _ => by
    have r1' := r1.mono w2.g
    cases r1' with
    | @ins a0 c1 dx fvs f1 h r =>
      cases r2 with
      | @ins b0 c2 dy gvs f2 h' r' =>
        dsimp only
        split
        · next hcc =>
          obtain ⟨rfl, rfl⟩ := hcc
          have rr : RepL K T G2 [.ref a0, .ref b0] [.ins _ f1, .ins _ f2] := .cons (.ins h r) (.cons (.ins h' r') .nil)
          cases hF : F [.ins _ f1, .ins _ f2] with
          | bad => trivial
          | ok x => exact fun Q q => ⟨a0, dx, fvs, b0, _, dy, gvs, rfl, rfl, w2.gh _ _ h, w2.gh _ _ h', rfl, rfl, G2, _, w2.gh, rr, _, hF, fun v' G' H' w r => q v' G' H' w r⟩
          | exn c fs => exact fun w Q => ⟨a0, dx, fvs, b0, _, dy, gvs, rfl, rfl, w2.gh _ _ h, w2.gh _ _ h', rfl, rfl, G2, _, w2.gh, rr, _, hF, fun cls d' G' H' w' r => w cls d' G' H' w' r⟩
        · trivial
      | _ => trivial
    | _ => trivial⟩
end
end Cz

set_option Elab.async false
set_option linter.all false
set_option maxRecDepth 100000
set_option maxHeartbeats 2000000
/-! enumerate of a text; reversed ranges. -/
namespace Cz
open PySem L2 Evl PySem.Spec PyProof.Rows

def IteS (x : Str) : It := ⟨fun i _ => i < x.cps.size, fun i H v H' => ∃ T c, x.cps[i]? = some c ∧ v = .ref T ∧ H T = none ∧ H' = upd H T (.tup [.int (i : Nat), .str ⟨#[c]⟩]), fun i _ => x.cps.size ≤ i⟩
theorem turn_enumS {P : Program} {w : World} {K : PySem.W.Frag} {elts : List Expr} {kk : Nat} {tpos : Pos} (e it : Addr) (x : Str) (t : Tok) (ty : String) (hty : ty = "str_ascii_iterator" ∨ ty = "str_iterator") :
    Turn P w K (.Tuple elts kk tpos) (IteS x) [e, it] e (fun i h => (∃ old, IsEnum h e it ((i : Nat) : Int) old) ∧ h.IsStrIter it ty x t i ∧ e ≠ it ∧ i ≤ x.cps.size) where
  mem := by simp
  obj := fun i h st b hb => by
    obtain ⟨⟨old, he⟩, ⟨o, ho, hc, hd⟩, _⟩ := st
    have e' : b = e ∨ b = it := by simpa using hb
    rcases e' with z | z
    · rw [z]; exact ⟨_, he, fun v q => nomatch q⟩
    · rw [z]; exact ⟨o, ho, fun v q => by rw [hd] at q; cases q⟩
  keep := fun i h h' st k => let ⟨⟨old, he⟩, ⟨o, ho, r⟩, hne, hle⟩ := st; ⟨⟨old, k e (by simp) _ he⟩, ⟨o, k it (by simp) o ho, r⟩, hne, hle⟩
  item := by
    intro X hP hw hK hc i pins s σ H E I hf st hg
    subst hP hw hK
    obtain ⟨⟨old, he⟩, hit, hne, hle⟩ := st
    have hel : e < s.heap.objs.size := Heap.lt_size he
    have hil : it < s.heap.objs.size := by obtain ⟨_, q, _⟩ := hit; exact Heap.lt_size q
    have D : Draws X.prog X.w X.A.in1 it [it] x.cps.size (SignAt x) (fun i h => h.IsStrIter it ty x t i) := by
      rcases hty with q | q
      · rw [q]; exact Draws.strAscii (A := X.A.in1) (I.ok.hd hc) it x t
      · rw [q]; exact Draws.strWide (A := X.A.in1) (I.ok.hd hc) it x t
    refine wpAny_pyNext_enum_itemD D he hit hg hne (by simp [hne]) fun u h' tk hu ho hit' hT hsz hk => ?_
    obtain ⟨c, tc, hcx, rfl⟩ := hu
    refine ⟨_, rfl, wpAny_letOwnedTupleGo_enum (s := { s with heap := h', toks := tk + 1 }) ho fun h'' he' sb => ?_⟩
    have hT2 : h''.get? s.heap.objs.size = some { cls := .type "tuple", data := .seq #[.int i tk, .str ⟨#[c]⟩ tc] } := (sb.2 _ (Nat.ne_of_gt hel)).trans hT
    have new : ObjOk X.prog X.w (upd H s.heap.objs.size (.tup [.int (i : Nat), .str ⟨#[c]⟩])) h'' s.heap.objs.size (.tup [.int (i : Nat), .str ⟨#[c]⟩]) :=
      ⟨by show 2 ≤ sizeLine; decide, [.int i tk, .str ⟨#[c]⟩ tc], .cons ⟨_, rfl⟩ (.cons ⟨_, rfl⟩ .nil), ⟨_, hT2, rfl, _, rfl⟩⟩
    have I1 : Inv X pins σ (upd H s.heap.objs.size (.tup [.int (i : Nat), .str ⟨#[c]⟩])) { s with heap := h'', toks := tk + 1 } :=
      I.turnedNew (ch := [e, it]) (fun b ob hb q => (sb.2 b (fun z => hb (by simp [z]))).trans (hk b ob (fun z => hb (by simp [z])) (fun z => hb (by simp [z])) q)) hf (Nat.le_refl _) new
    refine ⟨.ref s.heap.objs.size, _, I1, rfl, ⟨_, c, hcx, rfl, I.hok.fresh (Nat.le_refl _), rfl⟩, ⟨⟨.str ⟨#[c]⟩ tc, ?_⟩, ?_, hne, hg⟩, fun b hb => ?_⟩
    · have e1 : ((i + 1 : Nat) : Int) = (i : Int) + 1 := by omega
      rw [e1]; exact he'
    · obtain ⟨o, q1, q2⟩ := hit'
      exact ⟨o, (sb.2 it (Ne.symm hne)).trans q1, q2⟩
    · have hb' : b < s.heap.objs.size := by
        have e' : b = e ∨ b = it := by simpa using hb
        rcases e' with z | z
        · rw [z]; exact hel
        · rw [z]; exact hil
      rw [upd_ne (Nat.ne_of_lt hb')]
      exact (hf b hb).1
  done := by
    intro X hP hw hK hc i pins s σ H E I hf st hg
    subst hP hw hK
    obtain ⟨⟨old, he⟩, hit, hne, hle⟩ := st
    obtain ⟨f0, f1, f2, f3, f4, f5⟩ := hf it (by simp)
    have hi : i = x.cps.size := Nat.le_antisymm hle hg
    subst hi
    have D : Draws X.prog X.w X.A.in1 it [it] x.cps.size (SignAt x) (fun i h => h.IsStrIter it ty x t i) := by
      rcases hty with q | q
      · rw [q]; exact Draws.strAscii (A := X.A.in1) (I.ok.hd hc) it x t
      · rw [q]; exact Draws.strWide (A := X.A.in1) (I.ok.hd hc) it x t
    exact wpAny_pyNext_enum_endD D he hit fun h' eb => ⟨rfl, I.turned (t' := s.toks) (fun b o hb q => eb b o hb q) f0 f1 f3 f4 f5⟩
  self := fun A i s Q E st h => let ⟨⟨_, he⟩, _⟩ := st; wpAny_pyIter_enum he h
def iEnumS (ta : TA) : TI := fun σ H R => ta σ H fun vs H1 => ∃ x, vs = [.str x] ∧ R (IteS x) H1
theorem pi_enumS {X : Cx} {e : Expr} {ta : TA} {p pos tpos : Pos} {elts : List Expr} {kk : Nat} (hg : Gl X "enumerate") (hm : X.mg "enumerate" = none) (ha : PA X [e] ta) (hs : starEach [e] X.env = [(false, eval e X.env)] := by rfl) :
    PI X (.Tuple elts kk tpos) (.Call (.Name "enumerate" p) [e] [] pos) (iEnumS ta) := by
  refine ⟨fun pins s σ H R I h => ?_⟩
  refine Call_ (ld_blt I hg hm boot_enumerate (PyProof.Rows.callWith_type1 (thn (ha.run pos pins s σ H _ I h) fun us s1 ⟨vs, H1, I1, r1, q1⟩ => ?_) hs rfl))
  obtain ⟨x, ex, q⟩ := q1
  subst ex
  cases r1 with
  | cons r rr =>
    cases rr
    obtain ⟨t, rfl⟩ := r
    refine call_enumerate_str fun h' he hit hsz hk => wpAny_pyIter_enum he ?_
    have I2 : Inv X pins σ H1 { s1 with heap := h' } := I1.kept (t' := s1.toks) hk
    have hty : strIterType x = "str_ascii_iterator" ∨ strIterType x = "str_iterator" := by
      unfold strIterType
      split
      · exact .inl rfl
      · exact .inr rfl
    refine ⟨s1.heap.objs.size + 1, [s1.heap.objs.size + 1, s1.heap.objs.size], _, _, H1, rfl, I2, turn_enumS (s1.heap.objs.size + 1) s1.heap.objs.size x t (strIterType x) hty, ⟨⟨.none, he⟩, hit, Nat.succ_ne_self _, Nat.zero_le _⟩, fun b hb => ?_, q⟩
    have e' : b = s1.heap.objs.size + 1 ∨ b = s1.heap.objs.size := by simpa using hb
    have hle : s1.heap.objs.size ≤ b := by
      rcases e' with z | z
      · rw [z]; exact Nat.le_add_right _ _
      · rw [z]; exact Nat.le_refl _
    exact I1.fpOk hle (I1.hok.fresh hle)

section
variable {K : PySem.W.Frag} {T : Nat → Addr}
def enumS (x : Str) : List Dat := (List.range x.cps.size).map fun (i : Nat) => .tup [.int (i : Int), .str ⟨#[x.cps.getD i 0]⟩]
def CI.enumS (a : CA K T) : CI K T := ⟨fun W => iEnumS (a.te W), fun Γ => (a.ev Γ).bind fun d => match d with | [.str x] => .ok (Cz.enumS x) | _ => .bad, fun W fx G0 H0 G H σ Γ s =>
  (a.ok W fx G0 H0 G H σ Γ s).bind fun v d G1 H1 w1 r1 _ => by
    split
    · next x _ =>
      cases r1 with
      | cons h r =>
        cases r
        cases h
        exact fun R q => ⟨x, rfl, q _ G1 H1 (Grow.refl w1.gh) fun G' H' e1 e2 => ⟨fun i d hd => by
          have hi : i < x.cps.size := by
            have := (List.getElem?_eq_some_iff.mp hd).1
            simpa [Cz.enumS] using this
          refine ⟨hi, fun y H'' hy => ?_⟩
          obtain ⟨Ta, c, hc, rfl, hn, rfl⟩ := hy
          refine ⟨_, Grow.new e2 hn, ?_⟩
          unfold Cz.enumS at hd
          rw [List.getElem?_map, List.getElem?_range hi] at hd
          have hx : x.cps.getD i 0 = c := by
            rw [Array.getD_eq_getD_getElem?, hc]; rfl
          simp only [Option.map_some, hx] at hd
          cases hd
          exact .tup (st_of upd_same) (.cons (.int _) (.cons (.str _) .nil)), fun i hi => by
            show x.cps.size ≤ i
            simpa [Cz.enumS] using hi⟩⟩
    · trivial⟩
/-! ### what is owned, read at its name -/
def CE.lenO (i : Nat) : CE K T := ⟨fun _ => tCB (fun xs H Q => ∃ p ys, xs = [.ref p] ∧ (SqL K H p ys ∨ SqT K H p ys) ∧ Q (.int ys.length) H) (tCons (tVar i) tNil), fun Γ => match Γ[i]? with | some (.ol xs) => .ok (.int xs.length) | _ => .bad, fun W fx G0 H0 G H σ Γ s => by
  split
  · next xs h =>
    obtain ⟨a, vs, h1, h2, h3, _⟩ := s.getL h
    exact Hd.ret s.gh (.int _) fun Q q => ⟨.ref a, h1, a, vs, rfl, .inl (sq_of h2), by rw [h3.length]; exact q⟩
  · trivial⟩
def CE.ixO (i : Nat) (e : CE K T) : CE K T := ⟨fun W => tOp (rIxL K) (tVar i) (e.te W), fun Γ => match Γ[i]? with | some (.ol xs) => (e.ev Γ).bind fun j => (match j with | .int j => (match atI xs j with | some d => .ok d | none => .bad) | _ => .bad) | _ => .bad, fun W fx G0 H0 G H σ Γ s => by
  split
  · next xs h =>
    obtain ⟨a, vs, h1, h2, h3, _⟩ := s.getL h
    refine Hd.imp ((e.ok W fx G0 H0 G H σ Γ s).bind (k := fun y H2 Q => rIxL K (.ref a) y H2 Q) fun v d G1 H1 w1 r1 _ => ?_) fun Q q => ⟨.ref a, h1, q⟩
    cases r1 with
    | int j =>
      dsimp only
      split
      · next d hd =>
        obtain ⟨v, q1, q2⟩ := atI_rep h3 hd
        exact Hd.ret w1.gh (q2.mono w1.g) fun Q q => ⟨a, vs, j, v, rfl, rfl, sq_of (w1.h _ _ h2), q1, q⟩
      · trivial
    | _ => trivial
  · trivial⟩

/-! ### callees -/
/-- a def of the module: what its promise is -/
structure Cal (P : Program) (w : World) (K : PySem.W.Frag) (mg : Str → Option Value) (base : Heap) (x : Str) (k : Nat) (sp : Sp) : Prop where
  ex : ∃ a fd ps, mg x = some (.ref a) ∧ PySem.W.keepIn K (.ref a) = true ∧ Binds K fd ps [] ∧ FnOk P w K mg base (L2N.CX P w) k a fd ps sp
/-- an own class that is made -/
structure CalI (P : Program) (w : World) (K : PySem.W.Frag) (mg : Str → Option Value) (base : Heap) (x : Str) (C : Addr) (k : Nat) (sp : Sp) : Prop where
  ex : ∃ a fd ps, mg x = some (.ref C) ∧ Mk K C a ∧ Binds K fd ps [] ∧ FnOk P w K mg base (L2N.CX P w) k a fd ps sp
/-- a method -/
structure CalM (P : Program) (w : World) (K : PySem.W.Frag) (mg : Str → Option Value) (base : Heap) (C : Addr) (m : Str) (k : Nat) (sp : Sp) : Prop where
  cls : Cls K C
  ex : ∃ a fd ps, Meth K C m a ∧ Binds K fd ps [] ∧ FnOk P w K mg base (L2N.CX P w) k a fd ps sp
structure CalP (P : Program) (w : World) (K : PySem.W.Frag) (mg : Str → Option Value) (base : Heap) (C : Addr) (f : Str) (k : Nat) (sp : Sp) : Prop where
  cls : Cls K C
  ex : ∃ p a fd ps, PropOf K C f p a ∧ Binds K fd ps [] ∧ FnOk P w K mg base (L2N.CX P w) k a fd ps sp
structure CalO (P : Program) (w : World) (K : PySem.W.Frag) (mg : Str → Option Value) (base : Heap) (C : Addr) (m : Str) (k : Nat) (sp : Sp) : Prop where
  nf : PySem.W.notFirst K C (.ref C) = true
  ex : ∃ a fd ps, PySem.W.findIn K (.ref C) m = some (some (.ref a)) ∧ PySem.W.isFn K (.ref a) = true ∧ Binds K fd ps [] ∧ FnOk P w K mg base (L2N.CX P w) k a fd ps sp
end
theorem passLN {X : Cx} : Passes (L2N.CX X.prog X.w) X E0 := fun _ _ _ _ _ _ _ h => by
  obtain ⟨_, _, _, _, _, _, _, _, _, _, _, _, z⟩ := h
  exact z.elim
section
variable {X : Cx} {k : Nat} {C : Addr} {sp : Sp} {W : WX} {x m : Str} {p pos apos : Pos} {e o : Expr} {es : List Expr} {ta : TE} {t : TA} {pl : Sem Bool}
theorem pe_cal (c : Cal X.prog X.w X.K X.mg X.base x k sp) (tk : L2N.Takes X W) (hr : Room k X.A) (ha : PA X (e :: es) t) (hg : Gl X x := by rfl)
    (hdb : (x == ("__debug__" : Str)) = false := by decide) (he : starEach (e :: es) X.env = (false, eval e X.env) :: starEach es X.env := by rfl) (hpl : (backTo pos (starEach es X.env)).any (·.1) = false := by rfl) :
    PE X (.Call (.Name x p) (e :: es) [] pos) (tCallS sp (WE W) t) := by
  obtain ⟨a, fd, ps, hm, hk, hb, F⟩ := c.ex
  exact pe_callS F hr hg hm hk hb (fun σ => L2N.passAt tk σ) ha hdb he hpl
theorem pe_cal0 (c : Cal X.prog X.w X.K X.mg X.base x k sp) (tk : L2N.Takes X W) (hr : Room k X.A) (hg : Gl X x := by rfl) (hdb : (x == ("__debug__" : Str)) = false := by decide) :
    PE X (.Call (.Name x p) [] [] pos) (tCallS sp (WE W) tNil) := by
  obtain ⟨a, fd, ps, hm, hk, hb, F⟩ := c.ex
  exact pe_callS0 F hr hg hm hk hb (fun σ => L2N.passAt tk σ) hdb
theorem pe_calI (c : CalI X.prog X.w X.K X.mg X.base x C k sp) (tk : L2N.Takes X W) (hr : Room (k + 1) X.A) (ha : PA X (e :: es) t) (hg : Gl X x := by rfl)
    (hdb : (x == ("__debug__" : Str)) = false := by decide) (he : starEach (e :: es) X.env = (false, eval e X.env) :: starEach es X.env := by rfl) (hpl : (backTo pos (starEach es X.env)).any (·.1) = false := by rfl) :
    PE X (.Call (.Name x p) (e :: es) [] pos) (tMakeS C sp (WE W) t) := by
  obtain ⟨a, fd, ps, hm, M, hb, F⟩ := c.ex
  exact pe_makeS M F hr hg hm hb (fun σ => L2N.passAt tk σ) ha hdb he hpl
theorem pe_calM (c : CalM X.prog X.w X.K X.mg X.base C m k sp) (tk : L2N.Takes X W) (hr : Room k X.A) (ho : PE X o ta) (ha : PA X (e :: es) t)
    (hst : starEach (e :: es) X.env = (false, eval e X.env) :: starEach es X.env := by rfl) (hpl : (backTo pos (starEach es X.env)).any (·.1) = false := by rfl)
    (ht : eval (.Call (.Attribute o m apos) (e :: es) [] pos) X.env = (do
      let ov ← eval o X.env
      standAt apos.atName
      let (f, first) ← holding [ov] (getMethod ov m pl)
      callWith pos f first (backTo pos (starEach (e :: es) X.env)) (backToKw pos (keywordEach [] X.env))) := by rfl) :
    PE X (.Call (.Attribute o m apos) (e :: es) [] pos) (tMethS C m sp (WE W) ta t) := by
  obtain ⟨a, fd, ps, hm, hb, F⟩ := c.ex
  exact pe_methS ho c.cls hm F hr hb (fun σ => L2N.passAt tk σ) ha hst hpl ht
theorem pe_calM0 (c : CalM X.prog X.w X.K X.mg X.base C m k sp) (tk : L2N.Takes X W) (hr : Room k X.A) (ho : PE X o ta)
    (ht : eval (.Call (.Attribute o m apos) [] [] pos) X.env = (do
      let ov ← eval o X.env
      standAt apos.atName
      let (f, first) ← holding [ov] (getMethod ov m pl)
      callWith pos f first (backTo pos (starEach [] X.env)) (backToKw pos (keywordEach [] X.env))) := by rfl) :
    PE X (.Call (.Attribute o m apos) [] [] pos) (tMethS C m sp (WE W) ta tNil) := by
  obtain ⟨a, fd, ps, hm, hb, F⟩ := c.ex
  exact pe_methS0 ho c.cls hm F hr hb (fun σ => L2N.passAt tk σ) ht
theorem pe_calP {f : Str} (c : CalP X.prog X.w X.K X.mg X.base C f k sp) (hr : Room (k + 1) X.A) (he : PE X o ta) (hab : attributeBase o f X.env (eval o X.env) = eval o X.env := by rfl) : PE X (.Attribute o f pos) (tProp C sp [] E0 ta) := by
  obtain ⟨p, a, fd, ps, hp, hb, F⟩ := c.ex
  exact pe_prop he c.cls hp F hr hb .nil (passLN (X := X.nox)) hab
theorem pe_calO {op : CmpOp} {a b : Expr} {ta tb : TE} (hop : ∀ a b, compareOp op a b = richCompare op a b) (c : CalO X.prog X.w X.K X.mg X.base C (cmpInfo op).2.1 k sp) (tk : L2N.Takes X W) (hr : Room k X.A) (ha : PE X a ta) (hb : PE X b tb) (hm : behindInMarks op b = false) :
    PE X (.Compare a [op] [b] pos) (tOpS (rOwnC C sp (WE W)) ta tb) := by
  obtain ⟨g, fd, ps, hs, hf, hb2, F⟩ := c.ex
  exact pe_cmpS (op_ownC hop c.nf hs hf F hr hb2 (fun σ => L2N.passAt tk σ)) ha hb hm
theorem pt_calO {op : CmpOp} {a b : Expr} {ta tb : TE} (hop : ∀ a b, compareOp op a b = richCompare op a b) (c : CalO X.prog X.w X.K X.mg X.base C (cmpInfo op).2.1 k sp) (tk : L2N.Takes X W) (hr : Room k X.A) (ha : PE X a ta) (hb : PE X b tb) (hm : behindInMarks op b = false) :
    PT X (.Compare a [op] [b] pos) (tTest (tOpS (rOwnC C sp (WE W)) ta tb)) := by
  obtain ⟨g, fd, ps, hs, hf, hb2, F⟩ := c.ex
  exact pt_cmpS (op_ownC hop c.nf hs hf F hr hb2 (fun σ => L2N.passAt tk σ)) ha hb hm
/-- a promise by a better known function -/
theorem spF_le {K : PySem.W.Frag} {T : Nat → Addr} {m : Nat} {F F' : List Dat → Rs Dat} (h : ∀ ds, ds.length = m → F' ds ≠ .bad → F ds = F' ds) : ∀ vs H Q E, spF K T m F' vs H Q E → spF K T m F vs H Q E := fun vs H Q E ⟨hm, G, ds, e, r, rr, hr, q⟩ =>
  ⟨hm, G, ds, e, r, rr, (h ds (r.length.symm.trans hm) (by rw [hr]; rintro rfl; exact q)).trans hr, q⟩
theorem spI_le {K : PySem.W.Frag} {T : Nat → Addr} {c m : Nat} {F F' : Addr → Addr → List Dat → Rs (List (Str × Dat))} (h : ∀ x dx ds, ds.length = m → F' x dx ds ≠ .bad → F x dx ds = F' x dx ds) : ∀ vs H Q E, spI K T c m F' vs H Q E → spI K T c m F vs H Q E := fun vs H Q E ⟨hm, x, dx, vs', e1, e2, G, ds, e, r, rr, hr, q⟩ =>
  ⟨hm, x, dx, vs', e1, e2, G, ds, e, r, rr, (h x dx ds (by have := r.length; rw [e1] at hm; simp at hm; omega) (by rw [hr]; rintro rfl; exact q)).trans hr, q⟩
end
end Cz
namespace Cz
open PySem L2 Evl PySem.Spec PyProof.Rows
section
variable {K : PySem.W.Frag} {T : Nat → Addr}
def CT.yes : CT K T := ⟨fun _ => tYes, fun _ => .ok true, fun W fx G0 H0 G H σ Γ s => Hd.ret s.gh rfl fun Q q => q⟩
/-- isinstance(x, a built-in type) -/
def isiB (n : String) : Dat → Option Bool
  | .non => kitB "NoneType" n
  | .bl _ => kitB "bool" n
  | .int _ => kitB "int" n
  | .str _ => kitB "str" n
  | .lst _ => kitB "list" n
  | .tup _ => kitB "tuple" n
  | _ => none
theorem tyx_l {G H : Hp} {a : Addr} {vs : List V} (e : Ex G H) (h : SqL K G a vs) : TyX K H (.ref a) (.type "list") := by
  rcases ex_l e h with (h | ⟨o, h⟩) | ⟨o, its, n, h, hc, _⟩
  · exact .base (.lst h)
  · exact .base (.frz h)
  · exact .kList h hc
theorem tyx_t {G H : Hp} {a : Addr} {vs : List V} (e : Ex G H) (h : SqT K G a vs) : TyX K H (.ref a) (.type "tuple") := by
  rcases ex_t e h with (h | ⟨o, h⟩) | ⟨o, its, n, h, hc, _⟩
  · exact .base (.tup h)
  · exact .fTuple h
  · exact .kTuple h hc
theorem isiB_ok {G H : Hp} {n : String} {x : V} {d : Dat} {b : Bool} (e : Ex G H) (r : Rep K T G x d) (h : isiB n d = some b) : ∃ t, TyX K H x t ∧ PySem.W.kitOne K t (.type n) = some b := by
  cases r with
  | non => exact ⟨_, .base .non, kit_ty h⟩
  | bl k => exact ⟨_, .base (.bl k), kit_ty h⟩
  | int k => exact ⟨_, .base (.int k), kit_ty h⟩
  | str k => exact ⟨_, .base (.str k), kit_ty h⟩
  | lst q r => exact ⟨_, tyx_l e q, kit_ty h⟩
  | tup q r => exact ⟨_, tyx_t e q, kit_ty h⟩
  | ins _ _ => cases h
  | dic _ _ => cases h
  | dicN _ _ => cases h
  | cls _ => cases h
  | own _ => cases h
def CE.isiB (n : String) (a : CE K T) : CE K T := ⟨fun W => tCB (rIsi K) (tCons (a.te W) (tCons (tC (.ty n)) tNil)), fun Γ => (a.ev Γ).bind fun x => match Cz.isiB n x with | some b => .ok (.bl b) | none => .bad, fun W fx G0 H0 G H σ Γ s =>
  (a.ok W fx G0 H0 G H σ Γ s).bind fun v d G1 H1 w1 r1 _ => by
    cases h : Cz.isiB n d with
    | none => trivial
    | some b =>
      obtain ⟨t, h1, h2⟩ := isiB_ok w1.gh r1 h
      exact Hd.ret w1.gh (.bl b) fun Q q => ⟨v, .ty n, t, .type n, b, rfl, .ty n, h1, h2, q⟩⟩
/-- what isinstance asks of the own class c, and its answer for instances of the class c' -/
structure IsO (K : PySem.W.Frag) (T : Nat → Addr) (c : Nat) : Prop where
  cl : Cls K (T c)
  ha : PySem.W.findIn K (.ref (T c)) "__class__" = some (some (.builtin "object.__class__"))
  hn : PySem.W.specialIn K (.builtin "object.__class__") "__get__" = some (some (.builtin "getset_descriptor.__get__"))
  htk : PySem.W.takesIn K (.builtin "object.__class__") = some true
  hm : PySem.W.mroIn K (T c) (.type "object") = some true
def isiO (c : Nat) : Dat → Option Bool
  | .ins c' _ => if c' = c then some true else none
  | _ => none
def CE.isiO (c : Nat) (hc : IsO K T c) (a : CE K T) : CE K T := ⟨fun W => tCB (rIsi K) (tCons (a.te W) (tCons (tC (.ref (T c))) tNil)), fun Γ => (a.ev Γ).bind fun x => match Cz.isiO c x with | some b => .ok (.bl b) | none => .bad, fun W fx G0 H0 G H σ Γ s =>
  (a.ok W fx G0 H0 G H σ Γ s).bind fun v d G1 H1 w1 r1 _ => by
    cases r1 with
    | @ins a0 c' dx fvs fs h r =>
      by_cases e : c' = c
      · subst e
        simp only [Cz.isiO, if_true]
        exact Hd.ret w1.gh (.bl true) fun Q q => ⟨.ref a0, .ref (T c'), .ref (T c'), .ref (T c'), true, rfl, .own _, .base (.ins (w1.gh _ _ h) hc.cl hc.ha hc.hn hc.htk hc.hm), by unfold PySem.W.kitOne; simp, q⟩
      · simp only [Cz.isiO, if_neg e]
        trivial
    | _ => trivial⟩
/-- str(an int) -/
def oStrI : OpN K T := ⟨fun xs H Q => ∃ i, xs = [.int i] ∧ i.natAbs.log2 < 1920 ∧ Q (.str (toString i)) H, fun as => match as with | [.int i] => if i.natAbs.log2 < 1920 then .ok (.str (toString i)) else .bad | _ => .bad, fun W G H σ xs as e r => by
  split
  · next i =>
    cases r with
    | cons h r =>
      cases h
      cases r
      split
      · next hl => exact Hd.ret e (.str _) fun Q q => ⟨i, rfl, hl, q⟩
      · trivial
  · trivial⟩
/-- a written table with text keys -/
def CE.kd (w : World) (tab : List (Str × Dat)) (a : Addr) (h : ∀ z d, tab.lookup z = some d → ∃ v, KDct K w a z v ∧ ∀ G, Rep K T G v d) (e : CE K T) : CE K T := ⟨fun W => tOp (rIxD K w) (tC (.ref a)) (e.te W), fun Γ => (e.ev Γ).bind fun x => match x with
    | .str z => (match tab.lookup z with | some d => .ok d | none => .bad)
    | _ => .bad, fun W fx G0 H0 G H σ Γ s => by
  refine Hd.imp ((e.ok W fx G0 H0 G H σ Γ s).bind (k := fun y H2 Q => rIxD K w (.ref a) y H2 Q) fun v d G1 H1 w1 r1 _ => ?_) fun Q q => q
  cases r1 with
  | str z =>
    dsimp only
    split
    · next d hd =>
      obtain ⟨v, h1, h2⟩ := h z d hd
      exact Hd.ret w1.gh (h2 G1) fun Q q => ⟨a, z, v, rfl, rfl, h1, q⟩
    · trivial
  | _ => trivial⟩
/-- the module's names that are built-ins' -/
structure Blt (mg : Str → Option Value) : Prop where
  len_ : mg "len" = none
  range_ : mg "range" = none
  int_ : mg "int" = none
  isinstance_ : mg "isinstance" = none
  enumerate_ : mg "enumerate" = none
  zip_ : mg "zip" = none
  str_ : mg "str" = none
  list_ : mg "list" = none
  tuple_ : mg "tuple" = none
  all_ : mg "all" = none
  any_ : mg "any" = none
  reversed_ : mg "reversed" = none
  iter_ : mg "iter" = none
  bool_ : mg "bool" = none
  super_ : mg "super" = none
  dict_ : mg "dict" = none
  ValueError_ : mg "ValueError" = none
end
end Cz
namespace Cz
open PySem L2 Evl PySem.Spec PyProof.Rows
section
variable {K : PySem.W.Frag} {T : Nat → Addr} {X : Cx} {W : WX}
theorem d_seq {st : Stmt} {rest : List Stmt} {a b : CS K T} (h1 : PS X st (a.ts W)) (h2 : PSs X rest (b.ts W)) : PSs X (st :: rest) ((CS.seq a b).ts W) := by
  show PSs X (st :: rest) (tSeq (a.ts W) (b.ts W))
  exact pss_cons h1 h2
theorem d_one {st : Stmt} {a : CS K T} (h1 : PS X st (a.ts W)) : PSs X [st] (a.ts W) := pss_one h1
theorem d_nil : PSs X [] ((CS.pass : CS K T).ts W) := pss_nil
theorem d_never {sts : List Stmt} : PSs X sts ((CS.never : CS K T).ts W) := pss_never
theorem d_neverS {st : Stmt} : PS X st ((CS.never : CS K T).ts W) := ps_never
theorem d_pass {pos : Pos} : PS X (.Pass pos) ((CS.pass : CS K T).ts W) := ps_pass
theorem d_brk {pos : Pos} : PS X (.Break pos) ((CS.brk : CS K T).ts W) := ps_break
theorem d_cont {pos : Pos} : PS X (.Continue pos) ((CS.cont : CS K T).ts W) := ps_continue
theorem d_frz {st : Stmt} {i : Nat} {a : CS K T} (h : PS X st (a.ts W)) : PS X st ((CS.frz i a).ts W) := h
section
variable {pos p p' p2 px pt tpos apos : Pos} {a b c e : Expr} {es : List Expr} {ca cb cc : CE K T} {ct cu : CT K T} {cas : CA K T} {n : Nat}
theorem d_var {i : Nat} {x : Str} (hN : X.N[i]? = some x := by rfl) (hv : Vis X.env.scope x := by first | exact Or.inl rfl | exact Or.inr (Or.inl rfl) | exact Or.inr (Or.inr rfl)) (hd : (x == ("__debug__" : Str)) = false := by decide)
    (hcd : (x == ("__classdict__" : Str)) = false := by decide) : PE X (.Name x pos) ((CE.var (K := K) (T := T) i).te W) := pe_var hN hv hd hcd
theorem d_int {i : Int} {j : Nat} : PE X (.Constant (.int i) j pos) ((CE.int (K := K) (T := T) i).te W) := pe_int
theorem d_bl {i : Bool} {j : Nat} : PE X (.Constant (.bool i) j pos) ((CE.bl (K := K) (T := T) i).te W) := pe_bl
theorem d_non {j : Nat} : PE X (.Constant .none j pos) ((CE.non (K := K) (T := T)).te W) := pe_non
theorem d_str {i : Str} {j : Nat} : PE X (.Constant (.str i) j pos) ((CE.str (K := K) (T := T) i).te W) := pe_str
/-- a name of the module -/
theorem d_glob {x : Str} {v : V} {d : Dat} {h : ∀ G, Rep K T G v d} {u : Value} (hm : X.mg x = some u) (r : RelV v u) (hg : Gl X x := by rfl) (hd : (x == ("__debug__" : Str)) = false := by decide) : PE X (.Name x pos) ((CE.k v d h).te W) := pe_glob hg hm r hd
theorem d_bin {op : Operator} {o : Op2 K T} (ho : OpR X (binaryOp op) o.r) (ha : PE X a (ca.te W)) (hb : PE X b (cb.te W)) : PE X (.BinOp a op b pos) ((CE.op2 o ca cb).te W) := pe_op ho ha hb
theorem d_un {op : UnaryOp} {o : Op1 K T} (ho : UnR X (unaryOp op) o.r) (ha : PE X a (ca.te W)) : PE X (.UnaryOp op a pos) ((CE.op1 o ca).te W) := by
  show PE X (.UnaryOp op a pos) (tUn o.r (ca.te W))
  exact pe_un ho ha
theorem d_cmp {op : CmpOp} {o : Op2 K T} (ho : OpR X (compareOp op) o.r) (ha : PE X a (ca.te W)) (hb : PE X b (cb.te W)) (hm : behindInMarks op b = false) : PE X (.Compare a [op] [b] pos) ((CE.op2 o ca cb).te W) := pe_cmpR ho ha hb hm
theorem d_cmpT {op : CmpOp} {o : Op2 K T} (ho : OpR X (compareOp op) o.r) (ha : PE X a (ca.te W)) (hb : PE X b (cb.te W)) (hm : behindInMarks op b = false) : PT X (.Compare a [op] [b] pos) ((CT.test (CE.op2 o ca cb)).te W) := pt_cmpR ho ha hb hm
theorem d_chain {op op' : CmpOp} {o o' : Op2 K T} (ho : OpR X (compareOp op) o.r) (ho' : OpR X (compareOp op') o'.r) (ha : PE X a (ca.te W)) (hb : PE X b (cb.te W)) (hc : PE X c (cc.te W)) (hm : lastMarks [op, op'] [b, c] = false := by with_unfolding_all rfl) :
    PE X (.Compare a [op, op'] [b, c] pos) ((CE.chain o o' ca cb cc).te W) := pe_chain ho ho' ha hb hc hm
theorem d_and {rest : List Expr} (ha : PE X a (ca.te W)) (hb : PE X (.BoolOp .And (b :: rest) pos) (cb.te W)) : PE X (.BoolOp .And (a :: b :: rest) pos) ((CE.and ca cb).te W) := pe_and ha hb
theorem d_or {rest : List Expr} (ha : PE X a (ca.te W)) (hb : PE X (.BoolOp .Or (b :: rest) pos) (cb.te W)) : PE X (.BoolOp .Or (a :: b :: rest) pos) ((CE.or ca cb).te W) := pe_or ha hb
theorem d_oneB {op : BoolOp} (ha : PE X a (ca.te W)) : PE X (.BoolOp op [a] pos) (ca.te W) := pe_one ha
theorem d_not (ha : PE X a (ca.te W)) : PE X (.UnaryOp .Not a pos) ((CE.not ca).te W) := pe_not ha
theorem d_ifx (hc : PT X c (ct.te W)) (ha : PE X a (ca.te W)) (hb : PE X b (cb.te W)) : PE X (.IfExp c a b pos) ((CE.ifx ct ca cb).te W) := pe_ifExp hc ha hb
theorem d_andT {rest : List Expr} (ha : PT X a (ct.te W)) (hb : PW X (.BoolOp .And (b :: rest) pos) (cu.te W)) : PW X (.BoolOp .And (a :: b :: rest) pos) ((CT.and ct cu).te W) := pw_and ha hb
theorem d_orT {rest : List Expr} (ha : PT X a (ct.te W)) (hb : PW X (.BoolOp .Or (b :: rest) pos) (cu.te W)) : PW X (.BoolOp .Or (a :: b :: rest) pos) ((CT.or ct cu).te W) := pw_or ha hb
theorem d_and1 (ha : PT X a (ct.te W)) : PW X (.BoolOp .And [a] pos) (ct.te W) := pw_and1 ha
theorem d_or1 (ha : PT X a (ct.te W)) : PW X (.BoolOp .Or [a] pos) (ct.te W) := pw_or1 ha
theorem d_notT (ha : PT X a (ct.te W)) : PT X (.UnaryOp .Not a pos) ((CT.not ct).te W) := pt_not ha
theorem d_val (ha : PE X a (ca.te W)) (he : ∀ whole, isTrue a X.env whole = (do let v ← whole; standAt a.pos; holding [v] (truthy v)) := by intro _; rfl) : PT X a ((CT.b ca).te W) := pt_val ha he
theorem d_anil : PA X [] ((CA.nil : CA K T).te W) := pa_nil
theorem d_acons (ha : PE X e (ca.te W)) (hr : PA X es (cas.te W)) (hs : starEach (e :: es) X.env = (false, eval e X.env) :: starEach es X.env := by rfl) : PA X (e :: es) ((CA.cons ca cas).te W) := pa_cons ha hr hs
theorem d_tup {x1 : Nat} (h : PA X es (cas.te W)) : PE X (.Tuple es x1 pos) ((CE.tup cas).te W) := pe_tup h
theorem d_lst (h : PA X es (cas.te W)) : PE X (.List es pos) ((CO.lst cas).te W) := pe_lst h
theorem d_ce {co : CO K T} (h : PE X e (co.te W)) : PE X e ((CO.ce co).te W) := h
theorem d_ix {o : Op2 K T} (hr : IxR X o.r) (ha : PE X a (ca.te W)) (hb : PE X b (cb.te W)) (hs : PlainIx b := by exact fun _ _ => rfl) : PE X (.Subscript a b pos) ((CE.op2 o ca cb).te W) := pe_ix hr ha hb hs
theorem d_none : PO X none ((CP.none : CP K T).te W) := po_none
theorem d_some (h : PE X e (ca.te W)) : PO X (some e) ((CP.some ca).te W) := po_some h
theorem d_slS {lo hi : Option Expr} {cl cu : CP K T} (ha : PE X a (ca.te W)) (hl : PO X lo (cl.te W)) (hu : PO X hi (cu.te W)) : PE X (.Subscript a (.Slice lo hi none p2) pos) ((CE.slS ca cl cu).te W) := pe_slice sl_str ha hl hu
theorem d_blt {x : Str} {id : String} {o : OpN K T} (hc : CallR X (.builtin id) o.r) (hm : X.mg x = none) (hv : bootBuiltins x = some (.builtin id)) (ha : PA X (e :: es) (cas.te W)) (hg : Gl X x := by rfl) (hn : x ≠ "__name__" := by decide) (hdb : (x == ("__debug__" : Str)) = false := by decide)
    (he : starEach (e :: es) X.env = (false, eval e X.env) :: starEach es X.env := by rfl) (hpl : (backTo pos (starEach es X.env)).any (·.1) = false := by rfl) : PE X (.Call (.Name x p) (e :: es) [] pos) ((CE.opN o cas).te W) := pe_callB hc hg hm hv ha hn hdb he hpl
theorem d_typ {x : Str} {Ty : String} {o : OpN K T} (hc : CallR X (.type Ty) o.r) (hm : X.mg x = none) (hv : bootBuiltins x = some (.type Ty)) (ha : PA X (e :: es) (cas.te W)) (hg : Gl X x := by rfl) (hn : x ≠ "__name__" := by decide) (hdb : (x == ("__debug__" : Str)) = false := by decide)
    (he : starEach (e :: es) X.env = (false, eval e X.env) :: starEach es X.env := by rfl) (hpl : (backTo pos (starEach es X.env)).any (·.1) = false := by rfl) : PE X (.Call (.Name x p) (e :: es) [] pos) ((CE.opN o cas).te W) := pe_callTy hc hg hm hv ha hn hdb he hpl
theorem d_cal {x : Str} {k : Nat} {F : List Dat → Rs Dat} (C : Cal X.prog X.w X.K X.mg X.base x k (spF K T n F)) (tk : L2N.Takes X W) (hr : Room k X.A) (ha : PA X (e :: es) (cas.te W)) (hg : Gl X x := by rfl)
    (hdb : (x == ("__debug__" : Str)) = false := by decide) (he : starEach (e :: es) X.env = (false, eval e X.env) :: starEach es X.env := by rfl) (hpl : (backTo pos (starEach es X.env)).any (·.1) = false := by rfl) :
    PE X (.Call (.Name x p) (e :: es) [] pos) ((CE.fn n F cas).te W) := pe_cal C tk hr ha hg hdb he hpl
theorem d_cal0 {x : Str} {k : Nat} {F : List Dat → Rs Dat} (C : Cal X.prog X.w X.K X.mg X.base x k (spF K T 0 F)) (tk : L2N.Takes X W) (hr : Room k X.A) (hg : Gl X x := by rfl) (hdb : (x == ("__debug__" : Str)) = false := by decide) :
    PE X (.Call (.Name x p) [] [] pos) ((CE.fn (K := K) (T := T) 0 F CA.nil).te W) := pe_cal0 C tk hr hg hdb
theorem d_make {x : Str} {k c m : Nat} {F : Addr → Addr → List Dat → Rs (List (Str × Dat))} {R : List Dat → Rs (List (Str × Dat))} {hF : ∀ x dx ds, R ds ≠ .bad → F x dx ds = R ds} (C : CalI X.prog X.w X.K X.mg X.base x (T c) k (spI K T c m F)) (tk : L2N.Takes X W) (hr : Room (k + 1) X.A) (ha : PA X (e :: es) (cas.te W)) (hg : Gl X x := by rfl)
    (hdb : (x == ("__debug__" : Str)) = false := by decide) (he : starEach (e :: es) X.env = (false, eval e X.env) :: starEach es X.env := by rfl) (hpl : (backTo pos (starEach es X.env)).any (·.1) = false := by rfl) :
    PE X (.Call (.Name x p) (e :: es) [] pos) ((CE.make c m F R hF cas).te W) := pe_calI C tk hr ha hg hdb he hpl
theorem d_meth {pl : Sem Bool} {m : Str} {k c : Nat} {F : List Dat → Rs Dat} (C : CalM X.prog X.w X.K X.mg X.base (T c) m k (spF K T (n + 1) F)) (tk : L2N.Takes X W) (hr : Room k X.A) (ho : PE X a (ca.te W)) (ha : PA X (e :: es) (cas.te W))
    (hst : starEach (e :: es) X.env = (false, eval e X.env) :: starEach es X.env := by rfl) (hpl : (backTo pos (starEach es X.env)).any (·.1) = false := by rfl)
    (ht : eval (.Call (.Attribute a m apos) (e :: es) [] pos) X.env = (do
      let ov ← eval a X.env
      standAt apos.atName
      let (f, first) ← holding [ov] (getMethod ov m pl)
      callWith pos f first (backTo pos (starEach (e :: es) X.env)) (backToKw pos (keywordEach [] X.env))) := by rfl) :
    PE X (.Call (.Attribute a m apos) (e :: es) [] pos) ((CE.meth c m n F ca cas).te W) := pe_calM C tk hr ho ha hst hpl ht
theorem d_meth0 {pl : Sem Bool} {m : Str} {k c : Nat} {F : List Dat → Rs Dat} (C : CalM X.prog X.w X.K X.mg X.base (T c) m k (spF K T 1 F)) (tk : L2N.Takes X W) (hr : Room k X.A) (ho : PE X a (ca.te W))
    (ht : eval (.Call (.Attribute a m apos) [] [] pos) X.env = (do
      let ov ← eval a X.env
      standAt apos.atName
      let (f, first) ← holding [ov] (getMethod ov m pl)
      callWith pos f first (backTo pos (starEach [] X.env)) (backToKw pos (keywordEach [] X.env))) := by rfl) :
    PE X (.Call (.Attribute a m apos) [] [] pos) ((CE.meth c m 0 F ca CA.nil).te W) := pe_calM0 C tk hr ho ht
theorem d_prop {f : Str} {k c : Nat} {F : List Dat → Rs Dat} (C : CalP X.prog X.w X.K X.mg X.base (T c) f k (spF K T 1 F)) (hr : Room (k + 1) X.A) (ho : PE X a (ca.te W)) (hab : attributeBase a f X.env (eval a X.env) = eval a X.env := by rfl) : PE X (.Attribute a f pos) ((CE.prop c F ca).te W) := pe_calP C hr ho hab
theorem d_ownC {op : CmpOp} {k c : Nat} {F : List Dat → Rs Dat} (hop : ∀ a b, compareOp op a b = richCompare op a b) (C : CalO X.prog X.w X.K X.mg X.base (T c) (cmpInfo op).2.1 k (spF K T 2 F)) (tk : L2N.Takes X W) (hr : Room k X.A) (ha : PE X a (ca.te W)) (hb : PE X b (cb.te W)) (hm : behindInMarks op b = false) :
    PE X (.Compare a [op] [b] pos) ((CE.ownC c F ca cb).te W) := pe_calO hop C tk hr ha hb hm
theorem d_ownCT {op : CmpOp} {k c : Nat} {F : List Dat → Rs Dat} (hop : ∀ a b, compareOp op a b = richCompare op a b) (C : CalO X.prog X.w X.K X.mg X.base (T c) (cmpInfo op).2.1 k (spF K T 2 F)) (tk : L2N.Takes X W) (hr : Room k X.A) (ha : PE X a (ca.te W)) (hb : PE X b (cb.te W)) (hm : behindInMarks op b = false) :
    PT X (.Compare a [op] [b] pos) ((CT.test (CE.ownC c F ca cb)).te W) := pt_calO hop C tk hr ha hb hm
theorem d_ret (ha : PE X a (ca.te W)) : PS X (.Return (some a) pos) ((CS.ret ca).ts W) := ps_ret ha
theorem d_retN : PS X (.Return none pos) ((CS.retN : CS K T).ts W) := ps_retN
theorem d_expr (ha : PE X a (ca.te W)) (hs : swapsWith a none pos.line X.env = pure false := by rfl) : PS X (.Expr a pos) ((CS.expr ca).ts W) := ps_expr ha hs
theorem d_if {st su : List Stmt} {sa sb : CS K T} (hc : PT X c (ct.te W)) (ha : PSs X st (sa.ts W)) (hb : PSs X su (sb.ts W)) : PS X (.If c st su pos) ((CS.ifs ct sa sb).ts W) := ps_if hc ha hb
theorem d_for {tg iter : Expr} {st : List Stmt} {ci : CI K T} {g : CG K T} {sa : CS K T} (hp : PassesOwn (model X.prog X.w) X.A X.env X.xe) (hi : PI X tg iter (ci.te W)) (hg : PG X tg g.g) (hb : PSs X st (sa.ts W)) (hc : X.calm = true := by rfl) (hs : ∀ x, foldedSetIterable iter X.env x = pure x := by intro _; rfl) : PS X (.For tg iter st [] pos) ((CS.forS ci g sa).ts W) := ps_for hp hc hi hg hb hs
theorem d_while {st : List Stmt} {sa : CS K T} (hp : PassesOwn (model X.prog X.w) X.A X.env X.xe) (hc : PT X c (ct.te W)) (hb : PSs X st (sa.ts W)) : PS X (.While c st [] pos) ((CS.whileS n ct sa).ts W) := ps_while hp hc hb
theorem d_name {i : Nat} {x : Str} (hN : X.N.Nodup) (hi : X.N[i]? = some x := by rfl) (hx : Loc X.env.scope x := by first | exact Or.inl rfl | exact Or.inr rfl) (hf : X.fn x = true ∨ X.env.scope.names.lookup x = some .local := by first | exact .inl rfl | exact .inr rfl | assumption) : PG X (.Name x pos) (CG.name (K := K) (T := T) i).g := pg_name hN hi hx hf
theorem d_gnil : PGs X [] (CGs.nil : CGs K T).g := pgs_nil
theorem d_gcons {g : CG K T} {gs : CGs K T} {t : Expr} {ts : List Expr} (h : PG X t g.g) (hr : PGs X ts gs.g) (hs : List.map (fun x => x.snd) (assignEach (t :: ts) X.env) = assign t X.env :: List.map (fun x => x.snd) (assignEach ts X.env) := by rfl) : PGs X (t :: ts) (CGs.cons g gs).g := pgs_cons h hr hs
theorem d_gtup {kk : Nat} {gs : CGs X.K T} (hc : X.calm = true) (h : PGs X es gs.g) (hn : (assignEach es X.env).length = n := by rfl) (hst : (assignEach es X.env).findIdx? (·.1) = none := by rfl) : PG X (.Tuple es kk pos) (CG.tup n gs).g := pg_tup hc h hn hst
theorem d_str_ {tg : Expr} (h : PE X e (ca.te W)) : PI X tg e ((CI.str ca).te W) := pi_str h
theorem d_range1 {tg : Expr} (hm : X.mg "range" = none) (ha : PA X [a] (cas.te W)) (hg : Gl X "range" := by rfl) (hs : starEach [a] X.env = [(false, eval a X.env)] := by rfl) : PI X tg (.Call (.Name "range" p) [a] [] pos) ((CI.range1 cas).te W) := pi_range1 hg hm ha hs
theorem d_range2 {tg : Expr} (hm : X.mg "range" = none) (ha : PA X [a, b] (cas.te W)) (hg : Gl X "range" := by rfl) (hs : starEach [a, b] X.env = [(false, eval a X.env), (false, eval b X.env)] := by rfl) (hs2 : starEach [b] X.env = [(false, eval b X.env)] := by rfl) : PI X tg (.Call (.Name "range" p) [a, b] [] pos) ((CI.range2 cas).te W) := pi_range2 hg hm ha hs hs2
theorem d_enumS {elts : List Expr} {kk : Nat} (hm : X.mg "enumerate" = none) (ha : PA X [a] (cas.te W)) (hg : Gl X "enumerate" := by rfl) (hs : starEach [a] X.env = [(false, eval a X.env)] := by rfl) : PI X (.Tuple elts kk tpos) (.Call (.Name "enumerate" p) [a] [] pos) ((CI.enumS cas).te W) := pi_enumS hg hm ha hs
theorem d_yes : PTs X [] ((CT.yes : CT K T).te W) := pts_nil
theorem d_t1 (h : PT X c (ct.te W)) : PTs X [c] (ct.te W) := pts_one h
end
end
section
variable {T : Nat → Addr} {X : Cx} {W : WX} {pos p p' p2 px pt tpos apos : Pos} {a b c e : Expr} {es : List Expr} {ca cb cc : CE X.K T} {ct cu : CT X.K T} {cas : CA X.K T} {n : Nat}
theorem d_lenO {i : Nat} {x : Str} (hm : X.mg "len" = none) (hN : X.N[i]? = some x := by rfl) (hv : Vis X.env.scope x := by first | exact Or.inl rfl | exact Or.inr (Or.inl rfl) | exact Or.inr (Or.inr rfl)) (hd : (x == ("__debug__" : Str)) = false := by decide)
    (hcd : (x == ("__classdict__" : Str)) = false := by decide) (hg : Gl X "len" := by rfl) : PE X (.Call (.Name "len" p) [.Name x p2] [] pos) ((CE.lenO (K := X.K) (T := T) i).te W) :=
  pe_callB call_len_seq hg hm PySem.boot_len (pa_cons (pe_var hN hv hd hcd) pa_nil)
theorem d_ixO {i : Nat} {x : Str} (hb : PE X b (cb.te W)) (hN : X.N[i]? = some x := by rfl) (hv : Vis X.env.scope x := by first | exact Or.inl rfl | exact Or.inr (Or.inl rfl) | exact Or.inr (Or.inr rfl)) (hd : (x == ("__debug__" : Str)) = false := by decide)
    (hcd : (x == ("__classdict__" : Str)) = false := by decide) (hs : PlainIx b := by exact fun _ _ => rfl) : PE X (.Subscript (.Name x p2) b pos) ((CE.ixO i cb).te W) := pe_ix ix_list (pe_var hN hv hd hcd) hb hs
theorem d_slL {lo hi : Option Expr} {cl cu : CP X.K T} (ha : PE X a (ca.te W)) (hl : PO X lo (cl.te W)) (hu : PO X hi (cu.te W)) : PE X (.Subscript a (.Slice lo hi none p2) pos) ((CO.slL ca cl cu).te W) := pe_slice sl_list ha hl hu
theorem d_listOf (hm : X.mg "list" = none) (ha : PA X (e :: es) (cas.te W)) (hg : Gl X "list" := by rfl)
    (he : starEach (e :: es) X.env = (false, eval e X.env) :: starEach es X.env := by rfl) (hpl : (backTo pos (starEach es X.env)).any (·.1) = false := by rfl) : PE X (.Call (.Name "list" p) (e :: es) [] pos) ((CO.listOf cas).te W) := pe_callTy call_list_of hg hm (by decide +kernel) ha (by decide) (by decide) he hpl
theorem d_join (ha : PE X a (ca.te W)) (hb : PE X b (cb.te W)) (hbase : attributeBase a "join" X.env (eval a X.env) = eval a X.env := by rfl)
    (hfew : ((backTo pos (starEach [b] X.env)).all (fun x => !x.1) && (backToKw pos (keywordEach [] X.env)).all (fun x => x.1.isSome) && decide (([b] : List Expr).length + ([] : List Keyword).length + (if ([] : List Keyword).isEmpty then 0 else 1) < 30)) = true := by rfl)
    (hline : (apos.endLine == pos.line) = true := by rfl) (hs : starEach [b] X.env = (false, eval b X.env) :: starEach [] X.env := by rfl) (hplain : (backTo pos (starEach [] X.env)).any (·.1) = false := by rfl) :
    PE X (.Call (.Attribute a "join" apos) [b] [] pos) ((CE.join ca cb).te W) := pe_bm PySem.F.plainAttrs_str PySem.F.slot_str_join PySem.F.type_str_join mt_join ha (pa_cons hb pa_nil hs) hbase hfew hline hs hplain
theorem d_sindex (ha : PE X a (ca.te W)) (hb : PE X b (cb.te W)) (hbase : attributeBase a "index" X.env (eval a X.env) = eval a X.env := by rfl)
    (hfew : ((backTo pos (starEach [b] X.env)).all (fun x => !x.1) && (backToKw pos (keywordEach [] X.env)).all (fun x => x.1.isSome) && decide (([b] : List Expr).length + ([] : List Keyword).length + (if ([] : List Keyword).isEmpty then 0 else 1) < 30)) = true := by rfl)
    (hline : (apos.endLine == pos.line) = true := by rfl) (hs : starEach [b] X.env = (false, eval b X.env) :: starEach [] X.env := by rfl) (hplain : (backTo pos (starEach [] X.env)).any (·.1) = false := by rfl) :
    PE X (.Call (.Attribute a "index" apos) [b] [] pos) ((CE.sindex ca cb).te W) := pe_bm PySem.F.plainAttrs_str PySem.F.slot_str_index PySem.F.type_str_index mt_sindex ha (pa_cons hb pa_nil hs) hbase hfew hline hs hplain
theorem d_app {i : Nat} {x : Str} (he : PE X e (ca.te W)) (hN : X.N[i]? = some x := by rfl) (hv : Vis X.env.scope x := by first | exact Or.inl rfl | exact Or.inr (Or.inl rfl) | exact Or.inr (Or.inr rfl)) (hd : (x == ("__debug__" : Str)) = false := by decide)
    (hcd : (x == ("__classdict__" : Str)) = false := by decide) (hbase : attributeBase (.Name x p2) "append" X.env (eval (.Name x p2) X.env) = eval (.Name x p2) X.env := by rfl)
    (hfew : ((backTo pos (starEach [e] X.env)).all (fun x => !x.1) && (backToKw pos (keywordEach [] X.env)).all (fun x => x.1.isSome) && decide (([e] : List Expr).length + ([] : List Keyword).length + (if ([] : List Keyword).isEmpty then 0 else 1) < 30)) = true := by rfl)
    (hline : (apos.endLine == pos.line) = true := by rfl) (hs : starEach [e] X.env = (false, eval e X.env) :: starEach [] X.env := by rfl) (hplain : (backTo pos (starEach [] X.env)).any (·.1) = false := by rfl) :
    PS X (.Expr (.Call (.Attribute (.Name x p2) "append" apos) [e] [] pos) p') ((CS.app i ca).ts W) := ps_expr (pe_bm PySem.F.plainAttrs_list PySem.F.slot_list_append PySem.F.type_list_append mt_append (pe_var hN hv hd hcd) (pa_cons he pa_nil hs) hbase hfew hline hs hplain)
theorem d_setO {i : Nat} {x : Str} {co : CO X.K T} (hN : X.N.Nodup) (he : PE X a (co.te W)) (hi : X.N[i]? = some x := by rfl) (hx : Loc X.env.scope x := by first | exact Or.inl rfl | exact Or.inr rfl)
    (hs : swapsWith a (some (.Name x px)) pos.line X.env = pure false := by rfl) (hf : X.fn x = true ∨ X.env.scope.names.lookup x = some .local := by first | exact .inl rfl | exact .inr rfl | assumption) : PS X (.Assign [.Name x px] a pos) ((CS.setO i co).ts W) := ps_set hN hi hx he hs hf
theorem d_fldO {i c : Nat} {x f : Str} {hc : Cls X.K (T c)} {hn : NoAttr X.K (T c) f} (hN : X.N[i]? = some x := by rfl) (hv : Vis X.env.scope x := by first | exact Or.inl rfl | exact Or.inr (Or.inl rfl) | exact Or.inr (Or.inr rfl)) (hd : (x == ("__debug__" : Str)) = false := by decide)
    (hcd : (x == ("__classdict__" : Str)) = false := by decide) (hab : attributeBase (.Name x p2) f X.env (eval (.Name x p2) X.env) = eval (.Name x p2) X.env := by rfl) : PE X (.Attribute (.Name x p2) f pos) ((CE.fldO i c f hc hn).te W) := pe_fld (pe_var hN hv hd hcd) hab
theorem d_setF {i c : Nat} {x f : Str} {hc : Cls X.K (T c)} {hn : NoAttr X.K (T c) f} (ha : PE X a (ca.te W)) (hN : X.N[i]? = some x := by rfl) (hv : Vis X.env.scope x := by first | exact Or.inl rfl | exact Or.inr (Or.inl rfl) | exact Or.inr (Or.inr rfl)) (hd : (x == ("__debug__" : Str)) = false := by decide)
    (hcd : (x == ("__classdict__" : Str)) = false := by decide) (hs : swapsWith a (some (.Attribute (.Name x p2) f p')) pos.line X.env = pure false := by rfl) : PS X (.Assign [.Attribute (.Name x p2) f p'] a pos) ((CS.fldO i c f hc hn ca).ts W) := ps_fld (pe_var hN hv hd hcd) ha hs
theorem d_fld {c : Nat} {f : Str} {hc : Cls X.K (T c)} {hn : NoAttr X.K (T c) f} (ha : PE X a (ca.te W)) (hab : attributeBase a f X.env (eval a X.env) = eval a X.env := by rfl) : PE X (.Attribute a f pos) ((CE.fld c f hc hn ca).te W) := pe_fld ha hab
theorem d_list_ {tg : Expr} (h : PE X e (ca.te W)) : PI X tg e ((CI.list ca).te W) := pi_list h
theorem d_tup_ {tg : Expr} (h : PE X e (ca.te W)) : PI X tg e ((CI.tuple ca).te W) := pi_tup h
theorem d_isiB {x : Str} {Ty : String} (hi : X.mg "isinstance" = none) (hm : X.mg x = none) (hv : bootBuiltins x = some (.type Ty)) (ha : PE X a (ca.te W)) (hg : Gl X "isinstance" := by rfl) (hgx : Gl X x := by rfl) (hn : x ≠ "__name__" := by decide) (hd : (x == ("__debug__" : Str)) = false := by decide)
    (hs1 : starEach [a, .Name x p2] X.env = (false, eval a X.env) :: starEach [.Name x p2] X.env := by rfl) (hs2 : starEach [.Name x p2] X.env = (false, eval (.Name x p2) X.env) :: starEach [] X.env := by rfl) (hpl : (backTo pos (starEach [.Name x p2] X.env)).any (·.1) = false := by rfl) :
    PE X (.Call (.Name "isinstance" p) [a, .Name x p2] [] pos) ((CE.isiB Ty ca).te W) := pe_callB call_isi hg hi (by decide +kernel) (pa_cons ha (pa_cons (pe_bltn (v := .ty Ty) hgx hm hv rfl hn hd) pa_nil hs2) hs1) (by decide) (by decide) hs1 hpl
theorem d_isiO {x : Str} {c : Nat} {hc : IsO X.K T c} (hi : X.mg "isinstance" = none) (hm : X.mg x = some (.ref (T c))) (ha : PE X a (ca.te W)) (hg : Gl X "isinstance" := by rfl) (hgx : Gl X x := by rfl) (hd : (x == ("__debug__" : Str)) = false := by decide)
    (hs1 : starEach [a, .Name x p2] X.env = (false, eval a X.env) :: starEach [.Name x p2] X.env := by rfl) (hs2 : starEach [.Name x p2] X.env = (false, eval (.Name x p2) X.env) :: starEach [] X.env := by rfl) (hpl : (backTo pos (starEach [.Name x p2] X.env)).any (·.1) = false := by rfl) :
    PE X (.Call (.Name "isinstance" p) [a, .Name x p2] [] pos) ((CE.isiO c hc ca).te W) := pe_callB call_isi hg hi (by decide +kernel) (pa_cons ha (pa_cons (pe_glob (v := .ref (T c)) hgx hm rfl hd) pa_nil hs2) hs1) (by decide) (by decide) hs1 hpl
theorem d_kd {x : Str} {ad : Addr} {tab : List (Str × Dat)} {h : ∀ z d, tab.lookup z = some d → ∃ v, KDct X.K X.w ad z v ∧ ∀ G, Rep X.K T G v d} (hm : X.mg x = some (.ref ad)) (hb : PE X b (cb.te W)) (hg : Gl X x := by rfl) (hd : (x == ("__debug__" : Str)) = false := by decide) (hs : PlainIx b := by exact fun _ _ => rfl) :
    PE X (.Subscript (.Name x p2) b pos) ((CE.kd X.w tab ad h cb).te W) := pe_ix ix_kdict (pe_glob (v := .ref ad) hg hm rfl hd) hb hs
theorem d_set {i : Nat} {x : Str} (hN : X.N.Nodup) (he : PE X a (ca.te W)) (hi : X.N[i]? = some x := by rfl) (hx : Loc X.env.scope x := by first | exact Or.inl rfl | exact Or.inr rfl)
    (hs : swapsWith a (some (.Name x px)) pos.line X.env = pure false := by rfl) (hf : X.fn x = true ∨ X.env.scope.names.lookup x = some .local := by first | exact .inl rfl | exact .inr rfl | assumption) : PS X (.Assign [.Name x px] a pos) ((CS.set i ca).ts W) := ps_set hN hi hx he hs hf
theorem d_lc {tg iter : Expr} {ifs : List Expr} {scope : Scope} {ci : CI X.K T} {g : CG X.K T} (own : List (Str × Nat)) (ho : own.map (·.2) = g.sl) (hN : X.N.Nodup) (ok : blkC X.N X.env.scope scope own = true) (hi : PI X tg iter (ci.te W))
    (hg : ∀ (s : Shared) (H : Hp) (C : Addr) (cl : List (Str × Addr)) (fp : List Addr), PG (X.blk s H scope (compEnvC scope cl C X.env) fp) tg g.g) (ht : ∀ (s : Shared) (H : Hp) (C : Addr) (cl : List (Str × Addr)) (fp : List Addr), PTs (X.blk s H scope (compEnvC scope cl C X.env) fp) ifs (ct.te W0))
    (he : ∀ (s : Shared) (H : Hp) (C : Addr) (cl : List (Str × Addr)) (fp : List Addr), PE (X.blk s H scope (compEnvC scope cl C X.env) fp) e (ca.te W0)) (hc : X.calm = true := by rfl) (hs : ∀ x, foldedSetIterable iter X.env x = pure x := by intro _; rfl) :
    PE X (.ListComp e [⟨tg, iter, ifs, 0⟩] scope pos) ((CO.lc ci g ct ca).te W) := by
  have h := pe_lc (pos := pos) hc hN hi (blkOk_by ok) hg ht he hs
  rw [ho] at h
  exact h
/-- name = [..] -/
theorem d_setLc {i : Nat} {y : Str} {tg iter : Expr} {ifs : List Expr} {scope : Scope} {ci : CI X.K T} {g : CG X.K T} (own : List (Str × Nat)) (ho : own.map (·.2) = g.sl) (hN : X.N.Nodup) (ok : blkC X.N X.env.scope scope own = true) (hi : PI X tg iter (ci.te W))
    (hg : ∀ (s : Shared) (H : Hp) (C : Addr) (cl : List (Str × Addr)) (fp : List Addr), PG (X.blk s H scope (compEnvC scope cl C X.env) fp) tg g.g) (ht : ∀ (s : Shared) (H : Hp) (C : Addr) (cl : List (Str × Addr)) (fp : List Addr), PTs (X.blk s H scope (compEnvC scope cl C X.env) fp) ifs (ct.te W0))
    (he : ∀ (s : Shared) (H : Hp) (C : Addr) (cl : List (Str × Addr)) (fp : List Addr), PE (X.blk s H scope (compEnvC scope cl C X.env) fp) e (ca.te W0)) (hyi : X.N[i]? = some y := by rfl) (hyl : X.env.scope.names.lookup y = some .local := by rfl) (hc : X.calm = true := by rfl) (hs : ∀ x, foldedSetIterable iter X.env x = pure x := by intro _; rfl)
    (hsw : swapsWith (.ListComp e [⟨tg, iter, ifs, 0⟩] scope p) (some (.Name y px)) pos.line X.env = pure true := by exact sw_true rfl rfl rfl (by decide +kernel)) : PS X (.Assign [.Name y px] (.ListComp e [⟨tg, iter, ifs, 0⟩] scope p) pos) ((CS.set i (CO.ce (CO.lc ci g ct ca))).ts W) := by
  have h := ps_setLc hc hN hyi hyl hsw hi (blkOk_by ok) hg ht he hs
  rw [ho] at h
  exact h
end
end Cz

set_option Elab.async false
set_option linter.all false
set_option maxRecDepth 100000
/-! What each piece evaluates to. -/
namespace Cz
open PySem L2 Evl
section
variable {K : PySem.W.Frag} {T : Nat → Addr}
@[simp] theorem ev_CO_ce (c : CO K T) (Γ : Gam) : (@CO.ce K T c).ev Γ = ((c.ev Γ).bind fun xs => .ok (.lst xs)) := rfl
@[simp] theorem ev_CE_var (i : Nat) (Γ : Gam) : (@CE.var K T i).ev Γ = (match Γ[i]? with | some (.d x) => .ok x | _ => .bad) := rfl
@[simp] theorem ev_CE_k (v : V) (d : Dat) (h : ∀ G, Rep K T G v d) (Γ : Gam) : (@CE.k K T v d h).ev Γ = (.ok d) := rfl
@[simp] theorem ev_CE_op2 (o : Op2 K T) (a b : CE K T) (Γ : Gam) : (@CE.op2 K T o a b).ev Γ = ((a.ev Γ).bind fun x => (b.ev Γ).bind fun y => o.f x y) := rfl
@[simp] theorem ev_CE_op1 (o : Op1 K T) (a : CE K T) (Γ : Gam) : (@CE.op1 K T o a).ev Γ = ((a.ev Γ).bind o.f) := rfl
@[simp] theorem ev_CA_nil (Γ : Gam) : (@CA.nil K T).ev Γ = (.ok []) := rfl
@[simp] theorem ev_CA_cons (a : CE K T) (r : CA K T) (Γ : Gam) : (@CA.cons K T a r).ev Γ = ((a.ev Γ).bind fun x => (r.ev Γ).bind fun xs => .ok (x :: xs)) := rfl
@[simp] theorem ev_CE_opN (o : OpN K T) (a : CA K T) (Γ : Gam) : (@CE.opN K T o a).ev Γ = ((a.ev Γ).bind o.f) := rfl
@[simp] theorem ev_CE_tup (a : CA K T) (Γ : Gam) : (@CE.tup K T a).ev Γ = ((a.ev Γ).bind fun xs => if xs.length ≤ lim then .ok (.tup xs) else .bad) := rfl
@[simp] theorem ev_CO_lst (a : CA K T) (Γ : Gam) : (@CO.lst K T a).ev Γ = ((a.ev Γ).bind fun xs => if xs.length ≤ lim then .ok xs else .bad) := rfl
@[simp] theorem ev_CT_test (a : CE K T) (Γ : Gam) : (@CT.test K T a).ev Γ = ((a.ev Γ).bind fun x => match x with | .bl b => .ok b | _ => .bad) := rfl
@[simp] theorem ev_CT_b (a : CE K T) (Γ : Gam) : (@CT.b K T a).ev Γ = ((a.ev Γ).bind fun x => match x with | .bl b => .ok b | _ => .bad) := rfl
@[simp] theorem ev_CT_and (a b : CT K T) (Γ : Gam) : (@CT.and K T a b).ev Γ = ((a.ev Γ).bind fun x => if x = true then b.ev Γ else .ok false) := rfl
@[simp] theorem ev_CT_or (a b : CT K T) (Γ : Gam) : (@CT.or K T a b).ev Γ = ((a.ev Γ).bind fun x => if x = true then .ok true else b.ev Γ) := rfl
@[simp] theorem ev_CT_not (a : CT K T) (Γ : Gam) : (@CT.not K T a).ev Γ = ((a.ev Γ).bind fun x => .ok (!x)) := rfl
@[simp] theorem ev_CE_and (a b : CE K T) (Γ : Gam) : (@CE.and K T a b).ev Γ = ((a.ev Γ).bind fun x => match x with | .bl c => if c = true then b.ev Γ else .ok (.bl false) | _ => .bad) := rfl
@[simp] theorem ev_CE_or (a b : CE K T) (Γ : Gam) : (@CE.or K T a b).ev Γ = ((a.ev Γ).bind fun x => match x with | .bl c => if c = true then .ok (.bl true) else b.ev Γ | _ => .bad) := rfl
@[simp] theorem ev_CE_not (a : CE K T) (Γ : Gam) : (@CE.not K T a).ev Γ = ((a.ev Γ).bind fun x => match x with | .bl c => .ok (.bl (!c)) | _ => .bad) := rfl
@[simp] theorem ev_CE_ifx (c : CT K T) (a b : CE K T) (Γ : Gam) : (@CE.ifx K T c a b).ev Γ = ((c.ev Γ).bind fun x => if x = true then a.ev Γ else b.ev Γ) := rfl
@[simp] theorem ev_CE_chain (o o' : Op2 K T) (a b c : CE K T) (Γ : Gam) : (@CE.chain K T o o' a b c).ev Γ = ((a.ev Γ).bind fun x => (b.ev Γ).bind fun y => (o.f x y).bind fun z => match z with | .bl k => if k = true then (c.ev Γ).bind fun u => o'.f y u else .ok (.bl false) | _ => .bad) := rfl
@[simp] theorem ev_CP_none (Γ : Gam) : (@CP.none K T).ev Γ = (.ok Option.none) := rfl
@[simp] theorem ev_CP_some (a : CE K T) (Γ : Gam) : (@CP.some K T a).ev Γ = ((a.ev Γ).bind fun x => match x with | .int i => .ok (Option.some i) | _ => .bad) := rfl
@[simp] theorem ev_CG_name (i : Nat) (d : Dat) (Γ : Gam) : (@CG.name K T i).ev d Γ = (some (Γ.set i (.d d))) := rfl
@[simp] theorem ev_CGs_nil (ds : List Dat) (Γ : Gam) : (@CGs.nil K T).ev ds Γ = (match ds with | [] => some Γ | _ => none) := rfl
@[simp] theorem ev_CGs_cons (a : CG K T) (b : CGs K T) (ds : List Dat) (Γ : Gam) : (@CGs.cons K T a b).ev ds Γ = (match ds with | d :: r => (a.ev d Γ).bind fun Γ1 => b.ev r Γ1 | _ => none) := rfl
@[simp] theorem ev_CG_tup (n : Nat) (t : CGs K T) (d : Dat) (Γ : Gam) : (@CG.tup K T n t).ev d Γ = (match d with | .tup ds => if ds.length = n then t.ev ds Γ else none | _ => none) := rfl
@[simp] theorem ev_CS_seq (a b : CS K T) (Γ : Gam) : (@CS.seq K T a b).ev Γ = (match a.ev Γ with | .nx Γ' => b.ev Γ' | r => r) := rfl
@[simp] theorem ev_CS_pass (Γ : Gam) : (@CS.pass K T).ev Γ = (.nx Γ) := rfl
@[simp] theorem ev_CS_brk (Γ : Gam) : (@CS.brk K T).ev Γ = (.bk Γ) := rfl
@[simp] theorem ev_CS_cont (Γ : Gam) : (@CS.cont K T).ev Γ = (.ct Γ) := rfl
@[simp] theorem ev_CS_never (Γ : Gam) : (@CS.never K T).ev Γ = (.bad) := rfl
@[simp] theorem ev_CS_set (i : Nat) (e : CE K T) (Γ : Gam) : (@CS.set K T i e).ev Γ = ((e.ev Γ).st Γ fun d => .nx (Γ.set i (.d d))) := rfl
@[simp] theorem ev_CS_asg (g : CG K T) (e : CE K T) (Γ : Gam) : (@CS.asg K T g e).ev Γ = ((e.ev Γ).st Γ fun d => match g.ev d Γ with | some Γ' => .nx Γ' | none => .bad) := rfl
@[simp] theorem ev_CS_setO (i : Nat) (c : CO K T) (Γ : Gam) : (@CS.setO K T i c).ev Γ = ((c.ev Γ).st Γ fun xs => .nx (Γ.set i (.ol xs))) := rfl
@[simp] theorem ev_CS_ret (e : CE K T) (Γ : Gam) : (@CS.ret K T e).ev Γ = ((e.ev Γ).st Γ fun d => .rt d) := rfl
@[simp] theorem ev_CS_retN (Γ : Gam) : (@CS.retN K T).ev Γ = (.rt .non) := rfl
@[simp] theorem ev_CS_expr (e : CE K T) (Γ : Gam) : (@CS.expr K T e).ev Γ = ((e.ev Γ).st Γ fun _ => .nx Γ) := rfl
@[simp] theorem ev_CS_ifs (c : CT K T) (a b : CS K T) (Γ : Gam) : (@CS.ifs K T c a b).ev Γ = ((c.ev Γ).st Γ fun x => if x = true then a.ev Γ else b.ev Γ) := rfl
@[simp] theorem ev_CS_frz (i : Nat) (a : CS K T) (Γ : Gam) : (@CS.frz K T i a).ev Γ = (match Γ[i]? with | some (.ol xs) => a.ev (Γ.set i (.d (.lst xs))) | some (.od xs) => a.ev (Γ.set i (.d (.dic xs))) | _ => a.ev Γ) := rfl
@[simp] theorem ev_CS_app (i : Nat) (e : CE K T) (Γ : Gam) : (@CS.app K T i e).ev Γ = (match Γ[i]? with | some (.ol xs) => (e.ev Γ).st Γ fun d => if xs.length < lim then .nx (Γ.set i (.ol (xs ++ [d]))) else .bad | _ => .bad) := rfl
@[simp] theorem ev_CS_forS (i : CI K T) (g : CG K T) (b : CS K T) (Γ : Gam) : (@CS.forS K T i g b).ev Γ = ((i.ev Γ).st Γ fun ds => evFor g.ev b.ev ds Γ) := rfl
@[simp] theorem ev_CS_whileS (n : Nat) (c : CT K T) (b : CS K T) (Γ : Gam) : (@CS.whileS K T n c b).ev Γ = (evWhile c.ev b.ev n Γ) := rfl
@[simp] theorem ev_CE_fn (m : Nat) (F : List Dat → Rs Dat) (a : CA K T) (Γ : Gam) : (@CE.fn K T m F a).ev Γ = ((a.ev Γ).bind fun ds => if ds.length = m then F ds else .bad) := rfl
@[simp] theorem ev_CO_lc (i : CI K T) (g : CG K T) (t : CT K T) (e : CE K T) (Γ : Gam) : (@CO.lc K T i g t e).ev Γ = ((i.ev Γ).bind fun ds => if ds.length ≤ lim then evLc g.ev t.ev e.ev (wipeG Γ g.sl) ds else .bad) := rfl
@[simp] theorem ev_CI_list (a : CE K T) (Γ : Gam) : (@CI.list K T a).ev Γ = ((a.ev Γ).bind fun d => match d with | .lst ds => .ok ds | _ => .bad) := rfl
@[simp] theorem ev_CI_tuple (a : CE K T) (Γ : Gam) : (@CI.tuple K T a).ev Γ = ((a.ev Γ).bind fun d => match d with | .tup ds => .ok ds | _ => .bad) := rfl
@[simp] theorem ev_CI_str (a : CE K T) (Γ : Gam) : (@CI.str K T a).ev Γ = ((a.ev Γ).bind fun d => match d with | .str x => .ok (signs x) | _ => .bad) := rfl
@[simp] theorem ev_CI_range1 (a : CA K T) (Γ : Gam) : (@CI.range1 K T a).ev Γ = ((a.ev Γ).bind fun d => match d with | [.int n] => if -(2 ^ 62) ≤ n ∧ n < 2 ^ 62 then .ok (rangeD 0 n.toNat) else .bad | _ => .bad) := rfl
@[simp] theorem ev_CI_range2 (a : CA K T) (Γ : Gam) : (@CI.range2 K T a).ev Γ = ((a.ev Γ).bind fun d => match d with | [.int n, .int m] => if (-(2 ^ 62) ≤ n ∧ n < 2 ^ 62 ∧ -(2 ^ 62) ≤ m ∧ m < 2 ^ 62) then .ok (rangeD n (m - n).toNat) else .bad | _ => .bad) := rfl
@[simp] theorem ev_CE_slS (a : CE K T) (l u : CP K T) (Γ : Gam) : (@CE.slS K T a l u).ev Γ = ((a.ev Γ).bind fun x => (l.ev Γ).bind fun lo => (u.ev Γ).bind fun hi => match x with | .str z => if z.length ≤ lim then .ok (.str (cutS z lo hi)) else .bad | _ => .bad) := rfl
@[simp] theorem ev_CO_slL (a : CE K T) (l u : CP K T) (Γ : Gam) : (@CO.slL K T a l u).ev Γ = ((a.ev Γ).bind fun x => (l.ev Γ).bind fun lo => (u.ev Γ).bind fun hi => match x with | .lst z => .ok (cutD z lo hi) | _ => .bad) := rfl
@[simp] theorem ev_CO_listOf (a : CA K T) (Γ : Gam) : (@CO.listOf K T a).ev Γ = ((a.ev Γ).bind fun as => match as with | [.lst ds] => .ok ds | [.tup ds] => .ok ds | _ => .bad) := rfl
@[simp] theorem ev_CE_join (a b : CE K T) (Γ : Gam) : (@CE.join K T a b).ev Γ = ((a.ev Γ).bind fun x => match x with
    | .str z => (b.ev Γ).bind fun y => match y with
      | .lst ds => match strs? ds with
        | some ys => if (ys.map (·.length)).sum + ys.length * z.length ≤ 16777216 then .ok (.str (Txt.join z ys)) else .bad
        | none => .bad
      | _ => .bad
    | _ => .bad) := rfl
@[simp] theorem ev_CE_sindex (a b : CE K T) (Γ : Gam) : (@CE.sindex K T a b).ev Γ = ((a.ev Γ).bind fun x => match x with
    | .str z => (b.ev Γ).bind fun y => match y with
      | .str u => match Builtin.Str.occurrences z u 0 z.length 1 with
        | i :: _ => .ok (.int (i : Nat))
        | [] => .bad
      | _ => .bad
    | _ => .bad) := rfl
@[simp] theorem ev_CE_fld (c : Nat) (f : Str) (hc : Cls K (T c)) (hn : NoAttr K (T c) f) (a : CE K T) (Γ : Gam) : (@CE.fld K T c f hc hn a).ev Γ = ((a.ev Γ).bind fun x => match x with
    | .ins c' fs => if c' = c then (match fs.lookup f with | some d => .ok d | none => .bad) else .bad
    | _ => .bad) := rfl
@[simp] theorem ev_CE_fldO (i c : Nat) (f : Str) (hc : Cls K (T c)) (hn : NoAttr K (T c) f) (Γ : Gam) : (@CE.fldO K T i c f hc hn).ev Γ = (match Γ[i]? with
    | some (.oi _ _ c' fs) => if c' = c then (match fs.lookup f with | some d => .ok d | none => .bad) else .bad
    | _ => .bad) := rfl
@[simp] theorem ev_CS_fldO (i c : Nat) (f : Str) (hc : Cls K (T c)) (hn : NoAttr K (T c) f) (e : CE K T) (Γ : Gam) : (@CS.fldO K T i c f hc hn e).ev Γ = (match Γ[i]? with
    | some (.oi a dx c' fs) => if c' = c ∧ fs.length < 1000 then (e.ev Γ).st Γ fun d => .nx (Γ.set i (.oi a dx c (putD f d fs))) else .bad
    | _ => .bad) := rfl
@[simp] theorem ev_CE_make (c m : Nat) (F : Addr → Addr → List Dat → Rs (List (Str × Dat))) (R : List Dat → Rs (List (Str × Dat))) (hF : ∀ x dx ds, R ds ≠ .bad → F x dx ds = R ds) (a : CA K T) (Γ : Gam) : (@CE.make K T c m F R hF a).ev Γ = ((a.ev Γ).bind fun ds => if ds.length = m then (R ds).bind fun fs => .ok (.ins c fs) else .bad) := rfl
@[simp] theorem ev_CE_meth (c : Nat) (m : Str) (n : Nat) (F : List Dat → Rs Dat) (o : CE K T) (a : CA K T) (Γ : Gam) : (@CE.meth K T c m n F o a).ev Γ = ((o.ev Γ).bind fun x => match x with
    | .ins c' fs => if c' = c ∧ fs.lookup m = none then (a.ev Γ).bind fun ds => if ds.length = n then F (.ins c fs :: ds) else .bad else .bad
    | _ => .bad) := rfl
@[simp] theorem ev_CE_prop (c : Nat) (F : List Dat → Rs Dat) (o : CE K T) (Γ : Gam) : (@CE.prop K T c F o).ev Γ = ((o.ev Γ).bind fun x => match x with
    | .ins c' fs => if c' = c then (match F [.ins c fs] with | .ok d => .ok d | _ => .bad) else .bad
    | _ => .bad) := rfl
@[simp] theorem ev_CE_ownC (c : Nat) (F : List Dat → Rs Dat) (a b : CE K T) (Γ : Gam) : (@CE.ownC K T c F a b).ev Γ = ((a.ev Γ).bind fun x => (b.ev Γ).bind fun y => match x, y with
    | .ins c1 f1, .ins c2 f2 => if c1 = c ∧ c2 = c then F [.ins c f1, .ins c f2] else .bad
    | _, _ => .bad) := rfl
@[simp] theorem ev_CI_enumS (a : CA K T) (Γ : Gam) : (@CI.enumS K T a).ev Γ = ((a.ev Γ).bind fun d => match d with | [.str x] => .ok (Cz.enumS x) | _ => .bad) := rfl
@[simp] theorem ev_CE_lenO (i : Nat) (Γ : Gam) : (@CE.lenO K T i).ev Γ = (match Γ[i]? with | some (.ol xs) => .ok (.int xs.length) | _ => .bad) := rfl
@[simp] theorem ev_CE_ixO (i : Nat) (e : CE K T) (Γ : Gam) : (@CE.ixO K T i e).ev Γ = (match Γ[i]? with | some (.ol xs) => (e.ev Γ).bind fun j => (match j with | .int j => (match atI xs j with | some d => .ok d | none => .bad) | _ => .bad) | _ => .bad) := rfl
@[simp] theorem ev_CT_yes (Γ : Gam) : (@CT.yes K T).ev Γ = (.ok true) := rfl
@[simp] theorem ev_CE_isiB (n : String) (a : CE K T) (Γ : Gam) : (@CE.isiB K T n a).ev Γ = ((a.ev Γ).bind fun x => match Cz.isiB n x with | some b => .ok (.bl b) | none => .bad) := rfl
@[simp] theorem ev_CE_isiO (c : Nat) (hc : IsO K T c) (a : CE K T) (Γ : Gam) : (@CE.isiO K T c hc a).ev Γ = ((a.ev Γ).bind fun x => match Cz.isiO c x with | some b => .ok (.bl b) | none => .bad) := rfl
@[simp] theorem ev_CE_kd (w : World) (tab : List (Str × Dat)) (a : Addr) (h : ∀ z d, tab.lookup z = some d → ∃ v, KDct K w a z v ∧ ∀ G, Rep K T G v d) (e : CE K T) (Γ : Gam) : (@CE.kd K T w tab a h e).ev Γ = ((e.ev Γ).bind fun x => match x with
    | .str z => (match tab.lookup z with | some d => .ok d | none => .bad)
    | _ => .bad) := rfl
end
end Cz

set_option Elab.async false
set_option linter.all false
set_option maxRecDepth 100000
set_option maxHeartbeats 2000000
/-! Plain facts about what the pieces evaluate to. -/
namespace Cz
open PySem L2

/-! ### loops and comprehensions -/
theorem evFor_inv {g : Dat → Gam → Option Gam} {b : Gam → SRes} (I : Nat → Gam → Prop) : ∀ {ds : List Dat} {k : Nat} {Γ : Gam}, I k Γ →
    (∀ i d Γ, ds[i]? = some d → I (k + i) Γ → ∃ Γ1 Γ2, g d Γ = some Γ1 ∧ (b Γ1 = .nx Γ2 ∨ b Γ1 = .ct Γ2) ∧ I (k + i + 1) Γ2) → ∃ Γ', evFor g b ds Γ = .nx Γ' ∧ I (k + ds.length) Γ'
  | [], k, Γ, h, _ => ⟨Γ, rfl, by simpa using h⟩
  | d :: r, k, Γ, h, hs => by
    obtain ⟨Γ1, Γ2, h1, h2, h3⟩ := hs 0 d Γ (by simp) (by simpa using h)
    obtain ⟨Γ', q1, q2⟩ := evFor_inv (g := g) (b := b) I (ds := r) (k := k + 1) (Γ := Γ2) (by simpa using h3) (fun i d Γ hd hi => by
      have := hs (i + 1) d Γ (by simpa using hd) (by rw [show k + (i + 1) = k + 1 + i by omega]; exact hi)
      rw [show k + (i + 1) + 1 = k + 1 + i + 1 by omega] at this
      exact this)
    refine ⟨Γ', ?_, ?_⟩
    · unfold evFor
      rw [h1]
      rcases h2 with h2 | h2 <;> simp [h2, q1]
    · rw [show k + (d :: r).length = k + 1 + r.length by simp; omega]; exact q2
/-- from the first turn on -/
theorem evFor_inv0 {g : Dat → Gam → Option Gam} {b : Gam → SRes} {ds : List Dat} {Γ : Gam} (I : Nat → Gam → Prop) (h0 : I 0 Γ)
    (hs : ∀ i d Γ, ds[i]? = some d → I i Γ → ∃ Γ1 Γ2, g d Γ = some Γ1 ∧ (b Γ1 = .nx Γ2 ∨ b Γ1 = .ct Γ2) ∧ I (i + 1) Γ2) : ∃ Γ', evFor g b ds Γ = .nx Γ' ∧ I ds.length Γ' := by
  have := evFor_inv (g := g) (b := b) I (ds := ds) (k := 0) (Γ := Γ) h0 (fun i d Γ hd hi => by
    have := hs i d Γ hd (by simpa using hi)
    simpa using this)
  simpa using this
/-- a loop that looks for something: it goes on while ok, each turn leaves a state of the kind I -/
theorem evLc_map {g : Dat → Gam → Option Gam} {t : Gam → Rs Bool} {e : Gam → Rs Dat} {Γ : Gam} (f : Dat → Dat) : ∀ {ds : List Dat}, (∀ d ∈ ds, ∃ Γ1, g d Γ = some Γ1 ∧ t Γ1 = .ok true ∧ e Γ1 = .ok (f d)) → evLc g t e Γ ds = .ok (ds.map f)
  | [], _ => rfl
  | d :: r, h => by
    obtain ⟨Γ1, h1, h2, h3⟩ := h d (by simp)
    have ih := evLc_map (g := g) (t := t) (e := e) (Γ := Γ) f (ds := r) (fun x hx => h x (by simp [hx]))
    unfold evLc
    rw [h1]
    simp [h2, h3, ih]

/-! ### texts as lists of codes -/
def mkS (l : List Nat) : Str := ⟨l.toArray⟩
@[simp] theorem mkS_list (l : List Nat) : (mkS l).cps.toList = l := by simp [mkS]
@[simp] theorem mkS_len (l : List Nat) : (mkS l).length = l.length := by simp [mkS, Str.length]
@[simp] theorem mkS_app (a b : List Nat) : mkS a ++ mkS b = mkS (a ++ b) := by
  show Str.append (mkS a) (mkS b) = _
  simp [Str.append, mkS]
theorem mkS_of (x : Str) : mkS x.cps.toList = x := by
  obtain ⟨⟨l⟩⟩ := x
  rfl
theorem mkS_inj {a b : List Nat} (h : mkS a = mkS b) : a = b := by
  have := congrArg (fun s => s.cps.toList) h
  simpa using this
@[simp] theorem mkS_eq {a b : List Nat} : mkS a = mkS b ↔ a = b := ⟨mkS_inj, fun h => by rw [h]⟩
theorem one_mkS (c : Nat) : (⟨#[c]⟩ : Str) = mkS [c] := rfl
@[simp] theorem signs_mkS (l : List Nat) : signs (mkS l) = l.map fun c => .str (mkS [c]) := by
  unfold signs
  rw [mkS_list]
  rfl
theorem strs_map (f : Nat → Str) : ∀ l : List Nat, strs? (l.map fun c => Dat.str (f c)) = some (l.map f)
  | [] => rfl
  | c :: r => by
    simp only [List.map_cons, strs?, strs_map f r]
    rfl
theorem join_nil : ∀ ps : List (List Nat), Txt.join (mkS []) (ps.map mkS) = mkS ps.flatten
  | [] => by rw [TL.join_eq]; rfl
  | [p] => by rw [TL.join_eq]; simp [Str.join]
  | p :: q :: r => by
    have ih := join_nil (q :: r)
    rw [TL.join_eq] at ih ⊢
    show mkS p ++ mkS [] ++ Str.join (mkS []) ((q :: r).map mkS) = _
    rw [ih]
    simp
theorem flat_ones : ∀ l : List Nat, (l.map fun c => [c]).flatten = l
  | [] => rfl
  | c :: r => by simp [flat_ones r]
theorem join_ones (l : List Nat) : Txt.join (mkS []) (l.map fun c => mkS [c]) = mkS l := by
  have h := join_nil (l.map fun c => [c])
  rw [List.map_map] at h
  rw [flat_ones] at h
  exact h
theorem sum_ones (l : List Nat) : ((l.map fun c => mkS [c]).map (·.length)).sum = l.length := by
  induction l with
  | nil => rfl
  | cons c r ih => simp only [List.map_cons, List.sum_cons, mkS_len, List.length_cons, List.length_nil]; rw [ih]; omega
theorem join_onesF {α : Type} (f : α → Nat) (l : List α) : Txt.join (mkS []) (l.map fun c => mkS [f c]) = mkS (l.map f) := by
  have h := join_ones (l.map f)
  rw [List.map_map] at h
  exact h
theorem sum_onesF {α : Type} (f : α → Nat) (l : List α) : (l.map ((fun x : Str => x.length) ∘ fun c => mkS [f c])).sum = l.length := by
  have h := sum_ones (l.map f)
  rw [List.map_map, List.map_map, List.length_map] at h
  exact h
theorem strs_mapF {α : Type} (f : α → Str) : ∀ l : List α, strs? (l.map fun c => Dat.str (f c)) = some (l.map f)
  | [] => rfl
  | c :: r => by
    simp only [List.map_cons, strs?, strs_mapF f r]
    rfl
/-- slices with natural bounds -/
theorem sIx_none0 (n : Nat) : HT.sIx n 0 none = 0 := rfl
theorem sIx_noneN (n : Nat) : HT.sIx n n none = n := rfl
theorem sIx_int {n d : Nat} {k : Int} (h : 0 ≤ k) : HT.sIx n d (some k) = min k.toNat n := by
  obtain ⟨m, rfl⟩ : ∃ m : Nat, k = (m : Int) := ⟨k.toNat, by omega⟩
  rw [HT.sIx_nat]
  simp
theorem cut_to (l : List Nat) {k : Int} (h : 0 ≤ k) : cutS (mkS l) none (some k) = mkS (l.take k.toNat) := by
  unfold cutS
  rw [mkS_list, mkS_len, sIx_none0, sIx_int h]
  simp only [List.drop_zero, Nat.sub_zero]
  unfold mkS
  congr 1
  congr 1
  by_cases q : k.toNat ≤ l.length
  · rw [Nat.min_eq_left q]
  · rw [Nat.min_eq_right (by omega), List.take_of_length_le (Nat.le_refl _), List.take_of_length_le (by omega)]
theorem cut_from (l : List Nat) {k : Int} (h : 0 ≤ k) : cutS (mkS l) (some k) none = mkS (l.drop k.toNat) := by
  unfold cutS
  rw [mkS_list, mkS_len, sIx_noneN, sIx_int h]
  unfold mkS
  congr 1
  congr 1
  by_cases q : k.toNat ≤ l.length
  · rw [Nat.min_eq_left q, List.take_of_length_le (by simp)]
  · rw [Nat.min_eq_right (by omega), List.drop_of_length_le (Nat.le_refl _), List.drop_of_length_le (by omega)]
    simp
theorem cut_mid (l : List Nat) {i j : Int} (h : 0 ≤ i) (h2 : i ≤ j) : cutS (mkS l) (some i) (some j) = mkS ((l.drop i.toNat).take (j.toNat - i.toNat)) := by
  unfold cutS
  rw [mkS_list, mkS_len, sIx_int h, sIx_int (by omega)]
  unfold mkS
  congr 1
  congr 1
  by_cases q : i.toNat ≤ l.length
  · rw [Nat.min_eq_left q]
    by_cases q2 : j.toNat ≤ l.length
    · rw [Nat.min_eq_left q2]
    · rw [Nat.min_eq_right (by omega), List.take_of_length_le (by simp), List.take_of_length_le (by simp; omega)]
  · have e1 : min i.toNat l.length = l.length := Nat.min_eq_right (by omega)
    rw [e1, List.drop_of_length_le (Nat.le_refl l.length), List.drop_of_length_le (by omega : l.length ≤ i.toNat)]
    simp
theorem atI_int {α : Type} {l : List α} {k : Int} (h : 0 ≤ k) (h2 : k < l.length) : atI l k = l[k.toNat]? := by
  unfold atI ixN
  rw [if_pos h, if_pos h2]
  rfl
theorem atI_nat' {α : Type} {l : List α} {k : Nat} (h2 : k < l.length) : atI l (k : Int) = l[k]? := by
  rw [atI_int (by omega) (by omega)]; simp

/-! ### fates -/
def Fts (l : List Nat) : Prop := ∀ c ∈ l, c = 98 ∨ c = 102 ∨ c = 115 ∨ c = 110
instance (l : List Nat) : Decidable (Fts l) := inferInstanceAs (Decidable (∀ c ∈ l, _))
theorem bfsn_is : ("bfsn" : Str) = mkS [98, 102, 115, 110] := by decide +kernel
theorem empty_is : ("" : Str) = mkS [] := by decide +kernel
theorem mem_bfsn {c : Nat} : c ∈ ([98, 102, 115, 110] : List Nat) ↔ (c = 98 ∨ c = 102 ∨ c = 115 ∨ c = 110) := by simp
def swapC (c : Nat) : Nat := if c = 102 then 115 else if c = 115 then 102 else c
theorem Fts.append {a b : List Nat} (h : Fts a) (h2 : Fts b) : Fts (a ++ b) := fun c m => by
  rcases List.mem_append.mp m with m | m
  · exact h c m
  · exact h2 c m
theorem Fts.take {a : List Nat} (h : Fts a) (n : Nat) : Fts (a.take n) := fun c m => h c (List.mem_of_mem_take m)
theorem Fts.drop {a : List Nat} (h : Fts a) (n : Nat) : Fts (a.drop n) := fun c m => h c (List.mem_of_mem_drop m)

/-! ### the laws' own draws -/
def mixZ (c k : Int) : Int := (c % 1000003 * 7919 + (k + 1) * (k + 3) * 1237) % 1000003
def drawI (c b : Int) (k : Nat) : Int := if 10 ^ 18 ≤ c then c / b ^ k % b else (mixZ c (k : Int) + mixZ c (k : Int) / 1009) % b
def drawsI (c : Int) (n : Nat) (b : Int) : List Int := (List.range n).map (drawI c b)
@[simp] theorem drawsI_len (c : Int) (n : Nat) (b : Int) : (drawsI c n b).length = n := by simp [drawsI]
theorem drawI_range {c b : Int} {k : Nat} (hb : 0 < b) : 0 ≤ drawI c b k ∧ drawI c b k < b := by
  unfold drawI
  split
  · exact ⟨Int.emod_nonneg _ (by omega), Int.emod_lt_of_pos _ hb⟩
  · exact ⟨Int.emod_nonneg _ (by omega), Int.emod_lt_of_pos _ hb⟩
def fateC (d : Int) : Nat := ([98, 102, 115, 110] : List Nat).getD d.toNat 0
def fatesI (c : Int) (n : Nat) : List Nat := (drawsI c n 4).map fateC
@[simp] theorem fatesI_len (c : Int) (n : Nat) : (fatesI c n).length = n := by simp [fatesI]
theorem fateC_mem {d : Int} (h : 0 ≤ d ∧ d < 4) : fateC d = 98 ∨ fateC d = 102 ∨ fateC d = 115 ∨ fateC d = 110 := by
  have : d = 0 ∨ d = 1 ∨ d = 2 ∨ d = 3 := by omega
  rcases this with rfl | rfl | rfl | rfl <;> simp [fateC]
theorem fatesI_fts (c : Int) (n : Nat) : Fts (fatesI c n) := fun x m => by
  unfold fatesI drawsI at m
  simp only [List.mem_map, List.mem_range] at m
  obtain ⟨d, ⟨k, hk, rfl⟩, rfl⟩ := m
  exact fateC_mem (drawI_range (by decide))
/-! ### a script -/
def toInts : List Dat → Option (List Int)
  | [] => some []
  | .int i :: r => (toInts r).map (i :: ·)
  | _ => none
theorem toInts_eq : ∀ {ds : List Dat} {ns : List Int}, toInts ds = some ns → ds = ns.map .int
  | [], ns, h => by simp [toInts] at h; subst h; rfl
  | d :: r, ns, h => by
    cases d with
    | int i =>
      simp only [toInts, Option.map_eq_some_iff] at h
      obtain ⟨q, h1, rfl⟩ := h
      rw [toInts_eq h1]
      rfl
    | _ => simp [toInts] at h
@[simp] theorem toInts_map : ∀ ns : List Int, toInts (ns.map .int) = some ns
  | [] => rfl
  | n :: r => by simp [toInts, toInts_map r]
/-- the law's own end: True at every script of ints -/
def P_lawT : List Dat → Rs Dat
  | [.lst xs] => match toInts xs with
    | some ns => if ns.length ≤ 63 then .ok (.bl true) else .bad
    | none => .bad
  | _ => .bad
theorem P_lawT_inv {ds : List Dat} (h : P_lawT ds ≠ .bad) : ∃ ns : List Int, ds = [.lst (ns.map .int)] ∧ ns.length ≤ 63 ∧ P_lawT ds = .ok (.bl true) := by
  unfold P_lawT at h ⊢
  split at h
  · next xs =>
    split at h
    · next ns hn =>
      split at h
      · next hl => exact ⟨ns, by rw [toInts_eq hn], hl, by simp [hn, hl]⟩
      · exact absurd rfl h
    · exact absurd rfl h
  · exact absurd rfl h
def cellI (ns : List Int) (k : Int) : Int := ns.getD k.toNat 0
theorem cell_map (ns : List Int) (k : Nat) : (ns.map Dat.int).getD k (.int 0) = .int (ns.getD k 0) := by
  rw [List.getD_eq_getElem?_getD, List.getD_eq_getElem?_getD, List.getElem?_map]
  cases ns[k]? <;> rfl
theorem mod_range {a b : Int} (h : 0 < b) : 0 ≤ a % b ∧ a % b < b := ⟨Int.emod_nonneg _ (by omega), Int.emod_lt_of_pos _ h⟩
theorem bfsn_index {c : Nat} (h : c = 98 ∨ c = 102 ∨ c = 115 ∨ c = 110) : ∃ (i : Nat) (r : List Nat), Builtin.Str.occurrences (mkS [98, 102, 115, 110]) (mkS [c]) 0 4 1 = i :: r ∧ i < 4 ∧ ([98, 102, 115, 110] : List Nat)[i]? = some c := by
  rcases h with rfl | rfl | rfl | rfl
  · exact ⟨0, [], by decide +kernel, by decide, rfl⟩
  · exact ⟨1, [], by decide +kernel, by decide, rfl⟩
  · exact ⟨2, [], by decide +kernel, by decide, rfl⟩
  · exact ⟨3, [], by decide +kernel, by decide, rfl⟩
theorem take_eq_self {l : List Nat} {k : Nat} (h : k ≤ l.length) : l.take k = l ↔ k = l.length := by
  constructor
  · intro e
    have := congrArg List.length e
    rw [List.length_take] at this
    omega
  · rintro rfl
    exact List.take_length
theorem bsfn_is : ("bsfn" : Str) = mkS [98, 115, 102, 110] := by decide +kernel
/-- the place of a fate among b, f, s, n -/
def fateN (c : Nat) : Nat := if c = 98 then 0 else if c = 102 then 1 else if c = 115 then 2 else 3
theorem occ_fate {c : Nat} (h : c = 98 ∨ c = 102 ∨ c = 115 ∨ c = 110) : Builtin.Str.occurrences (mkS [98, 102, 115, 110]) (mkS [c]) 0 (mkS [98, 102, 115, 110]).length 1 = [fateN c] := by
  rcases h with rfl | rfl | rfl | rfl <;> decide +kernel
theorem ix_bfsn {i : Int} (h : 0 ≤ i) (h2 : i < 4) : ixS (.str (mkS [98, 102, 115, 110])) (.int i) = .ok (.str (mkS [fateC i])) := by
  have : i = 0 ∨ i = 1 ∨ i = 2 ∨ i = 3 := by omega
  rcases this with rfl | rfl | rfl | rfl <;> rfl
theorem ix_bsfn {c : Nat} (h : c = 98 ∨ c = 102 ∨ c = 115 ∨ c = 110) : ixS (.str (mkS [98, 115, 102, 110])) (.int (fateN c : Nat)) = .ok (.str (mkS [swapC c])) := by
  rcases h with rfl | rfl | rfl | rfl <;> rfl
theorem fateN_lt {c : Nat} : fateN c < 4 := by
  unfold fateN
  split
  · omega
  · split
    · omega
    · split <;> omega
theorem fateC_fateN {c : Nat} (h : c = 98 ∨ c = 102 ∨ c = 115 ∨ c = 110) : fateC (fateN c : Nat) = c := by
  rcases h with rfl | rfl | rfl | rfl <;> rfl
theorem fateC_inj {i j : Int} (h : 0 ≤ i) (h2 : i < 4) (h3 : 0 ≤ j) (h4 : j < 4) (e : fateC i = fateC j) : i = j := by
  have a : i = 0 ∨ i = 1 ∨ i = 2 ∨ i = 3 := by omega
  have b : j = 0 ∨ j = 1 ∨ j = 2 ∨ j = 3 := by omega
  rcases a with rfl | rfl | rfl | rfl <;> rcases b with rfl | rfl | rfl | rfl <;> first | rfl | exact absurd e (by decide)
theorem fateC_ok {i : Int} (h : 0 ≤ i) (h2 : i < 4) : fateC i = 98 ∨ fateC i = 102 ∨ fateC i = 115 ∨ fateC i = 110 := by
  have a : i = 0 ∨ i = 1 ∨ i = 2 ∨ i = 3 := by omega
  rcases a with rfl | rfl | rfl | rfl <;> decide
theorem ix_mkS (l : List Nat) {k : Int} (h : 0 ≤ k) (h2 : k < l.length) (h3 : l.length ≤ lim) : ixS (.str (mkS l)) (.int k) = .ok (.str (mkS [l.getD k.toNat 0])) := by
  have e : l[k.toNat]? = some (l.getD k.toNat 0) := by
    rw [List.getD_eq_getElem?_getD, List.getElem?_eq_getElem (by omega)]
    rfl
  unfold ixS
  simp only [mkS_list, atI_int h h2, e, mkS_len, h3, if_true]
  rfl
section
variable {K : PySem.W.Frag} {T : Nat → Addr}
@[simp] theorem sl_name (i : Nat) : (CG.name i : CG K T).sl = [i] := rfl
@[simp] theorem sl_nil : (CGs.nil : CGs K T).sl = [] := rfl
@[simp] theorem sl_cons (a : CG K T) (b : CGs K T) : (CGs.cons a b).sl = a.sl ++ b.sl := rfl
@[simp] theorem sl_tup (n : Nat) (t : CGs K T) : (CG.tup n t).sl = t.sl := rfl
@[simp] theorem f_ints {gv : Int → Int → V} {g : Int → Int → Dat} {h : ∀ G i j, Rep K T G (gv i j) (g i j)} (i j : Int) : (Op2.ints gv g h).f (.int i) (.int j) = .ok (g i j) := rfl
@[simp] theorem f_intsC {C : Int → Int → Prop} {c : Int → Int → Bool} {hc : ∀ i j, c i j = true → C i j} {gv : Int → Int → V} {g : Int → Int → Dat} {h : ∀ G i j, Rep K T G (gv i j) (g i j)} (i j : Int) : (Op2.intsC C c hc gv g h).f (.int i) (.int j) = if c i j = true then .ok (g i j) else .bad := rfl
@[simp] theorem f_neg (i : Int) : (@oNeg K T).f (.int i) = .ok (.int (-i)) := rfl
@[simp] theorem f_eq (a b : Dat) : (@oEq K T).f a b = (eqS a b).bind fun k => .ok (.bl k) := rfl
@[simp] theorem f_ne (a b : Dat) : (@oNe K T).f a b = (eqS a b).bind fun k => .ok (.bl (!k)) := rfl
@[simp] theorem eqS_int (i j : Int) : eqS (.int i) (.int j) = .ok (decide (i = j)) := rfl
@[simp] theorem eqS_str (i j : Str) : eqS (.str i) (.str j) = .ok (decide (i = j)) := rfl
@[simp] theorem eqS_bl (i j : Bool) : eqS (.bl i) (.bl j) = .ok (decide (i = j)) := rfl
@[simp] theorem f_eqD (a b : Dat) : (@oEqD K T).f a b = (eqD a b).bind fun k => .ok (.bl k) := rfl
@[simp] theorem f_neD (a b : Dat) : (@oNeD K T).f a b = (eqD a b).bind fun k => .ok (.bl (!k)) := rfl
@[simp] theorem f_isN (a : Dat) : (@oIsN K T).f a .non = .ok (.bl (isN a)) := rfl
@[simp] theorem f_notN (a : Dat) : (@oNotN K T).f a .non = .ok (.bl (!isN a)) := rfl
@[simp] theorem f_isB (p q : Bool) : (@oIsB K T).f (.bl p) (.bl q) = .ok (.bl (decide (p = q))) := rfl
@[simp] theorem f_notB (p q : Bool) : (@oNotB K T).f (.bl p) (.bl q) = .ok (.bl (!decide (p = q))) := rfl
@[simp] theorem f_addS (x y : Str) : (@oAddS K T).f (.str x) (.str y) = if x.length + y.length ≤ lim then .ok (.str (x ++ y)) else .bad := rfl
@[simp] theorem f_inS (c : Nat) (y : Str) : (@oInS K T).f (.str (mkS [c])) (.str y) = .ok (.bl (decide (c ∈ y.cps.toList))) := rfl
@[simp] theorem f_notInS (c : Nat) (y : Str) : (@oNotInS K T).f (.str (mkS [c])) (.str y) = .ok (.bl (!decide (c ∈ y.cps.toList))) := rfl
@[simp] theorem f_in (neg : Bool) (a b : Dat) : (@oIn K T neg).f a b = (inQ a b).bind fun k => .ok (.bl (if neg then !k else k)) := rfl
@[simp] theorem f_ixL (a b : Dat) : (@oIxL K T).f a b = ixL a b := rfl
@[simp] theorem f_ixT (a b : Dat) : (@oIxT K T).f a b = ixT a b := rfl
@[simp] theorem f_ixS (a b : Dat) : (@oIxS K T).f a b = ixS a b := rfl
@[simp] theorem f_int (i : Int) : (@oInt K T).f [.int i] = .ok (.int i) := rfl
@[simp] theorem f_lenL (ds : List Dat) : (@oLenQ K T).f [.lst ds] = .ok (.int ds.length) := rfl
@[simp] theorem f_lenT (ds : List Dat) : (@oLenQ K T).f [.tup ds] = .ok (.int ds.length) := rfl
@[simp] theorem f_lenS (z : Str) : (@oLenS K T).f [.str z] = if z.length ≤ lim then .ok (.int z.length) else .bad := rfl
@[simp] theorem f_tupL (ds : List Dat) : (@oTupL K T).f [.lst ds] = .ok (.tup ds) := rfl
@[simp] theorem f_tupT (ds : List Dat) : (@oTupL K T).f [.tup ds] = .ok (.tup ds) := rfl
@[simp] theorem f_strI (i : Int) : (@oStrI K T).f [.int i] = if i.natAbs.log2 < 1920 then .ok (.str (toString i)) else .bad := rfl
end
end Cz

set_option Elab.async false
set_option linter.all false
set_option maxRecDepth 100000
set_option maxHeartbeats 4000000
/-! An own exception whose __init__ begins super().__init__(..). -/
namespace Cz
open PySem PySem.W PySem.Spec PySem.Calls PyProof.Rows L2 NdefX
section
variable {X : Cx} {pins : List (Addr × Obj)} {σ : L2.St} {H : Hp} {s : Shared} {a C u : Addr}
/-- the bound ValueError.__init__ is called -/
theorem mwinit_ok {us : List Value} {Q : Value → Shared → Prop} {E : Value → Shared → Prop} (T : OexC X.K C) (I : Inv X pins σ H s) (hu : s.heap.get? u = some (kxs_mw "ValueError.__init__" a)) (e : H a = some (exo a C none)) (hl : us.length ≤ sizeLine)
    (h : ∀ s', Inv X pins σ H s' → Q .none s') : wpAny (model X.prog X.w) X.A (call (.ref u) us) Q E s := by
  obtain ⟨nm, q, N, bs, bm, sn, sub, ab, col, dd, k0, k1, k2, k3, k5, hC, hbm⟩ := T.cls
  obtain ⟨t1, ho⟩ := exo_at I.hok e
  obtain ⟨hp, g, d, t, os⟩ := s
  have fin : ∀ h', (∀ b o, b ≠ a → hp.get? b = some o → h'.get? b = some o) → h'.get? a = some (excObj C hp.objs.size none .none) → h'.get? hp.objs.size = some (excTup us) → Q .none ⟨h', g, d, t, os⟩ := fun h' k hx _ => by
    have J := I.write (t' := t) (x := a) (e := a) (o := exo a C none) (by rw [e]; exact True.intro) (.inl rfl) k ⟨_, hx⟩ (exo_ok hx)
    have eu : upd H a (exo a C none) = H := by
      funext b
      by_cases hb : b = a
      · rw [hb, upd_same, e]
      · rw [upd_ne hb]
    rw [eu] at J
    exact h _ J
  refine wpAny_call (codeAny_of_tree ?_)
  show wpAny _ X.A.in1 (callAny (.ref u) ⟨us, []⟩) _ _ _
  simp only [callAny]
  refine wpAny_bind (wpAny_load hu ?_)
  simp only [kxs_mw, show (Value.type "method-wrapper" == Value.type "method" || Value.type "method-wrapper" == Value.type "builtin_function_or_method" || Value.type "method-wrapper" == Value.type "method-wrapper") = true by decide, if_true]
  refine KFB.if_so (by decide) ?_
  refine wpAny_bind (check_bound_init F.excBase_ValueError.toExcCallFacts (I.kIn _ _ hC) ho rfl ?_)
  refine wpAny_bind (wpAny_pure (wpAny_pure ?_))
  refine ⟨plainId_quiet F.excBase_ValueError.init.plain _, codeAny_builtin F.excBase_ValueError.initEntry ?_⟩
  exact exc_init_tree (cls := .ref C) (t0 := t1) (dv := none) (c2 := .none) (c3 := .none) (b4 := .bool false) ho hl fin
end

/-- what is known of an own exception's __init__: F at f, its cell __class__ at cc; C the class -/
structure SupF (P : Program) (K : PySem.W.Frag) (mg : Str → Option Value) (F : NF) (f cc C : Addr) : Prop where
  lk : ∃ oc od sl doc pm ctv, K.lookup f = some ⟨oc, od, .func (F.fd doc pm ctv), sl⟩
  cd : codeIn K (.ref F.c) F.qual = true
  cl : F.cl = [(("__class__" : Str), cc)]
  cell : ∃ x y z, K.lookup cc = some ⟨x, y, .cell (some (.ref C)), z⟩
  code : ∃ x y vs z file tf, K.lookup F.c = some ⟨x, y, .fields vs, z⟩ ∧ vs[2]? = some (.str file tf) ∧ ((P.main.file : Str) == file) = true
  sup : ks_superIn K C C "__init__" = some (some (.builtin "ValueError.__init__"))
  subC : mroIn K C (.ref C) = some true
  subV : subIn K (.ref C) (.type "ValueError") = some true
  opq : nsIn K cStatics "thirdparty.any" = some none
  msup : mg "super" = none
  top : (P.main.scope.names.lookup ("super" : Str)).isSome = false

section
variable {X : Cx} {pins : List (Addr × Obj)} {σ : L2.St} {H : Hp} {s : Shared} {a C f cc : Addr} {F : NF} {body : List Stmt} {p0 p1 p2 p3 p4 : Pos} {e : Expr} {es : List Expr} {ta : TA} {ar : Arg} {q : Hp → Prop}
theorem wp_super (T : OexC X.K C) (S : SupF X.prog X.K X.mg F f cc C) (I : Inv X pins σ H s) (ha : PA X (e :: es) ta)
    (hN : X.N[0]? = some ar.arg) (hσ : σ[0]? = some (some (.ref a))) (hx : H a = some (exo a C none))
    (henv : X.env.cells = F.cl) (hfu : X.env.func = some f) (hco : X.env.code = .ref F.c) (hpar : (F.params.posonlyargs ++ F.params.args).head? = some ar)
    (hks : X.env.kindOf "super" = some .globalImplicit) (hkc : X.env.kindOf "__class__" = some .free) (hka : X.env.kindOf ar.arg = some .local)
    (hi : interactive X.env = false) (hs : swapsWith (.Call (.Attribute (.Call (.Name "super" p0) [] [] p1) "__init__" p2) (e :: es) [] p3) none p4.line X.env = pure false)
    (he : ∃ pl : Sem Bool, eval (.Call (.Attribute (.Call (.Name "super" p0) [] [] p1) "__init__" p2) (e :: es) [] p3) X.env = (do
      let ov ← attributeBase (.Call (.Name "super" p0) [] [] p1) "__init__" X.env (eval (.Call (.Name "super" p0) [] [] p1) X.env)
      standAt p2.atName
      let (f, first) ← holding [ov] (getMethod ov "__init__" pl)
      callWith p3 f first (backTo p3 (starEach (e :: es) X.env)) []))
    (hst : starEach (e :: es) X.env = (false, eval e X.env) :: starEach es X.env) (hpl : (backTo p3 (starEach es X.env)).any (·.1) = false)
    (h : ta σ H fun vs H1 => vs.length ≤ 1000 ∧ H1 a = some (exo a C none) ∧ q H1) :
    _root_.PySem.wpAt (model X.prog X.w) X.A (.func body X.env) (exec (.Expr (.Call (.Attribute (.Call (.Name "super" p0) [] [] p1) "__init__" p2) (e :: es) [] p3) p4) X.env) (fun fl s' => fl = .next ∧ ∃ H', Inv X pins σ H' s' ∧ q H') X.xe s := by
  obtain ⟨oc, od, sl, doc, pm, ctv, lk⟩ := S.lk
  obtain ⟨cx, cy, cz, hcell⟩ := S.cell
  obtain ⟨dx, dy, vs, dz, file, tf, hcode, hvs, hfile⟩ := S.code
  obtain ⟨nm, qq, N, bs, bm, sn, sub, ab, col, dd, k0, k1, k2, k3, k5, hC, hbm⟩ := T.cls
  have KX := I.kIn
  obtain ⟨pl, he⟩ := he
  obtain ⟨mb, hb1, hb2⟩ := I.mod.blt
  obtain ⟨m, hn, hl⟩ := I.loc
  obtain ⟨u, ru, lu⟩ := hl 0 ar.arg (.ref a) hN hσ (.inl hka)
  obtain rfl : u = Value.ref a := ru
  have hm : m ar.arg = some (.ref a) := by
    rcases lu with ⟨_, z⟩ | ⟨z, _⟩
    · exact z
    · rw [hka] at z
      rcases z with z | z <;> cases z
  obtain ⟨t1, ho⟩ := exo_at I.hok hx
  have haC : a ≠ C := fun z => by
    have := KX _ _ hC
    rw [← z, ho] at this
    cases this
  refine ks_wpAt_Expr_any (ks_wpAt_MethodCall (pl := pl) ?_ he) hi hs
  refine ks_wpAt_super_base hks hkc (by decide) hfu (KX _ _ lk) rfl hpar hco (KX _ _ hcode) rfl hvs hfile S.top ?_
  refine ks_loadName_global I.ok.kind hks (Calls.loadGlobal_builtin (by rw [I.ok.glob]; exact I.mod.glob.keeps I.bk) S.msup (by rw [I.ok.blt]; exact hb1.keeps I.bk) ((hb2 _ (by decide)).trans PyProof.Rows.Boot.«super») ⟨rfl, ?_⟩)
  refine wpAny_loadName_free I.ok.kind hkc (by rw [henv, S.cl]; rfl) ⟨_, KX _ _ hcell, rfl⟩ ?_
  refine wpAny_loadName_local I.ok.kind hka hn hm ?_
  refine ks_wpAny_isType_cls (KX _ _ hC) rfl ⟨rfl, ?_⟩
  obtain ⟨hp, g, d, t, os⟩ := s
  refine ks_wpAny_call_super (KX _ _ hC) rfl ho rfl (fun c z => by cases z) (looks_mroIn KX S.subC) fun h' eso k => ?_
  have I1 : Inv X pins σ H ⟨h', g, d, t, os⟩ := I.kept (t' := t) k
  have KX1 := I1.kIn
  have hcl : clsIn X.K C = some { name := nm, bases := bs, mro := .ref C :: bm, ns := N, qualname := qq, hasDict := true, slotNames := sn, subclasses := sub, abstract := ab, collection := col, hasDel := false } := by unfold clsIn; rw [hC] <;> rfl
  have hsup := S.sup
  unfold ks_superIn at hsup
  rw [hcl] at hsup
  have ho1 : h'.get? a = some _ := k _ _ ho
  refine kxs_getMethod kxs_ValueError eso (looks_opaque KX1 S.opq) (l₀ := .ref C :: bm) ?_ rfl KX1 hsup (InstAt.type (od := none) ⟨ho1, rfl, rfl, trivial⟩ |>.andThen (looks_subIn KX1 S.subV)) haC (by decide) ?_
  · exact fun A Q E s k q => wpAny_bind ((looks_clsIn KX1 hcl) A _ E s k (wpAny_pure q))
  have I2 : Inv X ((h'.objs.size, kxs_mw "ValueError.__init__" a) :: pins) σ H ⟨h'.push (kxs_mw "ValueError.__init__" a), g, d, t + 1, os⟩ :=
    ClX.pin_new (s := ⟨h', g, d, t, os⟩) (t' := t + 1) I1 (fun b o z => Heap.get?_push_of_some _ z) (Nat.le_refl _) (Heap.get?_push_at rfl rfl) (fun v z => nomatch z)
  rw [hst]
  refine kxs_callWith (i := "ValueError.__init__") (x := a) (by show (false || _) = false; exact hpl) ?_
  have key := thn (Q' := fun us s1 => s1.heap.get? h'.objs.size = some (kxs_mw "ValueError.__init__" a) ∧ wpAny (model X.prog X.w) X.A (call (.ref h'.objs.size) us) (fun _ s' => Flow.next = Flow.next ∧ ∃ H', L2.Inv X pins σ H' s' ∧ q H') X.xe s1)
    (ha.run p3 _ _ σ H _ I2 h) fun us s3 ⟨vs', H1, I3, rv, hz, e1, q1⟩ => ⟨ClX.pin_at I3, mwinit_ok T (ClX.unpin I3) (ClX.pin_at I3) e1 (by rw [← Paired.length rv, sizeLine_eq]; omega) fun s' J => ⟨rfl, H1, J, q1⟩⟩
  rw [hst] at key
  exact evalArgs_plain key
end

/-- a def that closes over __class__, by its body, run as the activation that it is -/
theorem fn_ofS {CX : CXT} {P : Program} {w : World} {K : PySem.W.Frag} {mg : Str → Option Value} {base : Heap} {k : Nat} {f cc C : Addr} {F : NF} {oc doc pm ctv : Value} {od : Option Addr} {sl : Array (Option Value)} {N ps : List Str} {sp : Sp}
    (lk : K.lookup f = some ⟨oc, od, .func (F.fd doc pm ctv), sl⟩) (S : SupF P K mg F f cc C) (hS : NScope N ps ["__class__"] F.scope) (len : ∀ vs H Q E, sp vs H Q E → vs.length = ps.length)
    (hbody : ∀ (A : Around) (outer : List Env) (s s1 : Shared) (H : Hp) (vs : List V) (Q : VK) (E : XK), Room k (A.deeper (envF F f s.heap.objs.size)) → sp vs H Q E → L2.Inv (ncx CX P w K mg base N F f A outer s H E) [] (startF N vs [some (.ref C)]) H s1 →
      _root_.PySem.wpAt (model P w) (A.deeper (envF F f s.heap.objs.size)) (.func F.body (envF F f s.heap.objs.size)) (execs F.body (envF F f s.heap.objs.size)) (SP (ncx CX P w K mg base N F f A outer s H E) [] { nx := fun _ H' => Q .non H', rt := Q }) (ncx CX P w K mg base N F f A outer s H E).xe s1) :
    FnOk P w K mg base CX (k + 1) f (F.fd doc pm ctv) ps sp := by
  refine ⟨len, fun A outer s H args us vs Q E hr e0 hb r hsp => ?_⟩
  have hl := len _ _ _ _ hsp
  have KX : K.In s.heap := e0.mod.kin.keeps fun b o e => (e0.bs b o e).1
  have lim : s.heap.NoLimit := e0.mod.nolimit.keeps fun b o e => (e0.bs b o e).1
  obtain ⟨cx, cy, cz, hcell⟩ := S.cell
  have hbc := e0.bs _ _ (e0.mod.kin _ _ hcell)
  have C0 : CellsAt F.cl ["__class__"] [some (.ref C)] s.heap H := by
    rw [S.cl]
    have key : ∀ {y : Str} {c : Addr}, [(("__class__" : Str), cc)].lookup y = some c → c = cc := fun {y c} h => by
      simp only [List.lookup] at h
      split at h
      · cases h
        rfl
      · cases h
    refine ⟨rfl, fun y c h => ?_, fun x y c h1 h2 => ?_, fun i y h => ?_⟩
    · rw [key h]
      exact ⟨hbc.2, _, _, hbc.1, rfl⟩
    · have one : ∀ {y : Str}, [(("__class__" : Str), cc)].lookup y = some c → y = "__class__" := fun {y} h => by
        simp only [List.lookup] at h
        split at h
        · next e => exact by simpa using e
        · cases h
      rw [one h1, one h2]
    · cases i with
      | zero =>
        obtain rfl : ("__class__" : Str) = y := Option.some.inj h
        refine ⟨cc, rfl, fun v hv => ?_⟩
        obtain rfl : V.ref C = v := Option.some.inj (Option.some.inj hv)
        exact ⟨_, rfl, _, hbc.1, rfl⟩
      | succ i => cases h
  refine codeAny_call_function hr.depth (KX _ _ lk) rfl hS.co hS.gen rfl (codeRec_of KX S.cd) (hb _ _ _ _ ?_)
  refine wpAny_newFunctionEnv hS.nocell (fun ⟨n, _⟩ hy => hS.par n (List.of_mem_zip hy).1) (fun h₁ hns hsb => ⟨lim.fresh _ hsb, ?_⟩) hS.kind
  show codeAny _ _ (.func F.body (envF F f s.heap.objs.size)) _ _
  refine ks_codeAny_funcAt ?_
  have kp : ∀ b o, s.heap.get? b = some o → h₁.get? b = some o := fun b o e => hsb.extBut b o (Nat.ne_of_lt (Heap.lt_size e)) (Heap.get?_push_of_some _ e)
  have I : L2.Inv (ncx CX P w K mg base N F f A outer s H E) [] (startF N vs [some (.ref C)]) H { s with heap := h₁, toks := s.toks + (ps.zip us).length } := inv_startN hS hr.hd e0 hl r C0 hns kp
  refine ks_wpAt_mono (hbody A outer s _ H vs Q E (hr.deeper _) hsp I) (fun fl s' hs => ?_) fun e s' hs => hs
  have fin : ∀ {σ' : L2.St} {H' : Hp} {v : V} {u : Value}, L2.Inv (ncx CX P w K mg base N F f A outer s H E) [] σ' H' s' → L2.RelV v u → Q v H' → L2.CE outer P w H s Q u s' :=
    fun {σ' H' v u} J rv q => ⟨v, H', J.os, J.bare, J.base, J.hok, rv, q⟩
  cases fl with
  | ret u =>
    obtain ⟨v, σ', H', J, rv, q⟩ := hs
    exact fin J rv q
  | next =>
    obtain ⟨σ', H', J, q⟩ := hs
    exact fin (v := V.non) (u := Value.none) J rfl q
  | brk =>
    obtain ⟨_, _, _, q⟩ := hs
    exact False.elim q
  | cont =>
    obtain ⟨_, _, _, q⟩ := hs
    exact False.elim q

/-- what is written into the message: a short text or an int -/
def fitV : V → Prop := fun v => (∃ z, v = .str z ∧ z.length ≤ 90000) ∨ ∃ i : Int, v = .int i ∧ i.natAbs.log2 < 1920
/-- __init__ of an own exception with one field -/
def spX (C : Addr) (fld : Str) : Sp := fun vs H Q _ => ∃ a y, vs = [.ref a, y] ∧ H a = some (exo a C none) ∧ fitV y ∧ ∀ dx, H dx = none → dx ≠ a → Q .non (upd (upd H dx (exd dx [(fld, y)])) a (exo a C (some dx)))
theorem ok_sup {P : Program} {w : World} {K : PySem.W.Frag} {mg : Str → Option Value} {base : Heap} {f cc C : Addr} {F : NF} {oc doc pm ctv : Value} {od : Option Addr} {sl : Array (Option Value)} {at_ fld pre : Str} {sf : Arg}
    {p0 p1 p2 p3 p4 pc pn pn2 pf pj q1 q2 q3 : Pos} {j : Nat}
    (lk : K.lookup f = some ⟨oc, od, .func (F.fd doc pm ctv), sl⟩) (T : OexC K C) (S : SupF P K mg F f cc C) (hS : NScope ["self", at_, "__class__"] ["self", at_] ["__class__"] F.scope)
    (hno : findIn K (.ref C) fld = some none) (hpre : pre.length ≤ 1000) (hsf : (F.params.posonlyargs ++ F.params.args).head? = some sf) (hsn : sf.arg = "self") (hsup : F.scope.names.lookup ("super" : Str) = some NameKind.globalImplicit) (hd1 : (at_ == ("__debug__" : Str)) = false) (hd2 : (at_ == ("__classdict__" : Str)) = false)
    (hb : F.body = [.Expr (.Call (.Attribute (.Call (.Name "super" p0) [] [] p1) "__init__" p2) [.JoinedStr [.Constant (.str pre) j pc, .FormattedValue (.Name at_ pn) (-1) none pf] pj] [] p3) p4,
      .Assign [.Attribute (.Name "self" q1) fld q2] (.Name at_ pn2) q3])
    {pl : Env → Sem Bool} (he : ∀ env : Env, eval (.Call (.Attribute (.Call (.Name "super" p0) [] [] p1) "__init__" p2) [.JoinedStr [.Constant (.str pre) j pc, .FormattedValue (.Name at_ pn) (-1) none pf] pj] [] p3) env = (do
      let ov ← attributeBase (.Call (.Name "super" p0) [] [] p1) "__init__" env (eval (.Call (.Name "super" p0) [] [] p1) env)
      standAt p2.atName
      let (f, first) ← holding [ov] (getMethod ov "__init__" (pl env))
      callWith p3 f first (backTo p3 (starEach [.JoinedStr [.Constant (.str pre) j pc, .FormattedValue (.Name at_ pn) (-1) none pf] pj] env)) [])) :
    FnOk P w K mg base (L2N.CX P w) 1 f (F.fd doc pm ctv) ["self", at_] (spX C fld) := by
  refine fn_ofS (k := 0) (N := ["self", at_, "__class__"]) lk S hS (fun vs H Q E h => ?_) fun A outer s s1 H vs Q E hr h I => ?_
  · obtain ⟨a, y, rfl, _⟩ := h
    rfl
  · obtain ⟨a, y, rfl, ea, hf, k⟩ := h
    rw [hb]
    have hN0 : (ncx (L2N.CX P w) P w K mg base ["self", at_, "__class__"] F f A outer s H E).N[0]? = some sf.arg := by rw [hsn]; rfl
    have e1 : PE (ncx (L2N.CX P w) P w K mg base ["self", at_, "__class__"] F f A outer s H E) (.Name "self" q1) (tVar 0) := pe_var rfl (Or.inl (hS.par _ (List.mem_cons_self ..)))
    have e2 : ∀ pz, PE (ncx (L2N.CX P w) P w K mg base ["self", at_, "__class__"] F f A outer s H E) (.Name at_ pz) (tVar 1) := fun pz => pe_var rfl (Or.inl (hS.par _ (List.mem_cons_of_mem _ (List.mem_cons_self ..)))) hd1 hd2
    have ha : PA (ncx (L2N.CX P w) P w K mg base ["self", at_, "__class__"] F f A outer s H E) [.JoinedStr [.Constant (.str pre) j pc, .FormattedValue (.Name at_ pn) (-1) none pf] pj] _ := pa_cons (pe_joined (.cons pe_str (.cons (pe_fmt (e2 pn)) .nil))) pa_nil
    have hka : (ncx (L2N.CX P w) P w K mg base ["self", at_, "__class__"] F f A outer s H E).env.kindOf sf.arg = some .local := by rw [hsn]; exact hS.par _ (List.mem_cons_self ..)
    have hkc : (ncx (L2N.CX P w) P w K mg base ["self", at_, "__class__"] F f A outer s H E).env.kindOf "__class__" = some .free := hS.frk _ (List.mem_cons_self ..)
    have hi : interactive (envF F f s.heap.objs.size) = false := by
      show (F.scope.kind == .module && _) = false
      rw [hS.kind]
      rfl
    have hrest : PSs (ncx (L2N.CX P w) P w K mg base ["self", at_, "__class__"] F f A outer s H E) [.Assign [.Attribute (.Name "self" q1) fld q2] (.Name at_ pn2) q3] _ := pss_one (ps_ost (f := fld) e1 (e2 pn2))
    have hz1 : (Str.empty ++ pre).length ≤ 1000 := by
      rw [Str.length_append, show Str.empty.length = 0 from rfl]
      omega
    refine ks_wpAt_execs_cons (ks_wpAt_mono (wp_super (X := ncx (L2N.CX P w) P w K mg base ["self", at_, "__class__"] F f A outer s H E) (q := fun H' => H' = H) T S I ha hN0 rfl ea rfl rfl rfl hsf hsup hkc hka hi rfl ⟨_, he _⟩ rfl rfl ?_) (fun fl s' z => ?_) fun _ _ z => z)
    · refine ⟨pre, rfl, by rw [sizeLine_eq]; omega, ?_⟩
      refine ⟨y, rfl, ?_⟩
      rcases hf with ⟨z, rfl, hz⟩ | ⟨i, rfl, hz⟩
      · refine .inl ⟨z, rfl, by rw [sizeLine_eq]; omega, z, rfl, ?_, ?_⟩
        · rw [Str.length_append, sizeLine_eq]
          omega
        · exact ⟨by show 1 ≤ 1000; decide, ea, rfl⟩
      · refine .inr ⟨i, rfl, hz, _, rfl, ?_, ?_⟩
        · have := int_text_len_1921 hz
          rw [Str.length_append, sizeLine_eq]
          show _ + (PySem.Str.ofString (toString i)).length ≤ _
          omega
        · exact ⟨by show 1 ≤ 1000; decide, ea, rfl⟩
    · obtain ⟨rfl, H', J, rfl⟩ := z
      refine wpAt_of_wpAny (hrest.run [] s' _ H' _ J ?_)
      refine ⟨y, rfl, .ref a, rfl, a, C, rfl, T, hno, .inl ⟨ea, fun dx n ne => ?_⟩⟩
      exact k dx n ne
end Cz

set_option Elab.async false
set_option linter.all false
set_option maxRecDepth 100000
set_option maxHeartbeats 4000000
/-! raise of an own exception, try .. except .. as, what a suite asks of the caught one. -/
namespace Cz
open PySem PySem.Spec PyProof.Rows L2 NdefX Evl
section
variable {X : Cx} {e : Expr} {es : List Expr} {ta : TA} {p pos : Pos}
theorem mk_endN {pins : List (Addr × Obj)} {σ : L2.St} {H1 H2 : Hp} {Q : XK} {hp hp2 h2 : Heap} {g1 g2 : Array GenState} {d1 d2 : Drawn} {t1 t2 : Nat} {os1 os2 : OsState} {a C d : Addr} {fs : List (Str × V)} (T : Raises X (.ref C)) (I1 : L2.Inv X pins σ H1 ⟨hp, g1, d1, t1, os1⟩)
    (ha : hp.objs.size ≤ a) (k : ∀ b o, hp.get? b = some o → hp2.get? b = some o) (un : Un (frs X.stack) [] (upd H1 a (exo a C none)) H2 hp2 h2) (hok : HOk X.prog X.w H2 h2) (ho : os2 = os1) (hb : AllBare g2)
    (ea : H2 a = some (exo a C (some d))) (ed : H2 d = some (exd d fs)) (hd1 : H1 d = none) (q : Q (.ref C) (some d) (upd (del H2 a) d (.xd fs))) : L2N.MkP X pins σ Q (.ref a) ⟨h2, g2, d2, t2, os2⟩ := by
  obtain ⟨t0, G, J, kG, ge, hoe, na⟩ := mk_end0 (d2 := d2) (t2 := t2) I1 ha k un hok ho hb ea ed hd1
  exact ⟨a, _, _, ⟨G, g2, d2, t2, os2⟩, _, .ref C, some d, rfl, J, kG, ge, hoe, ⟨rfl, rfl, fun vs e => by cases e; rfl⟩, rfl, rfl, na, rfl, hb, T, q⟩
theorem pmk_oexN {CX : CXT} {x : Str} {C fI : Addr} {k : Nat} {fd : FuncData} {ps : List Str} {sp : Sp} {ds : List Value} {dvs : List V} (T : OexC X.K C) (iC : PySem.W.findIn X.K (.ref C) "__init__" = some (some (.ref fI))) (tI : PySem.W.typeIn X.K (.ref fI) = some (.type "function"))
    (F1 : FnOk X.prog X.w X.K X.mg X.base CX k fI fd ps sp) (hr : Room (k + 1) X.A) (hb : Binds X.K fd ps ds) (hd : Vals dvs ds) (hx : Passes CX X (fun _ _ _ => False)) (hg : Gl X x) (hm : X.mg x = some (.ref C)) (ha : PA X (e :: es) ta)
    (hdb : (x == ("__debug__" : Str)) = false := by decide) (he : starEach (e :: es) X.env = (false, eval e X.env) :: starEach es X.env := by rfl) (hpl : (backTo pos (starEach es X.env)).any (·.1) = false := by rfl) :
    L2N.PMk X (.Call (.Name x p) (e :: es) [] pos) (tMkO C sp dvs ta) := by
  intro pins s σ H Q I h
  obtain ⟨nm, q, N, bs, bm, sn, sub, ab, col, dd, k0, k1, k2, k3, k5, hC, hbm⟩ := T.cls
  refine wpAny_Call_Name_kw (ld_glob I hg hm ?_ hdb)
  refine PySem.W.callWith_K (h₀ := X.base) I.ok.mod.kin T.kC (thn (ha.run pos pins s σ H _ I h) fun us s1 ⟨vs, H1, I1, r1, hz, q1⟩ => ⟨I1.kIn, ?_⟩) he hpl
  show wpAny _ _ (call (.ref C) us) _ _ _
  obtain ⟨hp, g, dr, tk, os⟩ := s1
  have hsz : hp.objs.size ≤ hp.objs.size + 1 := Nat.le_succ _
  have hn : H1 (hp.objs.size + 1) = none := I1.hok.fresh hsz
  have hq := q1 (hp.objs.size + 1) hn
  have kk : ∀ b o, hp.get? b = some o → ((hp.push (PySem.W.kdv_tup us)).push (PySem.HandSPX.excO C hp.objs.size)).get? b = some o := fun b o e => Heap.get?_push_of_some _ (Heap.get?_push_of_some _ e)
  have hget : ((hp.push (PySem.W.kdv_tup us)).push (PySem.HandSPX.excO C hp.objs.size)).get? (hp.objs.size + 1) = some (PySem.HandSPX.excO C hp.objs.size) := by heap_get
  have I2 : L2.Inv X pins σ (upd H1 (hp.objs.size + 1) (exo (hp.objs.size + 1) C none)) ⟨(hp.push (PySem.W.kdv_tup us)).push (PySem.HandSPX.excO C hp.objs.size), g, dr, tk, os⟩ :=
    I1.laid (t' := tk) (a := hp.objs.size + 1) (o := exo (hp.objs.size + 1) C none) (h' := (hp.push (PySem.W.kdv_tup us)).push (PySem.HandSPX.excO C hp.objs.size)) kk hsz (exo_ok hget)
  have r2 : Vals (V.ref (hp.objs.size + 1) :: (vs ++ dvs)) (Value.ref (hp.objs.size + 1) :: (us ++ ds)) := .cons rfl (r1.append hd)
  have hl : (Value.ref (hp.objs.size + 1) :: us ++ ds).length = ps.length := by
    have e := r2.length
    rw [F1.len _ _ _ _ hq] at e
    exact e.symm
  have hus : us.length ≤ sizeLine := by
    rw [← Paired.length r1, sizeLine_eq]
    omega
  refine wpAny_call (PySem.HandSPX.call_own F.excBase_ValueError (fun Y => PySem.HandSPX.refsVE_contains Y bm hbm) (I1.kIn _ _ hC) (PySem.W.looks_findIn I1.kIn iC) (fun self => PySem.W.bind_fn I1.kIn self tI) hus
    (codeAny_mono (F1.run _ X.stack _ _ ⟨Value.ref (hp.objs.size + 1) :: us, []⟩ (Value.ref (hp.objs.size + 1) :: (us ++ ds)) _ _ (fun _ _ _ => False) (hr.make C us []) (I2.env0.make C us []) (hb _ (Value.ref (hp.objs.size + 1) :: us) I2.kIn hl) r2 hq) fun r s' hq' => ?_))
  cases r with
  | error er => exact hx pins σ _ _ er s' I2 hq'
  | ok fl =>
    cases fl with
    | ret u =>
      obtain ⟨v, H2, os2, bare2, un2, hok2, rv, ev, d, fs, ea, ed, hd1, q2⟩ := hq'
      subst ev
      obtain ⟨h2, g2, d2, t2, os'⟩ := s'
      exact ⟨rv, mk_endN (raises_own T.exC T.tyC) I1 hsz kk un2 hok2 os2 bare2 ea ed hd1 q2⟩
    | next => exact False.elim hq'
    | brk => exact False.elim hq'
    | cont => exact False.elim hq'
end
/-- an own exception class with one field, to be raised -/
structure CalX (P : Program) (w : World) (K : PySem.W.Frag) (mg : Str → Option Value) (base : Heap) (x : Str) (C : Addr) (fld : Str) : Prop where
  ex : ∃ fI fd ps, OexC K C ∧ PySem.W.findIn K (.ref C) "__init__" = some (some (.ref fI)) ∧ PySem.W.typeIn K (.ref fI) = some (.type "function") ∧ FnOk P w K mg base (L2N.CX P w) 1 fI fd ps (spX C fld) ∧ Binds K fd ps [] ∧ mg x = some (.ref C)
def fitD : Dat → Bool
  | .str z => decide (z.length ≤ 90000)
  | .int i => decide (i.natAbs.log2 < 1920)
  | _ => false
section
variable {K : PySem.W.Frag} {T : Nat → Addr}
theorem fit_of {G : Hp} {v : V} {d : Dat} (r : Rep K T G v d) (h : fitD d = true) : fitV v := by
  cases r <;> first | exact .inl ⟨_, rfl, of_decide_eq_true h⟩ | exact .inr ⟨_, rfl, of_decide_eq_true h⟩ | cases h
def CS.raise (c : Nat) (fld : Str) (a : CE K T) : CS K T := ⟨fun W D σ H => tMkO (T c) (spX (T c) fld) [] (tCons (a.te W) tNil) σ H fun cls d H' => W cls d σ H',
  fun Γ => (a.ev Γ).st Γ fun x => if fitD x = true then .exn Γ c [(fld, x)] else .bad, fun W D G0 H0 G H σ Γ s =>
  Hd.st (k := fun v H1 => ([v] : List V).length ≤ 1000 ∧ ∀ e, H1 e = none → spX (T c) fld [.ref e, v] (upd H1 e (exo e (T c) none)) (fun u H2 => u = .non ∧ ∃ (d : Addr) (fs : List (Str × V)), H2 e = some (exo e (T c) (some d)) ∧ H2 d = some (exd d fs) ∧ H1 d = none ∧ W (.ref (T c)) (some d) σ (upd (del H2 e) d (.xd fs))) (fun _ _ _ => False))
    s (a.ok W [] G0 H0 G H σ Γ s) fun v d G1 H1 w r _ => by
    split
    · next hf =>
      intro q
      refine ⟨by show 1 ≤ 1000; decide, fun e ne => ⟨e, v, rfl, upd_same, fit_of r hf, fun dx n dne => ⟨rfl, dx, [(fld, v)], upd_same, ?_, ?_, ?_⟩⟩⟩
      · rw [upd_ne dne, upd_same]
      · rw [upd_ne dne] at n
        exact n
      · rw [upd_ne dne] at n
        have eh : upd (del (upd (upd (upd H1 e (exo e (T c) none)) dx (exd dx [(fld, v)])) e (exo e (T c) (some dx))) e) dx (.xd [(fld, v)]) = upd H1 dx (.xd [(fld, v)]) := by
          funext b
          by_cases hb : b = dx
          · rw [hb, upd_same, upd_same]
          · rw [upd_ne hb, upd_ne hb]
            by_cases he : b = e
            · rw [he, del_same, ne]
            · rw [del_ne he, upd_ne he, upd_ne hb, upd_ne he]
        rw [eh]
        have g1 := Grow.new (o := .xd [(fld, v)]) w.gh n
        exact q _ _ _ _ σ g1.g ((s.grow w).grow g1) ⟨rfl, .inr ⟨dx, _, rfl, upd_same, .cons (r.mono g1.g) .nil⟩⟩
    · trivial⟩
theorem d_raise {X : Cx} {W : WX} {x : Str} {c : Nat} {fld : Str} {e : Expr} {ce : CE K T} {p pos pos2 : Pos} (C : CalX X.prog X.w K X.mg X.base x (T c) fld) (hK : X.K = K) (hc : X.calm = true) (tk : L2N.Takes X W) (hr : Room 2 X.A) (he : PE X e (ce.te W))
    (hg : Gl X x := by rfl) (hdb : (x == ("__debug__" : Str)) = false := by decide) (hst : starEach [e] X.env = (false, eval e X.env) :: starEach [] X.env := by rfl) (hpl : (backTo pos (starEach [] X.env)).any (·.1) = false := by rfl) :
    PS X (.Raise (some (.Call (.Name x p) [e] [] pos)) none pos2) ((CS.raise c fld ce).ts W) := by
  subst hK
  obtain ⟨fI, fd, ps, T1, iC, tI, F1, hb, hm⟩ := C.ex
  exact L2N.ps_raise hc tk (pmk_oexN (ds := []) (dvs := []) T1 iC tI F1 hr hb .nil (fun _ _ _ _ _ _ _ h => by
    obtain ⟨_, _, _, _, _, _, _, _, _, _, _, _, z⟩ := h
    exact z.elim) hg hm (pa_cons he pa_nil (by exact hst)) hdb hst hpl)

/-! ### the caught exception -/
section
variable {fx : List Addr} {G0 H0 G H : Hp} {σ : L2.St} {Γ : Gam}
theorem SG.setX (s : SG K T fx G0 H0 G H σ Γ) {i : Nat} {a : Addr} {d : Option Addr} {c : Nat} {fs : List (Str × Dat)} (r : RepX K T G (.ref (T c)) d c fs) : SG K T fx G0 H0 G H (σ.set i (some (.ref a))) (Γ.set i (.ex a d c fs)) :=
  s.put (Grow.refl s.gh) (.ex r) (fun _ h => nomatch h) List.nodup_nil
theorem SG.getX (s : SG K T fx G0 H0 G H σ Γ) {i : Nat} {a : Addr} {d : Option Addr} {c : Nat} {fs : List (Str × Dat)} (h : Γ[i]? = some (.ex a d c fs)) : σ[i]? = some (some (.ref a)) ∧ RepX K T G (.ref (T c)) d c fs := by
  obtain ⟨fp, f1, f2, f3, f4⟩ := s.own
  have hi : i < σ.length := by rw [s.len]; exact (List.getElem?_eq_some_iff.mp h).1
  obtain ⟨o, ho⟩ : ∃ o, σ[i]? = some o := ⟨_, List.getElem?_eq_getElem hi⟩
  have q := f1 i o _ ho h
  generalize fp i = q1 at q
  cases q with
  | ex r => exact ⟨ho, r⟩
end
def WN : WX := fun _ _ _ _ => False
def endX (i : Nat) (D : Ends) : Ends := { nx := fun σ' H' => D.nx (σ'.set i none) H', rt := D.rt, bk := fun σ' H' => D.bk (σ'.set i none) H', ct := fun σ' H' => D.ct (σ'.set i none) H' }
def wrapX (i : Nat) : SRes → SRes
  | .nx Γ => .nx (Γ.set i .un)
  | .bk Γ => .bk (Γ.set i .un)
  | .ct Γ => .ct (Γ.set i .un)
  | .rt d => .rt d
  | _ => .bad
theorem SHd.wrap {W : WX} {D : Ends} {G0 H0 G : Hp} {i : Nat} {r : SRes} {t : Prop} (h : SHd K T WN (endX i D) G0 H0 G r t) : SHd K T W D G0 H0 G (wrapX i r) t := by
  cases r with
  | nx Γ => exact fun q => h fun G' H' σ' e s => q G' H' _ e (s.setU none)
  | bk Γ => exact fun q => h fun G' H' σ' e s => q G' H' _ e (s.setU none)
  | ct Γ => exact fun q => h fun G' H' σ' e s => q G' H' _ e (s.setU none)
  | rt d => exact h
  | exn Γ c fs => trivial
  | bad => trivial
/-- try: body / except C as e: suite; sb: which classes the clause names -/
def CS.tryE (c i : Nat) (sb : Nat → Option Bool) (hsb : ∀ c' b, sb c' = some b → PySem.W.exmOne K (.ref (T c')) (.ref (T c)) = some b) (body : CS K T) (suite : Addr → Option Addr → Nat → CS K T) (sev : Nat → List (Str × Dat) → Gam → SRes)
    (hsev : ∀ a d c' fs Γ, wrapX i ((suite a d c').ev (Γ.set i (.ex a d c' fs))) = sev c' fs Γ) : CS K T :=
  ⟨fun W D σ H => body.ts (wAs K (.ref (T c)) i (fun a cls d D σ H => ∃ c', cls = .ref (T c') ∧ (suite a d c').ts WN D σ H) W D) D σ H,
  fun Γ => match body.ev Γ with
    | .exn Γ' c' fs => (match sb c' with
      | some true => sev c' fs Γ'
      | some false => .exn Γ' c' fs
      | none => .bad)
    | r => r, fun W D G0 H0 G H σ Γ s => by
  have h := body.ok (wAs K (.ref (T c)) i (fun a cls d D σ H => ∃ c', cls = .ref (T c') ∧ (suite a d c').ts WN D σ H) W D) D G0 H0 G H σ Γ s
  show SHd K T W D G0 H0 G _ (body.ts (wAs K (.ref (T c)) i (fun a cls d D σ H => ∃ c', cls = .ref (T c') ∧ (suite a d c').ts WN D σ H) W D) D σ H)
  cases e : body.ev Γ with
  | exn Γ' c' fs =>
    rw [e] at h
    show SHd K T W D G0 H0 G (match sb c' with | some true => sev c' fs Γ' | some false => .exn Γ' c' fs | none => .bad) _
    cases hs : sb c' with
    | none => trivial
    | some b =>
      cases b with
      | false => exact fun q => h fun cls d G' H' σ' ex sg r => ⟨false, by rw [r.1]; exact hsb c' false hs, (fun z => nomatch z), fun _ => q cls d G' H' σ' ex sg r⟩
      | true =>
        exact SHd.all (p := fun j : { x : Value × Option Addr × Hp × Hp × L2.St × Addr // Ex G x.2.2.1 ∧ SG K T [] G0 H0 x.2.2.1 x.2.2.2.1 x.2.2.2.2.1 Γ' ∧ RepX K T x.2.2.1 x.1 x.2.1 c' fs } =>
            ∃ c'', j.1.1 = .ref (T c'') ∧ (suite j.1.2.2.2.2.2 j.1.2.1 c'').ts WN (endX i D) (j.1.2.2.2.2.1.set i (some (.ref j.1.2.2.2.2.2))) j.1.2.2.2.1)
          (fun ⟨(cls, d, G', H', σ', a), ex, sg, r⟩ => by
            have o := (suite a d c').ok WN (endX i D) G0 H0 G' H' (σ'.set i (some (.ref a))) (Γ'.set i (.ex a d c' fs)) (sg.setX ⟨rfl, r.2⟩)
            have o2 := SHd.wrap (W := W) o
            rw [hsev] at o2
            exact (o2.imp fun t => ⟨c', r.1, t⟩).back ex)
          fun all => h fun cls d G' H' σ' ex sg r => ⟨true, by rw [r.1]; exact hsb c' true hs, fun _ a _ => all ⟨(cls, d, G', H', σ', a), ex, sg, r⟩, fun z => nomatch z⟩
  | nx Γ' => rw [e] at h; exact h
  | rt d => rw [e] at h; exact h
  | bk Γ' => rw [e] at h; exact h
  | ct Γ' => rw [e] at h; exact h
  | bad => trivial⟩
/-- e.f, e the caught exception, asked only of the class c -/
def CE.exf (a : Addr) (d : Option Addr) (c' i c : Nat) (f : Str) : CE K T :=
  ⟨fun _ => fun σ H Q => c' = c ∧ tXf a (.ref (T c')) d (T c') f (tVar i) σ H Q, fun Γ => if c' = c then (match Γ[i]? with
    | some (.ex a' d' c2 fs) => if a' = a ∧ d' = d ∧ c2 = c' then (match fs.lookup f with | some x => .ok x | none => .bad) else .bad
    | _ => .bad) else .bad, fun W fx G0 H0 G H σ Γ s => by
  split
  · next hc =>
    split
    · next a' d' c2 fs hg =>
      split
      · next hh =>
        obtain ⟨rfl, rfl, rfl⟩ := hh
        split
        · next x hx =>
          obtain ⟨e1, r⟩ := s.getX hg
          rcases r.2 with ⟨rfl, _⟩ | ⟨dx, fvs, ed, eg, rf⟩
          · cases hx
          · obtain ⟨v, hv, rv⟩ := rf.get hx
            exact Hd.ret s.gh rv fun Q q => ⟨hc, .ref a', e1, rfl, rfl, dx, fvs, v, ed, s.gh _ _ eg, hv, q⟩
        · trivial
      · trivial
    · trivial
  · trivial⟩
theorem d_exf {X : Cx} {W : WX} {a : Addr} {oe : Obj} {d : Option Addr} {c' i c : Nat} {f n : Str} {pn : List (Addr × Obj)} {p pos : Pos} (hK : X.K = K) (hT : XfC K (T c)) (hno : PySem.W.findIn K (.ref (T c)) f = some none) (hz : L2N.Zn (.ref (T c')) d oe) (hf : ∃ vs, oe.data = .fields vs)
    (hN : X.N[i]? = some n := by rfl) (hv : Vis X.env.scope n := by first | exact Or.inl rfl | exact Or.inr (Or.inl rfl) | exact Or.inr (Or.inr rfl)) (hd : (n == ("__debug__" : Str)) = false := by decide) (hcd : (n == ("__classdict__" : Str)) = false := by decide)
    (hb : attributeBase (.Name n p) f (X.suite a ((a, oe) :: pn)).env (eval (.Name n p) (X.suite a ((a, oe) :: pn)).env) = eval (.Name n p) (X.suite a ((a, oe) :: pn)).env := by rfl) :
    PE (X.suite a ((a, oe) :: pn)) (.Attribute (.Name n p) f pos) ((CE.exf (K := K) (T := T) a d c' i c f).te W) := by
  subst hK
  refine ⟨fun pins s σ H Q I h => ?_⟩
  obtain ⟨rfl, h⟩ := h
  exact (pe_xf hT hno hz.zc hf (pe_var (X := X.suite a ((a, oe) :: pn)) hN hv hd hcd) hb).run pins s σ H Q I h
theorem d_tryE {X : Cx} {W : WX} {x n : Str} {c i : Nat} {sb : Nat → Option Bool} {hsb : ∀ c' b, sb c' = some b → PySem.W.exmOne K (.ref (T c')) (.ref (T c)) = some b} {cb : CS K T} {su : Addr → Option Addr → Nat → CS K T} {sev : Nat → List (Str × Dat) → Gam → SRes}
    {hsev : ∀ a d c' fs Γ, wrapX i ((su a d c').ev (Γ.set i (.ex a d c' fs))) = sev c' fs Γ} {body suite : List Stmt} {b₀ : Stmt} {np pos pos' : Pos} (hK : X.K = K) (hm : X.mg x = some (.ref (T c))) (tk : L2N.Takes X W) (hN : X.N.Nodup)
    (hb : ∀ (W : WX) (pn : List (Addr × Obj)) (xe : Value → Shared → Prop), L2N.Takes (X.tr pn xe) W → PassesOwn (model X.prog X.w) X.A X.env xe → PSs (X.tr pn xe) body (cb.ts W))
    (hsu : ∀ (a : Addr) (oe : Obj) (d : Option Addr) (c' : Nat) (pn : List (Addr × Obj)), L2N.Zn (.ref (T c')) d oe → (∃ vs, oe.data = .fields vs) → PSs (X.suite a ((a, oe) :: pn)) (b₀ :: suite) ((su a d c').ts WN))
    (hs : X.stack = X.env :: X.outer := by rfl) (hf : X.env.frame = some X.env.locals := by rfl) (hi : X.N[i]? = some n := by rfl) (hln : X.env.kindOf n = some .local := by rfl) (hg : Gl X x := by rfl) (hd : (x == ("__debug__" : Str)) = false := by decide) :
    PS X (.Try body [.ExceptHandler (some (.Name x np)) (some n) (b₀ :: suite) pos'] [] [] pos) ((CS.tryE c i sb hsb cb su sev hsev).ts W) := by
  subst hK
  refine L2N.ps_try_as (c := .ref (T c)) (tb := cb.ts) (ts := fun a cls d D σ H => ∃ c', cls = .ref (T c') ∧ (su a d c').ts WN D σ H) hs hf hN hi hln ⟨hg, hd, .inl hm⟩ tk hb fun a oe cls d pn hz hfl => ?_
  refine ⟨fun pins s σ H D I h => ?_⟩
  obtain ⟨c', rfl, h⟩ := h
  exact (hsu a oe d c' pn hz hfl).run pins s σ H D I h
/-! ### calls in a suite -/
structure CalH (P : Program) (w : World) (K : PySem.W.Frag) (mg : Str → Option Value) (base : Heap) (x : Str) (k : Nat) (sp : Sp) : Prop where
  ex : ∃ a fd ps, mg x = some (.ref a) ∧ PySem.W.keepIn K (.ref a) = true ∧ Binds K fd ps [] ∧ L2H.FnH P w K mg base (L2N.CX P w) k a fd ps sp
theorem hot_suite {X : Cx} {a : Addr} {oe : Obj} {cls : Value} {d : Option Addr} {pn : List (Addr × Obj)} (hz : L2N.Zn cls d oe) (hf : ∃ vs, oe.data = .fields vs) : L2H.HotC (X.suite a ((a, oe) :: pn)) := by
  obtain ⟨vs, hd⟩ := hf
  exact ⟨(a, oe), ⟨rfl, vs, hd, hz.2.2 vs hd⟩, List.mem_cons_self⟩
theorem d_calH {X : Cx} {x : Str} {k n : Nat} {F : List Dat → Rs Dat} {e : Expr} {es : List Expr} {cas : CA K T} {p pos : Pos} (C : CalH X.prog X.w X.K X.mg X.base x k (spF K T n F)) (hot : L2H.HotC X) (hr : L2H.RoomH k X.A) (ha : PA X (e :: es) (cas.te WN)) (hg : Gl X x := by rfl)
    (hdb : (x == ("__debug__" : Str)) = false := by decide) (he : starEach (e :: es) X.env = (false, eval e X.env) :: starEach es X.env := by rfl) (hpl : (backTo pos (starEach es X.env)).any (·.1) = false := by rfl) :
    PE X (.Call (.Name x p) (e :: es) [] pos) ((CE.fn n F cas).te WN) := by
  obtain ⟨a, fd, ps, hm, hk, hb, F1⟩ := C.ex
  exact L2H.pe_callH F1 hr hot hg hm hk hb (fun σ pins H s e s' I h => by
    obtain ⟨_, _, _, _, _, _, _, _, _, _, _, _, z⟩ := h
    exact z.elim) ha hdb he hpl
/-- as ok_fn, for a def that is called where an exception is handled -/
theorem ok_fnH {P : Program} {w : World} {mg : Str → Option Value} {base : Heap} {x qual : Str} {st : Stmt} {f : Addr} {fd : FuncData} {N ps : List Str} {k : Nat} (F : Fun K x qual st f fd) (S : FnScope N ps (defScope st)) (b : CS K T)
    (h : ∀ (cdv : Value) (A : Around) (outer : List Env) (s : Shared) (H : Hp) (E : XK) (p : Addr × Obj), L2H.Hot1 A p → L2H.RoomH k (A.deeper (PyProof.Rows.envOfC qual (defScope st) s.heap.objs.size f cdv)) →
      PSs (L2H.cxH (L2N.CX P w) P w K mg base N qual (defScope st) f cdv A outer s H E p) (defBody st) (b.ts fun cls d _ H => E cls d H)) :
    L2H.FnH P w K mg base (L2N.CX P w) (k + 1) f fd ps (spF K T ps.length (runF b N.length)) := by
  obtain ⟨oc, od, kV, doc, pm, an, cdv, ct, osl, rfl, lk, hcd⟩ := F.ex
  exact L2H.fn_ofH lk hcd S (fun vs H Q E h => h.1) fun A outer s H vs Q E p hot hr hsp => ⟨_, h cdv A outer s H E p hot hr, body_ok b hsp⟩
end
end Cz
namespace Cz
open PySem PySem.Spec PyProof.Rows L2 NdefX Evl
theorem fnH_imp {P : Program} {w : World} {K : PySem.W.Frag} {mg : Str → Option Value} {base : Heap} {CX : CXT} {k : Nat} {f : Addr} {fd : FuncData} {ps : List Str} {sp sp' : Sp} (F : L2H.FnH P w K mg base CX k f fd ps sp)
    (h : ∀ vs H Q E, sp' vs H Q E → sp vs H Q E) : L2H.FnH P w K mg base CX k f fd ps sp' :=
  ⟨fun vs H Q E q => F.len vs H Q E (h _ _ _ _ q), fun A outer s H args us vs Q E p hr hot hp he hb hv hs => F.run A outer s H args us vs Q E p hr hot hp he hb hv (h _ _ _ _ hs)⟩
section
variable {K : PySem.W.Frag} {T : Nat → Addr}
@[simp] theorem wrapX_st {α : Type} (i : Nat) (r : Rs α) (Γ : Gam) (f : α → SRes) : wrapX i (r.st Γ f) = (match r with | .ok d => wrapX i (f d) | _ => .bad) := by cases r <;> rfl
@[simp] theorem wrapX_ite (i : Nat) (p : Prop) [Decidable p] (a b : SRes) : wrapX i (if p then a else b) = if p then wrapX i a else wrapX i b := by split <;> rfl
@[simp] theorem wrapX_nx (i : Nat) (Γ : Gam) : wrapX i (.nx Γ) = .nx (Γ.set i .un) := rfl
@[simp] theorem wrapX_rt (i : Nat) (d : Dat) : wrapX i (.rt d) = .rt d := rfl
@[simp] theorem wrapX_bad (i : Nat) : wrapX i .bad = .bad := rfl
@[simp] theorem ev_CS_raise (c : Nat) (fld : Str) (a : CE K T) (Γ : Gam) : (CS.raise c fld a).ev Γ = (a.ev Γ).st Γ fun x => if fitD x = true then .exn Γ c [(fld, x)] else .bad := rfl
@[simp] theorem ev_CE_exf (a : Addr) (d : Option Addr) (c' i c : Nat) (f : Str) (Γ : Gam) : (CE.exf a d c' i c f : CE K T).ev Γ = if c' = c then (match Γ[i]? with
    | some (.ex a' d' c2 fs) => if a' = a ∧ d' = d ∧ c2 = c' then (match fs.lookup f with | some x => .ok x | none => .bad) else .bad
    | _ => .bad) else .bad := rfl
@[simp] theorem ev_CS_tryE (c i : Nat) (sb : Nat → Option Bool) (hsb : ∀ c' b, sb c' = some b → PySem.W.exmOne K (.ref (T c')) (.ref (T c)) = some b) (body : CS K T) (su : Addr → Option Addr → Nat → CS K T) (sev : Nat → List (Str × Dat) → Gam → SRes)
    (hsev : ∀ a d c' fs Γ, wrapX i ((su a d c').ev (Γ.set i (.ex a d c' fs))) = sev c' fs Γ) (Γ : Gam) : (CS.tryE c i sb hsb body su sev hsev).ev Γ = match body.ev Γ with
    | .exn Γ' c' fs => (match sb c' with
      | some true => sev c' fs Γ'
      | some false => .exn Γ' c' fs
      | none => .bad)
    | r => r := rfl
end
end Cz

set_option Elab.async false
set_option linter.all false
set_option maxRecDepth 100000
set_option maxHeartbeats 2000000
/-! Plain facts for what raises. -/
namespace Cz
open PySem L2
theorem evFor_drop {g : Dat → Gam → Option Gam} {b : Gam → SRes} {ds : List Dat} {Γ : Gam} (I : Nat → Gam → Prop) (h0 : I 0 Γ) : ∀ {k : Nat}, k ≤ ds.length →
    (∀ i d Γ, i < k → ds[i]? = some d → I i Γ → ∃ Γ1 Γ2, g d Γ = some Γ1 ∧ (b Γ1 = .nx Γ2 ∨ b Γ1 = .ct Γ2) ∧ I (i + 1) Γ2) → ∃ Γk, I k Γk ∧ evFor g b ds Γ = evFor g b (ds.drop k) Γk
  | 0, _, _ => ⟨Γ, h0, by rw [List.drop_zero]⟩
  | k + 1, hk, hs => by
    obtain ⟨Γk, hi, e⟩ := evFor_drop I h0 (k := k) (by omega) fun i d Γ h => hs i d Γ (by omega)
    have hl : k < ds.length := by omega
    obtain ⟨Γ1, Γ2, h1, h2, h3⟩ := hs k ds[k] Γk (by omega) (List.getElem?_eq_getElem hl) hi
    refine ⟨Γ2, h3, ?_⟩
    rw [e, List.drop_eq_getElem_cons hl]
    unfold evFor
    rw [h1]
    rcases h2 with h2 | h2 <;> simp only [h2] <;> (conv => lhs; unfold evFor) <;> (conv => rhs; unfold evFor)
theorem evFor_cons {g : Dat → Gam → Option Gam} {b : Gam → SRes} {d : Dat} {r : List Dat} {Γ : Gam} : evFor g b (d :: r) Γ = match g d Γ with
    | none => .bad
    | some Γ1 => match b Γ1 with
      | .nx Γ2 => evFor g b r Γ2
      | .ct Γ2 => evFor g b r Γ2
      | .bk Γ2 => .nx Γ2
      | .rt d => .rt d
      | .exn Γ2 c fs => .exn Γ2 c fs
      | .bad => .bad := rfl
def isF (c : Nat) : Bool := decide (c = 98 ∨ c = 102 ∨ c = 115 ∨ c = 110)
/-- where the first wrong character stands -/
def badAt (l : List Nat) : Option Nat := l.findIdx? fun c => !isF c
theorem badAt_none {l : List Nat} : badAt l = none ↔ Fts l := by
  unfold badAt
  rw [List.findIdx?_eq_none_iff]
  refine ⟨fun h c hc => ?_, fun h c hc => ?_⟩
  · have := h c hc
    simp only [isF, Bool.not_eq_false', decide_eq_true_eq] at this
    exact this
  · rw [isF, decide_eq_true (h c hc)]
    rfl
theorem badAt_lt {l : List Nat} {k : Nat} (h : badAt l = some k) : k < l.length := by
  unfold badAt at h
  obtain ⟨h, _⟩ := List.findIdx?_eq_some_iff_getElem.mp h
  exact h
theorem badAt_some {l : List Nat} {k : Nat} (h : badAt l = some k) : ∃ hk : k < l.length, isF l[k] = false ∧ ∀ j (hj : j < k), isF (l[j]'(by omega)) = true := by
  unfold badAt at h
  obtain ⟨h, h1, h2⟩ := List.findIdx?_eq_some_iff_getElem.mp h
  exact ⟨h, by simpa using h1, fun j hj => by simpa using h2 j hj⟩
theorem badAt_app {a r : List Nat} {c : Nat} (h : Fts a) (hc : isF c = false) : badAt (a ++ c :: r) = some a.length := by
  unfold badAt
  rw [List.findIdx?_append]
  have : List.findIdx? (fun c => !isF c) a = none := badAt_none.mpr h
  rw [this]
  simp [List.findIdx?_cons, hc]
theorem fit_nat {n : Nat} (h : n < 10000000) : fitD (.int (n : Nat)) = true := by
  unfold fitD
  refine decide_eq_true ?_
  show n.log2 < 1920
  by_cases hz : n = 0
  · subst hz
    decide
  · have : n.log2 < 24 := (Nat.log2_lt hz).mpr (by omega)
    omega
end Cz

set_option Elab.async false
set_option linter.all false
set_option maxRecDepth 100000
set_option maxHeartbeats 4000000
/-! isinstance of the caught exception; calls with keywords; written tuples. -/
namespace Cz
open PySem PySem.Spec PyProof.Rows L2 NdefX Evl
def rIsX (tb : Nat → Option Bool) (c' : Nat) (a : Addr) (d : Option Addr) (u : V) : List V → Hp → VK → Prop := fun xs H Q => ∃ b, xs = [.ref a, u] ∧ (d = none ∨ ∃ dd fs, d = some dd ∧ H dd = some (.xd fs)) ∧ tb c' = some b ∧ Q (.bl b) H
section
variable {K : PySem.W.Frag} {T : Nat → Addr}
theorem call_isX {X : Cx} {tb : Nat → Option Bool} {c' : Nat} {a : Addr} {oe : Obj} {d : Option Addr} {u : V} {cv : Value} {pn : List (Addr × Obj)} (hK : X.K = K) (hu : ∀ z, L2.RelV u z → z = cv) (htb : ∀ c b, tb c = some b → PySem.W.kitOne K (.ref (T c)) cv = some b)
    (hec : ∀ c b, tb c = some b → ExcC K (T c)) (hz : L2N.Zn (.ref (T c')) d oe) (hf : ∃ vs, oe.data = .fields vs) : CallR (X.suite a ((a, oe) :: pn)) (.builtin "isinstance") (rIsX tb c' a d u) := by
  subst hK
  intro pins s σ H xs us Q I r h
  obtain ⟨b, rfl, hd, hb, q⟩ := h
  have C := hec c' b hb
  cases r with
  | cons rx rr =>
    cases rr with
    | cons rt rr =>
      cases rr
      cases rx
      have ec := hu _ rt
      subst ec
      obtain ⟨hget, _⟩ := I.pin (a, oe) (List.mem_append.mpr (.inl List.mem_cons_self))
      obtain ⟨vs, hv⟩ := hf
      have nc : PySem.W.notCls oe = true := by unfold PySem.W.notCls; rw [hv] <;> rfl
      have J : ∃ od, PySem.W.InstAt s.heap a oe (T c') od := by
        rcases hd with rfl | ⟨dd, fs, rfl, hx⟩
        · exact ⟨none, hget, hz.1, nc, by rw [hz.2.1]; trivial⟩
        · have ho : ObjOk X.prog X.w H s.heap dd (.xd fs) := I.hok dd _ hx
          obtain ⟨mA, hns, hr⟩ := ho
          obtain ⟨od, ho, hl⟩ := lookIn_ns hns
          exact ⟨some od, hget, hz.1, nc, by rw [hz.2.1]; exact ho⟩
      obtain ⟨od, J⟩ := J
      have hcl : (PySem.W.clsIn X.K (T c')).isSome = true := by
        obtain ⟨cd, hc, _⟩ := PySem.W.any_some C.hd
        rw [hc]
        rfl
      exact PySem.W.kia_one (PySem.W.kitx_exc hcl C.hg C.hk C.hs C.ha C.hn C.ht C.hm) I.kIn J (htb c' b hb) (fun z => nomatch z) fun tk => ⟨.bl b, H, I.kept (t' := tk) fun _ _ z => z, rfl, q⟩
/-- isinstance(e, ..), e the caught exception -/
def CE.isX (a : Addr) (d : Option Addr) (c' i : Nat) (tb : Nat → Option Bool) (u : V) : CE K T := ⟨fun _ => tCB (rIsX tb c' a d u) (tCons (tVar i) (tCons (tC u) tNil)), fun Γ => match Γ[i]? with
    | some (.ex a' d' c2 fs) => if a' = a ∧ d' = d ∧ c2 = c' then (match tb c' with | some b => .ok (.bl b) | none => .bad) else .bad
    | _ => .bad, fun W fx G0 H0 G H σ Γ s => by
  split
  · next a' d' c2 fs hg =>
    split
    · next hh =>
      obtain ⟨rfl, rfl, rfl⟩ := hh
      split
      · next b hb =>
        obtain ⟨e1, r⟩ := s.getX hg
        refine Hd.ret s.gh (.bl b) fun Q q => ⟨.ref a', e1, b, rfl, ?_, hb, q⟩
        rcases r.2 with ⟨_, e⟩ | ⟨dx, fvs, ed, eg, _⟩
        · exact .inl e
        · exact .inr ⟨dx, fvs, ed, s.gh _ _ eg⟩
      · trivial
    · trivial
  · trivial⟩
@[simp] theorem ev_CE_isX (a : Addr) (d : Option Addr) (c' i : Nat) (tb : Nat → Option Bool) (u : V) (Γ : Gam) : (CE.isX a d c' i tb u : CE K T).ev Γ = match Γ[i]? with
    | some (.ex a' d' c2 fs) => if a' = a ∧ d' = d ∧ c2 = c' then (match tb c' with | some b => .ok (.bl b) | none => .bad) else .bad
    | _ => .bad := rfl
theorem d_isX {X : Cx} {W : WX} {tb : Nat → Option Bool} {c' i : Nat} {a : Addr} {oe : Obj} {d : Option Addr} {u : V} {cv : Value} {pn : List (Addr × Obj)} {n x : Str} {p p1 p2 pos : Pos} (hK : X.K = K) (hu : ∀ z, L2.RelV u z → z = cv) (htb : ∀ c b, tb c = some b → PySem.W.kitOne K (.ref (T c)) cv = some b)
    (hec : ∀ c b, tb c = some b → ExcC K (T c)) (hz : L2N.Zn (.ref (T c')) d oe) (hf : ∃ vs, oe.data = .fields vs) (hi : X.mg "isinstance" = none) (hx : PE (X.suite a ((a, oe) :: pn)) (.Name x p2) (tC u))
    (hN : X.N[i]? = some n := by rfl) (hv : Vis X.env.scope n := by first | exact Or.inl rfl | exact Or.inr (Or.inl rfl) | exact Or.inr (Or.inr rfl)) (hd : (n == ("__debug__" : Str)) = false := by decide) (hcd : (n == ("__classdict__" : Str)) = false := by decide)
    (hg : Gl X "isinstance" := by rfl) (hs1 : starEach [.Name n p1, .Name x p2] (X.suite a ((a, oe) :: pn)).env = (false, eval (.Name n p1) (X.suite a ((a, oe) :: pn)).env) :: starEach [.Name x p2] (X.suite a ((a, oe) :: pn)).env := by rfl)
    (hs2 : starEach [.Name x p2] (X.suite a ((a, oe) :: pn)).env = (false, eval (.Name x p2) (X.suite a ((a, oe) :: pn)).env) :: starEach [] (X.suite a ((a, oe) :: pn)).env := by rfl)
    (hpl : (backTo pos (starEach [.Name x p2] (X.suite a ((a, oe) :: pn)).env)).any (·.1) = false := by rfl) :
    PE (X.suite a ((a, oe) :: pn)) (.Call (.Name "isinstance" p) [.Name n p1, .Name x p2] [] pos) ((CE.isX (K := K) (T := T) a d c' i tb u).te W) :=
  pe_callB (X := X.suite a ((a, oe) :: pn)) (call_isX (T := T) hK hu htb hec hz hf) hg hi (by decide +kernel) (pa_cons (pe_var (X := X.suite a ((a, oe) :: pn)) hN hv hd hcd) (pa_cons hx pa_nil hs2) hs1) (by decide) (by decide) hs1 hpl
end
/-! ### keywords -/
def kbG {α : Type} (n m : Nat) (us ws : List α) : List α := if us.length = n ∧ ws.length = m then us ++ ws else []
theorem kbG_rel {n m : Nat} {vs : List V} {us : List Value} {zs : List V} {ws : List Value} (r : Vals vs us) (q : Vals zs ws) : Vals (kbG n m vs zs) (kbG n m us ws) := by
  unfold kbG
  rw [Paired.length r, Paired.length q]
  split
  · exact r.append q
  · exact .nil
/-- a def with keyword-only parameters, called with them -/
structure CalK (P : Program) (w : World) (K : PySem.W.Frag) (mg : Str → Option Value) (base : Heap) (x : Str) (n m : Nat) (ks : List Str) (k : Nat) (sp : Sp) : Prop where
  ex : ∃ a fd ps, mg x = some (.ref a) ∧ PySem.W.keepIn K (.ref a) = true ∧ KBinds K fd ps ks (kbG n m) (kbG n m) ∧ FnOk P w K mg base (L2N.CX P w) k a fd ps sp
def tCallKw (sp : Sp) (gV : List V → List V → List V) (E : L2.St → XK) (t tk : TA) : TE := fun σ H Q => t σ H fun vs H1 => tk σ H1 fun zs H2 => sp (gV vs zs) H2 Q (E σ)
section
variable {K : PySem.W.Frag} {T : Nat → Addr} {X : Cx} {W : WX} {x : Str} {k n m : Nat} {ks : List Str} {sp : Sp} {e : Expr} {es : List Expr} {kws : List Keyword} {t tk : TA} {p pos : Pos}
theorem pe_calKS (C : CalK X.prog X.w X.K X.mg X.base x n m ks k sp) (tw : L2N.Takes X W) (hr : Room k X.A) (ha : PA X (e :: es) t) (hkw : PK X kws tk) (hg : Gl X x)
    (hall : (backToKw pos (keywordEach kws X.env)).all (·.1.isSome) = true) (hks : (backToKw pos (keywordEach kws X.env)).filterMap (·.1) = ks)
    (hdb : (x == ("__debug__" : Str)) = false) (he : starEach (e :: es) X.env = (false, eval e X.env) :: starEach es X.env)
    (hpl : ((backTo pos (starEach (e :: es) X.env)).any (·.1) || (backToKw pos (keywordEach kws X.env)).any (·.1.isNone)) = false) :
    PE X (.Call (.Name x p) (e :: es) kws pos) (tCallKw sp (kbG n m) (WE W) t tk) := by
  obtain ⟨a, fd, ps, hm, hk, hb, F1⟩ := C.ex
  refine ⟨fun pins s σ H Q I h => wpAny_Call_Name_kw (ld_glob I hg hm (PySem.W.callWith_KW (h₀ := X.base) I.ok.mod.kin hk hall (thn (ha.run pos pins s σ H _ I h) fun us s1 ⟨vs, H1, I1, r, q⟩ => thn (hkw.run pos pins s1 σ H1 _ I1 q) fun ws s2 ⟨zs, H2, I2, rz, q2⟩ => ⟨I2.kIn, ?_⟩) hpl he) hdb)⟩
  rw [hks]
  have r2 := kbG_rel (n := n) (m := m) r rz
  have hl : (kbG n m us ws).length = ps.length := (Paired.length r2).symm.trans (F1.len _ _ _ _ q2)
  refine wpAny_call (codeAny_mono (F1.run X.A X.stack s2 H2 ⟨us, ks.zip ws⟩ (kbG n m us ws) (kbG n m vs zs) Q (WE W σ) hr I2.env0 (hb.to s2 us ws I2.kIn hl) r2 q2) fun fr s' hq => ?_)
  match fr, hq with
  | .error ev, hq => exact L2N.passAt tw σ pins H2 s2 ev s' I2 hq
  | .ok (.ret u), hq => exact I2.after hq
def CE.fnK (n m : Nat) (F : List Dat → Rs Dat) (a b : CA K T) : CE K T := ⟨fun W => tCallKw (spF K T (n + m) F) (kbG n m) (WE W) (a.te W) (b.te W), fun Γ => (a.ev Γ).bind fun ds => (b.ev Γ).bind fun es => if ds.length = n ∧ es.length = m then F (ds ++ es) else .bad, fun W fx G0 H0 G H σ Γ s =>
  (a.ok W fx G0 H0 G H σ Γ s).bind (k := fun v H1 Q => b.te W σ H1 fun zs H2 => spF K T (n + m) F (kbG n m v zs) H2 Q (WE W σ)) fun v d G1 H1 w1 r1 _ => (b.ok W fx G0 H0 G1 H1 σ Γ (s.grow w1)).bind (k := fun zs H2 Q => spF K T (n + m) F (kbG n m v zs) H2 Q (WE W σ)) fun z f G2 H2 w2 r2 _ => by
    split
    · next hl =>
      have e1 : v.length = n := r1.length.trans hl.1
      have e2 : z.length = m := r2.length.trans hl.2
      have ek : kbG n m v z = v ++ z := by unfold kbG; rw [if_pos ⟨e1, e2⟩]
      have hv : (v ++ z).length = n + m := by rw [List.length_append, e1, e2]
      have rr : RepL K T G2 (v ++ z) (d ++ f) := (r1.mono w2.g).append r2
      rw [ek]
      show Hd K T W G2 H2 σ (Rep K T) (F (d ++ f)) fun Q => spF K T (n + m) F (v ++ z) H2 Q (WE W σ)
      cases hF : F (d ++ f) with
      | bad => trivial
      | ok x => exact fun Q q => ⟨hv, G2, _, w2.gh, rr, _, hF, fun v' G' H' w r => q v' G' H' w r⟩
      | exn c fs => exact fun w Q => ⟨hv, G2, _, w2.gh, rr, _, hF, fun cls d' G' H' w' r => w cls d' G' H' w' r⟩
    · trivial⟩
@[simp] theorem ev_CE_fnK (n m : Nat) (F : List Dat → Rs Dat) (a b : CA K T) (Γ : Gam) : (CE.fnK n m F a b).ev Γ = (a.ev Γ).bind fun ds => (b.ev Γ).bind fun es => if ds.length = n ∧ es.length = m then F (ds ++ es) else .bad := rfl
theorem d_calK {F : List Dat → Rs Dat} {ca cb : CA K T} (C : CalK X.prog X.w X.K X.mg X.base x n m ks k (spF K T (n + m) F)) (tw : L2N.Takes X W) (hr : Room k X.A) (ha : PA X (e :: es) (ca.te W)) (hkw : PK X kws (cb.te W)) (hg : Gl X x := by rfl)
    (hall : (backToKw pos (keywordEach kws X.env)).all (·.1.isSome) = true := by rfl) (hks : (backToKw pos (keywordEach kws X.env)).filterMap (·.1) = ks := by rfl)
    (hdb : (x == ("__debug__" : Str)) = false := by decide) (he : starEach (e :: es) X.env = (false, eval e X.env) :: starEach es X.env := by rfl)
    (hpl : ((backTo pos (starEach (e :: es) X.env)).any (·.1) || (backToKw pos (keywordEach kws X.env)).any (·.1.isNone)) = false := by rfl) :
    PE X (.Call (.Name x p) (e :: es) kws pos) ((CE.fnK n m F ca cb).te W) := pe_calKS C tw hr ha hkw hg hall hks hdb he hpl
theorem d_knil : PK X [] ((CA.nil : CA K T).te W) := pk_nil
theorem d_kcons {nm : Option Str} {kpos : Pos} {ce : CE K T} {ca : CA K T} (ha : PE X e (ce.te W)) (hr : PK X kws (ca.te W)) : PK X (⟨nm, e, kpos⟩ :: kws) ((CA.cons ce ca).te W) := pk_cons ha hr
/-- a written tuple of texts -/
theorem rep_txts {a : Addr} {dd : Option Addr} {its : Array Value} {nn : Nat} {sl : Array (Option Value)} {l : List Str} {vs : List Value} (h : K.lookup a = some ⟨.type "tuple", dd, .seq its nn, sl⟩) (hi : its.toList = vs) (hv : Vals (l.map V.str) vs) (hl : l.length ≤ 1000) (G : Hp) : Rep K T G (.ref a) (.tup (l.map Dat.str)) := by
  refine .tup (vs := l.map V.str) (.inr ⟨_, its, nn, h, rfl, rfl, ?_, by rw [hi]; exact hv⟩) ?_
  · rw [← Array.length_toList, hi, ← Paired.length hv, List.length_map, sizeLine_eq]
    omega
  · clear hi hv hl
    induction l with
    | nil => exact .nil
    | cons z r ih => exact .cons (.str z) ih
end
end Cz
namespace Cz
open PySem
theorem kit_ref {K : PySem.W.Frag} {t : Value} {C : Addr} {b : Bool} (hd : PySem.W.hasDictIn K C = true) (ty : PySem.W.typeIn K (.ref C) = some (.type "type")) (ss : PySem.W.subIn K (.ref C) (.ref C) = some true) (hs : PySem.W.subIn K t (.ref C) = some b) : PySem.W.kitOne K t (.ref C) = some b := by
  unfold PySem.W.kitOne
  split
  · next h =>
    have e : t = .ref C := by simpa using h
    rw [e] at hs
    exact ss.symm.trans hs
  · obtain ⟨cd, hc, _⟩ := PySem.W.any_some hd
    unfold PySem.W.kitCls
    simp [hc, ty, hs]
theorem kit_VE {K : PySem.W.Frag} {D : Addr} {b : Bool} (hs : PySem.W.subIn K (.ref D) (.type "ValueError") = some b) : PySem.W.kitOne K (.ref D) (.type "ValueError") = some b := by
  unfold PySem.W.kitOne PySem.W.kitCls
  have h1 : (Value.ref D == Value.type "ValueError") = false := rfl
  have h2 : PySem.W.kitMeta "ValueError" = true := by decide +kernel
  simp [h1, h2, hs]
end Cz
namespace Cz
open PySem L2
def SRes.andThen (r : SRes) (f : Gam → SRes) : SRes := match r with
  | .nx Γ => f Γ
  | r => r
section
variable {K : PySem.W.Frag} {T : Nat → Addr}
theorem ev_CS_seqT (a b : CS K T) (Γ : Gam) : (CS.seq a b).ev Γ = (a.ev Γ).andThen b.ev := by
  rw [ev_CS_seq]
  cases a.ev Γ <;> rfl
end
@[simp] theorem andThen_nx (Γ : Gam) (f : Gam → SRes) : (SRes.nx Γ).andThen f = f Γ := rfl
@[simp] theorem andThen_rt (d : Dat) (f : Gam → SRes) : (SRes.rt d).andThen f = .rt d := rfl
@[simp] theorem andThen_bad (f : Gam → SRes) : SRes.bad.andThen f = .bad := rfl
@[simp] theorem andThen_ite (p : Prop) [Decidable p] (a b : SRes) (f : Gam → SRes) : (if p then a else b).andThen f = if p then a.andThen f else b.andThen f := by split <;> rfl
@[simp] theorem andThen_st {α : Type} (r : Rs α) (Γ : Gam) (g : α → SRes) (f : Gam → SRes) : (r.st Γ g).andThen f = r.st Γ fun x => (g x).andThen f := by cases r <;> rfl
end Cz

set_option Elab.async false
set_option linter.all false
set_option maxRecDepth 100000
set_option maxHeartbeats 4000000
/-! try with several named clauses. -/
namespace Cz
open PySem PySem.Spec PyProof.Rows L2 NdefX Evl
/-- the clauses' readings: class, slot, suite -/
abbrev Cl := Value × Nat × (Addr → Value → Option Addr → TS)
def wAsM (K : PySem.W.Frag) (Wout : WX) (D : Ends) : List Cl → WX
  | [] => Wout
  | (c, i, ts) :: r => wAs K c i ts (wAsM K Wout D r) D
inductive HdsAs (X : Cx) : List ExceptHandler → List Cl → Prop
  | nil : HdsAs X [] []
  | cons {x n : Str} {c : Value} {i : Nat} {ts : Addr → Value → Option Addr → TS} {b₀ : Stmt} {suite : List Stmt} {np pos' : Pos} {hds : List ExceptHandler} {l : List Cl} (hi : X.N[i]? = some n) (hln : X.env.kindOf n = some .local) (hc : Names X x c)
      (hsu : ∀ (a : Addr) (oe : Obj) (cls : Value) (d : Option Addr) (pn : List (Addr × Obj)), L2N.Zn cls d oe → (∃ vs, oe.data = .fields vs) → PSs (X.suite a ((a, oe) :: pn)) (b₀ :: suite) (ts a cls d)) (r : HdsAs X hds l) :
      HdsAs X (.ExceptHandler (some (.Name x np)) (some n) (b₀ :: suite) pos' :: hds) ((c, i, ts) :: l)
/-- how an exception that was caught stands: fl its way so far -/
structure Caught (X : Cx) (pins : List (Addr × Obj)) (σ : L2.St) (H : Hp) (a : Addr) (cls : Value) (d : Option Addr) (s0 : Shared) (h3 : Heap) : Prop where
  ok : X.Ok
  fin : ∃ (B : Heap) (sI : Shared), L2.Inv X pins σ H sI ∧ (∀ b o, sI.heap.get? b = some o → b ∉ frs X.stack → B.get? b = some o) ∧ sI.heap.UpToSlots h3 ∧ HandSPX.FlyingZ B (X.env :: X.outer) a (L2N.Zn cls d) h3 ∧ H a = none ∧ s0.os = sI.os ∧ AllBare s0.gens
section
variable {X : Cx} {pins : List (Addr × Obj)} {σ : L2.St} {H : Hp} {a : Addr} {cls : Value} {d : Option Addr} {s0 : Shared} {h3 : Heap} {D : Ends} {Wout : WX} {hds : List ExceptHandler} {l : List Cl}
theorem Caught.stands (c : Caught X pins σ H a cls d s0 h3) : ∃ (oe : Obj) (vs : Array Value), h3.get? a = some oe ∧ L2N.Zn cls d oe ∧ oe.data = .fields vs ∧ a ∉ frs (X.env :: X.outer) := by
  obtain ⟨B, sI, J, nb, up, fl, na, os, ag⟩ := c.fin
  obtain ⟨oe, vs, he, hz, hd⟩ := fl.there
  refine ⟨oe, vs, he, hz, hd, fun hm => ?_⟩
  obtain ⟨_, o', e', hnf⟩ := fl.2.2.1.mem hm
  rw [he] at e'
  cases e'
  exact hnf _ hd
/-- the clauses are asked one behind the other -/
theorem clauses (hs : X.stack = X.env :: X.outer) (hf : X.env.frame = some X.env.locals) (hN : X.N.Nodup) (tk : L2N.Takes X Wout) (hh : HdsAs X hds l) :
    ∀ {a : Addr} {cls : Value} {d : Option Addr} {σ : L2.St} {H : Hp} {s0 : Shared} {h3 : Heap}, Caught X pins σ H a cls d s0 h3 → wAsM X.K Wout D l cls d σ H → wpAny (model X.prog X.w) X.A (handleBy (.ref a) X.env hds) (SP X pins D) X.xe { s0 with heap := h3 } := by
  induction hh with
  | nil =>
    intro a cls d σ H s0 h3 ct w
    obtain ⟨B, sI, J, nb, up, fl, na, os, ag⟩ := ct.fin
    obtain ⟨_, _, _, oe, vs, T, _, _, he, _, hd, h1, _⟩ := id fl
    refine wpAny_handleBy_nil ?_
    unfold PySem.passOn
    refine wpAny_bind (wpAny_field he hd h1 ?_)
    rw [if_neg (show ¬ ((Value.ref T == Value.none) = true) from by simp)]
    have out : wpAny (model X.prog X.w) X.A (setFlight (.ref a) X.env.frame) (fun _ s4 => wpAny (model X.prog X.w) X.A (throw (.ref a) : Sem Flow) (SP X pins D) X.xe s4) X.xe { s0 with heap := h3 } := by
      rw [hf]
      exact HandSPX.setFlight_upZ fl fun h4 hh4 up4 => wpAny_throw (tk _ _ ⟨a, B, sI, pins, σ, H, cls, d, rfl, J, nb, up.trans up4, .inr (.inr (by rw [hs]; exact hh4)), na, os, ag, w⟩)
    first
      | exact wpAny_bind (wpAny_pure (wpAny_bind out))
      | exact wpAny_bind out
  | @cons x n c i ts b₀ suite np pos' hds2 l2 hi hln hc hsu r ih =>
    intro a cls d σ H s0 h3 ct w
    obtain ⟨oe, vs, he, hz, hd, nfr⟩ := ct.stands
    obtain ⟨B, sI, J, nb, up, fl, na, os, ag⟩ := ct.fin
    obtain ⟨b, hb1, hyes, hno⟩ := w
    have J3 : L2.Inv X pins σ H { s0 with heap := h3 } := J.landed nb fl.1 up os ag
    have nL : a ≠ X.env.locals := fun z => nfr (List.mem_filterMap.mpr ⟨X.env, List.mem_cons_self, by rw [hf, z]⟩)
    have nF : a ∉ X.fs := fun hm => by
      obtain ⟨e, h1, q⟩ := List.mem_filterMap.mp hm
      exact nfr (List.mem_filterMap.mpr ⟨e, List.mem_cons_of_mem _ h1, q⟩)
    have S3 := J3.suite he hd na nL nF
    refine wpAny_handleBy_cons (codeAny_handlers_test ?_) (by intro q; cases q)
    have LT : PySem.W.Looks (model X.prog X.w) h3 (typeOf (.ref a)) cls := fun A Q E s k q => wpAny_typeOf_ref (k _ _ he) (by rw [hz.1]; exact q)
    have asked : ∀ {Q : Value → Shared → Prop} {E : Value → Shared → Prop}, Q c { s0 with heap := h3 } → wpAny (model X.prog X.w) (X.A.mark (some (.ref a))) (eval (.Name x np) X.env) Q E { s0 with heap := h3 } := fun {Q E} q => by
      obtain ⟨hg, hdbg, hm | ⟨hm, hv, hnn⟩⟩ := hc
      · exact ld_glob (X := X.suite a ((a, oe) :: (X.pn ++ pins))) S3 hg hm q hdbg
      · exact ld_blt (X := X.suite a ((a, oe) :: (X.pn ++ pins))) S3 hg hm hv q hnn hdbg
    refine asked ((PySem.W.exm_one (M := model X.prog X.w) J3.kIn LT hb1).here ?_)
    cases b with
    | false => exact ih ct (hno rfl)
    | true =>
      refine codeAny_handlers_suite_as (HandSPX.lands_againZ fl fun h4 fl4 up4 => ?_)
      have J4 : L2.Inv X pins σ H { s0 with heap := h4 } := J.landed nb fl4.1 (up.trans up4) os ag
      obtain ⟨oe4, vs4, he4, hz4, hd4⟩ := fl4.there
      refine store_ok (X := X.suite a ((a, oe4) :: (X.pn ++ pins))) (v := .ref a) (J4.suite he4 hd4 na nL nF) hN hi (.inl hln) rfl (fun s5 S5 => ?_) (.inr hln)
      refine wpAny_mono ((hsu a oe4 cls d (X.pn ++ pins) hz4 ⟨_, hd4⟩).run [] s5 _ H _ S5 (hyes rfl a na)) (fun f s6 hsp => ?_) (fun _ _ z => False.elim z)
      have leave : ∀ {σ6 : L2.St} {H6 : Hp} {Q : Shared → Prop}, L2.Inv (X.suite a ((a, oe4) :: (X.pn ++ pins))) [] σ6 H6 s6 → (∀ s7, L2.Inv X pins (σ6.set i none) H6 s7 → Q s7) →
          wpAny (model X.prog X.w) X.A (do bindName X.env n .none; unbindBehindTheSuite X.env n pos') (fun _ s7 => Q s7) X.xe s6 := fun {σ6 H6 Q} S6 hq => gone_ok (S6.unsuite ct.ok) hN hi hln hq
      match f, hsp with
      | .next, ⟨σ6, H6, S6, q6⟩ => exact leave S6 fun s7 J7 => ⟨_, _, J7, q6⟩
      | .brk, ⟨σ6, H6, S6, q6⟩ => exact leave S6 fun s7 J7 => ⟨_, _, J7, q6⟩
      | .cont, ⟨σ6, H6, S6, q6⟩ => exact leave S6 fun s7 J7 => ⟨_, _, J7, q6⟩
      | .ret u, ⟨v6, σ6, H6, S6, r6, q6⟩ => exact leave S6 fun s7 J7 => ⟨_, _, _, J7, r6, q6⟩
/-- try: body / except A as a: .. / except B as b: .. -/
theorem ps_try_asM {body : List Stmt} {h₀ : ExceptHandler} {pos : Pos} {tb : WX → TS} (hs : X.stack = X.env :: X.outer) (hf : X.env.frame = some X.env.locals) (hN : X.N.Nodup) (tk : L2N.Takes X Wout)
    (hb : ∀ (W : WX) (pn : List (Addr × Obj)) (xe : Value → Shared → Prop), L2N.Takes (X.tr pn xe) W → PassesOwn (model X.prog X.w) X.A X.env xe → PSs (X.tr pn xe) body (tb W)) (hh : HdsAs X (h₀ :: hds) l) :
    PS X (.Try body (h₀ :: hds) [] [] pos) (fun D σ H => tb (wAsM X.K Wout D l) D σ H) := by
  refine ⟨fun pins s σ H D I h => wpAny_Try_except ?_⟩
  have ok := I.ok
  refine wpAny_mono ((hb (wAsM X.K Wout D l) (X.pn ++ pins) (fun e s₁ => wpAny (model X.prog X.w) X.A (noteFrame e X.env) (fun _ s₂ => wpAny (model X.prog X.w) X.A (setFlight e none) (fun _ s₃ =>
    wpAny (model X.prog X.w) X.A (handleBy e X.env (h₀ :: hds)) (SP X pins D) X.xe s₃) X.xe s₂) X.xe s₁) (fun u s' xx => ?_) PassesOwn.looking).run [] s σ H D (I.toTry _) h) (fun f s1 hsp => ?_) fun e s1 he => he
  · obtain ⟨a, B, sI, pins', σ', H', cls, d, rfl, J', nb, up, sky, na, os, ag, w⟩ := xx
    have sky' : Sky B (X.env :: X.outer) a (L2N.Zn cls d) X.env.locals s'.heap := by rw [← hs]; exact sky
    exact L2N.Sky.land L2N.Zn.steady (ok.frames.trans (congrArg some hs)) hf sky' fun h3 fl3 up3 => clauses hs hf hN tk hh ⟨ok, B, sI, J'.ofTry ok, nb, up.trans up3, fl3, na, os, ag⟩ w
  · match f, hsp with
    | .next, ⟨σ', H', J', q⟩ => exact wpAny_execs_nil ⟨σ', H', J'.ofTry ok, q⟩
    | .brk, ⟨σ', H', J', q⟩ => exact ⟨σ', H', J'.ofTry ok, q⟩
    | .cont, ⟨σ', H', J', q⟩ => exact ⟨σ', H', J'.ofTry ok, q⟩
    | .ret u, ⟨v, σ', H', J', r, q⟩ => exact ⟨v, σ', H', J'.ofTry ok, r, q⟩
end

/-- a certified clause -/
structure CH (K : PySem.W.Frag) (T : Nat → Addr) where
  c : Nat
  i : Nat
  sb : Nat → Option Bool
  hsb : ∀ c' b, sb c' = some b → PySem.W.exmOne K (.ref (T c')) (.ref (T c)) = some b
  su : Addr → Option Addr → Nat → CS K T
  sev : Nat → List (Str × Dat) → Gam → SRes
  hsev : ∀ a d c' fs Γ, wrapX i ((su a d c').ev (Γ.set i (.ex a d c' fs))) = sev c' fs Γ
section
variable {K : PySem.W.Frag} {T : Nat → Addr}
def CH.cl (h : CH K T) : Cl := (.ref (T h.c), h.i, fun a cls d D σ H => ∃ c', cls = .ref (T c') ∧ (h.su a d c').ts WN D σ H)
def goH (Γ : Gam) (c' : Nat) (fs : List (Str × Dat)) : List (CH K T) → SRes
  | [] => .exn Γ c' fs
  | h :: r => match h.sb c' with
    | some true => h.sev c' fs Γ
    | some false => goH Γ c' fs r
    | none => .bad
theorem goH_ok {W : WX} {D : Ends} {G0 H0 G : Hp} {Γ' : Gam} {c' : Nat} {fs : List (Str × Dat)} : ∀ (hs : List (CH K T)) {t : Prop},
    ((∀ cls d G' H' σ', Ex G G' → SG K T [] G0 H0 G' H' σ' Γ' → RepX K T G' cls d c' fs → wAsM K W D (hs.map CH.cl) cls d σ' H') → t) → SHd K T W D G0 H0 G (goH Γ' c' fs hs) t
  | [], t, h => h
  | x :: r, t, h => by
    show SHd K T W D G0 H0 G (match x.sb c' with | some true => x.sev c' fs Γ' | some false => goH Γ' c' fs r | none => .bad) t
    cases hs : x.sb c' with
    | none => trivial
    | some b =>
      cases b with
      | false => exact goH_ok r fun q => h fun cls d G' H' σ' ex sg rx => ⟨false, by rw [rx.1]; exact x.hsb c' false hs, (fun z => nomatch z), fun _ => q cls d G' H' σ' ex sg rx⟩
      | true =>
        exact SHd.all (p := fun j : { y : Value × Option Addr × Hp × Hp × L2.St × Addr // Ex G y.2.2.1 ∧ SG K T [] G0 H0 y.2.2.1 y.2.2.2.1 y.2.2.2.2.1 Γ' ∧ RepX K T y.2.2.1 y.1 y.2.1 c' fs } =>
            ∃ c'', j.1.1 = .ref (T c'') ∧ (x.su j.1.2.2.2.2.2 j.1.2.1 c'').ts WN (endX x.i D) (j.1.2.2.2.2.1.set x.i (some (.ref j.1.2.2.2.2.2))) j.1.2.2.2.1)
          (fun ⟨(cls, d, G', H', σ', a), ex, sg, rx⟩ => by
            have o2 := SHd.wrap (W := W) ((x.su a d c').ok WN (endX x.i D) G0 H0 G' H' (σ'.set x.i (some (.ref a))) (Γ'.set x.i (.ex a d c' fs)) (sg.setX ⟨rfl, rx.2⟩))
            rw [x.hsev] at o2
            exact (o2.imp fun t => ⟨c', rx.1, t⟩).back ex)
          fun all => h fun cls d G' H' σ' ex sg rx => ⟨true, by rw [rx.1]; exact x.hsb c' true hs, fun _ a _ => all ⟨(cls, d, G', H', σ', a), ex, sg, rx⟩, fun z => nomatch z⟩
/-- try with several named clauses -/
def CS.tryM (hs : List (CH K T)) (body : CS K T) : CS K T := ⟨fun W D σ H => body.ts (wAsM K W D (hs.map CH.cl)) D σ H, fun Γ => match body.ev Γ with
    | .exn Γ' c' fs => goH Γ' c' fs hs
    | r => r, fun W D G0 H0 G H σ Γ s => by
  have h := body.ok (wAsM K W D (hs.map CH.cl)) D G0 H0 G H σ Γ s
  show SHd K T W D G0 H0 G _ (body.ts (wAsM K W D (hs.map CH.cl)) D σ H)
  cases e : body.ev Γ with
  | exn Γ' c' fs => rw [e] at h; exact goH_ok hs h
  | nx Γ' => rw [e] at h; exact h
  | rt d => rw [e] at h; exact h
  | bk Γ' => rw [e] at h; exact h
  | ct Γ' => rw [e] at h; exact h
  | bad => trivial⟩
@[simp] theorem ev_CS_tryM (hs : List (CH K T)) (body : CS K T) (Γ : Gam) : (CS.tryM hs body).ev Γ = match body.ev Γ with
    | .exn Γ' c' fs => goH Γ' c' fs hs
    | r => r := rfl
@[simp] theorem goH_nil (Γ : Gam) (c' : Nat) (fs : List (Str × Dat)) : goH Γ c' fs ([] : List (CH K T)) = .exn Γ c' fs := rfl
@[simp] theorem goH_cons (Γ : Gam) (c' : Nat) (fs : List (Str × Dat)) (h : CH K T) (r : List (CH K T)) : goH Γ c' fs (h :: r) = match h.sb c' with
    | some true => h.sev c' fs Γ
    | some false => goH Γ c' fs r
    | none => .bad := rfl
def HdsC (X : Cx) (hds : List ExceptHandler) (hs : List (CH K T)) : Prop := HdsAs X hds (hs.map CH.cl)
theorem d_hnil {X : Cx} : HdsC X [] ([] : List (CH K T)) := .nil
theorem d_hcons {X : Cx} {x n : Str} {h : CH K T} {hs : List (CH K T)} {b₀ : Stmt} {suite : List Stmt} {np pos' : Pos} {hds : List ExceptHandler} (hm : X.mg x = some (.ref (T h.c)))
    (hsu : ∀ (a : Addr) (oe : Obj) (d : Option Addr) (c' : Nat) (pn : List (Addr × Obj)), L2N.Zn (.ref (T c')) d oe → (∃ vs, oe.data = .fields vs) → PSs (X.suite a ((a, oe) :: pn)) (b₀ :: suite) ((h.su a d c').ts WN)) (r : HdsC X hds hs)
    (hi : X.N[h.i]? = some n := by rfl) (hln : X.env.kindOf n = some .local := by rfl) (hg : Gl X x := by rfl) (hd : (x == ("__debug__" : Str)) = false := by decide) :
    HdsC X (.ExceptHandler (some (.Name x np)) (some n) (b₀ :: suite) pos' :: hds) (h :: hs) :=
  .cons hi hln ⟨hg, hd, .inl hm⟩ (fun a oe cls d pn hz hfl => ⟨fun pins s σ H D I q => by
    obtain ⟨c', rfl, q⟩ := q
    exact (hsu a oe d c' pn hz hfl).run pins s σ H D I q⟩) r
theorem d_tryM {X : Cx} {W : WX} {cb : CS K T} {h : CH K T} {hs : List (CH K T)} {body : List Stmt} {h₀ : ExceptHandler} {hds : List ExceptHandler} {pos : Pos} (hK : X.K = K) (tk : L2N.Takes X W) (hN : X.N.Nodup)
    (hb : ∀ (W : WX) (pn : List (Addr × Obj)) (xe : Value → Shared → Prop), L2N.Takes (X.tr pn xe) W → PassesOwn (model X.prog X.w) X.A X.env xe → PSs (X.tr pn xe) body (cb.ts W)) (hh : HdsC X (h₀ :: hds) (h :: hs))
    (e1 : X.stack = X.env :: X.outer := by rfl) (e2 : X.env.frame = some X.env.locals := by rfl) : PS X (.Try body (h₀ :: hds) [] [] pos) ((CS.tryM (h :: hs) cb).ts W) := by
  subst hK
  exact ps_try_asM (tb := cb.ts) e1 e2 hN tk hb hh
end
end Cz

set_option Elab.async false
set_option linter.all false
set_option maxRecDepth 100000
set_option maxHeartbeats 4000000
/-! raise of an own exception without a field. -/
namespace Cz
open PySem PySem.Spec PyProof.Rows L2 NdefX Evl
/-- an own exception class without __init__, over own ones over ValueError -/
structure CalX0 (K : PySem.W.Frag) (mg : Str → Option Value) (x : Str) (C : Addr) : Prop where
  q : ∃ (bmB : List Value) (newId initId B : String), ExcBaseFacts B newId initId bmB ∧ PySem.W.excIn K C bmB newId = true
  g : mg x = some (.ref C)
  k : PySem.W.keepIn K (.ref C) = true
  e : PySem.W.subIn K (.ref C) (.type "BaseException") = some true
  t : PySem.W.typeIn K (.ref C) = some (.type "type")
theorem pmk_own0 {X : Cx} {x : Str} {C : Addr} {p pos : Pos} (c : CalX0 X.K X.mg x C) (hg : Gl X x) (hdb : (x == ("__debug__" : Str)) = false) : L2N.PMk X (.Call (.Name x p) [] [] pos) (fun _ H Q => Q (.ref C) none H) := by
  obtain ⟨⟨bmB, newId, initId, B, F1, hq⟩, g, k, e, t⟩ := c
  intro pins s σ H Q I h
  refine wpAny_Call_Name_kw (ld_glob I hg g (PySem.W.callWith_K0 I.kIn k ?_) hdb)
  obtain ⟨bm, N, nm, qn, bs, hdct, sn, sub, ab, col, dd, k0, k1, k2, k3, k5, mN, hC, hN, hni, tl⟩ := exc_obj I.kIn hq
  exact wpAny_call_exc_subT F1 tl hC hN hni (fun h' e' hm => L2N.mk_of I hm (raises_own e t) h (I.hok.gone hm.new)) (Nat.zero_le _)
section
variable {K : PySem.W.Frag} {T : Nat → Addr}
def CS.raise0 (c : Nat) : CS K T := ⟨fun W _ σ H => W (.ref (T c)) none σ H, fun Γ => .exn Γ c [], fun W D G0 H0 G H σ Γ s => fun q => q (.ref (T c)) none G H σ (Ex.refl G) s ⟨rfl, .inl ⟨rfl, rfl⟩⟩⟩
@[simp] theorem ev_CS_raise0 (c : Nat) (Γ : Gam) : (CS.raise0 c : CS K T).ev Γ = .exn Γ c [] := rfl
theorem d_raise0 {X : Cx} {W : WX} {x : Str} {c : Nat} {p pos pos2 : Pos} (C : CalX0 X.K X.mg x (T c)) (hc : X.calm = true) (tk : L2N.Takes X W) (hg : Gl X x := by rfl) (hdb : (x == ("__debug__" : Str)) = false := by decide) :
    PS X (.Raise (some (.Call (.Name x p) [] [] pos)) none pos2) ((CS.raise0 (K := K) (T := T) c).ts W) := L2N.ps_raise hc tk (pmk_own0 C hg hdb)
end
end Cz
namespace Cz
open PySem PySem.Spec PyProof.Rows L2 Evl
section
variable {K : PySem.W.Frag} {T : Nat → Addr}
/-- reversed(range(n)) -/
def revD (n : Nat) : List Dat := (List.range n).map fun (i : Nat) => .int ((n : Int) - 1 - (i : Int))
theorem revD_ok {G : Hp} (n : Nat) : ItOk K T G (Itc ((0 : Int) + (n : Int) - 1) (-1) n) (revD n) := fun G' H' e1 e2 => ⟨fun i d hd => by
    have hi : i < n := by simpa [revD] using (List.getElem?_eq_some_iff.mp hd).1
    refine ⟨hi, fun y H'' hy => ?_⟩
    obtain ⟨rfl, rfl⟩ := hy
    unfold revD at hd
    rw [List.getElem?_map, List.getElem?_range hi] at hd
    have e : (0 : Int) + (n : Int) - 1 + (i : Nat) * (-1) = (n : Int) - 1 - (i : Int) := by omega
    rw [e, ← Option.some.inj hd]
    exact ⟨G', Grow.refl e2, .int _⟩, fun i hi => by
      show n ≤ i
      simpa [revD] using hi⟩
def CI.rev1 (a : CE K T) : CI K T := ⟨fun W => iRevR (tRg1 (a.te W)), fun Γ => (a.ev Γ).bind fun d => match d with | .int n => if -(2 ^ 62) ≤ n ∧ n < 2 ^ 62 then .ok (revD n.toNat) else .bad | _ => .bad, fun W fx G0 H0 G H σ Γ s => by
  exact Hd.bind (R' := ItOk K T) (f := fun d => match d with | .int n => if -(2 ^ 62) ≤ n ∧ n < 2 ^ 62 then .ok (revD n.toNat) else .bad | _ => .bad) (a.ok W fx G0 H0 G H σ Γ s) (k := fun x H1 R => ∃ n : Int, x = .int n ∧ -(2 ^ 62) ≤ (0 : Int) ∧ (0 : Int) < 2 ^ 62 ∧ -(2 ^ 62) ≤ n ∧ n < 2 ^ 62 ∧ R (Itc ((0 : Int) + (((n - 0).toNat : Nat) : Int) - 1) (-1) (n - 0).toNat) H1) fun v d G1 H1 w1 r1 _ => by
    cases r1 with
    | int n =>
      dsimp only
      split
      · next hn =>
        have e : n.toNat = (n - 0).toNat := by rw [Int.sub_zero]
        rw [e]
        exact fun R q => ⟨n, rfl, by decide, by decide, hn.1, hn.2, q _ G1 H1 (Grow.refl w1.gh) (revD_ok (n - 0).toNat)⟩
      · trivial
    | _ => trivial⟩
@[simp] theorem ev_CI_rev1 (a : CE K T) (Γ : Gam) : (CI.rev1 a).ev Γ = (a.ev Γ).bind fun d => match d with | .int n => if -(2 ^ 62) ≤ n ∧ n < 2 ^ 62 then .ok (revD n.toNat) else .bad | _ => .bad := rfl
theorem d_rev1 {X : Cx} {W : WX} {tg a : Expr} {ca : CE K T} {p p1 pos pos1 : Pos} (hm : X.mg "reversed" = none) (hr : X.mg "range" = none) (ha : PE X a (ca.te W)) (hg : Gl X "reversed" := by rfl) (hg2 : Gl X "range" := by rfl)
    (hs1 : starEach [a] X.env = (false, eval a X.env) :: starEach [] X.env := by rfl) (hs2 : starEach [.Call (.Name "range" p1) [a] [] pos1] X.env = (false, eval (.Call (.Name "range" p1) [a] [] pos1) X.env) :: starEach [] X.env := by rfl) :
    PI X tg (.Call (.Name "reversed" p) [.Call (.Name "range" p1) [a] [] pos1] [] pos) ((CI.rev1 ca).te W) := pi_revR hg hm (prg_1 hg2 hr ha hs1) hs2
/-- x, y = a, b -/
def CS.par (i j : Nat) (a : CA K T) : CS K T := ⟨fun W => tPar i j (a.te W), fun Γ => (a.ev Γ).st Γ fun ds => match ds with | [x, y] => .nx ((Γ.set i (.d x)).set j (.d y)) | _ => .bad, fun W D G0 H0 G H σ Γ s =>
  Hd.st s (a.ok W [] G0 H0 G H σ Γ s) fun v d G1 H1 w r _ => by
    split
    · next x y =>
      cases r with
      | cons h1 r =>
        cases r with
        | cons h2 r =>
          cases r
          exact fun q => ⟨_, _, rfl, q G1 H1 _ (Ex.refl G1) (((s.grow w).setD h1).setD h2)⟩
    · trivial⟩
@[simp] theorem ev_CS_par (i j : Nat) (a : CA K T) (Γ : Gam) : (CS.par i j a).ev Γ = (a.ev Γ).st Γ fun ds => match ds with | [x, y] => .nx ((Γ.set i (.d x)).set j (.d y)) | _ => .bad := rfl
theorem d_par {X : Cx} {W : WX} {i j : Nat} {x y : Str} {a b : Expr} {ca : CA K T} {px py pt pos : Pos} {kt k2 pt2} (hc : X.calm = true) (hN : X.N.Nodup) (hij : i ≠ j) (ha : PA X [a, b] (ca.te W))
    (hw : swappedStores [.Tuple [.Name x px, .Name y py] kt pt] (.Tuple [a, b] k2 pt2) X.env = pure (some [x, y]))
    (hi : X.N[i]? = some x := by rfl) (hj : X.N[j]? = some y := by rfl) (hx : X.env.scope.names.lookup x = some .local := by rfl) (hy : X.env.scope.names.lookup y = some .local := by rfl)
    (hs : swapsWithSole [.Tuple [.Name x px, .Name y py] kt pt] (.Tuple [a, b] k2 pt2) pos.line X.env = pure false := by rfl) :
    PS X (.Assign [.Tuple [.Name x px, .Name y py] kt pt] (.Tuple [a, b] k2 pt2) pos) ((CS.par i j ca).ts W) := ps_par hc hN hi hj hij hx hy ha hw hs
end
end Cz

set_option Elab.async false
set_option linter.all false
set_option maxRecDepth 100000
set_option maxHeartbeats 4000000
/-! A def that is handed the caught exception, called in the suite. -/
namespace Cz
open PySem PySem.Spec PyProof.Rows L2 NdefX Evl
/-- its promise: F by the exception's class -/
structure FnE (P : Program) (w : World) (K : PySem.W.Frag) (T : Nat → Addr) (mg : Str → Option Value) (base : Heap) (k : Nat) (f : Addr) (fd : FuncData) (pn : Str) (F : Nat → Rs Dat) : Prop where
  run : ∀ (A : Around) (outer : List Env) (s : Shared) (H : Hp) (args : Args) (Q : VK) (p : Addr × Obj) (c' : Nat) (d : Option Addr), L2H.RoomH k A → L2H.Hot1 A p → L2H.PinOk outer H s p → L2N.Zn (.ref (T c')) d p.2 → Env0 P w K mg base A outer s H → BindsTo s fd args [(pn, .ref p.1)] →
    (∃ G fs r, Ex G H ∧ RepX K T G (.ref (T c')) d c' fs ∧ F c' = .ok r ∧ ∀ v G' H', Grow G H G' H' → Rep K T G' v r → Q v H') → codeAny (model P w) A (.call (.ref f) args) (CR (L2N.CX P w) outer P w H s Q fun _ _ _ => False) s
section
variable {K : PySem.W.Frag} {T : Nat → Addr}
theorem ok_fnE {P : Program} {w : World} {mg : Str → Option Value} {base : Heap} {x qual pn : Str} {st : Stmt} {f : Addr} {fd : FuncData} {N : List Str} {k : Nat} {F : Nat → Rs Dat} (Fn : Fun K x qual st f fd) (S : FnScope N [pn] (defScope st)) (hN : 0 < N.length) (b : Addr → Option Addr → Nat → CS K T)
    (h : ∀ (cdv : Value) (A : Around) (outer : List Env) (s : Shared) (H : Hp) (p : Addr × Obj) (c' : Nat) (d : Option Addr), L2H.Hot1 A p → L2N.Zn (.ref (T c')) d p.2 → L2H.RoomH k (A.deeper (PyProof.Rows.envOfC qual (defScope st) s.heap.objs.size f cdv)) →
      PSs (L2H.cxH (L2N.CX P w) P w K mg base N qual (defScope st) f cdv A outer s H (fun _ _ _ => False) p) (defBody st) ((b p.1 d c').ts WN))
    (hv : ∀ a d c' fs r, F c' = .ok r → (b a d c').ev ((List.replicate N.length Slot.un).set 0 (.ex a d c' fs)) = .rt r) : FnE P w K T mg base (k + 1) f fd pn F := by
  obtain ⟨oc, od, kV, doc, pm, an, cdv, ct, osl, rfl, lk, hcd⟩ := Fn.ex
  refine ⟨fun A outer s H args Q p c' d hr hot hpin hz e0 hb ⟨G, fs, r, eg, rx, hF, q⟩ => ?_⟩
  have KX : K.In s.heap := e0.mod.kin.keeps fun b o e => (e0.bs b o e).1
  have lim : s.heap.NoLimit := e0.mod.nolimit.keeps fun b o e => (e0.bs b o e).1
  have hkind : ∀ y ∈ [(pn, Value.ref p.1)], (defScope st).names.lookup y.1 = some .local ∨ ((defScope st).names.lookup y.1 = some .cell ∧ ((cellsFrom (s.heap.objs.size + 1) (defScope st).names []).lookup y.1).isSome = true) := fun y hy => by
    obtain rfl : y = (pn, Value.ref p.1) := by simpa using hy
    exact (S.par pn (List.mem_cons_self ..)).imp id fun q => ⟨q, PySem.W.cellsFrom_some _ _ _ (.inl q)⟩
  refine codeAny_call_function hr.depth (KX _ _ lk) rfl S.co S.gen rfl (PySem.W.codeRec_of KX hcd) (hb _ _ _ _ (wpAny_newFunctionEnv_cells S.kind hkind fun env he s1 x => ?_))
  subst he
  refine ⟨lim.keeps x.toInCall.keep, codeAny_func ?_⟩
  have I := L2H.inv_startH (E := fun _ _ _ => False) (CX := L2N.CX P w) (N := N) (ps := [pn]) (us := [.ref p.1]) (vs := [.ref p.1]) S hpin e0 rfl (.cons rfl .nil) x
  have s0 : SG K T [] G H G H (L2.start N [.ref p.1]) ((List.replicate N.length Slot.un).set 0 (.ex p.1 d c' fs)) := by
    have z := SG.setX (i := 0) (a := p.1) (SG.start (K := K) (T := T) eg (.nil) N.length) rx
    have e : L2.start N [.ref p.1] = ([].map some ++ List.replicate N.length none).set 0 (some (V.ref p.1)) := by
      unfold L2.start
      obtain ⟨n, hn⟩ : ∃ n, N.length = n + 1 := ⟨N.length - 1, by omega⟩
      rw [hn]
      rfl
    rw [e]
    simpa using z
  have o := (b p.1 d c').ok WN { nx := fun _ H' => Q .non H', rt := Q } G H G H _ _ s0
  rw [hv _ _ _ _ _ hF] at o
  have t := o fun v G' H' w' r' => q v G' H' w' r'
  refine wpAny_mono ((h cdv A outer s H p c' d hot hz (hr.deeper _)).run [] s1 _ H _ I t) (fun fl s' hs => ?_) fun e s' hs => hs
  match fl, hs with
  | .ret u, ⟨v, σ', H', J, rv, qv⟩ => exact ⟨v, H', J.os, J.bare, J.base, J.hok, rv, qv⟩
  | .next, ⟨σ', H', J, qv⟩ => exact ⟨.non, H', J.os, J.bare, J.base, J.hok, rfl, qv⟩
  | .brk, ⟨_, _, _, qv⟩ => exact False.elim qv
  | .cont, ⟨_, _, _, qv⟩ => exact False.elim qv
/-- isinstance of an exception that every state bears -/
theorem call_isP {X : Cx} {tb : Nat → Option Bool} {c' : Nat} {a : Addr} {oe : Obj} {d : Option Addr} {u : V} {cv : Value} (hK : X.K = K) (hp : (a, oe) ∈ X.pn) (hu : ∀ z, L2.RelV u z → z = cv) (htb : ∀ c b, tb c = some b → PySem.W.kitOne K (.ref (T c)) cv = some b)
    (hec : ∀ c b, tb c = some b → ExcC K (T c)) (hz : L2N.Zn (.ref (T c')) d oe) (hf : ∃ vs, oe.data = .fields vs) : CallR X (.builtin "isinstance") (rIsX tb c' a d u) := by
  subst hK
  intro pins s σ H xs us Q I r h
  obtain ⟨b, rfl, hd, hb, q⟩ := h
  have C := hec c' b hb
  obtain ⟨y1, y2, rfl, rx, rt⟩ : ∃ y1 y2, us = [y1, y2] ∧ L2.RelV (.ref a) y1 ∧ L2.RelV u y2 := by
    cases r with
    | cons r1 rr =>
      cases rr with
      | cons r2 rr =>
        cases rr
        exact ⟨_, _, rfl, r1, r2⟩
  obtain rfl : y1 = Value.ref a := rx
  have ec := hu _ rt
  subst ec
  obtain ⟨hget, _⟩ := I.pin (a, oe) (List.mem_append_left _ hp)
  obtain ⟨vs, hv⟩ := hf
  have nc : PySem.W.notCls oe = true := by unfold PySem.W.notCls; rw [hv] <;> rfl
  have J : ∃ od, PySem.W.InstAt s.heap a oe (T c') od := by
    rcases hd with rfl | ⟨dd, fs, rfl, hx⟩
    · exact ⟨none, hget, hz.1, nc, by rw [hz.2.1]; trivial⟩
    · have ho : ObjOk X.prog X.w H s.heap dd (.xd fs) := I.hok dd _ hx
      obtain ⟨mA, hns, hr⟩ := ho
      obtain ⟨od, ho, hl⟩ := lookIn_ns hns
      exact ⟨some od, hget, hz.1, nc, by rw [hz.2.1]; exact ho⟩
  obtain ⟨od, J⟩ := J
  have hcl : (PySem.W.clsIn X.K (T c')).isSome = true := by
    obtain ⟨cd, hc, _⟩ := PySem.W.any_some C.hd
    rw [hc]
    rfl
  exact PySem.W.kia_one (PySem.W.kitx_exc hcl C.hg C.hk C.hs C.ha C.hn C.ht C.hm) I.kIn J (htb c' b hb) (fun z => nomatch z) fun tk => ⟨.bl b, H, I.kept (t' := tk) fun _ _ z => z, rfl, q⟩
/-- a def that may be handed the caught exception -/
structure CalE (P : Program) (w : World) (K : PySem.W.Frag) (T : Nat → Addr) (mg : Str → Option Value) (base : Heap) (x : Str) (k : Nat) (F : Nat → Rs Dat) : Prop where
  ex : ∃ f fd pn, mg x = some (.ref f) ∧ PySem.W.keepIn K (.ref f) = true ∧ (∀ (s : Shared) (u : Value), BindsTo s fd ⟨[u], []⟩ [(pn, u)]) ∧ FnE P w K T mg base k f fd pn F
def rCalE (K : PySem.W.Frag) (T : Nat → Addr) (F : Nat → Rs Dat) (a : Addr) (d : Option Addr) (c' : Nat) (xs : List V) (H : Hp) (Q : VK) : Prop :=
  xs = [.ref a] ∧ ∃ G fs r, Ex G H ∧ RepX K T G (.ref (T c')) d c' fs ∧ F c' = .ok r ∧ ∀ v G' H', Grow G H G' H' → Rep K T G' v r → Q v H'
/-- f(e), e the caught exception -/
def CE.callE (a : Addr) (d : Option Addr) (c' i : Nat) (F : Nat → Rs Dat) : CE K T := ⟨fun _ σ H Q => tCons (tVar i) tNil σ H fun xs H1 => rCalE K T F a d c' xs H1 Q, fun Γ => match Γ[i]? with
    | some (.ex a' d' c2 fs) => if a' = a ∧ d' = d ∧ c2 = c' then (match F c' with | .ok r => .ok r | _ => .bad) else .bad
    | _ => .bad, fun W fx G0 H0 G H σ Γ s => by
  split
  · next a' d' c2 fs hg =>
    split
    · next hh =>
      obtain ⟨rfl, rfl, rfl⟩ := hh
      split
      · next r hr =>
        obtain ⟨e1, rx⟩ := s.getX hg
        exact fun Q q => ⟨.ref a', e1, rfl, G, fs, r, s.gh, rx, hr, q⟩
      · trivial
    · trivial
  · trivial⟩
@[simp] theorem ev_CE_callE (a : Addr) (d : Option Addr) (c' i : Nat) (F : Nat → Rs Dat) (Γ : Gam) : (CE.callE a d c' i F : CE K T).ev Γ = match Γ[i]? with
    | some (.ex a' d' c2 fs) => if a' = a ∧ d' = d ∧ c2 = c' then (match F c' with | .ok r => .ok r | _ => .bad) else .bad
    | _ => .bad := rfl
theorem pe_callE {X : Cx} {x n : Str} {k i : Nat} {F : Nat → Rs Dat} {a : Addr} {oe : Obj} {d : Option Addr} {c' : Nat} {p p1 pos : Pos} (C : CalE X.prog X.w X.K T X.mg X.base x k F) (hot : L2H.Hot1 X.A (a, oe)) (hp : (a, oe) ∈ X.pn) (hz : L2N.Zn (.ref (T c')) d oe) (hr : L2H.RoomH k X.A) (hn : PE X (.Name n p1) (tVar i)) (hg : Gl X x)
    (hdb : (x == ("__debug__" : Str)) = false) (he : starEach [.Name n p1] X.env = (false, eval (.Name n p1) X.env) :: starEach [] X.env) (hpl : (backTo pos (starEach [] X.env)).any (·.1) = false) :
    PE X (.Call (.Name x p) [.Name n p1] [] pos) ((CE.callE (K := X.K) (T := T) a d c' i F).te WN) := by
  obtain ⟨f, fd, pn, hm, hk, hb, F1⟩ := C.ex
  refine ⟨fun pins s σ H Q I h => wpAny_Call_Name_kw (ld_glob I hg hm ?_ hdb)⟩
  have h2 : tCons (tVar i) tNil σ H (fun xs H1 => rCalE X.K T F a d c' xs H1 Q) := h
  refine PySem.W.callWith_K (h₀ := X.base) I.ok.mod.kin hk (thn ((pa_cons hn pa_nil he).run pos pins s σ H _ I h2) fun us s1 hh => ?_) he hpl
  obtain ⟨vs, H1, I1, r, ev, G, fs, rr, eg, rx, hF, q⟩ := hh
  refine ⟨I1.kIn, ?_⟩
  subst ev
  obtain ⟨y, rfl, ry⟩ := r.one
  obtain rfl : y = Value.ref a := ry
  have P1 := I1.pin (a, oe) (List.mem_append_left _ hp)
  have hpin : L2H.PinOk X.stack H1 s1 (a, oe) := ⟨P1.1, P1.2.1, fun hm => (List.mem_cons.mp (I1.stkSub a hm)).elim P1.2.2.1 P1.2.2.2.1, P1.2.2.2.2⟩
  refine wpAny_call (codeAny_mono (F1.run X.A X.stack s1 H1 ⟨[.ref a], []⟩ Q (a, oe) c' d hr hot hpin hz I1.env0 (hb s1 (.ref a)) ⟨G, fs, rr, eg, rx, hF, q⟩) fun fr s' hq => ?_)
  match fr, hq with
  | .ok (.ret u), hq => exact I1.after hq
  | .error ev, ⟨_, _, _, _, _, _, _, _, _, _, _, _, z⟩ => exact z.elim
/-- an owned list and a new one, put together into a new one -/
def CO.addO (i : Nat) (c : CO K T) : CO K T := ⟨fun W => tOp rCat (tVar i) (c.te W), fun Γ => match Γ[i]? with
    | some (.ol xs) => (c.ev Γ).bind fun ys => if xs.length + ys.length ≤ lim then .ok (xs ++ ys) else .bad
    | _ => .bad, fun W fx G0 H0 G H σ Γ s => by
  cases hg : Γ[i]? with
  | none => trivial
  | some t =>
    cases t with
    | ol xs =>
      obtain ⟨a, vs, e1, ea, rv, ga, ha⟩ := s.getL hg
      have hc := c.ok W fx G0 H0 G H σ Γ s
      cases e : c.ev Γ with
      | bad => trivial
      | exn c2 fs =>
        rw [e] at hc
        exact fun w Q => ⟨.ref a, e1, hc w _⟩
      | ok ys =>
        rw [e] at hc
        show (match (if xs.length + ys.length ≤ lim then Rs.ok (xs ++ ys) else Rs.bad) with
          | .ok d => ∀ Q : VK, (∀ p vs G' H', Grow G H G' H' → H' p = none → RepL K T G' vs d → Q (.ref p) (upd H' p (.lst vs))) → tOp rCat (tVar i) (c.te W) σ H Q
          | .exn cc fs => (∀ cls d G' H', Grow G H G' H' → RepX K T G' cls d cc fs → W cls d σ H') → ∀ Q : VK, tOp rCat (tVar i) (c.te W) σ H Q
          | .bad => True)
        split
        · next d hd =>
          split at hd
          · next hl =>
            cases hd
            refine fun Q q => ⟨.ref a, e1, hc _ fun p ws G1 H1 w n rw' => ?_⟩
            have ea1 : H1 a = some (.lst vs) := w.h _ _ ea
            have nap : a ≠ p := fun z => by rw [z, n] at ea1; cases ea1
            have l1 : vs.length = xs.length := rv.length
            have l2 : ws.length = ys.length := rw'.length
            refine ⟨a, p, vs, ws, rfl, rfl, by rw [upd_ne nap]; exact ea1, upd_same, by rw [l1, l2, sizeLine_eq]; unfold lim at hl; omega, fun p2 n2 => ?_⟩
            exact q p2 (vs ++ ws) G1 _ (w.trans (Grow.newH w.gh n)) n2 ((rv.mono w.g).append rw')
          · cases hd
        · next hd => split at hd <;> cases hd
        · trivial
    | _ => trivial⟩
@[simp] theorem ev_CO_addO (i : Nat) (c : CO K T) (Γ : Gam) : (CO.addO i c).ev Γ = match Γ[i]? with
    | some (.ol xs) => (c.ev Γ).bind fun ys => if xs.length + ys.length ≤ lim then .ok (xs ++ ys) else .bad
    | _ => .bad := rfl
end
end Cz

set_option Elab.async false
set_option linter.all false
set_option maxRecDepth 100000
set_option maxHeartbeats 4000000
/-! The words for a def that is handed the caught exception. -/
namespace Cz
open PySem PySem.Spec PyProof.Rows L2 NdefX Evl
section
variable {K : PySem.W.Frag} {T : Nat → Addr}
theorem d_isP {X : Cx} {W : WX} {tb : Nat → Option Bool} {c' i : Nat} {a : Addr} {oe : Obj} {d : Option Addr} {u : V} {cv : Value} {n x : Str} {p p1 p2 pos : Pos} (hK : X.K = K) (hp : (a, oe) ∈ X.pn) (hu : ∀ z, L2.RelV u z → z = cv) (htb : ∀ c b, tb c = some b → PySem.W.kitOne K (.ref (T c)) cv = some b)
    (hec : ∀ c b, tb c = some b → ExcC K (T c)) (hz : L2N.Zn (.ref (T c')) d oe) (hf : ∃ vs, oe.data = .fields vs) (hi : X.mg "isinstance" = none) (hx : PE X (.Name x p2) (tC u))
    (hN : X.N[i]? = some n := by rfl) (hv : Vis X.env.scope n := by first | exact Or.inl rfl | exact Or.inr (Or.inl rfl) | exact Or.inr (Or.inr rfl)) (hd : (n == ("__debug__" : Str)) = false := by decide) (hcd : (n == ("__classdict__" : Str)) = false := by decide)
    (hg : Gl X "isinstance" := by rfl) (hs1 : starEach [.Name n p1, .Name x p2] X.env = (false, eval (.Name n p1) X.env) :: starEach [.Name x p2] X.env := by rfl)
    (hs2 : starEach [.Name x p2] X.env = (false, eval (.Name x p2) X.env) :: starEach [] X.env := by rfl)
    (hpl : (backTo pos (starEach [.Name x p2] X.env)).any (·.1) = false := by rfl) :
    PE X (.Call (.Name "isinstance" p) [.Name n p1, .Name x p2] [] pos) ((CE.isX (K := K) (T := T) a d c' i tb u).te W) :=
  pe_callB (call_isP (T := T) hK hp hu htb hec hz hf) hg hi (by decide +kernel) (pa_cons (pe_var hN hv hd hcd) (pa_cons hx pa_nil hs2) hs1) (by decide) (by decide) hs1 hpl
theorem d_callE {X : Cx} {x n : Str} {k i : Nat} {F : Nat → Rs Dat} {a : Addr} {oe : Obj} {d : Option Addr} {c' : Nat} {pn : List (Addr × Obj)} {p p1 pos : Pos} (hK : X.K = K) (C : CalE X.prog X.w K T X.mg X.base x k F) (hz : L2N.Zn (.ref (T c')) d oe) (hf : ∃ vs, oe.data = .fields vs) (hr : L2H.RoomH k (X.suite a ((a, oe) :: pn)).A)
    (hN : X.N[i]? = some n := by rfl) (hv : Vis X.env.scope n := by first | exact Or.inl rfl | exact Or.inr (Or.inl rfl) | exact Or.inr (Or.inr rfl)) (hd : (n == ("__debug__" : Str)) = false := by decide) (hcd : (n == ("__classdict__" : Str)) = false := by decide)
    (hg : Gl X x := by rfl) (hdb : (x == ("__debug__" : Str)) = false := by decide)
    (he : starEach [.Name n p1] (X.suite a ((a, oe) :: pn)).env = (false, eval (.Name n p1) (X.suite a ((a, oe) :: pn)).env) :: starEach [] (X.suite a ((a, oe) :: pn)).env := by rfl) (hpl : (backTo pos (starEach [] (X.suite a ((a, oe) :: pn)).env)).any (·.1) = false := by rfl) :
    PE (X.suite a ((a, oe) :: pn)) (.Call (.Name x p) [.Name n p1] [] pos) ((CE.callE (K := K) (T := T) a d c' i F).te WN) := by
  subst hK
  exact pe_callE (X := X.suite a ((a, oe) :: pn)) C (by obtain ⟨vs, hd⟩ := hf; exact ⟨rfl, vs, hd, hz.2.2 vs hd⟩) List.mem_cons_self hz hr (pe_var (X := X.suite a ((a, oe) :: pn)) hN hv hd hcd) hg hdb he hpl
theorem d_addO1 {X : Cx} {W : WX} {i : Nat} {x : Str} {b : Expr} {e : CO X.K T} {p pos : Pos} (hb : PE X b (e.te W)) (hN : X.N[i]? = some x := by rfl) (hv : Vis X.env.scope x := by first | exact Or.inl rfl | exact Or.inr (Or.inl rfl) | exact Or.inr (Or.inr rfl)) (hd : (x == ("__debug__" : Str)) = false := by decide)
    (hcd : (x == ("__classdict__" : Str)) = false := by decide) : PE X (.BinOp (.Name x p) .Add b pos) ((CO.addO i e).te W) := pe_op op_cat (pe_var hN hv hd hcd) hb
end
end Cz

set_option Elab.async false
set_option linter.all false
set_option maxRecDepth 100000
set_option maxHeartbeats 4000000
/-! try with several clauses, each with a name or without. -/
namespace Cz
open PySem PySem.Spec PyProof.Rows L2 NdefX Evl
/-- the clauses' readings: class, slot, suite -/
abbrev Cl2 := Value × Option Nat × (Addr → Value → Option Addr → TS)
def wAsN (K : PySem.W.Frag) (Wout : WX) (D : Ends) : List Cl2 → WX
  | [] => Wout
  | (c, some i, ts) :: r => wAs K c i ts (wAsN K Wout D r) D
  | (c, none, ts) :: r => wOnly K c ts (wAsN K Wout D r) D
inductive HdsN (X : Cx) : List ExceptHandler → List Cl2 → Prop
  | nil : HdsN X [] []
  | cons {x n : Str} {c : Value} {i : Nat} {ts : Addr → Value → Option Addr → TS} {b₀ : Stmt} {suite : List Stmt} {np pos' : Pos} {hds : List ExceptHandler} {l : List Cl2} (hi : X.N[i]? = some n) (hln : X.env.kindOf n = some .local) (hc : Names X x c)
      (hsu : ∀ (a : Addr) (oe : Obj) (cls : Value) (d : Option Addr) (pn : List (Addr × Obj)), L2N.Zn cls d oe → (∃ vs, oe.data = .fields vs) → PSs (X.suite a ((a, oe) :: pn)) (b₀ :: suite) (ts a cls d)) (r : HdsN X hds l) :
      HdsN X (.ExceptHandler (some (.Name x np)) (some n) (b₀ :: suite) pos' :: hds) ((c, some i, ts) :: l)
  | consN {x : Str} {c : Value} {ts : Addr → Value → Option Addr → TS} {b₀ : Stmt} {suite : List Stmt} {np pos' : Pos} {hds : List ExceptHandler} {l : List Cl2} (hc : Names X x c)
      (hsu : ∀ (a : Addr) (oe : Obj) (cls : Value) (d : Option Addr) (pn : List (Addr × Obj)), L2N.Zn cls d oe → (∃ vs, oe.data = .fields vs) → PSs (X.suite a ((a, oe) :: pn)) (b₀ :: suite) (ts a cls d)) (r : HdsN X hds l) :
      HdsN X (.ExceptHandler (some (.Name x np)) none (b₀ :: suite) pos' :: hds) ((c, none, ts) :: l)
section
variable {X : Cx} {pins : List (Addr × Obj)} {σ : L2.St} {H : Hp} {a : Addr} {cls : Value} {d : Option Addr} {s0 : Shared} {h3 : Heap} {D : Ends} {Wout : WX} {hds : List ExceptHandler} {l : List Cl2}
/-- the clauses are asked one behind the other -/
theorem clausesN (hs : X.stack = X.env :: X.outer) (hf : X.env.frame = some X.env.locals) (hN : X.N.Nodup) (tk : L2N.Takes X Wout) (hh : HdsN X hds l) :
    ∀ {a : Addr} {cls : Value} {d : Option Addr} {σ : L2.St} {H : Hp} {s0 : Shared} {h3 : Heap}, Caught X pins σ H a cls d s0 h3 → wAsN X.K Wout D l cls d σ H → wpAny (model X.prog X.w) X.A (handleBy (.ref a) X.env hds) (SP X pins D) X.xe { s0 with heap := h3 } := by
  induction hh with
  | nil =>
    intro a cls d σ H s0 h3 ct w
    obtain ⟨B, sI, J, nb, up, fl, na, os, ag⟩ := ct.fin
    obtain ⟨_, _, _, oe, vs, T, _, _, he, _, hd, h1, _⟩ := id fl
    refine wpAny_handleBy_nil ?_
    unfold PySem.passOn
    refine wpAny_bind (wpAny_field he hd h1 ?_)
    rw [if_neg (show ¬ ((Value.ref T == Value.none) = true) from by simp)]
    have out : wpAny (model X.prog X.w) X.A (setFlight (.ref a) X.env.frame) (fun _ s4 => wpAny (model X.prog X.w) X.A (throw (.ref a) : Sem Flow) (SP X pins D) X.xe s4) X.xe { s0 with heap := h3 } := by
      rw [hf]
      exact HandSPX.setFlight_upZ fl fun h4 hh4 up4 => wpAny_throw (tk _ _ ⟨a, B, sI, pins, σ, H, cls, d, rfl, J, nb, up.trans up4, .inr (.inr (by rw [hs]; exact hh4)), na, os, ag, w⟩)
    first
      | exact wpAny_bind (wpAny_pure (wpAny_bind out))
      | exact wpAny_bind out
  | @cons x n c i ts b₀ suite np pos' hds2 l2 hi hln hc hsu r ih =>
    intro a cls d σ H s0 h3 ct w
    obtain ⟨oe, vs, he, hz, hd, nfr⟩ := ct.stands
    obtain ⟨B, sI, J, nb, up, fl, na, os, ag⟩ := ct.fin
    obtain ⟨b, hb1, hyes, hno⟩ := w
    have J3 : L2.Inv X pins σ H { s0 with heap := h3 } := J.landed nb fl.1 up os ag
    have nL : a ≠ X.env.locals := fun z => nfr (List.mem_filterMap.mpr ⟨X.env, List.mem_cons_self, by rw [hf, z]⟩)
    have nF : a ∉ X.fs := fun hm => by
      obtain ⟨e, h1, q⟩ := List.mem_filterMap.mp hm
      exact nfr (List.mem_filterMap.mpr ⟨e, List.mem_cons_of_mem _ h1, q⟩)
    have S3 := J3.suite he hd na nL nF
    refine wpAny_handleBy_cons (codeAny_handlers_test ?_) (by intro q; cases q)
    have LT : PySem.W.Looks (model X.prog X.w) h3 (typeOf (.ref a)) cls := fun A Q E s k q => wpAny_typeOf_ref (k _ _ he) (by rw [hz.1]; exact q)
    have asked : ∀ {Q : Value → Shared → Prop} {E : Value → Shared → Prop}, Q c { s0 with heap := h3 } → wpAny (model X.prog X.w) (X.A.mark (some (.ref a))) (eval (.Name x np) X.env) Q E { s0 with heap := h3 } := fun {Q E} q => by
      obtain ⟨hg, hdbg, hm | ⟨hm, hv, hnn⟩⟩ := hc
      · exact ld_glob (X := X.suite a ((a, oe) :: (X.pn ++ pins))) S3 hg hm q hdbg
      · exact ld_blt (X := X.suite a ((a, oe) :: (X.pn ++ pins))) S3 hg hm hv q hnn hdbg
    refine asked ((PySem.W.exm_one (M := model X.prog X.w) J3.kIn LT hb1).here ?_)
    cases b with
    | false => exact ih ct (hno rfl)
    | true =>
      refine codeAny_handlers_suite_as (HandSPX.lands_againZ fl fun h4 fl4 up4 => ?_)
      have J4 : L2.Inv X pins σ H { s0 with heap := h4 } := J.landed nb fl4.1 (up.trans up4) os ag
      obtain ⟨oe4, vs4, he4, hz4, hd4⟩ := fl4.there
      refine store_ok (X := X.suite a ((a, oe4) :: (X.pn ++ pins))) (v := .ref a) (J4.suite he4 hd4 na nL nF) hN hi (.inl hln) rfl (fun s5 S5 => ?_) (.inr hln)
      refine wpAny_mono ((hsu a oe4 cls d (X.pn ++ pins) hz4 ⟨_, hd4⟩).run [] s5 _ H _ S5 (hyes rfl a na)) (fun f s6 hsp => ?_) (fun _ _ z => False.elim z)
      have leave : ∀ {σ6 : L2.St} {H6 : Hp} {Q : Shared → Prop}, L2.Inv (X.suite a ((a, oe4) :: (X.pn ++ pins))) [] σ6 H6 s6 → (∀ s7, L2.Inv X pins (σ6.set i none) H6 s7 → Q s7) →
          wpAny (model X.prog X.w) X.A (do bindName X.env n .none; unbindBehindTheSuite X.env n pos') (fun _ s7 => Q s7) X.xe s6 := fun {σ6 H6 Q} S6 hq => gone_ok (S6.unsuite ct.ok) hN hi hln hq
      match f, hsp with
      | .next, ⟨σ6, H6, S6, q6⟩ => exact leave S6 fun s7 J7 => ⟨_, _, J7, q6⟩
      | .brk, ⟨σ6, H6, S6, q6⟩ => exact leave S6 fun s7 J7 => ⟨_, _, J7, q6⟩
      | .cont, ⟨σ6, H6, S6, q6⟩ => exact leave S6 fun s7 J7 => ⟨_, _, J7, q6⟩
      | .ret u, ⟨v6, σ6, H6, S6, r6, q6⟩ => exact leave S6 fun s7 J7 => ⟨_, _, _, J7, r6, q6⟩
  | @consN x c ts b₀ suite np pos' hds2 l2 hc hsu r ih =>
    intro a cls d σ H s0 h3 ct w
    obtain ⟨oe, vs, he, hz, hd, nfr⟩ := ct.stands
    obtain ⟨B, sI, J, nb, up, fl, na, os, ag⟩ := ct.fin
    obtain ⟨b, hb1, hyes, hno⟩ := w
    have J3 : L2.Inv X pins σ H { s0 with heap := h3 } := J.landed nb fl.1 up os ag
    have nL : a ≠ X.env.locals := fun z => nfr (List.mem_filterMap.mpr ⟨X.env, List.mem_cons_self, by rw [hf, z]⟩)
    have nF : a ∉ X.fs := fun hm => by
      obtain ⟨e, h1, q⟩ := List.mem_filterMap.mp hm
      exact nfr (List.mem_filterMap.mpr ⟨e, List.mem_cons_of_mem _ h1, q⟩)
    have S3 := J3.suite he hd na nL nF
    refine wpAny_handleBy_cons (codeAny_handlers_test ?_) (by intro q; cases q)
    have LT : PySem.W.Looks (model X.prog X.w) h3 (typeOf (.ref a)) cls := fun A Q E s k q => wpAny_typeOf_ref (k _ _ he) (by rw [hz.1]; exact q)
    have asked : ∀ {Q : Value → Shared → Prop} {E : Value → Shared → Prop}, Q c { s0 with heap := h3 } → wpAny (model X.prog X.w) (X.A.mark (some (.ref a))) (eval (.Name x np) X.env) Q E { s0 with heap := h3 } := fun {Q E} q => by
      obtain ⟨hg, hdbg, hm | ⟨hm, hv, hnn⟩⟩ := hc
      · exact ld_glob (X := X.suite a ((a, oe) :: (X.pn ++ pins))) S3 hg hm q hdbg
      · exact ld_blt (X := X.suite a ((a, oe) :: (X.pn ++ pins))) S3 hg hm hv q hnn hdbg
    refine asked ((PySem.W.exm_one (M := model X.prog X.w) J3.kIn LT hb1).here ?_)
    cases b with
    | false => exact ih ct (hno rfl)
    | true =>
      refine codeAny_handlers_suite (HandSPX.lands_againZ fl fun h4 fl4 up4 => ?_)
      have J4 : L2.Inv X pins σ H { s0 with heap := h4 } := J.landed nb fl4.1 (up.trans up4) os ag
      obtain ⟨oe4, vs4, he4, hz4, hd4⟩ := fl4.there
      have S4 := J4.suite he4 hd4 na nL nF
      refine wpAny_mono ((hsu a oe4 cls d (X.pn ++ pins) hz4 ⟨_, hd4⟩).run [] _ _ H _ S4 (hyes rfl a na)) (fun f s6 hsp => ?_) (fun _ _ z => False.elim z)
      match f, hsp with
      | .next, ⟨σ6, H6, S6, q6⟩ => exact ⟨_, _, S6.unsuite ct.ok, q6⟩
      | .brk, ⟨σ6, H6, S6, q6⟩ => exact ⟨_, _, S6.unsuite ct.ok, q6⟩
      | .cont, ⟨σ6, H6, S6, q6⟩ => exact ⟨_, _, S6.unsuite ct.ok, q6⟩
      | .ret u, ⟨v6, σ6, H6, S6, r6, q6⟩ => exact ⟨_, _, _, S6.unsuite ct.ok, r6, q6⟩
/-- try: body / except A as a: .. / except B as b: .. -/
theorem ps_try_asN {body : List Stmt} {h₀ : ExceptHandler} {pos : Pos} {tb : WX → TS} (hs : X.stack = X.env :: X.outer) (hf : X.env.frame = some X.env.locals) (hN : X.N.Nodup) (tk : L2N.Takes X Wout)
    (hb : ∀ (W : WX) (pn : List (Addr × Obj)) (xe : Value → Shared → Prop), L2N.Takes (X.tr pn xe) W → PassesOwn (model X.prog X.w) X.A X.env xe → PSs (X.tr pn xe) body (tb W)) (hh : HdsN X (h₀ :: hds) l) :
    PS X (.Try body (h₀ :: hds) [] [] pos) (fun D σ H => tb (wAsN X.K Wout D l) D σ H) := by
  refine ⟨fun pins s σ H D I h => wpAny_Try_except ?_⟩
  have ok := I.ok
  refine wpAny_mono ((hb (wAsN X.K Wout D l) (X.pn ++ pins) (fun e s₁ => wpAny (model X.prog X.w) X.A (noteFrame e X.env) (fun _ s₂ => wpAny (model X.prog X.w) X.A (setFlight e none) (fun _ s₃ =>
    wpAny (model X.prog X.w) X.A (handleBy e X.env (h₀ :: hds)) (SP X pins D) X.xe s₃) X.xe s₂) X.xe s₁) (fun u s' xx => ?_) PassesOwn.looking).run [] s σ H D (I.toTry _) h) (fun f s1 hsp => ?_) fun e s1 he => he
  · obtain ⟨a, B, sI, pins', σ', H', cls, d, rfl, J', nb, up, sky, na, os, ag, w⟩ := xx
    have sky' : Sky B (X.env :: X.outer) a (L2N.Zn cls d) X.env.locals s'.heap := by rw [← hs]; exact sky
    exact L2N.Sky.land L2N.Zn.steady (ok.frames.trans (congrArg some hs)) hf sky' fun h3 fl3 up3 => clausesN hs hf hN tk hh ⟨ok, B, sI, J'.ofTry ok, nb, up.trans up3, fl3, na, os, ag⟩ w
  · match f, hsp with
    | .next, ⟨σ', H', J', q⟩ => exact wpAny_execs_nil ⟨σ', H', J'.ofTry ok, q⟩
    | .brk, ⟨σ', H', J', q⟩ => exact ⟨σ', H', J'.ofTry ok, q⟩
    | .cont, ⟨σ', H', J', q⟩ => exact ⟨σ', H', J'.ofTry ok, q⟩
    | .ret u, ⟨v, σ', H', J', r, q⟩ => exact ⟨v, σ', H', J'.ofTry ok, r, q⟩
end

def wrapN : SRes → SRes
  | .nx Γ => .nx Γ
  | .bk Γ => .bk Γ
  | .ct Γ => .ct Γ
  | .rt d => .rt d
  | _ => .bad
theorem SHd.wrapN {K : PySem.W.Frag} {T : Nat → Addr} {W : WX} {D : Ends} {G0 H0 G : Hp} {r : SRes} {t : Prop} (h : SHd K T WN D G0 H0 G r t) : SHd K T W D G0 H0 G (wrapN r) t := by
  cases r with
  | exn Γ c fs => trivial
  | bad => trivial
  | _ => exact h
/-- a certified clause, with a name or without -/
structure CN (K : PySem.W.Frag) (T : Nat → Addr) where
  c : Nat
  i : Option Nat
  sb : Nat → Option Bool
  hsb : ∀ c' b, sb c' = some b → PySem.W.exmOne K (.ref (T c')) (.ref (T c)) = some b
  su : Addr → Option Addr → Nat → CS K T
  sev : Nat → List (Str × Dat) → Gam → SRes
  hsev : ∀ a d c' fs Γ, (match i with | some i => wrapX i ((su a d c').ev (Γ.set i (.ex a d c' fs))) | none => wrapN ((su a d c').ev Γ)) = sev c' fs Γ
section
variable {K : PySem.W.Frag} {T : Nat → Addr}
def CN.cl (h : CN K T) : Cl2 := (.ref (T h.c), h.i, fun a cls d D σ H => ∃ c', cls = .ref (T c') ∧ (h.su a d c').ts WN D σ H)
def goN (Γ : Gam) (c' : Nat) (fs : List (Str × Dat)) : List (CN K T) → SRes
  | [] => .exn Γ c' fs
  | h :: r => match h.sb c' with
    | some true => h.sev c' fs Γ
    | some false => goN Γ c' fs r
    | none => .bad
theorem goN_ok {W : WX} {D : Ends} {G0 H0 G : Hp} {Γ' : Gam} {c' : Nat} {fs : List (Str × Dat)} : ∀ (hs : List (CN K T)) {t : Prop},
    ((∀ cls d G' H' σ', Ex G G' → SG K T [] G0 H0 G' H' σ' Γ' → RepX K T G' cls d c' fs → wAsN K W D (hs.map CN.cl) cls d σ' H') → t) → SHd K T W D G0 H0 G (goN Γ' c' fs hs) t
  | [], t, h => h
  | x :: r, t, h => by
    show SHd K T W D G0 H0 G (match x.sb c' with | some true => x.sev c' fs Γ' | some false => goN Γ' c' fs r | none => .bad) t
    cases hs : x.sb c' with
    | none => trivial
    | some b =>
      cases b with
      | false =>
        obtain ⟨xc, xi, xsb, xhsb, xsu, xsev, xhsev⟩ := x
        cases xi with
        | some i => exact goN_ok r fun q => h fun cls d G' H' σ' ex sg rx => ⟨false, by rw [rx.1]; exact xhsb c' false hs, (fun z => nomatch z), fun _ => q cls d G' H' σ' ex sg rx⟩
        | none => exact goN_ok r fun q => h fun cls d G' H' σ' ex sg rx => ⟨false, by rw [rx.1]; exact xhsb c' false hs, (fun z => nomatch z), fun _ => q cls d G' H' σ' ex sg rx⟩
      | true =>
        obtain ⟨xc, xi, xsb, xhsb, xsu, xsev, xhsev⟩ := x
        cases xi with
        | some i =>
          exact SHd.all (p := fun j : { y : Value × Option Addr × Hp × Hp × L2.St × Addr // Ex G y.2.2.1 ∧ SG K T [] G0 H0 y.2.2.1 y.2.2.2.1 y.2.2.2.2.1 Γ' ∧ RepX K T y.2.2.1 y.1 y.2.1 c' fs } =>
              ∃ c'', j.1.1 = .ref (T c'') ∧ (xsu j.1.2.2.2.2.2 j.1.2.1 c'').ts WN (endX i D) (j.1.2.2.2.2.1.set i (some (.ref j.1.2.2.2.2.2))) j.1.2.2.2.1)
            (fun ⟨(cls, d, G', H', σ', a), ex, sg, rx⟩ => by
              have o2 := SHd.wrap (W := W) ((xsu a d c').ok WN (endX i D) G0 H0 G' H' (σ'.set i (some (.ref a))) (Γ'.set i (.ex a d c' fs)) (sg.setX ⟨rfl, rx.2⟩))
              have z := xhsev a d c' fs Γ'
              dsimp only at z
              rw [z] at o2
              exact (o2.imp fun t => ⟨c', rx.1, t⟩).back ex)
            fun all => h fun cls d G' H' σ' ex sg rx => ⟨true, by rw [rx.1]; exact xhsb c' true hs, fun _ a _ => all ⟨(cls, d, G', H', σ', a), ex, sg, rx⟩, fun z => nomatch z⟩
        | none =>
          exact SHd.all (p := fun j : { y : Value × Option Addr × Hp × Hp × L2.St × Addr // Ex G y.2.2.1 ∧ SG K T [] G0 H0 y.2.2.1 y.2.2.2.1 y.2.2.2.2.1 Γ' ∧ RepX K T y.2.2.1 y.1 y.2.1 c' fs } =>
              ∃ c'', j.1.1 = .ref (T c'') ∧ (xsu j.1.2.2.2.2.2 j.1.2.1 c'').ts WN D j.1.2.2.2.2.1 j.1.2.2.2.1)
            (fun ⟨(cls, d, G', H', σ', a), ex, sg, rx⟩ => by
              have o2 := SHd.wrapN (W := W) ((xsu a d c').ok WN D G0 H0 G' H' σ' Γ' sg)
              have z := xhsev a d c' fs Γ'
              dsimp only at z
              rw [z] at o2
              exact (o2.imp fun t => ⟨c', rx.1, t⟩).back ex)
            fun all => h fun cls d G' H' σ' ex sg rx => ⟨true, by rw [rx.1]; exact xhsb c' true hs, fun _ a _ => all ⟨(cls, d, G', H', σ', a), ex, sg, rx⟩, fun z => nomatch z⟩
/-- try with several named clauses -/
def CS.tryN (hs : List (CN K T)) (body : CS K T) : CS K T := ⟨fun W D σ H => body.ts (wAsN K W D (hs.map CN.cl)) D σ H, fun Γ => match body.ev Γ with
    | .exn Γ' c' fs => goN Γ' c' fs hs
    | r => r, fun W D G0 H0 G H σ Γ s => by
  have h := body.ok (wAsN K W D (hs.map CN.cl)) D G0 H0 G H σ Γ s
  show SHd K T W D G0 H0 G _ (body.ts (wAsN K W D (hs.map CN.cl)) D σ H)
  cases e : body.ev Γ with
  | exn Γ' c' fs => rw [e] at h; exact goN_ok hs h
  | nx Γ' => rw [e] at h; exact h
  | rt d => rw [e] at h; exact h
  | bk Γ' => rw [e] at h; exact h
  | ct Γ' => rw [e] at h; exact h
  | bad => trivial⟩
@[simp] theorem ev_CS_tryN (hs : List (CN K T)) (body : CS K T) (Γ : Gam) : (CS.tryN hs body).ev Γ = match body.ev Γ with
    | .exn Γ' c' fs => goN Γ' c' fs hs
    | r => r := rfl
@[simp] theorem goN_nil (Γ : Gam) (c' : Nat) (fs : List (Str × Dat)) : goN Γ c' fs ([] : List (CN K T)) = .exn Γ c' fs := rfl
@[simp] theorem goN_cons (Γ : Gam) (c' : Nat) (fs : List (Str × Dat)) (h : CN K T) (r : List (CN K T)) : goN Γ c' fs (h :: r) = match h.sb c' with
    | some true => h.sev c' fs Γ
    | some false => goN Γ c' fs r
    | none => .bad := rfl
def HdsD (X : Cx) (hds : List ExceptHandler) (hs : List (CN K T)) : Prop := HdsN X hds (hs.map CN.cl)
theorem d_nnil {X : Cx} : HdsD X [] ([] : List (CN K T)) := .nil
theorem d_ncons {X : Cx} {x n : Str} {c i : Nat} {sb : Nat → Option Bool} {hsb : ∀ c' b, sb c' = some b → PySem.W.exmOne K (.ref (T c')) (.ref (T c)) = some b} {su : Addr → Option Addr → Nat → CS K T} {sev : Nat → List (Str × Dat) → Gam → SRes} {hsev} {hs : List (CN K T)} {b₀ : Stmt} {suite : List Stmt} {np pos' : Pos} {hds : List ExceptHandler} (hm : X.mg x = some (.ref (T c)))
    (hsu : ∀ (a : Addr) (oe : Obj) (d : Option Addr) (c' : Nat) (pn : List (Addr × Obj)), L2N.Zn (.ref (T c')) d oe → (∃ vs, oe.data = .fields vs) → PSs (X.suite a ((a, oe) :: pn)) (b₀ :: suite) ((su a d c').ts WN)) (r : HdsD X hds hs)
    (hi : X.N[i]? = some n := by rfl) (hln : X.env.kindOf n = some .local := by rfl) (hg : Gl X x := by rfl) (hd : (x == ("__debug__" : Str)) = false := by decide) :
    HdsD X (.ExceptHandler (some (.Name x np)) (some n) (b₀ :: suite) pos' :: hds) (⟨c, some i, sb, hsb, su, sev, hsev⟩ :: hs) :=
  .cons hi hln ⟨hg, hd, .inl hm⟩ (fun a oe cls d pn hz hfl => ⟨fun pins s σ H D I q => by
    obtain ⟨c', rfl, q⟩ := q
    exact (hsu a oe d c' pn hz hfl).run pins s σ H D I q⟩) r
theorem d_nconsN {X : Cx} {x : Str} {c : Nat} {sb : Nat → Option Bool} {hsb : ∀ c' b, sb c' = some b → PySem.W.exmOne K (.ref (T c')) (.ref (T c)) = some b} {su : Addr → Option Addr → Nat → CS K T} {sev : Nat → List (Str × Dat) → Gam → SRes} {hsev} {hs : List (CN K T)} {b₀ : Stmt} {suite : List Stmt} {np pos' : Pos} {hds : List ExceptHandler} (hm : X.mg x = some (.ref (T c)))
    (hsu : ∀ (a : Addr) (oe : Obj) (d : Option Addr) (c' : Nat) (pn : List (Addr × Obj)), L2N.Zn (.ref (T c')) d oe → (∃ vs, oe.data = .fields vs) → PSs (X.suite a ((a, oe) :: pn)) (b₀ :: suite) ((su a d c').ts WN)) (r : HdsD X hds hs)
    (hg : Gl X x := by rfl) (hd : (x == ("__debug__" : Str)) = false := by decide) :
    HdsD X (.ExceptHandler (some (.Name x np)) none (b₀ :: suite) pos' :: hds) (⟨c, none, sb, hsb, su, sev, hsev⟩ :: hs) :=
  .consN ⟨hg, hd, .inl hm⟩ (fun a oe cls d pn hz hfl => ⟨fun pins s σ H D I q => by
    obtain ⟨c', rfl, q⟩ := q
    exact (hsu a oe d c' pn hz hfl).run pins s σ H D I q⟩) r
theorem d_tryN {X : Cx} {W : WX} {cb : CS K T} {h : CN K T} {hs : List (CN K T)} {body : List Stmt} {h₀ : ExceptHandler} {hds : List ExceptHandler} {pos : Pos} (hK : X.K = K) (tk : L2N.Takes X W) (hN : X.N.Nodup)
    (hb : ∀ (W : WX) (pn : List (Addr × Obj)) (xe : Value → Shared → Prop), L2N.Takes (X.tr pn xe) W → PassesOwn (model X.prog X.w) X.A X.env xe → PSs (X.tr pn xe) body (cb.ts W)) (hh : HdsD X (h₀ :: hds) (h :: hs))
    (e1 : X.stack = X.env :: X.outer := by rfl) (e2 : X.env.frame = some X.env.locals := by rfl) : PS X (.Try body (h₀ :: hds) [] [] pos) ((CS.tryN (h :: hs) cb).ts W) := by
  subst hK
  exact ps_try_asN (tb := cb.ts) e1 e2 hN tk hb hh
theorem d_asg {X : Cx} {W : WX} {tg e : Expr} {ce : CE X.K T} {g : CG X.K T} {pos : Pos} (he : PE X e (ce.te W)) (hg : PG X tg g.g) (hs : swapsWithSole [tg] e pos.line X.env = pure false := by rfl) (hw : swappedStores [tg] e X.env = pure none := by rfl) (h1 : (assignEach [tg] X.env).map (·.2) = [assign tg X.env] := by rfl) :
    PS X (.Assign [tg] e pos) ((CS.asg g ce).ts W) := ps_asg he hg hs hw h1
end
end Cz

set_option Elab.async false
set_option linter.all false
set_option maxRecDepth 100000
set_option maxHeartbeats 4000000
/-! An own exception whose field is a flat tuple. -/
namespace Cz
open PySem PySem.Spec PyProof.Rows L2 NdefX Evl PySem.W
/-- a small plain value -/
def flatV (v : V) : Prop := v = .non ∨ (∃ i : Int, v = .int i ∧ i.natAbs.log2 < 1920) ∨ ∃ z : Str, v = .str z ∧ z.length ≤ 500 ∧ ∀ c ∈ z.cps.toList, c < 16 ^ 8
theorem repr_flat {prog : Program} {w : World} : ∀ {vs : List V} {its : List Value}, Vals vs its → (∀ v ∈ vs, flatV v) → ∃ ts, ReprAll prog w its ts ∧ ts.length = vs.length ∧ ∀ t ∈ ts, t.length ≤ 6000
  | [], _, r, _ => by
    cases r
    exact ⟨[], .nil, rfl, fun t h => by cases h⟩
  | v :: vs, _, r, h => by
    cases r with
    | cons r1 r2 =>
      obtain ⟨ts, q1, q2, q3⟩ := repr_flat (prog := prog) (w := w) r2 fun z hz => h z (List.mem_cons_of_mem _ hz)
      rcases h v List.mem_cons_self with rfl | ⟨i, rfl, hi⟩ | ⟨z, rfl, hz, hc⟩
      · cases r1
        refine ⟨_, .cons ReprIs.none q1, by simp [q2], fun t ht => ?_⟩
        rcases List.mem_cons.mp ht with rfl | ht
        · decide +kernel
        · exact q3 t ht
      · obtain ⟨t, rfl⟩ := r1
        refine ⟨_, .cons (ReprIs.int t hi) q1, by simp [q2], fun t ht => ?_⟩
        rcases List.mem_cons.mp ht with rfl | ht
        · exact Nat.le_trans (int_text_len_1921 hi) (by decide)
        · exact q3 t ht
      · obtain ⟨t, rfl⟩ := r1
        have hl := StrLaws.reprText_len z hc
        refine ⟨_, .cons (ReprIs.str z t (by rw [sizeLine_eq]; omega)) q1, by simp [q2], fun t ht => ?_⟩
        rcases List.mem_cons.mp ht with rfl | ht
        · omega
        · exact q3 t ht
theorem piled_le {n : Nat} : ∀ {ts : List Str}, (∀ t ∈ ts, t.length ≤ n) → piled ts ≤ ts.length * (n + 2)
  | [], _ => by rw [piled_nil]; exact Nat.zero_le _
  | t :: ts, h => by
    have h1 := h t List.mem_cons_self
    have h2 := piled_le (n := n) (ts := ts) fun z hz => h z (List.mem_cons_of_mem _ hz)
    rw [piled_cons, List.length_cons, Nat.add_mul]
    omega
def flatT (K : PySem.W.Frag) (H : Hp) (x : V) : Prop := ∃ (a : Addr) (vs : List V), x = .ref a ∧ SqT K H a vs ∧ vs.length ≤ 8 ∧ ∀ v ∈ vs, flatV v
def tFmtF (K : PySem.W.Frag) (te : TE) : TE := fun σ H Q => te σ H fun x H1 => flatT K H1 x ∧ ∀ m : Str, m.length ≤ 60000 → Q (.str m) H1
theorem pe_fmtF {X : Cx} {e : Expr} {te : TE} {pos : Pos} {k : Nat} (hr : Room k X.A) (he : PE X e te) : PE X (.FormattedValue e (-1) none pos) (tFmtF X.K te) := by
  refine ⟨fun pins s σ H Q I h => ?_⟩
  refine wpAny_FormattedValue_plain (thn (he.run pins s σ H _ I h) fun v s1 hv => ?_)
  obtain ⟨x, H1, I1, r1, ⟨a, vs, rfl, ht, hn, hf⟩, q⟩ := hv
  cases r1
  obtain ⟨its, rv, ⟨o, ho, hcl, n, hd⟩, _⟩ := I1.tuple ht
  obtain ⟨ts, q1, q2, q3⟩ := repr_flat (prog := X.prog) (w := X.w) rv hf
  have hp := piled_le q3
  have htx := fmt_text ts
  have hu := hr.units
  have hb : ts.length * (6000 + 2) ≤ 8 * 6002 := Nat.mul_le_mul (by omega) (Nat.le_refl _)
  refine fmt_tuple (ts := ts) (by omega) ho hcl hd q1 (by rw [sizeLine_eq]; omega) fun m u tk hm => ⟨.str m, H1, I1.tok _, ⟨u, rfl⟩, q m (by omega)⟩
/-- __init__ of an own exception with one field -/
def spXT (K : PySem.W.Frag) (C : Addr) (fld : Str) : Sp := fun vs H Q _ => ∃ a y, vs = [.ref a, y] ∧ H a = some (exo a C none) ∧ flatT K H y ∧ ∀ dx, H dx = none → dx ≠ a → Q .non (upd (upd H dx (exd dx [(fld, y)])) a (exo a C (some dx)))
theorem ok_supT {P : Program} {w : World} {K : PySem.W.Frag} {mg : Str → Option Value} {base : Heap} {f cc C : Addr} {F : NF} {oc doc pm ctv : Value} {od : Option Addr} {sl : Array (Option Value)} {at_ fld pre : Str} {sf : Arg}
    {p0 p1 p2 p3 p4 pc pn pn2 pf pj q1 q2 q3 : Pos} {j : Nat}
    (lk : K.lookup f = some ⟨oc, od, .func (F.fd doc pm ctv), sl⟩) (T : OexC K C) (S : SupF P K mg F f cc C) (hS : NScope ["self", at_, "__class__"] ["self", at_] ["__class__"] F.scope)
    (hno : findIn K (.ref C) fld = some none) (hpre : pre.length ≤ 1000) (hsf : (F.params.posonlyargs ++ F.params.args).head? = some sf) (hsn : sf.arg = "self") (hsup : F.scope.names.lookup ("super" : Str) = some NameKind.globalImplicit) (hd1 : (at_ == ("__debug__" : Str)) = false) (hd2 : (at_ == ("__classdict__" : Str)) = false)
    (hb : F.body = [.Expr (.Call (.Attribute (.Call (.Name "super" p0) [] [] p1) "__init__" p2) [.JoinedStr [.Constant (.str pre) j pc, .FormattedValue (.Name at_ pn) (-1) none pf] pj] [] p3) p4,
      .Assign [.Attribute (.Name "self" q1) fld q2] (.Name at_ pn2) q3])
    {pl : Env → Sem Bool} (he : ∀ env : Env, eval (.Call (.Attribute (.Call (.Name "super" p0) [] [] p1) "__init__" p2) [.JoinedStr [.Constant (.str pre) j pc, .FormattedValue (.Name at_ pn) (-1) none pf] pj] [] p3) env = (do
      let ov ← attributeBase (.Call (.Name "super" p0) [] [] p1) "__init__" env (eval (.Call (.Name "super" p0) [] [] p1) env)
      standAt p2.atName
      let (f, first) ← holding [ov] (getMethod ov "__init__" (pl env))
      callWith p3 f first (backTo p3 (starEach [.JoinedStr [.Constant (.str pre) j pc, .FormattedValue (.Name at_ pn) (-1) none pf] pj] env)) [])) :
    FnOk P w K mg base (L2N.CX P w) 1 f (F.fd doc pm ctv) ["self", at_] (spXT K C fld) := by
  refine fn_ofS (k := 0) (N := ["self", at_, "__class__"]) lk S hS (fun vs H Q E h => ?_) fun A outer s s1 H vs Q E hr h I => ?_
  · obtain ⟨a, y, rfl, _⟩ := h
    rfl
  · obtain ⟨a, y, rfl, ea, hf, k⟩ := h
    rw [hb]
    have hN0 : (ncx (L2N.CX P w) P w K mg base ["self", at_, "__class__"] F f A outer s H E).N[0]? = some sf.arg := by rw [hsn]; rfl
    have e1 : PE (ncx (L2N.CX P w) P w K mg base ["self", at_, "__class__"] F f A outer s H E) (.Name "self" q1) (tVar 0) := pe_var rfl (Or.inl (hS.par _ (List.mem_cons_self ..)))
    have e2 : ∀ pz, PE (ncx (L2N.CX P w) P w K mg base ["self", at_, "__class__"] F f A outer s H E) (.Name at_ pz) (tVar 1) := fun pz => pe_var rfl (Or.inl (hS.par _ (List.mem_cons_of_mem _ (List.mem_cons_self ..)))) hd1 hd2
    have ha : PA (ncx (L2N.CX P w) P w K mg base ["self", at_, "__class__"] F f A outer s H E) [.JoinedStr [.Constant (.str pre) j pc, .FormattedValue (.Name at_ pn) (-1) none pf] pj] _ := pa_cons (pe_joined (.cons pe_str (.cons (pe_fmtF hr (e2 pn)) .nil))) pa_nil
    have hka : (ncx (L2N.CX P w) P w K mg base ["self", at_, "__class__"] F f A outer s H E).env.kindOf sf.arg = some .local := by rw [hsn]; exact hS.par _ (List.mem_cons_self ..)
    have hkc : (ncx (L2N.CX P w) P w K mg base ["self", at_, "__class__"] F f A outer s H E).env.kindOf "__class__" = some .free := hS.frk _ (List.mem_cons_self ..)
    have hi : interactive (envF F f s.heap.objs.size) = false := by
      show (F.scope.kind == .module && _) = false
      rw [hS.kind]
      rfl
    have hrest : PSs (ncx (L2N.CX P w) P w K mg base ["self", at_, "__class__"] F f A outer s H E) [.Assign [.Attribute (.Name "self" q1) fld q2] (.Name at_ pn2) q3] _ := pss_one (ps_ost (f := fld) e1 (e2 pn2))
    have hz1 : (Str.empty ++ pre).length ≤ 1000 := by
      rw [Str.length_append, show Str.empty.length = 0 from rfl]
      omega
    refine ks_wpAt_execs_cons (ks_wpAt_mono (wp_super (X := ncx (L2N.CX P w) P w K mg base ["self", at_, "__class__"] F f A outer s H E) (q := fun H' => H' = H) T S I ha hN0 rfl ea rfl rfl rfl hsf hsup hkc hka hi rfl ⟨_, he _⟩ rfl rfl ?_) (fun fl s' z => ?_) fun _ _ z => z)
    · refine ⟨pre, rfl, by rw [sizeLine_eq]; omega, ?_⟩
      refine ⟨y, rfl, ?_⟩
      refine ⟨hf, fun m hm => ⟨m, rfl, ?_, ?_⟩⟩
      · rw [Str.length_append, sizeLine_eq]
        omega
      · exact ⟨by show 1 ≤ 1000; decide, ea, rfl⟩
    · obtain ⟨rfl, H', J, rfl⟩ := z
      refine wpAt_of_wpAny (hrest.run [] s' _ H' _ J ?_)
      refine ⟨y, rfl, .ref a, rfl, a, C, rfl, T, hno, .inl ⟨ea, fun dx n ne => ?_⟩⟩
      exact k dx n ne
structure CalXT (P : Program) (w : World) (K : PySem.W.Frag) (mg : Str → Option Value) (base : Heap) (x : Str) (C : Addr) (fld : Str) : Prop where
  ex : ∃ fI fd ps, OexC K C ∧ PySem.W.findIn K (.ref C) "__init__" = some (some (.ref fI)) ∧ PySem.W.typeIn K (.ref fI) = some (.type "function") ∧ FnOk P w K mg base (L2N.CX P w) 1 fI fd ps (spXT K C fld) ∧ Binds K fd ps [] ∧ mg x = some (.ref C)
def flatD1 : Dat → Bool
  | .non => true
  | .int i => decide (i.natAbs.log2 < 1920)
  | .str z => decide (z.length ≤ 500 ∧ ∀ c ∈ z.cps.toList, c < 16 ^ 8)
  | _ => false
def flatD : Dat → Bool
  | .tup ds => decide (ds.length ≤ 8) && ds.all flatD1
  | _ => false
section
variable {K : PySem.W.Frag} {T : Nat → Addr}
theorem flat_ofL {G : Hp} : ∀ {vs : List V} {ds : List Dat}, RepL K T G vs ds → ds.all flatD1 = true → ∀ v ∈ vs, flatV v
  | [], _, _, _ => fun v h => by cases h
  | x :: vs, _, .cons (d := d) (ds := ds) r1 r2, h => fun v hv => by
    rw [List.all_cons, Bool.and_eq_true] at h
    rcases List.mem_cons.mp hv with rfl | hv
    · cases r1 <;> first | exact .inl rfl | exact .inr (.inl ⟨_, rfl, of_decide_eq_true h.1⟩) | exact .inr (.inr ⟨_, rfl, of_decide_eq_true h.1⟩) | exact nomatch h.1
    · exact flat_ofL r2 h.2 v hv
theorem flat_of {G H : Hp} (e : Ex G H) {v : V} {d : Dat} (r : Rep K T G v d) (h : flatD d = true) : flatT K H v := by
  cases r with
  | @tup a vs ds hs rl =>
    unfold flatD at h
    rw [Bool.and_eq_true] at h
    exact ⟨a, vs, rfl, ex_t e hs, by rw [rl.length]; exact of_decide_eq_true h.1, flat_ofL rl h.2⟩
  | _ => cases h
def CS.raiseT (c : Nat) (fld : Str) (a : CE K T) : CS K T := ⟨fun W D σ H => tMkO (T c) (spXT K (T c) fld) [] (tCons (a.te W) tNil) σ H fun cls d H' => W cls d σ H',
  fun Γ => (a.ev Γ).st Γ fun x => if flatD x = true then .exn Γ c [(fld, x)] else .bad, fun W D G0 H0 G H σ Γ s =>
  Hd.st (k := fun v H1 => ([v] : List V).length ≤ 1000 ∧ ∀ e, H1 e = none → spXT K (T c) fld [.ref e, v] (upd H1 e (exo e (T c) none)) (fun u H2 => u = .non ∧ ∃ (d : Addr) (fs : List (Str × V)), H2 e = some (exo e (T c) (some d)) ∧ H2 d = some (exd d fs) ∧ H1 d = none ∧ W (.ref (T c)) (some d) σ (upd (del H2 e) d (.xd fs))) (fun _ _ _ => False))
    s (a.ok W [] G0 H0 G H σ Γ s) fun v d G1 H1 w r _ => by
    split
    · next hf =>
      intro q
      refine ⟨by show 1 ≤ 1000; decide, fun e ne => ⟨e, v, rfl, upd_same, flat_of (w.gh.trans (Ex.new ne)) r hf, fun dx n dne => ⟨rfl, dx, [(fld, v)], upd_same, ?_, ?_, ?_⟩⟩⟩
      · rw [upd_ne dne, upd_same]
      · rw [upd_ne dne] at n
        exact n
      · rw [upd_ne dne] at n
        have eh : upd (del (upd (upd (upd H1 e (exo e (T c) none)) dx (exd dx [(fld, v)])) e (exo e (T c) (some dx))) e) dx (.xd [(fld, v)]) = upd H1 dx (.xd [(fld, v)]) := by
          funext b
          by_cases hb : b = dx
          · rw [hb, upd_same, upd_same]
          · rw [upd_ne hb, upd_ne hb]
            by_cases he : b = e
            · rw [he, del_same, ne]
            · rw [del_ne he, upd_ne he, upd_ne hb, upd_ne he]
        rw [eh]
        have g1 := Grow.new (o := .xd [(fld, v)]) w.gh n
        exact q _ _ _ _ σ g1.g ((s.grow w).grow g1) ⟨rfl, .inr ⟨dx, _, rfl, upd_same, .cons (r.mono g1.g) .nil⟩⟩
    · trivial⟩
theorem d_raiseT {X : Cx} {W : WX} {x : Str} {c : Nat} {fld : Str} {e : Expr} {ce : CE K T} {p pos pos2 : Pos} (C : CalXT X.prog X.w K X.mg X.base x (T c) fld) (hK : X.K = K) (hc : X.calm = true) (tk : L2N.Takes X W) (hr : Room 2 X.A) (he : PE X e (ce.te W))
    (hg : Gl X x := by rfl) (hdb : (x == ("__debug__" : Str)) = false := by decide) (hst : starEach [e] X.env = (false, eval e X.env) :: starEach [] X.env := by rfl) (hpl : (backTo pos (starEach [] X.env)).any (·.1) = false := by rfl) :
    PS X (.Raise (some (.Call (.Name x p) [e] [] pos)) none pos2) ((CS.raiseT c fld ce).ts W) := by
  subst hK
  obtain ⟨fI, fd, ps, T1, iC, tI, F1, hb, hm⟩ := C.ex
  exact L2N.ps_raise hc tk (pmk_oexN (ds := []) (dvs := []) T1 iC tI F1 hr hb .nil (fun _ _ _ _ _ _ _ h => by
    obtain ⟨_, _, _, _, _, _, _, _, _, _, _, _, z⟩ := h
    exact z.elim) hg hm (pa_cons he pa_nil (by exact hst)) hdb hst hpl)

@[simp] theorem ev_CS_raiseT (c : Nat) (fld : Str) (a : CE K T) (Γ : Gam) : (CS.raiseT c fld a : CS K T).ev Γ = (a.ev Γ).st Γ fun x => if flatD x = true then .exn Γ c [(fld, x)] else .bad := rfl
end
end Cz

set_option Elab.async false
set_option linter.all false
set_option maxRecDepth 100000
set_option maxHeartbeats 4000000
namespace My
open PySem L2 Evl PySem.Spec PyProof.Rows Cz
def sb_SureError : Nat → Option Bool
  | 0 => some true
  | 1 => some true
  | 2 => some true
  | 3 => some true
  | 4 => some true
  | 5 => some true
  | 6 => some true
  | 7 => some true
  | 8 => some true
  | 9 => some true
  | 10 => some true
  | 11 => some true
  | 12 => some true
  | _ => none
def sb_InvalidFate : Nat → Option Bool
  | 0 => some true
  | 1 => some false
  | 2 => some false
  | 3 => some false
  | 4 => some false
  | 5 => some false
  | 6 => some false
  | 7 => some false
  | 8 => some false
  | 9 => some false
  | 10 => some false
  | 11 => some false
  | 12 => some false
  | _ => none
def sb_InvalidEnd : Nat → Option Bool
  | 0 => some false
  | 1 => some true
  | 2 => some false
  | 3 => some false
  | 4 => some false
  | 5 => some false
  | 6 => some false
  | 7 => some false
  | 8 => some false
  | 9 => some false
  | 10 => some false
  | 11 => some false
  | 12 => some false
  | _ => none
def sb_InvalidBit : Nat → Option Bool
  | 0 => some false
  | 1 => some false
  | 2 => some true
  | 3 => some false
  | 4 => some false
  | 5 => some false
  | 6 => some false
  | 7 => some false
  | 8 => some false
  | 9 => some false
  | 10 => some false
  | 11 => some false
  | 12 => some false
  | _ => none
def sb_InvalidCount : Nat → Option Bool
  | 0 => some false
  | 1 => some false
  | 2 => some false
  | 3 => some true
  | 4 => some false
  | 5 => some false
  | 6 => some false
  | 7 => some false
  | 8 => some false
  | 9 => some false
  | 10 => some false
  | 11 => some false
  | 12 => some false
  | _ => none
def sb_InvalidRule : Nat → Option Bool
  | 0 => some false
  | 1 => some false
  | 2 => some false
  | 3 => some false
  | 4 => some true
  | 5 => some false
  | 6 => some false
  | 7 => some false
  | 8 => some false
  | 9 => some false
  | 10 => some false
  | 11 => some false
  | 12 => some false
  | _ => none
def sb_InvalidState : Nat → Option Bool
  | 0 => some false
  | 1 => some false
  | 2 => some false
  | 3 => some false
  | 4 => some false
  | 5 => some true
  | 6 => some false
  | 7 => some false
  | 8 => some false
  | 9 => some false
  | 10 => some false
  | 11 => some false
  | 12 => some false
  | _ => none
def sb_InvalidNotation : Nat → Option Bool
  | 0 => some false
  | 1 => some false
  | 2 => some false
  | 3 => some false
  | 4 => some false
  | 5 => some false
  | 6 => some true
  | 7 => some false
  | 8 => some false
  | 9 => some false
  | 10 => some false
  | 11 => some false
  | 12 => some false
  | _ => none
def sb_OutOfChain : Nat → Option Bool
  | 0 => some false
  | 1 => some false
  | 2 => some false
  | 3 => some false
  | 4 => some false
  | 5 => some false
  | 6 => some false
  | 7 => some true
  | 8 => some false
  | 9 => some false
  | 10 => some false
  | 11 => some false
  | 12 => some false
  | _ => none
def sb_NeverSeen : Nat → Option Bool
  | 0 => some false
  | 1 => some false
  | 2 => some false
  | 3 => some false
  | 4 => some false
  | 5 => some false
  | 6 => some false
  | 7 => some false
  | 8 => some true
  | 9 => some false
  | 10 => some false
  | 11 => some false
  | 12 => some false
  | _ => none
def sb_Unmatched : Nat → Option Bool
  | 0 => some false
  | 1 => some false
  | 2 => some false
  | 3 => some false
  | 4 => some false
  | 5 => some false
  | 6 => some false
  | 7 => some false
  | 8 => some false
  | 9 => some true
  | 10 => some false
  | 11 => some false
  | 12 => some false
  | _ => none
def sb_CannotDecide : Nat → Option Bool
  | 0 => some false
  | 1 => some false
  | 2 => some false
  | 3 => some false
  | 4 => some false
  | 5 => some false
  | 6 => some false
  | 7 => some false
  | 8 => some false
  | 9 => some false
  | 10 => some true
  | 11 => some false
  | 12 => some false
  | _ => none
def sb_NoChain : Nat → Option Bool
  | 0 => some false
  | 1 => some false
  | 2 => some false
  | 3 => some false
  | 4 => some false
  | 5 => some false
  | 6 => some false
  | 7 => some false
  | 8 => some false
  | 9 => some false
  | 10 => some false
  | 11 => some true
  | 12 => some false
  | _ => none
def sb_NotClosed : Nat → Option Bool
  | 0 => some false
  | 1 => some false
  | 2 => some false
  | 3 => some false
  | 4 => some false
  | 5 => some false
  | 6 => some false
  | 7 => some false
  | 8 => some false
  | 9 => some false
  | 10 => some false
  | 11 => some false
  | 12 => some true
  | _ => none
def sb_ValueError : Nat → Option Bool
  | 0 => some true
  | 1 => some true
  | 2 => some true
  | 3 => some true
  | 4 => some true
  | 5 => some true
  | 6 => some true
  | 7 => some true
  | 8 => some true
  | 9 => some true
  | 10 => some true
  | 11 => some true
  | 12 => some true
  | _ => none
def topS (i : Nat) : Stmt := PySem.Challenge.pw_bothsure_k00_errors_and_their_fields.main.body.getD i (.Pass ⟨0, 0, 0, 0⟩)
structure Fc (K : PySem.W.Frag) (T : Nat → Addr) (mg : Str → Option Value) : Prop where
  mSureError : ∀ c b, sb_SureError c = some b → PySem.W.exmOne K (.ref (T c)) (.ref (T 13)) = some b
  gSureError : mg "SureError" = some (.ref (T 13))
  kInvalidFate : ∀ c b, sb_InvalidFate c = some b → PySem.W.kitOne K (.ref (T c)) (.ref (T 0)) = some b
  ecInvalidFate : ∀ c b, sb_InvalidFate c = some b → ExcC K (T c)
  mInvalidFate : ∀ c b, sb_InvalidFate c = some b → PySem.W.exmOne K (.ref (T c)) (.ref (T 0)) = some b
  gInvalidFate : mg "InvalidFate" = some (.ref (T 0))
  xInvalidFate : XfC K (T 0)
  nInvalidFate_at : PySem.W.findIn K (.ref (T 0)) "at" = some none
  kInvalidEnd : ∀ c b, sb_InvalidEnd c = some b → PySem.W.kitOne K (.ref (T c)) (.ref (T 1)) = some b
  ecInvalidEnd : ∀ c b, sb_InvalidEnd c = some b → ExcC K (T c)
  mInvalidEnd : ∀ c b, sb_InvalidEnd c = some b → PySem.W.exmOne K (.ref (T c)) (.ref (T 1)) = some b
  gInvalidEnd : mg "InvalidEnd" = some (.ref (T 1))
  xInvalidEnd : XfC K (T 1)
  nInvalidEnd_end : PySem.W.findIn K (.ref (T 1)) "end" = some none
  kInvalidBit : ∀ c b, sb_InvalidBit c = some b → PySem.W.kitOne K (.ref (T c)) (.ref (T 2)) = some b
  ecInvalidBit : ∀ c b, sb_InvalidBit c = some b → ExcC K (T c)
  mInvalidBit : ∀ c b, sb_InvalidBit c = some b → PySem.W.exmOne K (.ref (T c)) (.ref (T 2)) = some b
  gInvalidBit : mg "InvalidBit" = some (.ref (T 2))
  xInvalidBit : XfC K (T 2)
  nInvalidBit_bit : PySem.W.findIn K (.ref (T 2)) "bit" = some none
  kInvalidCount : ∀ c b, sb_InvalidCount c = some b → PySem.W.kitOne K (.ref (T c)) (.ref (T 3)) = some b
  ecInvalidCount : ∀ c b, sb_InvalidCount c = some b → ExcC K (T c)
  mInvalidCount : ∀ c b, sb_InvalidCount c = some b → PySem.W.exmOne K (.ref (T c)) (.ref (T 3)) = some b
  gInvalidCount : mg "InvalidCount" = some (.ref (T 3))
  xInvalidCount : XfC K (T 3)
  nInvalidCount_amount : PySem.W.findIn K (.ref (T 3)) "amount" = some none
  kInvalidRule : ∀ c b, sb_InvalidRule c = some b → PySem.W.kitOne K (.ref (T c)) (.ref (T 4)) = some b
  ecInvalidRule : ∀ c b, sb_InvalidRule c = some b → ExcC K (T c)
  mInvalidRule : ∀ c b, sb_InvalidRule c = some b → PySem.W.exmOne K (.ref (T c)) (.ref (T 4)) = some b
  gInvalidRule : mg "InvalidRule" = some (.ref (T 4))
  xInvalidRule : XfC K (T 4)
  nInvalidRule_state : PySem.W.findIn K (.ref (T 4)) "state" = some none
  kInvalidState : ∀ c b, sb_InvalidState c = some b → PySem.W.kitOne K (.ref (T c)) (.ref (T 5)) = some b
  ecInvalidState : ∀ c b, sb_InvalidState c = some b → ExcC K (T c)
  mInvalidState : ∀ c b, sb_InvalidState c = some b → PySem.W.exmOne K (.ref (T c)) (.ref (T 5)) = some b
  gInvalidState : mg "InvalidState" = some (.ref (T 5))
  xInvalidState : XfC K (T 5)
  nInvalidState_state : PySem.W.findIn K (.ref (T 5)) "state" = some none
  kInvalidNotation : ∀ c b, sb_InvalidNotation c = some b → PySem.W.kitOne K (.ref (T c)) (.ref (T 6)) = some b
  ecInvalidNotation : ∀ c b, sb_InvalidNotation c = some b → ExcC K (T c)
  mInvalidNotation : ∀ c b, sb_InvalidNotation c = some b → PySem.W.exmOne K (.ref (T c)) (.ref (T 6)) = some b
  gInvalidNotation : mg "InvalidNotation" = some (.ref (T 6))
  xInvalidNotation : XfC K (T 6)
  nInvalidNotation_line : PySem.W.findIn K (.ref (T 6)) "line" = some none
  kOutOfChain : ∀ c b, sb_OutOfChain c = some b → PySem.W.kitOne K (.ref (T c)) (.ref (T 7)) = some b
  ecOutOfChain : ∀ c b, sb_OutOfChain c = some b → ExcC K (T c)
  mOutOfChain : ∀ c b, sb_OutOfChain c = some b → PySem.W.exmOne K (.ref (T c)) (.ref (T 7)) = some b
  gOutOfChain : mg "OutOfChain" = some (.ref (T 7))
  xOutOfChain : XfC K (T 7)
  nOutOfChain_position : PySem.W.findIn K (.ref (T 7)) "position" = some none
  kNeverSeen : ∀ c b, sb_NeverSeen c = some b → PySem.W.kitOne K (.ref (T c)) (.ref (T 8)) = some b
  ecNeverSeen : ∀ c b, sb_NeverSeen c = some b → ExcC K (T c)
  mNeverSeen : ∀ c b, sb_NeverSeen c = some b → PySem.W.exmOne K (.ref (T c)) (.ref (T 8)) = some b
  gNeverSeen : mg "NeverSeen" = some (.ref (T 8))
  xNeverSeen : XfC K (T 8)
  nNeverSeen_wrong_view : PySem.W.findIn K (.ref (T 8)) "wrong_view" = some none
  kUnmatched : ∀ c b, sb_Unmatched c = some b → PySem.W.kitOne K (.ref (T c)) (.ref (T 9)) = some b
  ecUnmatched : ∀ c b, sb_Unmatched c = some b → ExcC K (T c)
  gUnmatched : mg "Unmatched" = some (.ref (T 9))
  kCannotDecide : ∀ c b, sb_CannotDecide c = some b → PySem.W.kitOne K (.ref (T c)) (.ref (T 10)) = some b
  ecCannotDecide : ∀ c b, sb_CannotDecide c = some b → ExcC K (T c)
  gCannotDecide : mg "CannotDecide" = some (.ref (T 10))
  kNoChain : ∀ c b, sb_NoChain c = some b → PySem.W.kitOne K (.ref (T c)) (.ref (T 11)) = some b
  ecNoChain : ∀ c b, sb_NoChain c = some b → ExcC K (T c)
  gNoChain : mg "NoChain" = some (.ref (T 11))
  kNotClosed : ∀ c b, sb_NotClosed c = some b → PySem.W.kitOne K (.ref (T c)) (.ref (T 12)) = some b
  ecNotClosed : ∀ c b, sb_NotClosed c = some b → ExcC K (T c)
  gNotClosed : mg "NotClosed" = some (.ref (T 12))
  kValueError : ∀ c b, sb_ValueError c = some b → PySem.W.kitOne K (.ref (T c)) (.type "ValueError") = some b
  ecValueError : ∀ c b, sb_ValueError c = some b → ExcC K (T c)

def tabSWAPPED : List (Str × Dat) := [("b", .str "b"), ("f", .str "s"), ("s", .str "f"), ("n", .str "n")]
/-! ### check_fates -/
abbrev s_check_fates : Stmt := topS 18
abbrev sc_check_fates_N : List Str := ["fates", "at", "fate"]
theorem sc_check_fates : FnScope sc_check_fates_N ["fates"] (defScope s_check_fates) := ⟨rfl, rfl, rfl, by decide +kernel, rfl, by decide +kernel, by decide +kernel⟩
def b_check_fates_0 (K : PySem.W.Frag) (T : Nat → Addr) (w : World) (mg : Str → Option Value) : CS K T := (.ifs (.test (.op2 oNotInS (.var 2) (.str "bfsn"))) (.raise 0 "at" (.var 1)) .pass)
def c_check_fates (K : PySem.W.Frag) (T : Nat → Addr) (w : World) (mg : Str → Option Value) : CS K T := (.forS (CI.enumS (.cons (.var 0) .nil)) (CG.tup 2 (.cons (CG.name 1) (.cons (CG.name 2) .nil))) (b_check_fates_0 K T w mg))
def P_check_fates : List Dat → Rs Dat
  | [.str x] => if x.length ≤ lim then (match badAt x.cps.toList with | none => .ok .non | some k => .exn 0 [("at", .int (k : Nat))]) else .bad
  | _ => .bad
theorem turn_check_fates (K : PySem.W.Frag) (T : Nat → Addr) (w : World) (mg : Str → Option Value) (l : List Nat) (i : Nat) (hi : i < l.length) (h : isF l[i] = true) (a b : Cz.Slot) (d : Dat) (hd : (enumS (mkS l))[i]? = some d) :
    ∃ Γ1 Γ2, (CG.tup 2 (.cons (CG.name 1) (.cons (CG.name 2) .nil)) : CG K T).ev d [.d (.str (mkS l)), a, b] = some Γ1 ∧ (b_check_fates_0 K T w mg).ev Γ1 = .nx Γ2 ∧ Γ2 = [.d (.str (mkS l)), .d (.int i), .d (.str (mkS [l[i]]))] := by
  unfold enumS at hd
  rw [List.getElem?_map, List.getElem?_range (by simpa [mkS] using hi)] at hd
  have hx : (mkS l).cps.getD i 0 = l[i] := by simp [mkS, Array.getD_eq_getD_getElem?, hi]
  simp only [Option.map_some, hx, Option.some.injEq] at hd
  subst hd
  have hm : l[i] = 98 ∨ l[i] = 102 ∨ l[i] = 115 ∨ l[i] = 110 := of_decide_eq_true h
  refine ⟨_, [.d (.str (mkS l)), .d (.int i), .d (.str (mkS [l[i]]))], rfl, ?_, rfl⟩
  simp [b_check_fates_0, one_mkS, bfsn_is, hm]
theorem stop_check_fates (K : PySem.W.Frag) (T : Nat → Addr) (w : World) (mg : Str → Option Value) (l : List Nat) (i : Nat) (hi : i < l.length) (h : isF l[i] = false) (hl : l.length ≤ lim) (a b : Cz.Slot) (d : Dat) (hd : (enumS (mkS l))[i]? = some d) :
    ∃ Γ1, (CG.tup 2 (.cons (CG.name 1) (.cons (CG.name 2) .nil)) : CG K T).ev d [.d (.str (mkS l)), a, b] = some Γ1 ∧ (b_check_fates_0 K T w mg).ev Γ1 = .exn [.d (.str (mkS l)), .d (.int i), .d (.str (mkS [l[i]]))] 0 [("at", .int (i : Nat))] := by
  unfold enumS at hd
  rw [List.getElem?_map, List.getElem?_range (by simpa [mkS] using hi)] at hd
  have hx : (mkS l).cps.getD i 0 = l[i] := by simp [mkS, Array.getD_eq_getD_getElem?, hi]
  simp only [Option.map_some, hx, Option.some.injEq] at hd
  subst hd
  have hm : ¬ (l[i] = 98 ∨ l[i] = 102 ∨ l[i] = 115 ∨ l[i] = 110) := of_decide_eq_false h
  have hf : fitD (.int (i : Nat)) = true := fit_nat (by unfold lim at hl; omega)
  refine ⟨_, rfl, ?_⟩
  simp [b_check_fates_0, one_mkS, bfsn_is, hm, hf]
theorem e_check_fates (K : PySem.W.Frag) (T : Nat → Addr) (w : World) (mg : Str → Option Value) : ∀ ds, P_check_fates ds ≠ .bad → runF (c_check_fates K T w mg) sc_check_fates_N.length ds = P_check_fates ds := by
  intro ds hb
  unfold P_check_fates at hb ⊢
  split at hb
  · next x =>
    split at hb
    · next hl =>
      obtain ⟨l, rfl⟩ : ∃ l, x = mkS l := ⟨_, (mkS_of x).symm⟩
      rw [mkS_len] at hl
      have hn : (enumS (mkS l)).length = l.length := by simp [enumS, mkS]
      have e0 : ∀ r, (evFor (CG.tup 2 (.cons (CG.name 1) (.cons (CG.name 2) .nil)) : CG K T).ev (b_check_fates_0 K T w mg).ev (enumS (mkS l)) [.d (.str (mkS l)), .un, .un] = r) → (c_check_fates K T w mg).ev [.d (.str (mkS l)), .un, .un] = r := fun r hr => by
        simp only [c_check_fates, ev_CS_forS, ev_CI_enumS, ev_CA_cons, ev_CE_var, ev_CA_nil]
        exact hr
      have ei : [Dat.str (mkS l)].map Slot.d ++ List.replicate (sc_check_fates_N.length - [Dat.str (mkS l)].length) Slot.un = [.d (.str (mkS l)), .un, .un] := rfl
      rw [mkS_list, mkS_len, if_pos hl]
      unfold runF
      rw [ei]
      cases hbad : badAt l with
      | none =>
        have hF := badAt_none.mp hbad
        obtain ⟨Γk, ⟨a, b, rfl⟩, e⟩ := evFor_drop (g := (CG.tup 2 (.cons (CG.name 1) (.cons (CG.name 2) .nil)) : CG K T).ev) (b := (b_check_fates_0 K T w mg).ev) (ds := enumS (mkS l)) (Γ := [.d (.str (mkS l)), .un, .un]) (fun _ Γ => ∃ a b, Γ = [.d (.str (mkS l)), a, b]) ⟨_, _, rfl⟩ (k := l.length) (by omega) (by
          rintro i d Γ hi hd ⟨a, b, rfl⟩
          obtain ⟨Γ1, Γ2, h1, h2, rfl⟩ := turn_check_fates K T w mg l i hi (decide_eq_true (hF _ (List.getElem_mem hi))) a b d hd
          exact ⟨Γ1, _, h1, .inl h2, _, _, rfl⟩)
        rw [List.drop_of_length_le (by omega)] at e
        rw [e0 _ e]
        rfl
      | some k =>
        obtain ⟨hk, hk1, hk2⟩ := badAt_some hbad
        obtain ⟨Γk, ⟨a, b, rfl⟩, e⟩ := evFor_drop (g := (CG.tup 2 (.cons (CG.name 1) (.cons (CG.name 2) .nil)) : CG K T).ev) (b := (b_check_fates_0 K T w mg).ev) (ds := enumS (mkS l)) (Γ := [.d (.str (mkS l)), .un, .un]) (fun _ Γ => ∃ a b, Γ = [.d (.str (mkS l)), a, b]) ⟨_, _, rfl⟩ (k := k) (by omega) (by
          rintro i d Γ hi hd ⟨a, b, rfl⟩
          obtain ⟨Γ1, Γ2, h1, h2, rfl⟩ := turn_check_fates K T w mg l i (by omega) (hk2 i hi) a b d hd
          exact ⟨Γ1, _, h1, .inl h2, _, _, rfl⟩)
        have hke : k < (enumS (mkS l)).length := by omega
        obtain ⟨Γ1, h1, h2⟩ := stop_check_fates K T w mg l k hk hk1 hl a b _ (List.getElem?_eq_getElem hke)
        rw [List.drop_eq_getElem_cons hke, evFor_cons, h1] at e
        simp only [h2] at e
        rw [e0 _ e]
    · exact absurd rfl hb
  · exact absurd rfl hb
theorem ok_check_fates {P : Program} {w : World} {K : PySem.W.Frag} {mg : Str → Option Value} {base : Heap} {T : Nat → Addr} {gvFATES : Value} {f : Addr} {fd : FuncData} (B : Blt mg) (F : Fun K "check_fates" "check_fates" s_check_fates f fd) (X_InvalidFate : CalX P w K mg base "InvalidFate" (T 0) "at") (gFATES : mg "FATES" = some gvFATES ∧ RelV (.str "bfsn") gvFATES) : FnOk P w K mg base (L2N.CX P w) 3 f fd ["fates"] (spF K T 1 P_check_fates) := by
  refine (ok_fn F sc_check_fates (c_check_fates K T w mg) fun cdv A outer s H E hr => ?_).imp (spF_le fun ds hl hb => e_check_fates K T w mg ds hb)
  · have tk : L2N.Takes (cxOf (L2N.CX P w) P w K mg base sc_check_fates_N "check_fates" (defScope s_check_fates) f cdv A outer s H E) (fun cls d _ H => E cls d H) := L2N.takes_of rfl rfl rfl rfl
    have hr2 : Room 2 _ := hr.mono (by decide)
    have hu64 := hr.units
    exact (d_one (d_for (passes_of rfl) (d_enumS B.enumerate_ (d_acons (d_var (i := 0)) d_anil)) (d_gtup rfl (d_gcons (d_name (i := 1) sc_check_fates.nd) (d_gcons (d_name (i := 2) sc_check_fates.nd) d_gnil))) (d_one (d_if (d_cmpT op_notIn_sign (d_var (i := 2)) (d_glob gFATES.1 gFATES.2) (by with_unfolding_all rfl)) (d_one (d_raise X_InvalidFate rfl rfl tk hr2 (d_var (i := 1)))) d_nil))))
/-! ### swap_fates -/
abbrev s_swap_fates : Stmt := topS 19
abbrev sc_swap_fates_N : List Str := ["fates", "fate"]
theorem sc_swap_fates : FnScope sc_swap_fates_N ["fates"] (defScope s_swap_fates) := ⟨rfl, rfl, rfl, by decide +kernel, rfl, by decide +kernel, by decide +kernel⟩
def c_swap_fates (K : PySem.W.Frag) (T : Nat → Addr) (w : World) (mg : Str → Option Value) (aSWAPPED : Addr) (tSWAPPED : mg "SWAPPED" = some (.ref aSWAPPED) ∧ ∀ z d, tabSWAPPED.lookup z = some d → ∃ v, KDct K w aSWAPPED z v ∧ ∀ G, Rep K T G v d) : CS K T := (.seq (.expr (.fn 1 P_check_fates (.cons (.var 0) .nil))) (.ret (.join (.str "") (CO.ce (CO.lc (CI.str (.var 0)) (CG.name 1) CT.yes (.kd w tabSWAPPED aSWAPPED tSWAPPED.2 (.var 1)))))))
def P_swap_fates : List Dat → Rs Dat
  | [.str x] => if x.length ≤ lim then (match badAt x.cps.toList with | none => .ok (.str (mkS (x.cps.toList.map swapC))) | some k => .exn 0 [("at", .int (k : Nat))]) else .bad
  | _ => .bad
theorem e_swap_fates (K : PySem.W.Frag) (T : Nat → Addr) (w : World) (mg : Str → Option Value) (aSWAPPED : Addr) (tSWAPPED : mg "SWAPPED" = some (.ref aSWAPPED) ∧ ∀ z d, tabSWAPPED.lookup z = some d → ∃ v, KDct K w aSWAPPED z v ∧ ∀ G, Rep K T G v d) : ∀ ds, P_swap_fates ds ≠ .bad → runF (c_swap_fates K T w mg aSWAPPED tSWAPPED) sc_swap_fates_N.length ds = P_swap_fates ds := by
  intro ds hb
  unfold P_swap_fates at hb ⊢
  split at hb
  · next x =>
    split at hb
    · next hl =>
      obtain ⟨l, rfl⟩ : ∃ l, x = mkS l := ⟨_, (mkS_of x).symm⟩
      rw [mkS_len] at hl
      rw [mkS_list, mkS_len, if_pos hl]
      cases hbad : badAt l with
      | none =>
        have hF := badAt_none.mp hbad
        have key : evLc (CG.name 1 : CG K T).ev (CT.yes : CT K T).ev (CE.kd w tabSWAPPED aSWAPPED tSWAPPED.2 (.var 1) : CE K T).ev [.d (.str (mkS l)), .un] (l.map fun c => Dat.str (mkS [c])) = .ok (l.map fun c => Dat.str (mkS [swapC c])) := by
          have := evLc_map (g := (CG.name 1 : CG K T).ev) (t := (CT.yes : CT K T).ev) (e := (CE.kd w tabSWAPPED aSWAPPED tSWAPPED.2 (.var 1) : CE K T).ev) (Γ := [.d (.str (mkS l)), .un])
            (fun d => match d with | .str x => .str (mkS (x.cps.toList.map swapC)) | d => d) (ds := l.map fun c => Dat.str (mkS [c])) (by
              intro d hd
              obtain ⟨c, hc, rfl⟩ := List.mem_map.mp hd
              refine ⟨_, rfl, rfl, ?_⟩
              rcases hF c hc with rfl | rfl | rfl | rfl <;> simp [tabSWAPPED] <;> rfl)
          rw [this]
          simp
        have hs : (l.map ((fun x : Str => x.length) ∘ fun c => mkS [swapC c])).sum ≤ 16777216 := by rw [sum_onesF]; unfold lim at hl; omega
        simp [runF, c_swap_fates, P_check_fates, hbad, wipeG, hl, key, Cz.strs_map, empty_is, hs, join_onesF]
      | some k => simp [runF, c_swap_fates, P_check_fates, hbad, hl]
    · exact absurd rfl hb
  · exact absurd rfl hb
theorem ok_swap_fates {P : Program} {w : World} {K : PySem.W.Frag} {mg : Str → Option Value} {base : Heap} {T : Nat → Addr} {f : Addr} {fd : FuncData} (B : Blt mg) (aSWAPPED : Addr) (tSWAPPED : mg "SWAPPED" = some (.ref aSWAPPED) ∧ ∀ z d, tabSWAPPED.lookup z = some d → ∃ v, KDct K w aSWAPPED z v ∧ ∀ G, Rep K T G v d) (F : Fun K "swap_fates" "swap_fates" s_swap_fates f fd) (C_check_fates : Cal P w K mg base "check_fates" 3 (spF K T 1 P_check_fates)) : FnOk P w K mg base (L2N.CX P w) 4 f fd ["fates"] (spF K T 1 P_swap_fates) := by
  refine (ok_fn F sc_swap_fates (c_swap_fates K T w mg aSWAPPED tSWAPPED) fun cdv A outer s H E hr => ?_).imp (spF_le fun ds hl hb => e_swap_fates K T w mg aSWAPPED tSWAPPED ds hb)
  · have tk : L2N.Takes (cxOf (L2N.CX P w) P w K mg base sc_swap_fates_N "swap_fates" (defScope s_swap_fates) f cdv A outer s H E) (fun cls d _ H => E cls d H) := L2N.takes_of rfl rfl rfl rfl
    have hr3 : Room 3 _ := hr.mono (by decide)
    have hu64 := hr.units
    exact (d_seq (d_expr (d_cal C_check_fates tk hr3 (d_acons (d_var (i := 0)) d_anil))) (d_one (d_ret (d_join d_str (d_ce (d_lc [("fate", 1)] rfl sc_swap_fates.nd (by show blkC sc_swap_fates_N (defScope s_swap_fates) _ _ = true; decide +kernel) (by exact (d_str_ (d_var (i := 0)))) (by exact fun _ _ _ _ _ => (d_name (i := 1) sc_swap_fates.nd)) (by exact fun _ _ _ _ _ => d_yes) (by exact fun _ _ _ _ _ => (d_kd tSWAPPED.1 (d_var (i := 1))))))))))
/-! ### _law_cell -/
abbrev s_Lcell : Stmt := topS 21
abbrev sc_Lcell_N : List Str := ["_law_script", "_law_k"]
theorem sc_Lcell : FnScope sc_Lcell_N ["_law_script", "_law_k"] (defScope s_Lcell) := ⟨rfl, rfl, rfl, by decide +kernel, rfl, by decide +kernel, by decide +kernel⟩
def c_Lcell (K : PySem.W.Frag) (T : Nat → Addr) (w : World) (mg : Str → Option Value) : CS K T := (.seq (.ifs (.test (.op2 oLt (.var 1) (.opN oLenQ (.cons (.var 0) .nil)))) (.ret (.op2 oIxL (.var 0) (.var 1))) .pass) (.ret (.int 0)))
def P_Lcell : List Dat → Rs Dat
  | [.lst ds, .int k] => if 0 ≤ k then .ok (ds.getD k.toNat (.int 0)) else .bad
  | _ => .bad
theorem P_cell (ns : List Int) {k : Int} (h : 0 ≤ k) : P_Lcell [.lst (ns.map .int), .int k] = .ok (.int (cellI ns k)) := by
  simp only [P_Lcell, h, if_true, cell_map, cellI]
theorem e_Lcell (K : PySem.W.Frag) (T : Nat → Addr) (w : World) (mg : Str → Option Value) : ∀ ds, P_Lcell ds ≠ .bad → runF (c_Lcell K T w mg) sc_Lcell_N.length ds = P_Lcell ds := by
  intro ds hb
  unfold P_Lcell at hb ⊢
  split at hb
  · next ds k =>
    split at hb
    · next h =>
      by_cases hk : k < ds.length
      · have e : ds[k.toNat]? = some ds[k.toNat] := List.getElem?_eq_getElem (by omega)
        simp [runF, c_Lcell, int2, oLenQ, oIxL, ixL, hk, h, atI_int h hk, e]
      · have e : ds[k.toNat]? = none := List.getElem?_eq_none (by omega)
        simp [runF, c_Lcell, int2, oLenQ, oIxL, ixL, hk, h, e]
    · exact absurd rfl hb
  · exact absurd rfl hb
theorem ok_Lcell {P : Program} {w : World} {K : PySem.W.Frag} {mg : Str → Option Value} {base : Heap} {T : Nat → Addr} {f : Addr} {fd : FuncData} (B : Blt mg) (F : Fun K "_law_cell" "_law_cell" s_Lcell f fd) : FnOk P w K mg base (L2N.CX P w) 1 f fd ["_law_script", "_law_k"] (spF K T 2 P_Lcell) := by
  refine (ok_fn F sc_Lcell (c_Lcell K T w mg) fun cdv A outer s H E hr => ?_).imp (spF_le fun ds hl hb => e_Lcell K T w mg ds hb)
  · have tk : L2N.Takes (cxOf (L2N.CX P w) P w K mg base sc_Lcell_N "_law_cell" (defScope s_Lcell) f cdv A outer s H E) (fun cls d _ H => E cls d H) := L2N.takes_of rfl rfl rfl rfl

    have hu64 := hr.units
    exact (d_seq (d_if (d_cmpT op_lt (d_var (i := 1)) (d_blt call_len_seq B.len_ (by decide +kernel) (d_acons (d_var (i := 0)) d_anil)) (nomark _)) (d_one (d_ret (d_ix ix_list (d_var (i := 0)) (d_var (i := 1))))) d_nil) (d_one (d_ret d_int)))
/-! ### _law_number -/
abbrev s_Lnumber : Stmt := topS 22
abbrev sc_Lnumber_N : List Str := ["_law_cell_here"]
theorem sc_Lnumber : FnScope sc_Lnumber_N ["_law_cell_here"] (defScope s_Lnumber) := ⟨rfl, rfl, rfl, by decide +kernel, rfl, by decide +kernel, by decide +kernel⟩
def c_Lnumber (K : PySem.W.Frag) (T : Nat → Addr) (w : World) (mg : Str → Option Value) : CS K T := (.seq (.ifs (.test (.op2 oGe (.var 0) (.op2 oPow (.int 10) (.int 18)))) (.ret (.op2 oSub (.op2 oMod (.opN oInt (.cons (.var 0) .nil)) (.op2 oMul (.int 2) (.op2 oPow (.int 10) (.int 59)))) (.op2 oPow (.int 10) (.int 59)))) .pass) (.ret (.op2 oSub (.op2 oMod (.opN oInt (.cons (.var 0) .nil)) (.int 200)) (.int 100))))
def numI (c : Int) : Int := if 1000000000000000000 ≤ c then c % (2 * 10 ^ 59) - 10 ^ 59 else c % 200 - 100
def P_Lnumber : List Dat → Rs Dat
  | [.int c] => .ok (.int (numI c))
  | _ => .bad
theorem e_Lnumber (K : PySem.W.Frag) (T : Nat → Addr) (w : World) (mg : Str → Option Value) : ∀ ds, P_Lnumber ds ≠ .bad → runF (c_Lnumber K T w mg) sc_Lnumber_N.length ds = P_Lnumber ds := by
  intro ds hb
  unfold P_Lnumber at hb ⊢
  split at hb
  · next c =>
    by_cases h : (1000000000000000000 : Int) ≤ c
    · simp [runF, c_Lnumber, numI, h]
    · simp [runF, c_Lnumber, numI, h]
  · exact absurd rfl hb
theorem ok_Lnumber {P : Program} {w : World} {K : PySem.W.Frag} {mg : Str → Option Value} {base : Heap} {T : Nat → Addr} {f : Addr} {fd : FuncData} (B : Blt mg) (F : Fun K "_law_number" "_law_number" s_Lnumber f fd) : FnOk P w K mg base (L2N.CX P w) 1 f fd ["_law_cell_here"] (spF K T 1 P_Lnumber) := by
  refine (ok_fn F sc_Lnumber (c_Lnumber K T w mg) fun cdv A outer s H E hr => ?_).imp (spF_le fun ds hl hb => e_Lnumber K T w mg ds hb)
  · have tk : L2N.Takes (cxOf (L2N.CX P w) P w K mg base sc_Lnumber_N "_law_number" (defScope s_Lnumber) f cdv A outer s H E) (fun cls d _ H => E cls d H) := L2N.takes_of rfl rfl rfl rfl

    have hu64 := hr.units
    exact (d_seq (d_if (d_cmpT op_ge (d_var (i := 0)) (d_bin op_pow d_int d_int) (nomark _)) (d_one (d_ret (d_bin op_sub (d_bin op_mod (d_typ call_int1 B.int_ (by decide +kernel) (d_acons (d_var (i := 0)) d_anil)) (d_bin op_mul d_int (d_bin op_pow d_int d_int))) (d_bin op_pow d_int d_int)))) d_nil) (d_one (d_ret (d_bin op_sub (d_bin op_mod (d_typ call_int1 B.int_ (by decide +kernel) (d_acons (d_var (i := 0)) d_anil)) d_int) d_int))))
/-! ### _law_draws -/
abbrev s_Ldraws : Stmt := topS 23
abbrev sc_Ldraws_N : List Str := ["_law_cell_here", "_law_many", "_law_base", "_law_draws_here", "_law_rest", "_law_k", "_law_mixed"]
theorem sc_Ldraws : FnScope sc_Ldraws_N ["_law_cell_here", "_law_many", "_law_base"] (defScope s_Ldraws) := ⟨rfl, rfl, rfl, by decide +kernel, rfl, by decide +kernel, by decide +kernel⟩
def b_Ldraws_0 (K : PySem.W.Frag) (T : Nat → Addr) (w : World) (mg : Str → Option Value) : CS K T := (.ifs (.test (.op2 oGe (.var 0) (.op2 oPow (.int 10) (.int 18)))) (.seq (.app 3 (.op2 oMod (.opN oInt (.cons (.var 4) .nil)) (.var 2))) (.set 4 (.op2 oDiv (.var 4) (.var 2)))) (.seq (.set 6 (.op2 oMod (.opN oInt (.cons (.op2 oAdd (.op2 oMul (.op2 oMod (.opN oInt (.cons (.var 0) .nil)) (.int 1000003)) (.int 7919)) (.op2 oMul (.op2 oMul (.op2 oAdd (.var 5) (.int 1)) (.op2 oAdd (.var 5) (.int 3))) (.int 1237))) .nil)) (.int 1000003))) (.app 3 (.op2 oMod (.opN oInt (.cons (.op2 oAdd (.var 6) (.op2 oDiv (.var 6) (.int 1009))) .nil)) (.var 2)))))
def c_Ldraws (K : PySem.W.Frag) (T : Nat → Addr) (w : World) (mg : Str → Option Value) : CS K T := (.seq (.setO 3 (CO.lst .nil)) (.seq (.set 4 (.var 0)) (.seq (.forS (CI.range1 (.cons (.var 1) .nil)) (CG.name 5) (b_Ldraws_0 K T w mg)) (.frz 3 (.ret (.var 3))))))
def P_Ldraws : List Dat → Rs Dat
  | [.int c, .int n, .int b] => if 0 < b ∧ b < 1073741824 ∧ 0 ≤ n ∧ n ≤ 99999 then .ok (.lst ((drawsI c n.toNat b).map .int)) else .bad
  | _ => .bad
theorem mix_Ldraws (K : PySem.W.Frag) (T : Nat → Addr) (w : World) (mg : Str → Option Value) (c n b k : Int) (o6 : Cz.Slot) (xs : List Dat) (h1 : 0 < b) (h2 : b < 1073741824) (hc2 : ¬ (1000000000000000000 : Int) ≤ c) (hx : xs.length < 100000)
    (b1 : -18446744073709551616 < c % 1000003 ∧ c % 1000003 < 18446744073709551616) (b2 : -18446744073709551616 < k + 1 ∧ k + 1 < 18446744073709551616) :
    (b_Ldraws_0 K T w mg).ev [.d (.int c), .d (.int n), .d (.int b), .ol xs, .d (.int c), .d (.int k), o6] = .nx [.d (.int c), .d (.int n), .d (.int b), .ol (xs ++ [.int ((mixZ c k + mixZ c k / 1009) % b)]), .d (.int c), .d (.int k), .d (.int (mixZ c k))] := by
  simp [b_Ldraws_0, hc2, lim, hx, h1, h2, b1, b2, mixZ]
theorem big_Ldraws (K : PySem.W.Frag) (T : Nat → Addr) (w : World) (mg : Str → Option Value) (c n b k r : Int) (o6 : Cz.Slot) (xs : List Dat) (h1 : 0 < b) (h2 : b < 1073741824) (hc2 : (1000000000000000000 : Int) ≤ c) (hx : xs.length < 100000) :
    (b_Ldraws_0 K T w mg).ev [.d (.int c), .d (.int n), .d (.int b), .ol xs, .d (.int r), .d (.int k), o6] = .nx [.d (.int c), .d (.int n), .d (.int b), .ol (xs ++ [.int (r % b)]), .d (.int (r / b)), .d (.int k), o6] := by
  simp [b_Ldraws_0, hc2, lim, hx, h1, h2]
theorem e_Ldraws (K : PySem.W.Frag) (T : Nat → Addr) (w : World) (mg : Str → Option Value) : ∀ ds, P_Ldraws ds ≠ .bad → runF (c_Ldraws K T w mg) sc_Ldraws_N.length ds = P_Ldraws ds := by
  intro ds hb
  unfold P_Ldraws at hb ⊢
  split at hb
  · next c n b =>
    split at hb
    · next h =>
      obtain ⟨h1, h2, h3, h4⟩ := h
      rw [if_pos ⟨h1, h2, h3, h4⟩]
      have hn : -(2 ^ 62) ≤ n ∧ n < 2 ^ 62 := by omega
      have hn2 : (-4611686018427387904 ≤ n ∧ n < 4611686018427387904) := by omega
      obtain ⟨Γ', q1, o5, o6, q2⟩ := evFor_inv0 (g := (CG.name 5 : CG K T).ev) (b := (b_Ldraws_0 K T w mg).ev) (ds := rangeD 0 n.toNat) (Γ := [.d (.int c), .d (.int n), .d (.int b), .ol [], .d (.int c), .un, .un])
        (fun i Γ => ∃ o5 o6, Γ = [.d (.int c), .d (.int n), .d (.int b), .ol ((drawsI c i b).map .int), .d (.int (if 10 ^ 18 ≤ c then c / b ^ i else c)), o5, o6]) ⟨.un, .un, by simp [drawsI]⟩ (by
          rintro i d Γ hd ⟨o5, o6, rfl⟩
          have hi : i < n.toNat := by
            have := (List.getElem?_eq_some_iff.mp hd).1
            simpa [rangeD] using this
          unfold rangeD at hd
          rw [List.getElem?_map, List.getElem?_range hi] at hd
          simp only [Option.map_some, Int.zero_add, Option.some.injEq] at hd
          subst hd
          have hl : i < 100000 := by omega
          have e : (drawsI c (i + 1) b).map Dat.int = (drawsI c i b).map Dat.int ++ [.int (drawI c b i)] := by
            simp [drawsI, List.range_succ]
          rw [e]
          by_cases hc : 10 ^ 18 ≤ c
          · have hd : drawI c b i = c / b ^ i % b := by
              unfold drawI
              rw [if_pos hc]
            have ep : c / b ^ (i + 1) = c / b ^ i / b := by rw [Int.pow_succ, Int.ediv_ediv_of_nonneg (Int.le_of_lt (Int.pow_pos h1))]
            rw [hd, if_pos hc, if_pos hc, ep]
            have hc2 : (1000000000000000000 : Int) ≤ c := by omega
            have hx2 : ((drawsI c i b).map Dat.int).length < 100000 := by rw [List.length_map, drawsI_len]; exact hl
            exact ⟨_, _, rfl, .inl (big_Ldraws K T w mg c n b (i : Int) (c / b ^ i) o6 ((drawsI c i b).map Dat.int) h1 h2 hc2 hx2), .d (.int i), o6, rfl⟩
          · have hd : drawI c b i = (mixZ c (i : Int) + mixZ c (i : Int) / 1009) % b := by
              unfold drawI
              rw [if_neg hc]
            rw [hd, if_neg hc]
            have hc2 : ¬ (1000000000000000000 : Int) ≤ c := by omega
            have b1 : -18446744073709551616 < c % 1000003 ∧ c % 1000003 < 18446744073709551616 := by omega
            have b2 : -18446744073709551616 < (i : Int) + 1 ∧ (i : Int) + 1 < 18446744073709551616 := by omega
            have hx2 : ((drawsI c i b).map Dat.int).length < 100000 := by rw [List.length_map, drawsI_len]; exact hl
            rw [if_neg hc]
            exact ⟨_, _, rfl, .inl (mix_Ldraws K T w mg c n b (i : Int) o6 ((drawsI c i b).map Dat.int) h1 h2 hc2 hx2 b1 b2), .d (.int i), .d (.int (mixZ c (i : Int))), rfl⟩)
      subst q2
      have e0 : (rangeD 0 n.toNat).length = n.toNat := by simp [rangeD]
      rw [e0] at q1
      simp [runF, c_Ldraws, hn2, q1, lim]
    · exact absurd rfl hb
  · exact absurd rfl hb
theorem ok_Ldraws {P : Program} {w : World} {K : PySem.W.Frag} {mg : Str → Option Value} {base : Heap} {T : Nat → Addr} {f : Addr} {fd : FuncData} (B : Blt mg) (F : Fun K "_law_draws" "_law_draws" s_Ldraws f fd) : FnOk P w K mg base (L2N.CX P w) 1 f fd ["_law_cell_here", "_law_many", "_law_base"] (spF K T 3 P_Ldraws) := by
  refine (ok_fn F sc_Ldraws (c_Ldraws K T w mg) fun cdv A outer s H E hr => ?_).imp (spF_le fun ds hl hb => e_Ldraws K T w mg ds hb)
  · have tk : L2N.Takes (cxOf (L2N.CX P w) P w K mg base sc_Ldraws_N "_law_draws" (defScope s_Ldraws) f cdv A outer s H E) (fun cls d _ H => E cls d H) := L2N.takes_of rfl rfl rfl rfl

    have hu64 := hr.units
    exact (d_seq (d_setO (i := 3) sc_Ldraws.nd (d_lst d_anil)) (d_seq (d_set (i := 4) sc_Ldraws.nd (d_var (i := 0))) (d_seq (d_for (passes_of rfl) (d_range1 B.range_ (d_acons (d_var (i := 1)) d_anil)) (d_name (i := 5) sc_Ldraws.nd) (d_one (d_if (d_cmpT op_ge (d_var (i := 0)) (d_bin op_pow d_int d_int) (nomark _)) (d_seq (d_app (i := 3) (d_bin op_mod (d_typ call_int1 B.int_ (by decide +kernel) (d_acons (d_var (i := 4)) d_anil)) (d_var (i := 2)))) (d_one (d_set (i := 4) sc_Ldraws.nd (d_bin op_fdiv (d_var (i := 4)) (d_var (i := 2)))))) (d_seq (d_set (i := 6) sc_Ldraws.nd (d_bin op_mod (d_typ call_int1 B.int_ (by decide +kernel) (d_acons (d_bin op_add (d_bin op_mul (d_bin op_mod (d_typ call_int1 B.int_ (by decide +kernel) (d_acons (d_var (i := 0)) d_anil)) d_int) d_int) (d_bin op_mul (d_bin op_mul (d_bin op_add (d_var (i := 5)) d_int) (d_bin op_add (d_var (i := 5)) d_int)) d_int)) d_anil)) d_int)) (d_one (d_app (i := 3) (d_bin op_mod (d_typ call_int1 B.int_ (by decide +kernel) (d_acons (d_bin op_add (d_var (i := 6)) (d_bin op_fdiv (d_var (i := 6)) d_int)) d_anil)) (d_var (i := 2))))))))) (d_one (d_frz (d_ret (d_var (i := 3))))))))
/-! ### _law_fates -/
abbrev s_Lfates : Stmt := topS 24
abbrev sc_Lfates_N : List Str := ["_law_cell_here", "_law_many", "_law_draw"]
theorem sc_Lfates : FnScope sc_Lfates_N ["_law_cell_here", "_law_many"] (defScope s_Lfates) := ⟨rfl, rfl, rfl, by decide +kernel, rfl, by decide +kernel, by decide +kernel⟩
def c_Lfates (K : PySem.W.Frag) (T : Nat → Addr) (w : World) (mg : Str → Option Value) : CS K T := (.ret (.join (.str "") (CO.ce (CO.lc (CI.list (.fn 3 P_Ldraws (.cons (.var 0) (.cons (.var 1) (.cons (.int 4) .nil))))) (CG.name 2) CT.yes (.op2 oIxS (.str "bfsn") (.var 2))))))
def P_Lfates : List Dat → Rs Dat
  | [.int c, .int n] => if 0 ≤ n ∧ n ≤ 99999 then .ok (.str (mkS (fatesI c n.toNat))) else .bad
  | _ => .bad
theorem e_Lfates (K : PySem.W.Frag) (T : Nat → Addr) (w : World) (mg : Str → Option Value) : ∀ ds, P_Lfates ds ≠ .bad → runF (c_Lfates K T w mg) sc_Lfates_N.length ds = P_Lfates ds := by
  intro ds hb
  unfold P_Lfates at hb ⊢
  split at hb
  · next c n =>
    split at hb
    · next h =>
      obtain ⟨h1, h2⟩ := h
      rw [if_pos ⟨h1, h2⟩]
      have key : evLc (CG.name 2 : CG K T).ev (CT.yes : CT K T).ev (CE.op2 oIxS (.str "bfsn") (.var 2) : CE K T).ev [.d (.int c), .d (.int n), .un] ((drawsI c n.toNat 4).map .int) = .ok ((drawsI c n.toNat 4).map fun d => Dat.str (mkS [fateC d])) := by
        have := evLc_map (g := (CG.name 2 : CG K T).ev) (t := (CT.yes : CT K T).ev) (e := (CE.op2 oIxS (.str "bfsn") (.var 2) : CE K T).ev) (Γ := [.d (.int c), .d (.int n), .un])
          (fun d => match d with | .int x => .str (mkS [fateC x]) | d => d) (ds := (drawsI c n.toNat 4).map .int) (by
            intro d hd
            obtain ⟨x, hx, rfl⟩ := List.mem_map.mp hd
            obtain ⟨k, hk, rfl⟩ := List.mem_map.mp hx
            refine ⟨_, rfl, rfl, ?_⟩
            have hr := drawI_range (c := c) (b := 4) (k := k) (by decide)
            generalize drawI c 4 k = x at hr
            have : x = 0 ∨ x = 1 ∨ x = 2 ∨ x = 3 := by omega
            rcases this with rfl | rfl | rfl | rfl <;> simp [bfsn_is] <;> rfl)
        rw [this]
        simp
      have hl : n.toNat ≤ 100000 := by omega
      have hs : ((drawsI c n.toNat 4).map ((fun x : Str => x.length) ∘ fun d => mkS [fateC d])).sum ≤ 16777216 := by rw [sum_onesF, drawsI_len]; omega
      simp [runF, c_Lfates, P_Ldraws, h1, h2, wipeG, lim, hl, key, strs_mapF, empty_is, hs, join_onesF]
      rfl
    · exact absurd rfl hb
  · exact absurd rfl hb
theorem ok_Lfates {P : Program} {w : World} {K : PySem.W.Frag} {mg : Str → Option Value} {base : Heap} {T : Nat → Addr} {f : Addr} {fd : FuncData} (B : Blt mg) (F : Fun K "_law_fates" "_law_fates" s_Lfates f fd) (C_Ldraws : Cal P w K mg base "_law_draws" 1 (spF K T 3 P_Ldraws)) : FnOk P w K mg base (L2N.CX P w) 2 f fd ["_law_cell_here", "_law_many"] (spF K T 2 P_Lfates) := by
  refine (ok_fn F sc_Lfates (c_Lfates K T w mg) fun cdv A outer s H E hr => ?_).imp (spF_le fun ds hl hb => e_Lfates K T w mg ds hb)
  · have tk : L2N.Takes (cxOf (L2N.CX P w) P w K mg base sc_Lfates_N "_law_fates" (defScope s_Lfates) f cdv A outer s H E) (fun cls d _ H => E cls d H) := L2N.takes_of rfl rfl rfl rfl
    have hr1 : Room 1 _ := hr.mono (by decide)
    have hu64 := hr.units
    exact (d_one (d_ret (d_join d_str (d_ce (d_lc [("_law_draw", 2)] rfl sc_Lfates.nd (by show blkC sc_Lfates_N (defScope s_Lfates) _ _ = true; decide +kernel) (by exact (d_list_ (d_cal C_Ldraws tk hr1 (d_acons (d_var (i := 0)) (d_acons (d_var (i := 1)) (d_acons d_int d_anil)))))) (by exact fun _ _ _ _ _ => (d_name (i := 2) sc_Lfates.nd)) (by exact fun _ _ _ _ _ => d_yes) (by exact fun _ _ _ _ _ => (d_ix ix_str d_str (d_var (i := 2)))))))))
/-! ### _law_integer -/
abbrev s_Linteger : Stmt := topS 25
abbrev sc_Linteger_N : List Str := ["_law_actual"]
theorem sc_Linteger : FnScope sc_Linteger_N ["_law_actual"] (defScope s_Linteger) := ⟨rfl, rfl, rfl, by decide +kernel, rfl, by decide +kernel, by decide +kernel⟩
def c_Linteger (K : PySem.W.Frag) (T : Nat → Addr) (w : World) (mg : Str → Option Value) : CS K T := (.ret (.and (.isiB "int" (.var 0)) (.not (.isiB "bool" (.var 0)))))
def P_Linteger : List Dat → Rs Dat
  | [.int _] => .ok (.bl true)
  | _ => .bad
theorem e_Linteger (K : PySem.W.Frag) (T : Nat → Addr) (w : World) (mg : Str → Option Value) : ∀ ds, P_Linteger ds ≠ .bad → runF (c_Linteger K T w mg) sc_Linteger_N.length ds = P_Linteger ds := by
  intro ds hb
  unfold P_Linteger at hb ⊢
  split at hb
  · next k =>
    have h1 : isiB "int" (.int k) = some true := by
      show kitB "int" "int" = some true
      decide +kernel
    have h2 : isiB "bool" (.int k) = some false := by
      show kitB "int" "bool" = some false
      decide +kernel
    simp [runF, c_Linteger, h1, h2]
  · exact absurd rfl hb
theorem ok_Linteger {P : Program} {w : World} {K : PySem.W.Frag} {mg : Str → Option Value} {base : Heap} {T : Nat → Addr} {f : Addr} {fd : FuncData} (B : Blt mg) (F : Fun K "_law_integer" "_law_integer" s_Linteger f fd) : FnOk P w K mg base (L2N.CX P w) 1 f fd ["_law_actual"] (spF K T 1 P_Linteger) := by
  refine (ok_fn F sc_Linteger (c_Linteger K T w mg) fun cdv A outer s H E hr => ?_).imp (spF_le fun ds hl hb => e_Linteger K T w mg ds hb)
  · have tk : L2N.Takes (cxOf (L2N.CX P w) P w K mg base sc_Linteger_N "_law_integer" (defScope s_Linteger) f cdv A outer s H E) (fun cls d _ H => E cls d H) := L2N.takes_of rfl rfl rfl rfl

    have hu64 := hr.units
    exact (d_one (d_ret (d_and (d_isiB B.isinstance_ B.int_ (by decide +kernel) (d_var (i := 0))) (d_oneB (d_not (d_isiB B.isinstance_ B.bool_ (by decide +kernel) (d_var (i := 0))))))))
/-! ### _law_raise -/
abbrev s_Lraise : Stmt := topS 26
abbrev sc_Lraise_N : List Str := ["_law_k", "_law_number_here", "_law_text"]
theorem sc_Lraise : FnScope sc_Lraise_N ["_law_k", "_law_number_here", "_law_text"] (defScope s_Lraise) := ⟨rfl, rfl, rfl, by decide +kernel, rfl, by decide +kernel, by decide +kernel⟩
def c_Lraise (K : PySem.W.Frag) (T : Nat → Addr) (w : World) (mg : Str → Option Value) : CS K T := (.seq (.ifs (.test (.op2 oEq (.var 0) (.int 0))) (.raise 0 "at" (.var 1)) .pass) (.seq (.ifs (.test (.op2 oEq (.var 0) (.int 1))) (.raise 1 "end" (.var 2)) .pass) (.seq (.ifs (.test (.op2 oEq (.var 0) (.int 2))) (.raise 2 "bit" (.var 1)) .pass) (.seq (.ifs (.test (.op2 oEq (.var 0) (.int 3))) (.raise 3 "amount" (.var 1)) .pass) (.seq (.ifs (.test (.op2 oEq (.var 0) (.int 4))) (.raise 4 "state" (.var 1)) .pass) (.seq (.ifs (.test (.op2 oEq (.var 0) (.int 5))) (.raise 5 "state" (.var 1)) .pass) (.seq (.ifs (.test (.op2 oEq (.var 0) (.int 6))) (.raise 6 "line" (.var 1)) .pass) (.seq (.ifs (.test (.op2 oEq (.var 0) (.int 7))) (.raise 7 "position" (.var 1)) .pass) (.seq (.ifs (.test (.op2 oEq (.var 0) (.int 8))) (.raiseT 8 "wrong_view" (.tup (.cons (.int 0) (.cons .non (.cons (.var 2) (.cons (.var 1) .nil)))))) .pass) (.seq (.ifs (.test (.op2 oEq (.var 0) (.int 9))) (.raise0 9) .pass) (.seq (.ifs (.test (.op2 oEq (.var 0) (.int 10))) (.raise0 10) .pass) (.seq (.ifs (.test (.op2 oEq (.var 0) (.int 11))) (.raise0 11) .pass) (.raise0 12)))))))))))))
/-- the field of the error with this mark -/
def excF (k : Int) (n : Int) (x : Str) : List (Str × Dat) :=
  if k = 0 then [("at", .int n)] else if k = 1 then [("end", .str x)] else if k = 2 then [("bit", .int n)] else if k = 3 then [("amount", .int n)] else if k = 4 then [("state", .int n)] else if k = 5 then [("state", .int n)]
  else if k = 6 then [("line", .int n)] else if k = 7 then [("position", .int n)] else if k = 8 then [("wrong_view", .tup [.int 0, .non, .str x, .int n])] else []
def okX (n : Int) (x : Str) : Prop := fitD (.int n) = true ∧ x.length ≤ 100 ∧ ∀ c ∈ x.cps.toList, c < 16 ^ 8
instance (n : Int) (x : Str) : Decidable (okX n x) := inferInstanceAs (Decidable (_ ∧ _ ∧ _))
def P_Lraise : List Dat → Rs Dat
  | [.int k, .int n, .str x] => if 0 ≤ k ∧ k ≤ 12 ∧ okX n x then .exn k.toNat (excF k n x) else .bad
  | _ => .bad
theorem e_Lraise (K : PySem.W.Frag) (T : Nat → Addr) (w : World) (mg : Str → Option Value) : ∀ ds, P_Lraise ds ≠ .bad → runF (c_Lraise K T w mg) sc_Lraise_N.length ds = P_Lraise ds := by
  intro ds hb
  unfold P_Lraise at hb ⊢
  split at hb
  · next k n x =>
    split at hb
    · next h =>
      rw [if_pos h]
      obtain ⟨h1, h2, h3, h4, h5⟩ := h
      have f1 : fitD (.str x) = true := decide_eq_true (Nat.le_trans h4 (by decide))
      have f2 : flatD (.tup [.int 0, .non, .str x, .int n]) = true := by
        have g1 : flatD1 (.int n) = true := h3
        have g2 : flatD1 (.str x) = true := decide_eq_true ⟨Nat.le_trans h4 (by decide), h5⟩
        have g3 : flatD1 (.int 0) = true := by decide +kernel
        have g4 : flatD1 .non = true := rfl
        unfold flatD
        simp only [List.all_cons, List.all_nil, g1, g2, g3, g4]
        rfl
      have : k = 0 ∨ k = 1 ∨ k = 2 ∨ k = 3 ∨ k = 4 ∨ k = 5 ∨ k = 6 ∨ k = 7 ∨ k = 8 ∨ k = 9 ∨ k = 10 ∨ k = 11 ∨ k = 12 := by omega
      rcases this with rfl | rfl | rfl | rfl | rfl | rfl | rfl | rfl | rfl | rfl | rfl | rfl | rfl <;> simp [runF, c_Lraise, excF, f1, f2, h3, lim]
    · exact absurd rfl hb
  · exact absurd rfl hb
theorem ok_Lraise {P : Program} {w : World} {K : PySem.W.Frag} {mg : Str → Option Value} {base : Heap} {T : Nat → Addr} {f : Addr} {fd : FuncData} (B : Blt mg) (F : Fun K "_law_raise" "_law_raise" s_Lraise f fd) (X_InvalidBit : CalX P w K mg base "InvalidBit" (T 2) "bit") (X_InvalidCount : CalX P w K mg base "InvalidCount" (T 3) "amount") (X_InvalidEnd : CalX P w K mg base "InvalidEnd" (T 1) "end") (X_InvalidFate : CalX P w K mg base "InvalidFate" (T 0) "at") (X_InvalidNotation : CalX P w K mg base "InvalidNotation" (T 6) "line") (X_InvalidRule : CalX P w K mg base "InvalidRule" (T 4) "state") (X_InvalidState : CalX P w K mg base "InvalidState" (T 5) "state") (X_NeverSeen : CalXT P w K mg base "NeverSeen" (T 8) "wrong_view") (X_OutOfChain : CalX P w K mg base "OutOfChain" (T 7) "position") (Y_CannotDecide : CalX0 K mg "CannotDecide" (T 10)) (Y_NoChain : CalX0 K mg "NoChain" (T 11)) (Y_NotClosed : CalX0 K mg "NotClosed" (T 12)) (Y_Unmatched : CalX0 K mg "Unmatched" (T 9)) : FnOk P w K mg base (L2N.CX P w) 3 f fd ["_law_k", "_law_number_here", "_law_text"] (spF K T 3 P_Lraise) := by
  refine (ok_fn F sc_Lraise (c_Lraise K T w mg) fun cdv A outer s H E hr => ?_).imp (spF_le fun ds hl hb => e_Lraise K T w mg ds hb)
  · have tk : L2N.Takes (cxOf (L2N.CX P w) P w K mg base sc_Lraise_N "_law_raise" (defScope s_Lraise) f cdv A outer s H E) (fun cls d _ H => E cls d H) := L2N.takes_of rfl rfl rfl rfl
    have hr2 : Room 2 _ := hr.mono (by decide)
    have hu64 := hr.units
    exact (d_seq (d_if (d_cmpT op_eq (d_var (i := 0)) d_int (nomark _)) (d_one (d_raise X_InvalidFate rfl rfl tk hr2 (d_var (i := 1)))) d_nil) (d_seq (d_if (d_cmpT op_eq (d_var (i := 0)) d_int (nomark _)) (d_one (d_raise X_InvalidEnd rfl rfl tk hr2 (d_var (i := 2)))) d_nil) (d_seq (d_if (d_cmpT op_eq (d_var (i := 0)) d_int (nomark _)) (d_one (d_raise X_InvalidBit rfl rfl tk hr2 (d_var (i := 1)))) d_nil) (d_seq (d_if (d_cmpT op_eq (d_var (i := 0)) d_int (nomark _)) (d_one (d_raise X_InvalidCount rfl rfl tk hr2 (d_var (i := 1)))) d_nil) (d_seq (d_if (d_cmpT op_eq (d_var (i := 0)) d_int (nomark _)) (d_one (d_raise X_InvalidRule rfl rfl tk hr2 (d_var (i := 1)))) d_nil) (d_seq (d_if (d_cmpT op_eq (d_var (i := 0)) d_int (nomark _)) (d_one (d_raise X_InvalidState rfl rfl tk hr2 (d_var (i := 1)))) d_nil) (d_seq (d_if (d_cmpT op_eq (d_var (i := 0)) d_int (nomark _)) (d_one (d_raise X_InvalidNotation rfl rfl tk hr2 (d_var (i := 1)))) d_nil) (d_seq (d_if (d_cmpT op_eq (d_var (i := 0)) d_int (nomark _)) (d_one (d_raise X_OutOfChain rfl rfl tk hr2 (d_var (i := 1)))) d_nil) (d_seq (d_if (d_cmpT op_eq (d_var (i := 0)) d_int (nomark _)) (d_one (d_raiseT X_NeverSeen rfl rfl tk hr2 (d_tup (d_acons d_int (d_acons d_non (d_acons (d_var (i := 2)) (d_acons (d_var (i := 1)) d_anil))))))) d_nil) (d_seq (d_if (d_cmpT op_eq (d_var (i := 0)) d_int (nomark _)) (d_one (d_raise0 Y_Unmatched rfl tk)) d_nil) (d_seq (d_if (d_cmpT op_eq (d_var (i := 0)) d_int (nomark _)) (d_one (d_raise0 Y_CannotDecide rfl tk)) d_nil) (d_seq (d_if (d_cmpT op_eq (d_var (i := 0)) d_int (nomark _)) (d_one (d_raise0 Y_NoChain rfl tk)) d_nil) (d_one (d_raise0 Y_NotClosed rfl tk))))))))))))))
/-! ### _law_kinds -/
abbrev s_Lkinds : Stmt := topS 27
abbrev sc_Lkinds_N : List Str := ["_law_k", "_law_number_here", "_law_text", "e", "_law_kinds_here"]
theorem sc_Lkinds : FnScope sc_Lkinds_N ["_law_k", "_law_number_here", "_law_text"] (defScope s_Lkinds) := ⟨rfl, rfl, rfl, by decide +kernel, rfl, by decide +kernel, by decide +kernel⟩
def y_Lkinds_0 (K : PySem.W.Frag) (T : Nat → Addr) (w : World) (mg : Str → Option Value) (fc : Fc K T mg) : CS K T := (.expr (.fn 3 P_Lraise (.cons (.var 0) (.cons (.var 1) (.cons (.var 2) .nil)))))
def u_Lkinds_0 (K : PySem.W.Frag) (T : Nat → Addr) (w : World) (mg : Str → Option Value) (fc : Fc K T mg) (a_ : Addr) (d_ : Option Addr) (c_ : Nat) : CS K T := (.seq (.setO 4 (CO.lst (.cons (.isX a_ d_ c_ 3 sb_InvalidFate (.ref (T 0))) (.cons (.isX a_ d_ c_ 3 sb_InvalidEnd (.ref (T 1))) (.cons (.isX a_ d_ c_ 3 sb_InvalidBit (.ref (T 2))) .nil))))) (.seq (.setO 4 (CO.addO 4 (CO.lst (.cons (.isX a_ d_ c_ 3 sb_InvalidCount (.ref (T 3))) (.cons (.isX a_ d_ c_ 3 sb_InvalidRule (.ref (T 4))) (.cons (.isX a_ d_ c_ 3 sb_InvalidState (.ref (T 5))) .nil)))))) (.seq (.setO 4 (CO.addO 4 (CO.lst (.cons (.isX a_ d_ c_ 3 sb_InvalidNotation (.ref (T 6))) (.cons (.isX a_ d_ c_ 3 sb_OutOfChain (.ref (T 7))) (.cons (.isX a_ d_ c_ 3 sb_NeverSeen (.ref (T 8))) .nil)))))) (.seq (.setO 4 (CO.addO 4 (CO.lst (.cons (.isX a_ d_ c_ 3 sb_Unmatched (.ref (T 9))) (.cons (.isX a_ d_ c_ 3 sb_CannotDecide (.ref (T 10))) (.cons (.isX a_ d_ c_ 3 sb_NoChain (.ref (T 11))) .nil)))))) (.ret (CO.ce (CO.addO 4 (CO.lst (.cons (.isX a_ d_ c_ 3 sb_NotClosed (.ref (T 12))) (.cons (.not (.isX a_ d_ c_ 3 sb_ValueError (.ty "ValueError"))) .nil))))))))))
def v_Lkinds_0 (K : PySem.W.Frag) (T : Nat → Addr) (w : World) (mg : Str → Option Value) (fc : Fc K T mg) : Nat → List (Str × Dat) → Gam → SRes := fun c fs Γ => wrapX 3 ((u_Lkinds_0 K T w mg fc 0 none c).ev (Γ.set 3 (.ex 0 none c fs)))
theorem hv_Lkinds_0 (K : PySem.W.Frag) (T : Nat → Addr) (w : World) (mg : Str → Option Value) (fc : Fc K T mg) : ∀ a d c fs Γ, wrapX 3 ((u_Lkinds_0 K T w mg fc a d c).ev (Γ.set 3 (.ex a d c fs))) = v_Lkinds_0 K T w mg fc c fs Γ := by
  intro a d c fs Γ
  unfold v_Lkinds_0 u_Lkinds_0
  by_cases h : 3 < Γ.length <;> simp [-ev_CS_seq, ev_CS_seqT, List.getElem?_set, h]
def c_Lkinds (K : PySem.W.Frag) (T : Nat → Addr) (w : World) (mg : Str → Option Value) (fc : Fc K T mg) : CS K T := (.seq (.tryE 13 3 sb_SureError fc.mSureError (y_Lkinds_0 K T w mg fc) (u_Lkinds_0 K T w mg fc) (v_Lkinds_0 K T w mg fc) (hv_Lkinds_0 K T w mg fc)) (.ret (CO.ce (CO.lst .nil))))
def kindsL (k : Int) : List Dat := (List.range 14).map fun (j : Nat) => .bl (decide ((j : Int) = k))
def P_Lkinds : List Dat → Rs Dat
  | [.int k, .int n, .str x] => if 0 ≤ k ∧ k ≤ 12 ∧ okX n x then .ok (.lst (kindsL k)) else .bad
  | _ => .bad
theorem e_Lkinds (K : PySem.W.Frag) (T : Nat → Addr) (w : World) (mg : Str → Option Value) (fc : Fc K T mg) : ∀ ds, P_Lkinds ds ≠ .bad → runF (c_Lkinds K T w mg fc) sc_Lkinds_N.length ds = P_Lkinds ds := by
  intro ds hb
  unfold P_Lkinds at hb ⊢
  split at hb
  · next k n x =>
    split at hb
    · next h =>
      rw [if_pos h]
      have hr : P_Lraise [.int k, .int n, .str x] = .exn k.toNat (excF k n x) := if_pos h
      obtain ⟨h1, h2, h3⟩ := h
      have : k = 0 ∨ k = 1 ∨ k = 2 ∨ k = 3 ∨ k = 4 ∨ k = 5 ∨ k = 6 ∨ k = 7 ∨ k = 8 ∨ k = 9 ∨ k = 10 ∨ k = 11 ∨ k = 12 := by omega
      obtain ⟨F, hF⟩ : ∃ F, excF k n x = F := ⟨_, rfl⟩
      rw [hF] at hr
      have L : (.ok (.lst (kindsL k)) : Rs Dat) = .ok (.lst [.bl (decide (0 = k)), .bl (decide (1 = k)), .bl (decide (2 = k)), .bl (decide (3 = k)), .bl (decide (4 = k)), .bl (decide (5 = k)), .bl (decide (6 = k)), .bl (decide (7 = k)), .bl (decide (8 = k)), .bl (decide (9 = k)), .bl (decide (10 = k)), .bl (decide (11 = k)), .bl (decide (12 = k)), .bl (decide (13 = k))]) := rfl
      rw [L]
      rcases this with rfl | rfl | rfl | rfl | rfl | rfl | rfl | rfl | rfl | rfl | rfl | rfl | rfl <;>
        simp [runF, c_Lkinds, y_Lkinds_0, v_Lkinds_0, u_Lkinds_0, hr, lim, sb_SureError, sb_ValueError, sb_InvalidFate, sb_InvalidEnd, sb_InvalidBit, sb_InvalidCount, sb_InvalidRule, sb_InvalidState, sb_InvalidNotation, sb_OutOfChain, sb_NeverSeen, sb_Unmatched, sb_CannotDecide, sb_NoChain, sb_NotClosed]
    · exact absurd rfl hb
  · exact absurd rfl hb
theorem ok_Lkinds {P : Program} {w : World} {K : PySem.W.Frag} {mg : Str → Option Value} {base : Heap} {T : Nat → Addr} {f : Addr} {fd : FuncData} (B : Blt mg) (fc : Fc K T mg) (F : Fun K "_law_kinds" "_law_kinds" s_Lkinds f fd) (C_Lraise : Cal P w K mg base "_law_raise" 3 (spF K T 3 P_Lraise)) : FnOk P w K mg base (L2N.CX P w) 4 f fd ["_law_k", "_law_number_here", "_law_text"] (spF K T 3 P_Lkinds) := by
  refine (ok_fn F sc_Lkinds (c_Lkinds K T w mg fc) fun cdv A outer s H E hr => ?_).imp (spF_le fun ds hl hb => e_Lkinds K T w mg fc ds hb)
  · have tk : L2N.Takes (cxOf (L2N.CX P w) P w K mg base sc_Lkinds_N "_law_kinds" (defScope s_Lkinds) f cdv A outer s H E) (fun cls d _ H => E cls d H) := L2N.takes_of rfl rfl rfl rfl
    have hr3 : Room 3 _ := hr.mono (by decide)
    have hu64 := hr.units
    exact (d_seq (d_tryE rfl fc.gSureError tk sc_Lkinds.nd (fun W_ pn_ xe_ tk' pw => (d_one (d_expr (d_cal C_Lraise tk' hr3 (d_acons (d_var (i := 0)) (d_acons (d_var (i := 1)) (d_acons (d_var (i := 2)) d_anil))))))) (fun a_ oe_ d_ c_ pn_ hz hf => (d_seq (d_setO (i := 4) sc_Lkinds.nd (d_lst (d_acons (d_isX rfl (fun _ h => h) fc.kInvalidFate fc.ecInvalidFate hz hf B.isinstance_ (pe_glob (by rfl) fc.gInvalidFate rfl)) (d_acons (d_isX rfl (fun _ h => h) fc.kInvalidEnd fc.ecInvalidEnd hz hf B.isinstance_ (pe_glob (by rfl) fc.gInvalidEnd rfl)) (d_acons (d_isX rfl (fun _ h => h) fc.kInvalidBit fc.ecInvalidBit hz hf B.isinstance_ (pe_glob (by rfl) fc.gInvalidBit rfl)) d_anil))))) (d_seq (d_setO (i := 4) sc_Lkinds.nd (d_addO1 (i := 4) (d_lst (d_acons (d_isX rfl (fun _ h => h) fc.kInvalidCount fc.ecInvalidCount hz hf B.isinstance_ (pe_glob (by rfl) fc.gInvalidCount rfl)) (d_acons (d_isX rfl (fun _ h => h) fc.kInvalidRule fc.ecInvalidRule hz hf B.isinstance_ (pe_glob (by rfl) fc.gInvalidRule rfl)) (d_acons (d_isX rfl (fun _ h => h) fc.kInvalidState fc.ecInvalidState hz hf B.isinstance_ (pe_glob (by rfl) fc.gInvalidState rfl)) d_anil)))))) (d_seq (d_setO (i := 4) sc_Lkinds.nd (d_addO1 (i := 4) (d_lst (d_acons (d_isX rfl (fun _ h => h) fc.kInvalidNotation fc.ecInvalidNotation hz hf B.isinstance_ (pe_glob (by rfl) fc.gInvalidNotation rfl)) (d_acons (d_isX rfl (fun _ h => h) fc.kOutOfChain fc.ecOutOfChain hz hf B.isinstance_ (pe_glob (by rfl) fc.gOutOfChain rfl)) (d_acons (d_isX rfl (fun _ h => h) fc.kNeverSeen fc.ecNeverSeen hz hf B.isinstance_ (pe_glob (by rfl) fc.gNeverSeen rfl)) d_anil)))))) (d_seq (d_setO (i := 4) sc_Lkinds.nd (d_addO1 (i := 4) (d_lst (d_acons (d_isX rfl (fun _ h => h) fc.kUnmatched fc.ecUnmatched hz hf B.isinstance_ (pe_glob (by rfl) fc.gUnmatched rfl)) (d_acons (d_isX rfl (fun _ h => h) fc.kCannotDecide fc.ecCannotDecide hz hf B.isinstance_ (pe_glob (by rfl) fc.gCannotDecide rfl)) (d_acons (d_isX rfl (fun _ h => h) fc.kNoChain fc.ecNoChain hz hf B.isinstance_ (pe_glob (by rfl) fc.gNoChain rfl)) d_anil)))))) (d_one (d_ret (d_ce (d_addO1 (i := 4) (d_lst (d_acons (d_isX rfl (fun _ h => h) fc.kNotClosed fc.ecNotClosed hz hf B.isinstance_ (pe_glob (by rfl) fc.gNotClosed rfl)) (d_acons (d_not (d_isX rfl (fun _ h => h) fc.kValueError fc.ecValueError hz hf B.isinstance_ (pe_bltn (by rfl) B.ValueError_ (by decide +kernel) rfl))) d_anil))))))))))))) (d_one (d_ret (d_ce (d_lst d_anil)))))
/-! ### _law_field -/
abbrev s_Lfield : Stmt := topS 28
abbrev sc_Lfield_N : List Str := ["_law_k", "_law_number_here", "_law_text", "e"]
theorem sc_Lfield : FnScope sc_Lfield_N ["_law_k", "_law_number_here", "_law_text"] (defScope s_Lfield) := ⟨rfl, rfl, rfl, by decide +kernel, rfl, by decide +kernel, by decide +kernel⟩
def y_Lfield_0 (K : PySem.W.Frag) (T : Nat → Addr) (w : World) (mg : Str → Option Value) (fc : Fc K T mg) : CS K T := (.expr (.fn 3 P_Lraise (.cons (.var 0) (.cons (.var 1) (.cons (.var 2) .nil)))))
def u_Lfield_0 (K : PySem.W.Frag) (T : Nat → Addr) (w : World) (mg : Str → Option Value) (fc : Fc K T mg) (a_ : Addr) (d_ : Option Addr) (c_ : Nat) : CS K T := (.ret (.exf a_ d_ c_ 3 0 "at"))
def v_Lfield_0 (K : PySem.W.Frag) (T : Nat → Addr) (w : World) (mg : Str → Option Value) (fc : Fc K T mg) : Nat → List (Str × Dat) → Gam → SRes := fun c fs Γ => wrapX 3 ((u_Lfield_0 K T w mg fc 0 none c).ev (Γ.set 3 (.ex 0 none c fs)))
theorem hv_Lfield_0 (K : PySem.W.Frag) (T : Nat → Addr) (w : World) (mg : Str → Option Value) (fc : Fc K T mg) : ∀ a d c fs Γ, wrapX 3 ((u_Lfield_0 K T w mg fc a d c).ev (Γ.set 3 (.ex a d c fs))) = v_Lfield_0 K T w mg fc c fs Γ := by
  intro a d c fs Γ
  unfold v_Lfield_0 u_Lfield_0
  by_cases h : 3 < Γ.length <;> simp [-ev_CS_seq, ev_CS_seqT, List.getElem?_set, h]
def u_Lfield_1 (K : PySem.W.Frag) (T : Nat → Addr) (w : World) (mg : Str → Option Value) (fc : Fc K T mg) (a_ : Addr) (d_ : Option Addr) (c_ : Nat) : CS K T := (.ret (.exf a_ d_ c_ 3 1 "end"))
def v_Lfield_1 (K : PySem.W.Frag) (T : Nat → Addr) (w : World) (mg : Str → Option Value) (fc : Fc K T mg) : Nat → List (Str × Dat) → Gam → SRes := fun c fs Γ => wrapX 3 ((u_Lfield_1 K T w mg fc 0 none c).ev (Γ.set 3 (.ex 0 none c fs)))
theorem hv_Lfield_1 (K : PySem.W.Frag) (T : Nat → Addr) (w : World) (mg : Str → Option Value) (fc : Fc K T mg) : ∀ a d c fs Γ, wrapX 3 ((u_Lfield_1 K T w mg fc a d c).ev (Γ.set 3 (.ex a d c fs))) = v_Lfield_1 K T w mg fc c fs Γ := by
  intro a d c fs Γ
  unfold v_Lfield_1 u_Lfield_1
  by_cases h : 3 < Γ.length <;> simp [-ev_CS_seq, ev_CS_seqT, List.getElem?_set, h]
def u_Lfield_2 (K : PySem.W.Frag) (T : Nat → Addr) (w : World) (mg : Str → Option Value) (fc : Fc K T mg) (a_ : Addr) (d_ : Option Addr) (c_ : Nat) : CS K T := (.ret (.exf a_ d_ c_ 3 2 "bit"))
def v_Lfield_2 (K : PySem.W.Frag) (T : Nat → Addr) (w : World) (mg : Str → Option Value) (fc : Fc K T mg) : Nat → List (Str × Dat) → Gam → SRes := fun c fs Γ => wrapX 3 ((u_Lfield_2 K T w mg fc 0 none c).ev (Γ.set 3 (.ex 0 none c fs)))
theorem hv_Lfield_2 (K : PySem.W.Frag) (T : Nat → Addr) (w : World) (mg : Str → Option Value) (fc : Fc K T mg) : ∀ a d c fs Γ, wrapX 3 ((u_Lfield_2 K T w mg fc a d c).ev (Γ.set 3 (.ex a d c fs))) = v_Lfield_2 K T w mg fc c fs Γ := by
  intro a d c fs Γ
  unfold v_Lfield_2 u_Lfield_2
  by_cases h : 3 < Γ.length <;> simp [-ev_CS_seq, ev_CS_seqT, List.getElem?_set, h]
def u_Lfield_3 (K : PySem.W.Frag) (T : Nat → Addr) (w : World) (mg : Str → Option Value) (fc : Fc K T mg) (a_ : Addr) (d_ : Option Addr) (c_ : Nat) : CS K T := (.ret (.exf a_ d_ c_ 3 3 "amount"))
def v_Lfield_3 (K : PySem.W.Frag) (T : Nat → Addr) (w : World) (mg : Str → Option Value) (fc : Fc K T mg) : Nat → List (Str × Dat) → Gam → SRes := fun c fs Γ => wrapX 3 ((u_Lfield_3 K T w mg fc 0 none c).ev (Γ.set 3 (.ex 0 none c fs)))
theorem hv_Lfield_3 (K : PySem.W.Frag) (T : Nat → Addr) (w : World) (mg : Str → Option Value) (fc : Fc K T mg) : ∀ a d c fs Γ, wrapX 3 ((u_Lfield_3 K T w mg fc a d c).ev (Γ.set 3 (.ex a d c fs))) = v_Lfield_3 K T w mg fc c fs Γ := by
  intro a d c fs Γ
  unfold v_Lfield_3 u_Lfield_3
  by_cases h : 3 < Γ.length <;> simp [-ev_CS_seq, ev_CS_seqT, List.getElem?_set, h]
def u_Lfield_4 (K : PySem.W.Frag) (T : Nat → Addr) (w : World) (mg : Str → Option Value) (fc : Fc K T mg) (a_ : Addr) (d_ : Option Addr) (c_ : Nat) : CS K T := (.ret (.exf a_ d_ c_ 3 4 "state"))
def v_Lfield_4 (K : PySem.W.Frag) (T : Nat → Addr) (w : World) (mg : Str → Option Value) (fc : Fc K T mg) : Nat → List (Str × Dat) → Gam → SRes := fun c fs Γ => wrapX 3 ((u_Lfield_4 K T w mg fc 0 none c).ev (Γ.set 3 (.ex 0 none c fs)))
theorem hv_Lfield_4 (K : PySem.W.Frag) (T : Nat → Addr) (w : World) (mg : Str → Option Value) (fc : Fc K T mg) : ∀ a d c fs Γ, wrapX 3 ((u_Lfield_4 K T w mg fc a d c).ev (Γ.set 3 (.ex a d c fs))) = v_Lfield_4 K T w mg fc c fs Γ := by
  intro a d c fs Γ
  unfold v_Lfield_4 u_Lfield_4
  by_cases h : 3 < Γ.length <;> simp [-ev_CS_seq, ev_CS_seqT, List.getElem?_set, h]
def u_Lfield_5 (K : PySem.W.Frag) (T : Nat → Addr) (w : World) (mg : Str → Option Value) (fc : Fc K T mg) (a_ : Addr) (d_ : Option Addr) (c_ : Nat) : CS K T := (.ret (.exf a_ d_ c_ 3 5 "state"))
def v_Lfield_5 (K : PySem.W.Frag) (T : Nat → Addr) (w : World) (mg : Str → Option Value) (fc : Fc K T mg) : Nat → List (Str × Dat) → Gam → SRes := fun c fs Γ => wrapX 3 ((u_Lfield_5 K T w mg fc 0 none c).ev (Γ.set 3 (.ex 0 none c fs)))
theorem hv_Lfield_5 (K : PySem.W.Frag) (T : Nat → Addr) (w : World) (mg : Str → Option Value) (fc : Fc K T mg) : ∀ a d c fs Γ, wrapX 3 ((u_Lfield_5 K T w mg fc a d c).ev (Γ.set 3 (.ex a d c fs))) = v_Lfield_5 K T w mg fc c fs Γ := by
  intro a d c fs Γ
  unfold v_Lfield_5 u_Lfield_5
  by_cases h : 3 < Γ.length <;> simp [-ev_CS_seq, ev_CS_seqT, List.getElem?_set, h]
def u_Lfield_6 (K : PySem.W.Frag) (T : Nat → Addr) (w : World) (mg : Str → Option Value) (fc : Fc K T mg) (a_ : Addr) (d_ : Option Addr) (c_ : Nat) : CS K T := (.ret (.exf a_ d_ c_ 3 6 "line"))
def v_Lfield_6 (K : PySem.W.Frag) (T : Nat → Addr) (w : World) (mg : Str → Option Value) (fc : Fc K T mg) : Nat → List (Str × Dat) → Gam → SRes := fun c fs Γ => wrapX 3 ((u_Lfield_6 K T w mg fc 0 none c).ev (Γ.set 3 (.ex 0 none c fs)))
theorem hv_Lfield_6 (K : PySem.W.Frag) (T : Nat → Addr) (w : World) (mg : Str → Option Value) (fc : Fc K T mg) : ∀ a d c fs Γ, wrapX 3 ((u_Lfield_6 K T w mg fc a d c).ev (Γ.set 3 (.ex a d c fs))) = v_Lfield_6 K T w mg fc c fs Γ := by
  intro a d c fs Γ
  unfold v_Lfield_6 u_Lfield_6
  by_cases h : 3 < Γ.length <;> simp [-ev_CS_seq, ev_CS_seqT, List.getElem?_set, h]
def u_Lfield_7 (K : PySem.W.Frag) (T : Nat → Addr) (w : World) (mg : Str → Option Value) (fc : Fc K T mg) (a_ : Addr) (d_ : Option Addr) (c_ : Nat) : CS K T := (.ret (.exf a_ d_ c_ 3 7 "position"))
def v_Lfield_7 (K : PySem.W.Frag) (T : Nat → Addr) (w : World) (mg : Str → Option Value) (fc : Fc K T mg) : Nat → List (Str × Dat) → Gam → SRes := fun c fs Γ => wrapX 3 ((u_Lfield_7 K T w mg fc 0 none c).ev (Γ.set 3 (.ex 0 none c fs)))
theorem hv_Lfield_7 (K : PySem.W.Frag) (T : Nat → Addr) (w : World) (mg : Str → Option Value) (fc : Fc K T mg) : ∀ a d c fs Γ, wrapX 3 ((u_Lfield_7 K T w mg fc a d c).ev (Γ.set 3 (.ex a d c fs))) = v_Lfield_7 K T w mg fc c fs Γ := by
  intro a d c fs Γ
  unfold v_Lfield_7 u_Lfield_7
  by_cases h : 3 < Γ.length <;> simp [-ev_CS_seq, ev_CS_seqT, List.getElem?_set, h]
def u_Lfield_8 (K : PySem.W.Frag) (T : Nat → Addr) (w : World) (mg : Str → Option Value) (fc : Fc K T mg) (a_ : Addr) (d_ : Option Addr) (c_ : Nat) : CS K T := (.ret (.exf a_ d_ c_ 3 8 "wrong_view"))
def v_Lfield_8 (K : PySem.W.Frag) (T : Nat → Addr) (w : World) (mg : Str → Option Value) (fc : Fc K T mg) : Nat → List (Str × Dat) → Gam → SRes := fun c fs Γ => wrapX 3 ((u_Lfield_8 K T w mg fc 0 none c).ev (Γ.set 3 (.ex 0 none c fs)))
theorem hv_Lfield_8 (K : PySem.W.Frag) (T : Nat → Addr) (w : World) (mg : Str → Option Value) (fc : Fc K T mg) : ∀ a d c fs Γ, wrapX 3 ((u_Lfield_8 K T w mg fc a d c).ev (Γ.set 3 (.ex a d c fs))) = v_Lfield_8 K T w mg fc c fs Γ := by
  intro a d c fs Γ
  unfold v_Lfield_8 u_Lfield_8
  by_cases h : 3 < Γ.length <;> simp [-ev_CS_seq, ev_CS_seqT, List.getElem?_set, h]
def c_Lfield (K : PySem.W.Frag) (T : Nat → Addr) (w : World) (mg : Str → Option Value) (fc : Fc K T mg) : CS K T := (.seq (.tryM [⟨0, 3, sb_InvalidFate, fc.mInvalidFate, (u_Lfield_0 K T w mg fc), (v_Lfield_0 K T w mg fc), (hv_Lfield_0 K T w mg fc)⟩, ⟨1, 3, sb_InvalidEnd, fc.mInvalidEnd, (u_Lfield_1 K T w mg fc), (v_Lfield_1 K T w mg fc), (hv_Lfield_1 K T w mg fc)⟩, ⟨2, 3, sb_InvalidBit, fc.mInvalidBit, (u_Lfield_2 K T w mg fc), (v_Lfield_2 K T w mg fc), (hv_Lfield_2 K T w mg fc)⟩, ⟨3, 3, sb_InvalidCount, fc.mInvalidCount, (u_Lfield_3 K T w mg fc), (v_Lfield_3 K T w mg fc), (hv_Lfield_3 K T w mg fc)⟩, ⟨4, 3, sb_InvalidRule, fc.mInvalidRule, (u_Lfield_4 K T w mg fc), (v_Lfield_4 K T w mg fc), (hv_Lfield_4 K T w mg fc)⟩, ⟨5, 3, sb_InvalidState, fc.mInvalidState, (u_Lfield_5 K T w mg fc), (v_Lfield_5 K T w mg fc), (hv_Lfield_5 K T w mg fc)⟩, ⟨6, 3, sb_InvalidNotation, fc.mInvalidNotation, (u_Lfield_6 K T w mg fc), (v_Lfield_6 K T w mg fc), (hv_Lfield_6 K T w mg fc)⟩, ⟨7, 3, sb_OutOfChain, fc.mOutOfChain, (u_Lfield_7 K T w mg fc), (v_Lfield_7 K T w mg fc), (hv_Lfield_7 K T w mg fc)⟩, ⟨8, 3, sb_NeverSeen, fc.mNeverSeen, (u_Lfield_8 K T w mg fc), (v_Lfield_8 K T w mg fc), (hv_Lfield_8 K T w mg fc)⟩] (y_Lfield_0 K T w mg fc)) (.ret .non))
def fieldD (k : Int) (n : Int) (x : Str) : Dat := if k = 1 then .str x else if k = 8 then .tup [.int 0, .non, .str x, .int n] else .int n
def P_Lfield : List Dat → Rs Dat
  | [.int k, .int n, .str x] => if 0 ≤ k ∧ k ≤ 8 ∧ okX n x then .ok (fieldD k n x) else .bad
  | _ => .bad
theorem e_Lfield (K : PySem.W.Frag) (T : Nat → Addr) (w : World) (mg : Str → Option Value) (fc : Fc K T mg) : ∀ ds, P_Lfield ds ≠ .bad → runF (c_Lfield K T w mg fc) sc_Lfield_N.length ds = P_Lfield ds := by
  intro ds hb
  unfold P_Lfield at hb ⊢
  split at hb
  · next k n x =>
    split at hb
    · next h =>
      rw [if_pos h]
      have hr : P_Lraise [.int k, .int n, .str x] = .exn k.toNat (excF k n x) := if_pos ⟨h.1, by omega, h.2.2⟩
      obtain ⟨h1, h2, h3⟩ := h
      have : k = 0 ∨ k = 1 ∨ k = 2 ∨ k = 3 ∨ k = 4 ∨ k = 5 ∨ k = 6 ∨ k = 7 ∨ k = 8 := by omega
      rcases this with rfl | rfl | rfl | rfl | rfl | rfl | rfl | rfl | rfl <;>
        (simp [excF] at hr; simp [runF, c_Lfield, y_Lfield_0, v_Lfield_0, u_Lfield_0, v_Lfield_1, u_Lfield_1, v_Lfield_2, u_Lfield_2, v_Lfield_3, u_Lfield_3, v_Lfield_4, u_Lfield_4, v_Lfield_5, u_Lfield_5, v_Lfield_6, u_Lfield_6, v_Lfield_7, u_Lfield_7, v_Lfield_8, u_Lfield_8, hr, fieldD, lim, sb_InvalidFate, sb_InvalidEnd, sb_InvalidBit, sb_InvalidCount, sb_InvalidRule, sb_InvalidState, sb_InvalidNotation, sb_OutOfChain, sb_NeverSeen])
    · exact absurd rfl hb
  · exact absurd rfl hb
theorem ok_Lfield {P : Program} {w : World} {K : PySem.W.Frag} {mg : Str → Option Value} {base : Heap} {T : Nat → Addr} {f : Addr} {fd : FuncData} (B : Blt mg) (fc : Fc K T mg) (F : Fun K "_law_field" "_law_field" s_Lfield f fd) (C_Lraise : Cal P w K mg base "_law_raise" 3 (spF K T 3 P_Lraise)) : FnOk P w K mg base (L2N.CX P w) 4 f fd ["_law_k", "_law_number_here", "_law_text"] (spF K T 3 P_Lfield) := by
  refine (ok_fn F sc_Lfield (c_Lfield K T w mg fc) fun cdv A outer s H E hr => ?_).imp (spF_le fun ds hl hb => e_Lfield K T w mg fc ds hb)
  · have tk : L2N.Takes (cxOf (L2N.CX P w) P w K mg base sc_Lfield_N "_law_field" (defScope s_Lfield) f cdv A outer s H E) (fun cls d _ H => E cls d H) := L2N.takes_of rfl rfl rfl rfl
    have hr3 : Room 3 _ := hr.mono (by decide)
    have hu64 := hr.units
    exact (d_seq (d_tryM rfl tk sc_Lfield.nd (fun W_ pn_ xe_ tk' pw => (d_one (d_expr (d_cal C_Lraise tk' hr3 (d_acons (d_var (i := 0)) (d_acons (d_var (i := 1)) (d_acons (d_var (i := 2)) d_anil))))))) (d_hcons fc.gInvalidFate (fun a_ oe_ d_ c_ pn_ hz hf => (d_one (d_ret (d_exf rfl fc.xInvalidFate fc.nInvalidFate_at hz hf)))) (d_hcons fc.gInvalidEnd (fun a_ oe_ d_ c_ pn_ hz hf => (d_one (d_ret (d_exf rfl fc.xInvalidEnd fc.nInvalidEnd_end hz hf)))) (d_hcons fc.gInvalidBit (fun a_ oe_ d_ c_ pn_ hz hf => (d_one (d_ret (d_exf rfl fc.xInvalidBit fc.nInvalidBit_bit hz hf)))) (d_hcons fc.gInvalidCount (fun a_ oe_ d_ c_ pn_ hz hf => (d_one (d_ret (d_exf rfl fc.xInvalidCount fc.nInvalidCount_amount hz hf)))) (d_hcons fc.gInvalidRule (fun a_ oe_ d_ c_ pn_ hz hf => (d_one (d_ret (d_exf rfl fc.xInvalidRule fc.nInvalidRule_state hz hf)))) (d_hcons fc.gInvalidState (fun a_ oe_ d_ c_ pn_ hz hf => (d_one (d_ret (d_exf rfl fc.xInvalidState fc.nInvalidState_state hz hf)))) (d_hcons fc.gInvalidNotation (fun a_ oe_ d_ c_ pn_ hz hf => (d_one (d_ret (d_exf rfl fc.xInvalidNotation fc.nInvalidNotation_line hz hf)))) (d_hcons fc.gOutOfChain (fun a_ oe_ d_ c_ pn_ hz hf => (d_one (d_ret (d_exf rfl fc.xOutOfChain fc.nOutOfChain_position hz hf)))) (d_hcons fc.gNeverSeen (fun a_ oe_ d_ c_ pn_ hz hf => (d_one (d_ret (d_exf rfl fc.xNeverSeen fc.nNeverSeen_wrong_view hz hf)))) d_hnil)))))))))) (d_one (d_ret d_non)))
end My

set_option Elab.async false
set_option linter.all false
set_option maxRecDepth 100000
set_option maxHeartbeats 4000000
namespace My
open PySem L2 Evl PySem.Spec PyProof.Rows Cz
/-! ### law -/
abbrev s_law : Stmt := topS 29
abbrev sc_law_N : List Str := ["_law_script", "_law_number_here", "_law_text", "_law_k", "_law_j", "_law_field_here", "_law_due"]
theorem sc_law : FnScope sc_law_N ["_law_script"] (defScope s_law) := ⟨rfl, rfl, rfl, by decide +kernel, rfl, by decide +kernel, by decide +kernel⟩
def t_law_0 (K : PySem.W.Frag) (T : Nat → Addr) (w : World) (mg : Str → Option Value) : CS K T := (.set 1 (.fn 1 P_Lnumber (.cons (.fn 2 P_Lcell (.cons (.var 0) (.cons (.int 0) .nil))) .nil)))
def t_law_1 (K : PySem.W.Frag) (T : Nat → Addr) (w : World) (mg : Str → Option Value) : CS K T := (.set 2 (.fn 2 P_Lfates (.cons (.fn 2 P_Lcell (.cons (.var 0) (.cons (.int 1) .nil))) (.cons (.op2 oMod (.opN oInt (.cons (.fn 2 P_Lcell (.cons (.var 0) (.cons (.int 2) .nil))) .nil)) (.int 13)) .nil))))
def b_law_0 (K : PySem.W.Frag) (T : Nat → Addr) (w : World) (mg : Str → Option Value) : CS K T := (.ifs (.test (.op2 oNeD (.fn 3 P_Lkinds (.cons (.var 3) (.cons (.var 1) (.cons (.var 2) .nil)))) (CO.ce (CO.lc (CI.range1 (.cons (.int 14) .nil)) (CG.name 4) CT.yes (.op2 oEq (.var 4) (.var 3)))))) (.ret (.bl false)) .pass)
def t_law_2 (K : PySem.W.Frag) (T : Nat → Addr) (w : World) (mg : Str → Option Value) : CS K T := (.forS (CI.range1 (.cons (.int 13) .nil)) (CG.name 3) (b_law_0 K T w mg))
def b_law_1 (K : PySem.W.Frag) (T : Nat → Addr) (w : World) (mg : Str → Option Value) : CS K T := (.seq (.set 5 (.fn 3 P_Lfield (.cons (.var 3) (.cons (.var 1) (.cons (.var 2) .nil))))) (.seq (.set 6 (.op2 oIxL (CO.ce (CO.lst (.cons (.var 1) (.cons (.var 2) (.cons (.var 1) (.cons (.var 1) (.cons (.var 1) (.cons (.var 1) (.cons (.var 1) (.cons (.var 1) (.cons (.tup (.cons (.int 0) (.cons .non (.cons (.var 2) (.cons (.var 1) .nil))))) .nil))))))))))) (.var 3))) (.ifs (.or (.and (.b (.isiB "int" (.var 6))) (.not (.b (.fn 1 P_Linteger (.cons (.var 5) .nil))))) (.test (.op2 oNeD (.var 5) (.var 6)))) (.ret (.bl false)) .pass)))
def t_law_3 (K : PySem.W.Frag) (T : Nat → Addr) (w : World) (mg : Str → Option Value) : CS K T := (.forS (CI.range1 (.cons (.int 9) .nil)) (CG.name 3) (b_law_1 K T w mg))
def t_law_4 (K : PySem.W.Frag) (T : Nat → Addr) (w : World) (mg : Str → Option Value) : CS K T := (.ret (.op2 oEq (.opN oLenS (.cons (.fn 1 P_swap_fates (.cons (.var 2) .nil)) .nil)) (.opN oLenS (.cons (.var 2) .nil))))
def c_law (K : PySem.W.Frag) (T : Nat → Addr) (w : World) (mg : Str → Option Value) : CS K T := (.seq (t_law_0 K T w mg) (.seq (t_law_1 K T w mg) (.seq (t_law_2 K T w mg) (.seq (t_law_3 K T w mg) (t_law_4 K T w mg)))))
theorem numI_fit (c : Int) : fitD (.int (numI c)) = true := by
  have h : (numI c).natAbs < 2 ^ 1920 := by
    have h1 : (numI c).natAbs < 10 ^ 60 := by
      unfold numI
      split
      · have := mod_range (a := c) (b := 2 * 10 ^ 59) (by decide)
        omega
      · have := mod_range (a := c) (b := 200) (by decide)
        omega
    exact Nat.lt_trans h1 (by decide +kernel)
  show decide ((numI c).natAbs.log2 < 1920) = true
  refine decide_eq_true ?_
  by_cases h0 : (numI c).natAbs = 0
  · rw [h0]
    decide +kernel
  · exact (Nat.log2_lt h0).mpr h
theorem fts_small {l : List Nat} (h : Fts l) : ∀ c ∈ (mkS l).cps.toList, c < 16 ^ 8 := by
  rw [mkS_list]
  intro c hc
  rcases h c hc with rfl | rfl | rfl | rfl <;> decide
theorem strOk_fts {l : List Nat} (h : Fts l) : PyData.strOk (mkS l) = true := by
  show l.toArray.all _ = true
  rw [List.all_toArray]
  exact List.all_eq_true.mpr fun c hc => by rcases h c hc with rfl | rfl | rfl | rfl <;> decide
theorem eqD_self {d : Dat} {p : PyData} (hp : d.py = some p) (hl : PyData.canLay0 p = true) (hd : p.depth ≤ 64) (he : PyData.eqv p p = true) : eqD d d = .ok true := by
  have hs : SeqAt.shaped p = true := by
    unfold SeqAt.shaped
    rw [hl, decide_eq_true hd]
    rfl
  unfold eqD
  rw [hp]
  simp only [hs, and_self, if_true, he]
theorem eq_kinds {k : Int} (h : 0 ≤ k ∧ k ≤ 12) : eqD (.lst (kindsL k)) (.lst (kindsL k)) = .ok true := by
  have : k = 0 ∨ k = 1 ∨ k = 2 ∨ k = 3 ∨ k = 4 ∨ k = 5 ∨ k = 6 ∨ k = 7 ∨ k = 8 ∨ k = 9 ∨ k = 10 ∨ k = 11 ∨ k = 12 := by omega
  rcases this with rfl | rfl | rfl | rfl | rfl | rfl | rfl | rfl | rfl | rfl | rfl | rfl | rfl <;> kernel_rfl
theorem eq_field (k n : Int) {l : List Nat} (h : Fts l) : eqD (fieldD k n (mkS l)) (fieldD k n (mkS l)) = .ok true := by
  unfold fieldD
  split
  · exact eqD_self (p := .str (mkS l)) rfl (by simp [PyData.canLay0, strOk_fts h]) (by rw [show (PyData.str (mkS l)).depth = PyData.none.depth from rfl]; decide +kernel) (by simp [PyData.eqv])
  · split
    · refine eqD_self (p := .tuple [.int 0, .none, .str (mkS l), .int n]) rfl (by simp [PyData.canLay0, PyData.canLayAll0, strOk_fts h]) ?_ (by simp [PyData.eqv, PyData.eqvAll])
      have : (PyData.tuple [.int 0, .none, .str (mkS l), .int n]).depth = (PyData.tuple [.none, .none, .none, .none]).depth := rfl
      rw [this]
      decide +kernel
    · exact eqD_self (p := .int n) rfl (by simp [PyData.canLay0]) (by rw [show (PyData.int n).depth = PyData.none.depth from rfl]; decide +kernel) (by simp [PyData.eqv])
abbrev P_law := P_lawT
theorem e_law (K : PySem.W.Frag) (T : Nat → Addr) (w : World) (mg : Str → Option Value) : ∀ ds, P_law ds ≠ .bad → runF (c_law K T w mg) sc_law_N.length ds = P_law ds := by
  intro ds hb
  obtain ⟨ns, rfl, hl63, hP⟩ := P_lawT_inv hb
  rw [show P_law [Dat.lst (List.map Dat.int ns)] = Rs.ok (Dat.bl true) from hP]
  obtain ⟨n, hn, fn⟩ : ∃ n, numI (cellI ns 0) = n ∧ fitD (.int n) = true := ⟨_, rfl, numI_fit _⟩
  obtain ⟨m, hm⟩ : ∃ m, cellI ns 2 % 13 = m := ⟨_, rfl⟩
  have m1 : 0 ≤ m ∧ m < 13 := by have := mod_range (a := cellI ns 2) (b := 13) (by decide); omega
  obtain ⟨l, hl⟩ : ∃ l, fatesI (cellI ns 1) m.toNat = l := ⟨_, rfl⟩
  have l1 : Fts l := hl ▸ fatesI_fts _ _
  have l2 : l.length ≤ 12 := by rw [← hl, fatesI_len]; omega
  have hlim : l.length ≤ lim := by unfold lim; omega
  have ok : okX n (mkS l) := ⟨fn, by rw [mkS_len]; omega, fts_small l1⟩
  have st0 : (t_law_0 K T w mg).ev [.d (.lst (ns.map .int)), .un, .un, .un, .un, .un, .un] = .nx [.d (.lst (ns.map .int)), .d (.int n), .un, .un, .un, .un, .un] := by
    simp [t_law_0, P_cell, P_Lnumber, hn]
  have st1 : (t_law_1 K T w mg).ev [.d (.lst (ns.map .int)), .d (.int n), .un, .un, .un, .un, .un] = .nx [.d (.lst (ns.map .int)), .d (.int n), .d (.str (mkS l)), .un, .un, .un, .un] := by
    have : m ≤ 99999 := by omega
    simp [t_law_1, P_cell, P_Lfates, hm, m1.1, this, hl]
  have turn0 : ∀ k : Int, 0 ≤ k ∧ k ≤ 12 → (b_law_0 K T w mg).ev [.d (.lst (ns.map .int)), .d (.int n), .d (.str (mkS l)), .d (.int k), .un, .un, .un] = .nx [.d (.lst (ns.map .int)), .d (.int n), .d (.str (mkS l)), .d (.int k), .un, .un, .un] := by
    intro k hk
    have key : evLc (CG.name 4 : CG K T).ev (CT.yes : CT K T).ev (CE.op2 oEq (.var 4) (.var 3) : CE K T).ev [.d (.lst (ns.map .int)), .d (.int n), .d (.str (mkS l)), .d (.int k), .un, .un, .un] (rangeD 0 14) = .ok (kindsL k) := by
      have := evLc_map (g := (CG.name 4 : CG K T).ev) (t := (CT.yes : CT K T).ev) (e := (CE.op2 oEq (.var 4) (.var 3) : CE K T).ev) (Γ := [.d (.lst (ns.map .int)), .d (.int n), .d (.str (mkS l)), .d (.int k), .un, .un, .un])
        (fun d => match d with | .int x => .bl (decide (x = k)) | d => d) (ds := rangeD 0 14) (by
          intro d hd
          obtain ⟨x, hx, rfl⟩ := List.mem_map.mp hd
          exact ⟨_, rfl, rfl, by simp⟩)
      rw [this]
      simp [rangeD, kindsL]
    have q1 : P_Lkinds [.int k, .int n, .str (mkS l)] = .ok (.lst (kindsL k)) := if_pos ⟨hk.1, hk.2, ok⟩
    have q2 := eq_kinds hk
    have q3 : (kindsL k).length = 14 := by simp [kindsL]
    have q4 : (rangeD 0 14).length = 14 := by simp [rangeD]
    simp [b_law_0, wipeG, key, q1, q2, q3, q4, lim]
  have turn1 : ∀ k : Int, 0 ≤ k ∧ k ≤ 8 → ∀ o5 o6, ∃ r5 r6, (b_law_1 K T w mg).ev [.d (.lst (ns.map .int)), .d (.int n), .d (.str (mkS l)), .d (.int k), .un, o5, o6] = .nx [.d (.lst (ns.map .int)), .d (.int n), .d (.str (mkS l)), .d (.int k), .un, r5, r6] := by
    intro k hk o5 o6
    have q1 : P_Lfield [.int k, .int n, .str (mkS l)] = .ok (fieldD k n (mkS l)) := if_pos ⟨hk.1, hk.2, ok⟩
    have q2 := eq_field k n l1
    have hx : ixL (.lst [.int n, .str (mkS l), .int n, .int n, .int n, .int n, .int n, .int n, .tup [.int 0, .non, .str (mkS l), .int n]]) (.int k) = .ok (fieldD k n (mkS l)) := by
      have : k = 0 ∨ k = 1 ∨ k = 2 ∨ k = 3 ∨ k = 4 ∨ k = 5 ∨ k = 6 ∨ k = 7 ∨ k = 8 := by omega
      rcases this with rfl | rfl | rfl | rfl | rfl | rfl | rfl | rfl | rfl <;> rfl
    have i1 : ∀ i : Int, isiB "int" (.int i) = some true := fun i => by
      show kitB "int" "int" = some true
      decide +kernel
    have i2 : ∀ x, isiB "int" (.str x) = some false := fun x => by
      show kitB "str" "int" = some false
      decide +kernel
    have i3 : ∀ x, isiB "int" (.tup x) = some false := fun x => by
      show kitB "tuple" "int" = some false
      decide +kernel
    have i4 : ∀ i : Int, P_Linteger [.int i] = .ok (.bl true) := fun _ => rfl
    refine ⟨.d (fieldD k n (mkS l)), .d (fieldD k n (mkS l)), ?_⟩
    have hc : (∃ i, fieldD k n (mkS l) = .int i) ∨ isiB "int" (fieldD k n (mkS l)) = some false := by
      unfold fieldD
      split
      · exact .inr (i2 _)
      · split
        · exact .inr (i3 _)
        · exact .inl ⟨_, rfl⟩
    obtain ⟨v, hv⟩ : ∃ v, fieldD k n (mkS l) = v := ⟨_, rfl⟩
    rw [hv] at q1 q2 hx hc ⊢
    rcases hc with ⟨i, rfl⟩ | hc
    · simp [b_law_1, q1, q2, hx, i1, i4, lim]
    · simp [b_law_1, q1, q2, hx, hc, lim]
  have nx : ∀ (b : Nat) (i : Nat) (d : Dat), (rangeD 0 b)[i]? = some d → i < b ∧ d = .int (i : Nat) := fun b i d hd => by
    have hi : i < b := by
      have := (List.getElem?_eq_some_iff.mp hd).1
      simpa [rangeD] using this
    unfold rangeD at hd
    rw [List.getElem?_map, List.getElem?_range hi] at hd
    simp only [Option.map_some, Int.zero_add, Option.some.injEq] at hd
    exact ⟨hi, hd.symm⟩
  obtain ⟨o3, st2⟩ : ∃ o3, (t_law_2 K T w mg).ev [.d (.lst (ns.map .int)), .d (.int n), .d (.str (mkS l)), .un, .un, .un, .un] = .nx [.d (.lst (ns.map .int)), .d (.int n), .d (.str (mkS l)), o3, .un, .un, .un] := by
    obtain ⟨Γ', q1, o, rfl⟩ := evFor_inv0 (g := (CG.name 3 : CG K T).ev) (b := (b_law_0 K T w mg).ev) (ds := rangeD 0 13) (Γ := [.d (.lst (ns.map .int)), .d (.int n), .d (.str (mkS l)), .un, .un, .un, .un])
      (fun i Γ => ∃ o, Γ = [.d (.lst (ns.map .int)), .d (.int n), .d (.str (mkS l)), o, .un, .un, .un]) ⟨_, rfl⟩ (by
        rintro i d Γ hd ⟨o, rfl⟩
        obtain ⟨hi, rfl⟩ := nx _ _ _ hd
        exact ⟨_, _, rfl, .inl (turn0 (i : Nat) (by omega)), _, rfl⟩)
    exact ⟨o, by simp [t_law_2, q1]⟩
  obtain ⟨p3, p5, p6, st3⟩ : ∃ p3 p5 p6, (t_law_3 K T w mg).ev [.d (.lst (ns.map .int)), .d (.int n), .d (.str (mkS l)), o3, .un, .un, .un] = .nx [.d (.lst (ns.map .int)), .d (.int n), .d (.str (mkS l)), p3, .un, p5, p6] := by
    obtain ⟨Γ', q1, o, o5, o6, rfl⟩ := evFor_inv0 (g := (CG.name 3 : CG K T).ev) (b := (b_law_1 K T w mg).ev) (ds := rangeD 0 9) (Γ := [.d (.lst (ns.map .int)), .d (.int n), .d (.str (mkS l)), o3, .un, .un, .un])
      (fun i Γ => ∃ o o5 o6, Γ = [.d (.lst (ns.map .int)), .d (.int n), .d (.str (mkS l)), o, .un, o5, o6]) ⟨_, _, _, rfl⟩ (by
        rintro i d Γ hd ⟨o, o5, o6, rfl⟩
        obtain ⟨hi, rfl⟩ := nx _ _ _ hd
        obtain ⟨r5, r6, h⟩ := turn1 (i : Nat) (by omega) o5 o6
        exact ⟨_, _, rfl, .inl h, _, _, _, rfl⟩)
    exact ⟨o, o5, o6, by simp [t_law_3, q1]⟩
  have st4 : (t_law_4 K T w mg).ev [.d (.lst (ns.map .int)), .d (.int n), .d (.str (mkS l)), p3, .un, p5, p6] = .rt (.bl true) := by
    have hb1 : badAt l = none := badAt_none.mpr l1
    have ps : P_swap_fates [.str (mkS l)] = .ok (.str (mkS (l.map swapC))) := by simp [P_swap_fates, hlim, hb1]
    have hl' : l.length ≤ 100000 := hlim
    simp [t_law_4, ps, hl', lim]
  have e0 : [Dat.lst (ns.map .int)].map Slot.d ++ List.replicate (sc_law_N.length - [Dat.lst (ns.map Dat.int)].length) Slot.un = [.d (.lst (ns.map .int)), .un, .un, .un, .un, .un, .un] := rfl
  unfold runF
  rw [e0]
  simp only [c_law, ev_CS_seq, st0, st1, st2, st3, st4]
theorem ok_law {P : Program} {w : World} {K : PySem.W.Frag} {mg : Str → Option Value} {base : Heap} {T : Nat → Addr} {f : Addr} {fd : FuncData} (B : Blt mg) (F : Fun K "law" "law" s_law f fd) (C_Lcell : Cal P w K mg base "_law_cell" 1 (spF K T 2 P_Lcell)) (C_Lfates : Cal P w K mg base "_law_fates" 2 (spF K T 2 P_Lfates)) (C_Lfield : Cal P w K mg base "_law_field" 4 (spF K T 3 P_Lfield)) (C_Linteger : Cal P w K mg base "_law_integer" 1 (spF K T 1 P_Linteger)) (C_Lkinds : Cal P w K mg base "_law_kinds" 4 (spF K T 3 P_Lkinds)) (C_Lnumber : Cal P w K mg base "_law_number" 1 (spF K T 1 P_Lnumber)) (C_swap_fates : Cal P w K mg base "swap_fates" 4 (spF K T 1 P_swap_fates)) : FnOk P w K mg base (L2N.CX P w) 5 f fd ["_law_script"] (spF K T 1 P_law) := by
  refine (ok_fn F sc_law (c_law K T w mg) fun cdv A outer s H E hr => ?_).imp (spF_le fun ds hl hb => e_law K T w mg ds hb)
  · have tk : L2N.Takes (cxOf (L2N.CX P w) P w K mg base sc_law_N "law" (defScope s_law) f cdv A outer s H E) (fun cls d _ H => E cls d H) := L2N.takes_of rfl rfl rfl rfl
    have hr1 : Room 1 _ := hr.mono (by decide)
    have hr2 : Room 2 _ := hr.mono (by decide)
    have hr4 : Room 4 _ := hr.mono (by decide)
    have hu64 := hr.units
    exact (d_seq (d_set (i := 1) sc_law.nd (d_cal C_Lnumber tk hr1 (d_acons (d_cal C_Lcell tk hr1 (d_acons (d_var (i := 0)) (d_acons d_int d_anil))) d_anil))) (d_seq (d_set (i := 2) sc_law.nd (d_cal C_Lfates tk hr2 (d_acons (d_cal C_Lcell tk hr1 (d_acons (d_var (i := 0)) (d_acons d_int d_anil))) (d_acons (d_bin op_mod (d_typ call_int1 B.int_ (by decide +kernel) (d_acons (d_cal C_Lcell tk hr1 (d_acons (d_var (i := 0)) (d_acons d_int d_anil))) d_anil)) d_int) d_anil)))) (d_seq (d_for (passes_of rfl) (d_range1 B.range_ (d_acons d_int d_anil)) (d_name (i := 3) sc_law.nd) (d_one (d_if (d_cmpT (op_neD hu64) (d_cal C_Lkinds tk hr4 (d_acons (d_var (i := 3)) (d_acons (d_var (i := 1)) (d_acons (d_var (i := 2)) d_anil)))) (d_ce (d_lc [("_law_j", 4)] rfl sc_law.nd (by show blkC sc_law_N (defScope s_law) _ _ = true; decide +kernel) (by exact (d_range1 B.range_ (d_acons d_int d_anil))) (by exact fun _ _ _ _ _ => (d_name (i := 4) sc_law.nd)) (by exact fun _ _ _ _ _ => d_yes) (by exact fun _ _ _ _ _ => (d_cmp op_eq (d_var (i := 4)) (d_var (i := 3)) (nomark _))))) (nomark _)) (d_one (d_ret d_bl)) d_nil))) (d_seq (d_for (passes_of rfl) (d_range1 B.range_ (d_acons d_int d_anil)) (d_name (i := 3) sc_law.nd) (d_seq (d_set (i := 5) sc_law.nd (d_cal C_Lfield tk hr4 (d_acons (d_var (i := 3)) (d_acons (d_var (i := 1)) (d_acons (d_var (i := 2)) d_anil))))) (d_seq (d_set (i := 6) sc_law.nd (d_ix ix_list (d_ce (d_lst (d_acons (d_var (i := 1)) (d_acons (d_var (i := 2)) (d_acons (d_var (i := 1)) (d_acons (d_var (i := 1)) (d_acons (d_var (i := 1)) (d_acons (d_var (i := 1)) (d_acons (d_var (i := 1)) (d_acons (d_var (i := 1)) (d_acons (d_tup (d_acons d_int (d_acons d_non (d_acons (d_var (i := 2)) (d_acons (d_var (i := 1)) d_anil))))) d_anil))))))))))) (d_var (i := 3)))) (d_one (d_if (PW.pt (d_orT (PW.pt (d_andT (d_val (d_isiB B.isinstance_ B.int_ (by decide +kernel) (d_var (i := 6)))) (d_and1 (d_notT (d_val (d_cal C_Linteger tk hr1 (d_acons (d_var (i := 5)) d_anil))))))) (d_or1 (d_cmpT (op_neD hu64) (d_var (i := 5)) (d_var (i := 6)) (nomark _))))) (d_one (d_ret d_bl)) d_nil))))) (d_one (d_ret (d_cmp op_eq (d_blt call_len_str B.len_ (by decide +kernel) (d_acons (d_cal C_swap_fates tk hr4 (d_acons (d_var (i := 2)) d_anil)) d_anil)) (d_blt call_len_str B.len_ (by decide +kernel) (d_acons (d_var (i := 2)) d_anil)) (nomark _))))))))
end My

set_option Elab.async false
set_option linter.all false
set_option maxRecDepth 100000
set_option maxHeartbeats 4000000
namespace My
open PySem L2 Evl PySem.Spec PyProof.Rows Cz
theorem law_true (ns : List Int) (h : ns.length ≤ 63) : P_law [.lst (ns.map .int)] = .ok (.bl true) := by
  show P_lawT _ = _
  unfold P_lawT
  simp only [toInts_map, h, if_true]
/-! ### the end -/
def spTop (K : PySem.W.Frag) : Sp := fun vs H Q _ => ∃ (a : Addr) (ns : List Int), vs = [.ref a] ∧ ns.length ≤ 63 ∧ SqL K H a (ns.map V.int) ∧ ∀ H', Q (.bl true) H'
theorem top_le {K : PySem.W.Frag} {T : Nat → Addr} {F : List Dat → Rs Dat} (h : ∀ ns : List Int, ns.length ≤ 63 → F [.lst (ns.map .int)] = .ok (.bl true)) {vs : List V} {H : Hp} {Q : VK} {E : XK} (s : spTop K vs H Q E) : spF K T 1 F vs H Q E := by
  obtain ⟨a, ns, rfl, hl, hS, k⟩ := s
  refine ⟨rfl, H, [.lst (ns.map .int)], fun _ _ e => e, .cons (.lst hS (RepL.ints ns)) .nil, _, h ns hl, fun v G' H' _ r => ?_⟩
  cases r
  exact k H'
abbrev sx_InvalidFate : Stmt := inClass (topS 2) 0
abbrev nf_InvalidFate (cc cd : Addr) : NdefX.NF := ⟨"__init__", "InvalidFate.__init__", defArgs sx_InvalidFate, defBody sx_InvalidFate, defScope sx_InvalidFate, [(("__class__" : Str), cc)], cd⟩
theorem okx_InvalidFate {P : Program} {w : World} {K : PySem.W.Frag} {mg : Str → Option Value} {base : Heap} {f cc cd C : Addr} {oc doc pm ctv : Value} {od : Option Addr} {sl : Array (Option Value)} (lk : K.lookup f = some ⟨oc, od, .func ((nf_InvalidFate cc cd).fd doc pm ctv), sl⟩) (T : OexC K C)
    (S : SupF P K mg (nf_InvalidFate cc cd) f cc C) (hno : PySem.W.findIn K (.ref C) "at" = some none) : FnOk P w K mg base (L2N.CX P w) 1 f ((nf_InvalidFate cc cd).fd doc pm ctv) ["self", "at"] (spX C "at") :=
  ok_sup (at_ := "at") (pre := "no fate at index ") lk T S (NdefX.nscope_by (by show NdefX.nscB _ _ _ (defScope sx_InvalidFate) = true; decide +kernel)) hno (by decide) rfl rfl rfl (by decide) (by decide) rfl (fun _ => rfl)
abbrev sx_InvalidEnd : Stmt := inClass (topS 3) 0
abbrev nf_InvalidEnd (cc cd : Addr) : NdefX.NF := ⟨"__init__", "InvalidEnd.__init__", defArgs sx_InvalidEnd, defBody sx_InvalidEnd, defScope sx_InvalidEnd, [(("__class__" : Str), cc)], cd⟩
theorem okx_InvalidEnd {P : Program} {w : World} {K : PySem.W.Frag} {mg : Str → Option Value} {base : Heap} {f cc cd C : Addr} {oc doc pm ctv : Value} {od : Option Addr} {sl : Array (Option Value)} (lk : K.lookup f = some ⟨oc, od, .func ((nf_InvalidEnd cc cd).fd doc pm ctv), sl⟩) (T : OexC K C)
    (S : SupF P K mg (nf_InvalidEnd cc cd) f cc C) (hno : PySem.W.findIn K (.ref C) "end" = some none) : FnOk P w K mg base (L2N.CX P w) 1 f ((nf_InvalidEnd cc cd).fd doc pm ctv) ["self", "end"] (spX C "end") :=
  ok_sup (at_ := "end") (pre := "not an end: ") lk T S (NdefX.nscope_by (by show NdefX.nscB _ _ _ (defScope sx_InvalidEnd) = true; decide +kernel)) hno (by decide) rfl rfl rfl (by decide) (by decide) rfl (fun _ => rfl)
abbrev sx_InvalidBit : Stmt := inClass (topS 4) 0
abbrev nf_InvalidBit (cc cd : Addr) : NdefX.NF := ⟨"__init__", "InvalidBit.__init__", defArgs sx_InvalidBit, defBody sx_InvalidBit, defScope sx_InvalidBit, [(("__class__" : Str), cc)], cd⟩
theorem okx_InvalidBit {P : Program} {w : World} {K : PySem.W.Frag} {mg : Str → Option Value} {base : Heap} {f cc cd C : Addr} {oc doc pm ctv : Value} {od : Option Addr} {sl : Array (Option Value)} (lk : K.lookup f = some ⟨oc, od, .func ((nf_InvalidBit cc cd).fd doc pm ctv), sl⟩) (T : OexC K C)
    (S : SupF P K mg (nf_InvalidBit cc cd) f cc C) (hno : PySem.W.findIn K (.ref C) "bit" = some none) : FnOk P w K mg base (L2N.CX P w) 1 f ((nf_InvalidBit cc cd).fd doc pm ctv) ["self", "bit"] (spX C "bit") :=
  ok_sup (at_ := "bit") (pre := "not a bit: ") lk T S (NdefX.nscope_by (by show NdefX.nscB _ _ _ (defScope sx_InvalidBit) = true; decide +kernel)) hno (by decide) rfl rfl rfl (by decide) (by decide) rfl (fun _ => rfl)
abbrev sx_InvalidCount : Stmt := inClass (topS 5) 0
abbrev nf_InvalidCount (cc cd : Addr) : NdefX.NF := ⟨"__init__", "InvalidCount.__init__", defArgs sx_InvalidCount, defBody sx_InvalidCount, defScope sx_InvalidCount, [(("__class__" : Str), cc)], cd⟩
theorem okx_InvalidCount {P : Program} {w : World} {K : PySem.W.Frag} {mg : Str → Option Value} {base : Heap} {f cc cd C : Addr} {oc doc pm ctv : Value} {od : Option Addr} {sl : Array (Option Value)} (lk : K.lookup f = some ⟨oc, od, .func ((nf_InvalidCount cc cd).fd doc pm ctv), sl⟩) (T : OexC K C)
    (S : SupF P K mg (nf_InvalidCount cc cd) f cc C) (hno : PySem.W.findIn K (.ref C) "amount" = some none) : FnOk P w K mg base (L2N.CX P w) 1 f ((nf_InvalidCount cc cd).fd doc pm ctv) ["self", "amount"] (spX C "amount") :=
  ok_sup (at_ := "amount") (pre := "out of range: ") lk T S (NdefX.nscope_by (by show NdefX.nscB _ _ _ (defScope sx_InvalidCount) = true; decide +kernel)) hno (by decide) rfl rfl rfl (by decide) (by decide) rfl (fun _ => rfl)
abbrev sx_InvalidRule : Stmt := inClass (topS 6) 0
abbrev nf_InvalidRule (cc cd : Addr) : NdefX.NF := ⟨"__init__", "InvalidRule.__init__", defArgs sx_InvalidRule, defBody sx_InvalidRule, defScope sx_InvalidRule, [(("__class__" : Str), cc)], cd⟩
theorem okx_InvalidRule {P : Program} {w : World} {K : PySem.W.Frag} {mg : Str → Option Value} {base : Heap} {f cc cd C : Addr} {oc doc pm ctv : Value} {od : Option Addr} {sl : Array (Option Value)} (lk : K.lookup f = some ⟨oc, od, .func ((nf_InvalidRule cc cd).fd doc pm ctv), sl⟩) (T : OexC K C)
    (S : SupF P K mg (nf_InvalidRule cc cd) f cc C) (hno : PySem.W.findIn K (.ref C) "state" = some none) : FnOk P w K mg base (L2N.CX P w) 1 f ((nf_InvalidRule cc cd).fd doc pm ctv) ["self", "state"] (spX C "state") :=
  ok_sup (at_ := "state") (pre := "not a row of a rule: row ") lk T S (NdefX.nscope_by (by show NdefX.nscB _ _ _ (defScope sx_InvalidRule) = true; decide +kernel)) hno (by decide) rfl rfl rfl (by decide) (by decide) rfl (fun _ => rfl)
abbrev sx_InvalidState : Stmt := inClass (topS 7) 0
abbrev nf_InvalidState (cc cd : Addr) : NdefX.NF := ⟨"__init__", "InvalidState.__init__", defArgs sx_InvalidState, defBody sx_InvalidState, defScope sx_InvalidState, [(("__class__" : Str), cc)], cd⟩
theorem okx_InvalidState {P : Program} {w : World} {K : PySem.W.Frag} {mg : Str → Option Value} {base : Heap} {f cc cd C : Addr} {oc doc pm ctv : Value} {od : Option Addr} {sl : Array (Option Value)} (lk : K.lookup f = some ⟨oc, od, .func ((nf_InvalidState cc cd).fd doc pm ctv), sl⟩) (T : OexC K C)
    (S : SupF P K mg (nf_InvalidState cc cd) f cc C) (hno : PySem.W.findIn K (.ref C) "state" = some none) : FnOk P w K mg base (L2N.CX P w) 1 f ((nf_InvalidState cc cd).fd doc pm ctv) ["self", "state"] (spX C "state") :=
  ok_sup (at_ := "state") (pre := "not a state of the rule: ") lk T S (NdefX.nscope_by (by show NdefX.nscB _ _ _ (defScope sx_InvalidState) = true; decide +kernel)) hno (by decide) rfl rfl rfl (by decide) (by decide) rfl (fun _ => rfl)
abbrev sx_InvalidNotation : Stmt := inClass (topS 8) 0
abbrev nf_InvalidNotation (cc cd : Addr) : NdefX.NF := ⟨"__init__", "InvalidNotation.__init__", defArgs sx_InvalidNotation, defBody sx_InvalidNotation, defScope sx_InvalidNotation, [(("__class__" : Str), cc)], cd⟩
theorem okx_InvalidNotation {P : Program} {w : World} {K : PySem.W.Frag} {mg : Str → Option Value} {base : Heap} {f cc cd C : Addr} {oc doc pm ctv : Value} {od : Option Addr} {sl : Array (Option Value)} (lk : K.lookup f = some ⟨oc, od, .func ((nf_InvalidNotation cc cd).fd doc pm ctv), sl⟩) (T : OexC K C)
    (S : SupF P K mg (nf_InvalidNotation cc cd) f cc C) (hno : PySem.W.findIn K (.ref C) "line" = some none) : FnOk P w K mg base (L2N.CX P w) 1 f ((nf_InvalidNotation cc cd).fd doc pm ctv) ["self", "line"] (spX C "line") :=
  ok_sup (at_ := "line") (pre := "not a line of a rule: line ") lk T S (NdefX.nscope_by (by show NdefX.nscB _ _ _ (defScope sx_InvalidNotation) = true; decide +kernel)) hno (by decide) rfl rfl rfl (by decide) (by decide) rfl (fun _ => rfl)
abbrev sx_OutOfChain : Stmt := inClass (topS 9) 0
abbrev nf_OutOfChain (cc cd : Addr) : NdefX.NF := ⟨"__init__", "OutOfChain.__init__", defArgs sx_OutOfChain, defBody sx_OutOfChain, defScope sx_OutOfChain, [(("__class__" : Str), cc)], cd⟩
theorem okx_OutOfChain {P : Program} {w : World} {K : PySem.W.Frag} {mg : Str → Option Value} {base : Heap} {f cc cd C : Addr} {oc doc pm ctv : Value} {od : Option Addr} {sl : Array (Option Value)} (lk : K.lookup f = some ⟨oc, od, .func ((nf_OutOfChain cc cd).fd doc pm ctv), sl⟩) (T : OexC K C)
    (S : SupF P K mg (nf_OutOfChain cc cd) f cc C) (hno : PySem.W.findIn K (.ref C) "position" = some none) : FnOk P w K mg base (L2N.CX P w) 1 f ((nf_OutOfChain cc cd).fd doc pm ctv) ["self", "position"] (spX C "position") :=
  ok_sup (at_ := "position") (pre := "no run at position ") lk T S (NdefX.nscope_by (by show NdefX.nscB _ _ _ (defScope sx_OutOfChain) = true; decide +kernel)) hno (by decide) rfl rfl rfl (by decide) (by decide) rfl (fun _ => rfl)
abbrev sx_NeverSeen : Stmt := inClass (topS 10) 0
abbrev nf_NeverSeen (cc cd : Addr) : NdefX.NF := ⟨"__init__", "NeverSeen.__init__", defArgs sx_NeverSeen, defBody sx_NeverSeen, defScope sx_NeverSeen, [(("__class__" : Str), cc)], cd⟩
theorem okx_NeverSeen {P : Program} {w : World} {K : PySem.W.Frag} {mg : Str → Option Value} {base : Heap} {f cc cd C : Addr} {oc doc pm ctv : Value} {od : Option Addr} {sl : Array (Option Value)} (lk : K.lookup f = some ⟨oc, od, .func ((nf_NeverSeen cc cd).fd doc pm ctv), sl⟩) (T : OexC K C)
    (S : SupF P K mg (nf_NeverSeen cc cd) f cc C) (hno : PySem.W.findIn K (.ref C) "wrong_view" = some none) : FnOk P w K mg base (L2N.CX P w) 1 f ((nf_NeverSeen cc cd).fd doc pm ctv) ["self", "wrong_view"] (spXT K C "wrong_view") :=
  ok_supT (at_ := "wrong_view") (pre := "never seen: ") lk T S (NdefX.nscope_by (by show NdefX.nscB _ _ _ (defScope sx_NeverSeen) = true; decide +kernel)) hno (by decide) rfl rfl rfl (by decide) (by decide) rfl (fun _ => rfl)
theorem all_mk {P : Program} {w : World} {K : PySem.W.Frag} {h : Heap} {mg : Str → Option Value} {fa : Addr} (X : K.In h) (G : h.Ns mainGlobals mg) (hfa : mg "law" = some (.ref fa))
    {CInvalidFate CInvalidEnd CInvalidBit CInvalidCount CInvalidRule CInvalidState CInvalidNotation COutOfChain CNeverSeen CUnmatched CCannotDecide CNoChain CNotClosed CSureError : Addr}
    {nmInvalidFate qInvalidFate : Str} {NInvalidFate fInvalidFate ccInvalidFate cdInvalidFate : Addr} {bsInvalidFate bmInvalidFate subInvalidFate : List Value} {snInvalidFate : List Str} {abInvalidFate : Bool} {colInvalidFate : Option Bool} {ddInvalidFate odInvalidFate od2InvalidFate od3InvalidFate : Option Addr} {k0InvalidFate k1InvalidFate k2InvalidFate k3InvalidFate k5InvalidFate : Option Value} {ocInvalidFate oc2InvalidFate oc3InvalidFate dcInvalidFate pmInvalidFate ctInvalidFate : Value} {slInvalidFate sl2InvalidFate sl3InvalidFate : Array (Option Value)} {vsInvalidFate : Array Value} {fiInvalidFate : Str} {tfInvalidFate : Tok}
    {nmInvalidEnd qInvalidEnd : Str} {NInvalidEnd fInvalidEnd ccInvalidEnd cdInvalidEnd : Addr} {bsInvalidEnd bmInvalidEnd subInvalidEnd : List Value} {snInvalidEnd : List Str} {abInvalidEnd : Bool} {colInvalidEnd : Option Bool} {ddInvalidEnd odInvalidEnd od2InvalidEnd od3InvalidEnd : Option Addr} {k0InvalidEnd k1InvalidEnd k2InvalidEnd k3InvalidEnd k5InvalidEnd : Option Value} {ocInvalidEnd oc2InvalidEnd oc3InvalidEnd dcInvalidEnd pmInvalidEnd ctInvalidEnd : Value} {slInvalidEnd sl2InvalidEnd sl3InvalidEnd : Array (Option Value)} {vsInvalidEnd : Array Value} {fiInvalidEnd : Str} {tfInvalidEnd : Tok}
    {nmInvalidBit qInvalidBit : Str} {NInvalidBit fInvalidBit ccInvalidBit cdInvalidBit : Addr} {bsInvalidBit bmInvalidBit subInvalidBit : List Value} {snInvalidBit : List Str} {abInvalidBit : Bool} {colInvalidBit : Option Bool} {ddInvalidBit odInvalidBit od2InvalidBit od3InvalidBit : Option Addr} {k0InvalidBit k1InvalidBit k2InvalidBit k3InvalidBit k5InvalidBit : Option Value} {ocInvalidBit oc2InvalidBit oc3InvalidBit dcInvalidBit pmInvalidBit ctInvalidBit : Value} {slInvalidBit sl2InvalidBit sl3InvalidBit : Array (Option Value)} {vsInvalidBit : Array Value} {fiInvalidBit : Str} {tfInvalidBit : Tok}
    {nmInvalidCount qInvalidCount : Str} {NInvalidCount fInvalidCount ccInvalidCount cdInvalidCount : Addr} {bsInvalidCount bmInvalidCount subInvalidCount : List Value} {snInvalidCount : List Str} {abInvalidCount : Bool} {colInvalidCount : Option Bool} {ddInvalidCount odInvalidCount od2InvalidCount od3InvalidCount : Option Addr} {k0InvalidCount k1InvalidCount k2InvalidCount k3InvalidCount k5InvalidCount : Option Value} {ocInvalidCount oc2InvalidCount oc3InvalidCount dcInvalidCount pmInvalidCount ctInvalidCount : Value} {slInvalidCount sl2InvalidCount sl3InvalidCount : Array (Option Value)} {vsInvalidCount : Array Value} {fiInvalidCount : Str} {tfInvalidCount : Tok}
    {nmInvalidRule qInvalidRule : Str} {NInvalidRule fInvalidRule ccInvalidRule cdInvalidRule : Addr} {bsInvalidRule bmInvalidRule subInvalidRule : List Value} {snInvalidRule : List Str} {abInvalidRule : Bool} {colInvalidRule : Option Bool} {ddInvalidRule odInvalidRule od2InvalidRule od3InvalidRule : Option Addr} {k0InvalidRule k1InvalidRule k2InvalidRule k3InvalidRule k5InvalidRule : Option Value} {ocInvalidRule oc2InvalidRule oc3InvalidRule dcInvalidRule pmInvalidRule ctInvalidRule : Value} {slInvalidRule sl2InvalidRule sl3InvalidRule : Array (Option Value)} {vsInvalidRule : Array Value} {fiInvalidRule : Str} {tfInvalidRule : Tok}
    {nmInvalidState qInvalidState : Str} {NInvalidState fInvalidState ccInvalidState cdInvalidState : Addr} {bsInvalidState bmInvalidState subInvalidState : List Value} {snInvalidState : List Str} {abInvalidState : Bool} {colInvalidState : Option Bool} {ddInvalidState odInvalidState od2InvalidState od3InvalidState : Option Addr} {k0InvalidState k1InvalidState k2InvalidState k3InvalidState k5InvalidState : Option Value} {ocInvalidState oc2InvalidState oc3InvalidState dcInvalidState pmInvalidState ctInvalidState : Value} {slInvalidState sl2InvalidState sl3InvalidState : Array (Option Value)} {vsInvalidState : Array Value} {fiInvalidState : Str} {tfInvalidState : Tok}
    {nmInvalidNotation qInvalidNotation : Str} {NInvalidNotation fInvalidNotation ccInvalidNotation cdInvalidNotation : Addr} {bsInvalidNotation bmInvalidNotation subInvalidNotation : List Value} {snInvalidNotation : List Str} {abInvalidNotation : Bool} {colInvalidNotation : Option Bool} {ddInvalidNotation odInvalidNotation od2InvalidNotation od3InvalidNotation : Option Addr} {k0InvalidNotation k1InvalidNotation k2InvalidNotation k3InvalidNotation k5InvalidNotation : Option Value} {ocInvalidNotation oc2InvalidNotation oc3InvalidNotation dcInvalidNotation pmInvalidNotation ctInvalidNotation : Value} {slInvalidNotation sl2InvalidNotation sl3InvalidNotation : Array (Option Value)} {vsInvalidNotation : Array Value} {fiInvalidNotation : Str} {tfInvalidNotation : Tok}
    {nmOutOfChain qOutOfChain : Str} {NOutOfChain fOutOfChain ccOutOfChain cdOutOfChain : Addr} {bsOutOfChain bmOutOfChain subOutOfChain : List Value} {snOutOfChain : List Str} {abOutOfChain : Bool} {colOutOfChain : Option Bool} {ddOutOfChain odOutOfChain od2OutOfChain od3OutOfChain : Option Addr} {k0OutOfChain k1OutOfChain k2OutOfChain k3OutOfChain k5OutOfChain : Option Value} {ocOutOfChain oc2OutOfChain oc3OutOfChain dcOutOfChain pmOutOfChain ctOutOfChain : Value} {slOutOfChain sl2OutOfChain sl3OutOfChain : Array (Option Value)} {vsOutOfChain : Array Value} {fiOutOfChain : Str} {tfOutOfChain : Tok}
    {nmNeverSeen qNeverSeen : Str} {NNeverSeen fNeverSeen ccNeverSeen cdNeverSeen : Addr} {bsNeverSeen bmNeverSeen subNeverSeen : List Value} {snNeverSeen : List Str} {abNeverSeen : Bool} {colNeverSeen : Option Bool} {ddNeverSeen odNeverSeen od2NeverSeen od3NeverSeen : Option Addr} {k0NeverSeen k1NeverSeen k2NeverSeen k3NeverSeen k5NeverSeen : Option Value} {ocNeverSeen oc2NeverSeen oc3NeverSeen dcNeverSeen pmNeverSeen ctNeverSeen : Value} {slNeverSeen sl2NeverSeen sl3NeverSeen : Array (Option Value)} {vsNeverSeen : Array Value} {fiNeverSeen : Str} {tfNeverSeen : Tok}
    {tFATES : _}
    {DSWAPPED : Addr} {esSWAPPED : Array DictEntry} {nnSWAPPED : Nat}
    {tSWAPPED0 : _}
    {tSWAPPED1 : _}
    {tSWAPPED2 : _}
    {tSWAPPED3 : _}
    {fcheck_fates : Addr} {odcheck_fates ancheck_fates : Option Addr} {slcheck_fates : Array (Option Value)} {occheck_fates kVcheck_fates dccheck_fates pmcheck_fates cdcheck_fates ctcheck_fates : Value}
    {fswap_fates : Addr} {odswap_fates answap_fates : Option Addr} {slswap_fates : Array (Option Value)} {ocswap_fates kVswap_fates dcswap_fates pmswap_fates cdswap_fates ctswap_fates : Value}
    {fLcell : Addr} {odLcell anLcell : Option Addr} {slLcell : Array (Option Value)} {ocLcell kVLcell dcLcell pmLcell cdLcell ctLcell : Value}
    {fLnumber : Addr} {odLnumber anLnumber : Option Addr} {slLnumber : Array (Option Value)} {ocLnumber kVLnumber dcLnumber pmLnumber cdLnumber ctLnumber : Value}
    {fLdraws : Addr} {odLdraws anLdraws : Option Addr} {slLdraws : Array (Option Value)} {ocLdraws kVLdraws dcLdraws pmLdraws cdLdraws ctLdraws : Value}
    {fLfates : Addr} {odLfates anLfates : Option Addr} {slLfates : Array (Option Value)} {ocLfates kVLfates dcLfates pmLfates cdLfates ctLfates : Value}
    {fLinteger : Addr} {odLinteger anLinteger : Option Addr} {slLinteger : Array (Option Value)} {ocLinteger kVLinteger dcLinteger pmLinteger cdLinteger ctLinteger : Value}
    {fLraise : Addr} {odLraise anLraise : Option Addr} {slLraise : Array (Option Value)} {ocLraise kVLraise dcLraise pmLraise cdLraise ctLraise : Value}
    {fLkinds : Addr} {odLkinds anLkinds : Option Addr} {slLkinds : Array (Option Value)} {ocLkinds kVLkinds dcLkinds pmLkinds cdLkinds ctLkinds : Value}
    {fLfield : Addr} {odLfield anLfield : Option Addr} {slLfield : Array (Option Value)} {ocLfield kVLfield dcLfield pmLfield cdLfield ctLfield : Value}
    {flaw : Addr} {odlaw anlaw : Option Addr} {sllaw : Array (Option Value)} {oclaw kVlaw dclaw pmlaw cdlaw ctlaw : Value}
    (z_len : PySem.W.nsIn K mainGlobals "len" = some none)
    (z_range : PySem.W.nsIn K mainGlobals "range" = some none)
    (z_int : PySem.W.nsIn K mainGlobals "int" = some none)
    (z_isinstance : PySem.W.nsIn K mainGlobals "isinstance" = some none)
    (z_enumerate : PySem.W.nsIn K mainGlobals "enumerate" = some none)
    (z_zip : PySem.W.nsIn K mainGlobals "zip" = some none)
    (z_str : PySem.W.nsIn K mainGlobals "str" = some none)
    (z_list : PySem.W.nsIn K mainGlobals "list" = some none)
    (z_tuple : PySem.W.nsIn K mainGlobals "tuple" = some none)
    (z_all : PySem.W.nsIn K mainGlobals "all" = some none)
    (z_any : PySem.W.nsIn K mainGlobals "any" = some none)
    (z_reversed : PySem.W.nsIn K mainGlobals "reversed" = some none)
    (z_iter : PySem.W.nsIn K mainGlobals "iter" = some none)
    (z_bool : PySem.W.nsIn K mainGlobals "bool" = some none)
    (z_super : PySem.W.nsIn K mainGlobals "super" = some none)
    (z_dict : PySem.W.nsIn K mainGlobals "dict" = some none)
    (z_ValueError : PySem.W.nsIn K mainGlobals "ValueError" = some none)
    (opq : PySem.W.nsIn K cStatics "thirdparty.any" = some none)
    (topS_ : (P.main.scope.names.lookup ("super" : Str)).isSome = false)
    (aCSureError : PySem.W.nsIn K mainGlobals "SureError" = some (some (.ref CSureError)))
    (aCInvalidFate : PySem.W.nsIn K mainGlobals "InvalidFate" = some (some (.ref CInvalidFate)))
    (aCInvalidEnd : PySem.W.nsIn K mainGlobals "InvalidEnd" = some (some (.ref CInvalidEnd)))
    (aCInvalidBit : PySem.W.nsIn K mainGlobals "InvalidBit" = some (some (.ref CInvalidBit)))
    (aCInvalidCount : PySem.W.nsIn K mainGlobals "InvalidCount" = some (some (.ref CInvalidCount)))
    (aCInvalidRule : PySem.W.nsIn K mainGlobals "InvalidRule" = some (some (.ref CInvalidRule)))
    (aCInvalidState : PySem.W.nsIn K mainGlobals "InvalidState" = some (some (.ref CInvalidState)))
    (aCInvalidNotation : PySem.W.nsIn K mainGlobals "InvalidNotation" = some (some (.ref CInvalidNotation)))
    (aCOutOfChain : PySem.W.nsIn K mainGlobals "OutOfChain" = some (some (.ref COutOfChain)))
    (aCNeverSeen : PySem.W.nsIn K mainGlobals "NeverSeen" = some (some (.ref CNeverSeen)))
    (aCUnmatched : PySem.W.nsIn K mainGlobals "Unmatched" = some (some (.ref CUnmatched)))
    (aCCannotDecide : PySem.W.nsIn K mainGlobals "CannotDecide" = some (some (.ref CCannotDecide)))
    (aCNoChain : PySem.W.nsIn K mainGlobals "NoChain" = some (some (.ref CNoChain)))
    (aCNotClosed : PySem.W.nsIn K mainGlobals "NotClosed" = some (some (.ref CNotClosed)))
    (exCSureError : PySem.W.subIn K (.ref CSureError) (.type "BaseException") = some true)
    (tyCSureError : PySem.W.typeIn K (.ref CSureError) = some (.type "type"))
    (hdSureError : PySem.W.hasDictIn K CSureError = true)
    (sbSureError_InvalidFate : PySem.W.subIn K (.ref CInvalidFate) (.ref CSureError) = some true)
    (sbSureError_InvalidEnd : PySem.W.subIn K (.ref CInvalidEnd) (.ref CSureError) = some true)
    (sbSureError_InvalidBit : PySem.W.subIn K (.ref CInvalidBit) (.ref CSureError) = some true)
    (sbSureError_InvalidCount : PySem.W.subIn K (.ref CInvalidCount) (.ref CSureError) = some true)
    (sbSureError_InvalidRule : PySem.W.subIn K (.ref CInvalidRule) (.ref CSureError) = some true)
    (sbSureError_InvalidState : PySem.W.subIn K (.ref CInvalidState) (.ref CSureError) = some true)
    (sbSureError_InvalidNotation : PySem.W.subIn K (.ref CInvalidNotation) (.ref CSureError) = some true)
    (sbSureError_OutOfChain : PySem.W.subIn K (.ref COutOfChain) (.ref CSureError) = some true)
    (sbSureError_NeverSeen : PySem.W.subIn K (.ref CNeverSeen) (.ref CSureError) = some true)
    (sbSureError_Unmatched : PySem.W.subIn K (.ref CUnmatched) (.ref CSureError) = some true)
    (sbSureError_CannotDecide : PySem.W.subIn K (.ref CCannotDecide) (.ref CSureError) = some true)
    (sbSureError_NoChain : PySem.W.subIn K (.ref CNoChain) (.ref CSureError) = some true)
    (sbSureError_NotClosed : PySem.W.subIn K (.ref CNotClosed) (.ref CSureError) = some true)
    (exCInvalidFate : PySem.W.subIn K (.ref CInvalidFate) (.type "BaseException") = some true)
    (tyCInvalidFate : PySem.W.typeIn K (.ref CInvalidFate) = some (.type "type"))
    (hdInvalidFate : PySem.W.hasDictIn K CInvalidFate = true)
    (nInvalidFate : PySem.W.findIn K (.ref CInvalidFate) "at" = some none)
    (hnC : PySem.W.specialIn K (.builtin "object.__class__") "__get__" = some (some (.builtin "getset_descriptor.__get__")))
    (htC : PySem.W.takesIn K (.builtin "object.__class__") = some true)
    (heInvalidFate : PySem.W.findIn K (.ref CInvalidFate) "__class__" = some (some (.builtin "object.__class__")))
    (hqInvalidFate : PySem.W.mroIn K CInvalidFate (.type "object") = some true)
    (gaInvalidFate : PySem.W.findIn K (.ref CInvalidFate) "__getattribute__" = some (some (.builtin "BaseException.__getattribute__")))
    (ggInvalidFate : PySem.W.findIn K (.ref CInvalidFate) "__getattr__" = some none)
    (veInvalidFate : PySem.W.subIn K (.ref CInvalidFate) (.type "ValueError") = some true)
    (ssInvalidFate : PySem.W.subIn K (.ref CInvalidFate) (.ref CInvalidFate) = some true)
    (sbInvalidFate_InvalidFate : PySem.W.subIn K (.ref CInvalidFate) (.ref CInvalidFate) = some true)
    (sbInvalidFate_InvalidEnd : PySem.W.subIn K (.ref CInvalidEnd) (.ref CInvalidFate) = some false)
    (sbInvalidFate_InvalidBit : PySem.W.subIn K (.ref CInvalidBit) (.ref CInvalidFate) = some false)
    (sbInvalidFate_InvalidCount : PySem.W.subIn K (.ref CInvalidCount) (.ref CInvalidFate) = some false)
    (sbInvalidFate_InvalidRule : PySem.W.subIn K (.ref CInvalidRule) (.ref CInvalidFate) = some false)
    (sbInvalidFate_InvalidState : PySem.W.subIn K (.ref CInvalidState) (.ref CInvalidFate) = some false)
    (sbInvalidFate_InvalidNotation : PySem.W.subIn K (.ref CInvalidNotation) (.ref CInvalidFate) = some false)
    (sbInvalidFate_OutOfChain : PySem.W.subIn K (.ref COutOfChain) (.ref CInvalidFate) = some false)
    (sbInvalidFate_NeverSeen : PySem.W.subIn K (.ref CNeverSeen) (.ref CInvalidFate) = some false)
    (sbInvalidFate_Unmatched : PySem.W.subIn K (.ref CUnmatched) (.ref CInvalidFate) = some false)
    (sbInvalidFate_CannotDecide : PySem.W.subIn K (.ref CCannotDecide) (.ref CInvalidFate) = some false)
    (sbInvalidFate_NoChain : PySem.W.subIn K (.ref CNoChain) (.ref CInvalidFate) = some false)
    (sbInvalidFate_NotClosed : PySem.W.subIn K (.ref CNotClosed) (.ref CInvalidFate) = some false)
    (xLInvalidFate : K.lookup CInvalidFate = some (excClassObj nmInvalidFate qInvalidFate CInvalidFate NInvalidFate bsInvalidFate bmInvalidFate true snInvalidFate subInvalidFate abInvalidFate colInvalidFate ddInvalidFate k0InvalidFate k1InvalidFate k2InvalidFate k3InvalidFate k5InvalidFate "ValueError.__new__"))
    (xrInvalidFate : PySem.HandSPX.refsVE bmInvalidFate = true)
    (saInvalidFate : PySem.W.findIn K (.ref CInvalidFate) "__setattr__" = some (some (.builtin "object.__setattr__")))
    (kCInvalidFate : PySem.W.keepIn K (.ref CInvalidFate) = true)
    (aiInvalidFate : PySem.W.findIn K (.ref CInvalidFate) "__init__" = some (some (.ref fInvalidFate)))
    (tiInvalidFate : PySem.W.typeIn K (.ref fInvalidFate) = some (.type "function"))
    (liInvalidFate : K.lookup fInvalidFate = some ⟨ocInvalidFate, odInvalidFate, .func ((nf_InvalidFate ccInvalidFate cdInvalidFate).fd dcInvalidFate pmInvalidFate ctInvalidFate), slInvalidFate⟩)
    (ciInvalidFate : PySem.W.codeIn K (.ref cdInvalidFate) "InvalidFate.__init__" = true)
    (ceInvalidFate : K.lookup ccInvalidFate = some ⟨oc2InvalidFate, od2InvalidFate, .cell (some (.ref CInvalidFate)), sl2InvalidFate⟩)
    (coInvalidFate : K.lookup cdInvalidFate = some ⟨oc3InvalidFate, od3InvalidFate, .fields vsInvalidFate, sl3InvalidFate⟩)
    (cfInvalidFate : vsInvalidFate[2]? = some (.str fiInvalidFate tfInvalidFate))
    (cgInvalidFate : ((P.main.file : Str) == fiInvalidFate) = true)
    (suInvalidFate : PySem.W.ks_superIn K CInvalidFate CInvalidFate "__init__" = some (some (.builtin "ValueError.__init__")))
    (scInvalidFate : PySem.W.mroIn K CInvalidFate (.ref CInvalidFate) = some true)
    (svInvalidFate : PySem.W.subIn K (.ref CInvalidFate) (.type "ValueError") = some true)
    (exCInvalidEnd : PySem.W.subIn K (.ref CInvalidEnd) (.type "BaseException") = some true)
    (tyCInvalidEnd : PySem.W.typeIn K (.ref CInvalidEnd) = some (.type "type"))
    (hdInvalidEnd : PySem.W.hasDictIn K CInvalidEnd = true)
    (nInvalidEnd : PySem.W.findIn K (.ref CInvalidEnd) "end" = some none)
    (heInvalidEnd : PySem.W.findIn K (.ref CInvalidEnd) "__class__" = some (some (.builtin "object.__class__")))
    (hqInvalidEnd : PySem.W.mroIn K CInvalidEnd (.type "object") = some true)
    (gaInvalidEnd : PySem.W.findIn K (.ref CInvalidEnd) "__getattribute__" = some (some (.builtin "BaseException.__getattribute__")))
    (ggInvalidEnd : PySem.W.findIn K (.ref CInvalidEnd) "__getattr__" = some none)
    (veInvalidEnd : PySem.W.subIn K (.ref CInvalidEnd) (.type "ValueError") = some true)
    (ssInvalidEnd : PySem.W.subIn K (.ref CInvalidEnd) (.ref CInvalidEnd) = some true)
    (sbInvalidEnd_InvalidFate : PySem.W.subIn K (.ref CInvalidFate) (.ref CInvalidEnd) = some false)
    (sbInvalidEnd_InvalidEnd : PySem.W.subIn K (.ref CInvalidEnd) (.ref CInvalidEnd) = some true)
    (sbInvalidEnd_InvalidBit : PySem.W.subIn K (.ref CInvalidBit) (.ref CInvalidEnd) = some false)
    (sbInvalidEnd_InvalidCount : PySem.W.subIn K (.ref CInvalidCount) (.ref CInvalidEnd) = some false)
    (sbInvalidEnd_InvalidRule : PySem.W.subIn K (.ref CInvalidRule) (.ref CInvalidEnd) = some false)
    (sbInvalidEnd_InvalidState : PySem.W.subIn K (.ref CInvalidState) (.ref CInvalidEnd) = some false)
    (sbInvalidEnd_InvalidNotation : PySem.W.subIn K (.ref CInvalidNotation) (.ref CInvalidEnd) = some false)
    (sbInvalidEnd_OutOfChain : PySem.W.subIn K (.ref COutOfChain) (.ref CInvalidEnd) = some false)
    (sbInvalidEnd_NeverSeen : PySem.W.subIn K (.ref CNeverSeen) (.ref CInvalidEnd) = some false)
    (sbInvalidEnd_Unmatched : PySem.W.subIn K (.ref CUnmatched) (.ref CInvalidEnd) = some false)
    (sbInvalidEnd_CannotDecide : PySem.W.subIn K (.ref CCannotDecide) (.ref CInvalidEnd) = some false)
    (sbInvalidEnd_NoChain : PySem.W.subIn K (.ref CNoChain) (.ref CInvalidEnd) = some false)
    (sbInvalidEnd_NotClosed : PySem.W.subIn K (.ref CNotClosed) (.ref CInvalidEnd) = some false)
    (xLInvalidEnd : K.lookup CInvalidEnd = some (excClassObj nmInvalidEnd qInvalidEnd CInvalidEnd NInvalidEnd bsInvalidEnd bmInvalidEnd true snInvalidEnd subInvalidEnd abInvalidEnd colInvalidEnd ddInvalidEnd k0InvalidEnd k1InvalidEnd k2InvalidEnd k3InvalidEnd k5InvalidEnd "ValueError.__new__"))
    (xrInvalidEnd : PySem.HandSPX.refsVE bmInvalidEnd = true)
    (saInvalidEnd : PySem.W.findIn K (.ref CInvalidEnd) "__setattr__" = some (some (.builtin "object.__setattr__")))
    (kCInvalidEnd : PySem.W.keepIn K (.ref CInvalidEnd) = true)
    (aiInvalidEnd : PySem.W.findIn K (.ref CInvalidEnd) "__init__" = some (some (.ref fInvalidEnd)))
    (tiInvalidEnd : PySem.W.typeIn K (.ref fInvalidEnd) = some (.type "function"))
    (liInvalidEnd : K.lookup fInvalidEnd = some ⟨ocInvalidEnd, odInvalidEnd, .func ((nf_InvalidEnd ccInvalidEnd cdInvalidEnd).fd dcInvalidEnd pmInvalidEnd ctInvalidEnd), slInvalidEnd⟩)
    (ciInvalidEnd : PySem.W.codeIn K (.ref cdInvalidEnd) "InvalidEnd.__init__" = true)
    (ceInvalidEnd : K.lookup ccInvalidEnd = some ⟨oc2InvalidEnd, od2InvalidEnd, .cell (some (.ref CInvalidEnd)), sl2InvalidEnd⟩)
    (coInvalidEnd : K.lookup cdInvalidEnd = some ⟨oc3InvalidEnd, od3InvalidEnd, .fields vsInvalidEnd, sl3InvalidEnd⟩)
    (cfInvalidEnd : vsInvalidEnd[2]? = some (.str fiInvalidEnd tfInvalidEnd))
    (cgInvalidEnd : ((P.main.file : Str) == fiInvalidEnd) = true)
    (suInvalidEnd : PySem.W.ks_superIn K CInvalidEnd CInvalidEnd "__init__" = some (some (.builtin "ValueError.__init__")))
    (scInvalidEnd : PySem.W.mroIn K CInvalidEnd (.ref CInvalidEnd) = some true)
    (svInvalidEnd : PySem.W.subIn K (.ref CInvalidEnd) (.type "ValueError") = some true)
    (exCInvalidBit : PySem.W.subIn K (.ref CInvalidBit) (.type "BaseException") = some true)
    (tyCInvalidBit : PySem.W.typeIn K (.ref CInvalidBit) = some (.type "type"))
    (hdInvalidBit : PySem.W.hasDictIn K CInvalidBit = true)
    (nInvalidBit : PySem.W.findIn K (.ref CInvalidBit) "bit" = some none)
    (heInvalidBit : PySem.W.findIn K (.ref CInvalidBit) "__class__" = some (some (.builtin "object.__class__")))
    (hqInvalidBit : PySem.W.mroIn K CInvalidBit (.type "object") = some true)
    (gaInvalidBit : PySem.W.findIn K (.ref CInvalidBit) "__getattribute__" = some (some (.builtin "BaseException.__getattribute__")))
    (ggInvalidBit : PySem.W.findIn K (.ref CInvalidBit) "__getattr__" = some none)
    (veInvalidBit : PySem.W.subIn K (.ref CInvalidBit) (.type "ValueError") = some true)
    (ssInvalidBit : PySem.W.subIn K (.ref CInvalidBit) (.ref CInvalidBit) = some true)
    (sbInvalidBit_InvalidFate : PySem.W.subIn K (.ref CInvalidFate) (.ref CInvalidBit) = some false)
    (sbInvalidBit_InvalidEnd : PySem.W.subIn K (.ref CInvalidEnd) (.ref CInvalidBit) = some false)
    (sbInvalidBit_InvalidBit : PySem.W.subIn K (.ref CInvalidBit) (.ref CInvalidBit) = some true)
    (sbInvalidBit_InvalidCount : PySem.W.subIn K (.ref CInvalidCount) (.ref CInvalidBit) = some false)
    (sbInvalidBit_InvalidRule : PySem.W.subIn K (.ref CInvalidRule) (.ref CInvalidBit) = some false)
    (sbInvalidBit_InvalidState : PySem.W.subIn K (.ref CInvalidState) (.ref CInvalidBit) = some false)
    (sbInvalidBit_InvalidNotation : PySem.W.subIn K (.ref CInvalidNotation) (.ref CInvalidBit) = some false)
    (sbInvalidBit_OutOfChain : PySem.W.subIn K (.ref COutOfChain) (.ref CInvalidBit) = some false)
    (sbInvalidBit_NeverSeen : PySem.W.subIn K (.ref CNeverSeen) (.ref CInvalidBit) = some false)
    (sbInvalidBit_Unmatched : PySem.W.subIn K (.ref CUnmatched) (.ref CInvalidBit) = some false)
    (sbInvalidBit_CannotDecide : PySem.W.subIn K (.ref CCannotDecide) (.ref CInvalidBit) = some false)
    (sbInvalidBit_NoChain : PySem.W.subIn K (.ref CNoChain) (.ref CInvalidBit) = some false)
    (sbInvalidBit_NotClosed : PySem.W.subIn K (.ref CNotClosed) (.ref CInvalidBit) = some false)
    (xLInvalidBit : K.lookup CInvalidBit = some (excClassObj nmInvalidBit qInvalidBit CInvalidBit NInvalidBit bsInvalidBit bmInvalidBit true snInvalidBit subInvalidBit abInvalidBit colInvalidBit ddInvalidBit k0InvalidBit k1InvalidBit k2InvalidBit k3InvalidBit k5InvalidBit "ValueError.__new__"))
    (xrInvalidBit : PySem.HandSPX.refsVE bmInvalidBit = true)
    (saInvalidBit : PySem.W.findIn K (.ref CInvalidBit) "__setattr__" = some (some (.builtin "object.__setattr__")))
    (kCInvalidBit : PySem.W.keepIn K (.ref CInvalidBit) = true)
    (aiInvalidBit : PySem.W.findIn K (.ref CInvalidBit) "__init__" = some (some (.ref fInvalidBit)))
    (tiInvalidBit : PySem.W.typeIn K (.ref fInvalidBit) = some (.type "function"))
    (liInvalidBit : K.lookup fInvalidBit = some ⟨ocInvalidBit, odInvalidBit, .func ((nf_InvalidBit ccInvalidBit cdInvalidBit).fd dcInvalidBit pmInvalidBit ctInvalidBit), slInvalidBit⟩)
    (ciInvalidBit : PySem.W.codeIn K (.ref cdInvalidBit) "InvalidBit.__init__" = true)
    (ceInvalidBit : K.lookup ccInvalidBit = some ⟨oc2InvalidBit, od2InvalidBit, .cell (some (.ref CInvalidBit)), sl2InvalidBit⟩)
    (coInvalidBit : K.lookup cdInvalidBit = some ⟨oc3InvalidBit, od3InvalidBit, .fields vsInvalidBit, sl3InvalidBit⟩)
    (cfInvalidBit : vsInvalidBit[2]? = some (.str fiInvalidBit tfInvalidBit))
    (cgInvalidBit : ((P.main.file : Str) == fiInvalidBit) = true)
    (suInvalidBit : PySem.W.ks_superIn K CInvalidBit CInvalidBit "__init__" = some (some (.builtin "ValueError.__init__")))
    (scInvalidBit : PySem.W.mroIn K CInvalidBit (.ref CInvalidBit) = some true)
    (svInvalidBit : PySem.W.subIn K (.ref CInvalidBit) (.type "ValueError") = some true)
    (exCInvalidCount : PySem.W.subIn K (.ref CInvalidCount) (.type "BaseException") = some true)
    (tyCInvalidCount : PySem.W.typeIn K (.ref CInvalidCount) = some (.type "type"))
    (hdInvalidCount : PySem.W.hasDictIn K CInvalidCount = true)
    (nInvalidCount : PySem.W.findIn K (.ref CInvalidCount) "amount" = some none)
    (heInvalidCount : PySem.W.findIn K (.ref CInvalidCount) "__class__" = some (some (.builtin "object.__class__")))
    (hqInvalidCount : PySem.W.mroIn K CInvalidCount (.type "object") = some true)
    (gaInvalidCount : PySem.W.findIn K (.ref CInvalidCount) "__getattribute__" = some (some (.builtin "BaseException.__getattribute__")))
    (ggInvalidCount : PySem.W.findIn K (.ref CInvalidCount) "__getattr__" = some none)
    (veInvalidCount : PySem.W.subIn K (.ref CInvalidCount) (.type "ValueError") = some true)
    (ssInvalidCount : PySem.W.subIn K (.ref CInvalidCount) (.ref CInvalidCount) = some true)
    (sbInvalidCount_InvalidFate : PySem.W.subIn K (.ref CInvalidFate) (.ref CInvalidCount) = some false)
    (sbInvalidCount_InvalidEnd : PySem.W.subIn K (.ref CInvalidEnd) (.ref CInvalidCount) = some false)
    (sbInvalidCount_InvalidBit : PySem.W.subIn K (.ref CInvalidBit) (.ref CInvalidCount) = some false)
    (sbInvalidCount_InvalidCount : PySem.W.subIn K (.ref CInvalidCount) (.ref CInvalidCount) = some true)
    (sbInvalidCount_InvalidRule : PySem.W.subIn K (.ref CInvalidRule) (.ref CInvalidCount) = some false)
    (sbInvalidCount_InvalidState : PySem.W.subIn K (.ref CInvalidState) (.ref CInvalidCount) = some false)
    (sbInvalidCount_InvalidNotation : PySem.W.subIn K (.ref CInvalidNotation) (.ref CInvalidCount) = some false)
    (sbInvalidCount_OutOfChain : PySem.W.subIn K (.ref COutOfChain) (.ref CInvalidCount) = some false)
    (sbInvalidCount_NeverSeen : PySem.W.subIn K (.ref CNeverSeen) (.ref CInvalidCount) = some false)
    (sbInvalidCount_Unmatched : PySem.W.subIn K (.ref CUnmatched) (.ref CInvalidCount) = some false)
    (sbInvalidCount_CannotDecide : PySem.W.subIn K (.ref CCannotDecide) (.ref CInvalidCount) = some false)
    (sbInvalidCount_NoChain : PySem.W.subIn K (.ref CNoChain) (.ref CInvalidCount) = some false)
    (sbInvalidCount_NotClosed : PySem.W.subIn K (.ref CNotClosed) (.ref CInvalidCount) = some false)
    (xLInvalidCount : K.lookup CInvalidCount = some (excClassObj nmInvalidCount qInvalidCount CInvalidCount NInvalidCount bsInvalidCount bmInvalidCount true snInvalidCount subInvalidCount abInvalidCount colInvalidCount ddInvalidCount k0InvalidCount k1InvalidCount k2InvalidCount k3InvalidCount k5InvalidCount "ValueError.__new__"))
    (xrInvalidCount : PySem.HandSPX.refsVE bmInvalidCount = true)
    (saInvalidCount : PySem.W.findIn K (.ref CInvalidCount) "__setattr__" = some (some (.builtin "object.__setattr__")))
    (kCInvalidCount : PySem.W.keepIn K (.ref CInvalidCount) = true)
    (aiInvalidCount : PySem.W.findIn K (.ref CInvalidCount) "__init__" = some (some (.ref fInvalidCount)))
    (tiInvalidCount : PySem.W.typeIn K (.ref fInvalidCount) = some (.type "function"))
    (liInvalidCount : K.lookup fInvalidCount = some ⟨ocInvalidCount, odInvalidCount, .func ((nf_InvalidCount ccInvalidCount cdInvalidCount).fd dcInvalidCount pmInvalidCount ctInvalidCount), slInvalidCount⟩)
    (ciInvalidCount : PySem.W.codeIn K (.ref cdInvalidCount) "InvalidCount.__init__" = true)
    (ceInvalidCount : K.lookup ccInvalidCount = some ⟨oc2InvalidCount, od2InvalidCount, .cell (some (.ref CInvalidCount)), sl2InvalidCount⟩)
    (coInvalidCount : K.lookup cdInvalidCount = some ⟨oc3InvalidCount, od3InvalidCount, .fields vsInvalidCount, sl3InvalidCount⟩)
    (cfInvalidCount : vsInvalidCount[2]? = some (.str fiInvalidCount tfInvalidCount))
    (cgInvalidCount : ((P.main.file : Str) == fiInvalidCount) = true)
    (suInvalidCount : PySem.W.ks_superIn K CInvalidCount CInvalidCount "__init__" = some (some (.builtin "ValueError.__init__")))
    (scInvalidCount : PySem.W.mroIn K CInvalidCount (.ref CInvalidCount) = some true)
    (svInvalidCount : PySem.W.subIn K (.ref CInvalidCount) (.type "ValueError") = some true)
    (exCInvalidRule : PySem.W.subIn K (.ref CInvalidRule) (.type "BaseException") = some true)
    (tyCInvalidRule : PySem.W.typeIn K (.ref CInvalidRule) = some (.type "type"))
    (hdInvalidRule : PySem.W.hasDictIn K CInvalidRule = true)
    (nInvalidRule : PySem.W.findIn K (.ref CInvalidRule) "state" = some none)
    (heInvalidRule : PySem.W.findIn K (.ref CInvalidRule) "__class__" = some (some (.builtin "object.__class__")))
    (hqInvalidRule : PySem.W.mroIn K CInvalidRule (.type "object") = some true)
    (gaInvalidRule : PySem.W.findIn K (.ref CInvalidRule) "__getattribute__" = some (some (.builtin "BaseException.__getattribute__")))
    (ggInvalidRule : PySem.W.findIn K (.ref CInvalidRule) "__getattr__" = some none)
    (veInvalidRule : PySem.W.subIn K (.ref CInvalidRule) (.type "ValueError") = some true)
    (ssInvalidRule : PySem.W.subIn K (.ref CInvalidRule) (.ref CInvalidRule) = some true)
    (sbInvalidRule_InvalidFate : PySem.W.subIn K (.ref CInvalidFate) (.ref CInvalidRule) = some false)
    (sbInvalidRule_InvalidEnd : PySem.W.subIn K (.ref CInvalidEnd) (.ref CInvalidRule) = some false)
    (sbInvalidRule_InvalidBit : PySem.W.subIn K (.ref CInvalidBit) (.ref CInvalidRule) = some false)
    (sbInvalidRule_InvalidCount : PySem.W.subIn K (.ref CInvalidCount) (.ref CInvalidRule) = some false)
    (sbInvalidRule_InvalidRule : PySem.W.subIn K (.ref CInvalidRule) (.ref CInvalidRule) = some true)
    (sbInvalidRule_InvalidState : PySem.W.subIn K (.ref CInvalidState) (.ref CInvalidRule) = some false)
    (sbInvalidRule_InvalidNotation : PySem.W.subIn K (.ref CInvalidNotation) (.ref CInvalidRule) = some false)
    (sbInvalidRule_OutOfChain : PySem.W.subIn K (.ref COutOfChain) (.ref CInvalidRule) = some false)
    (sbInvalidRule_NeverSeen : PySem.W.subIn K (.ref CNeverSeen) (.ref CInvalidRule) = some false)
    (sbInvalidRule_Unmatched : PySem.W.subIn K (.ref CUnmatched) (.ref CInvalidRule) = some false)
    (sbInvalidRule_CannotDecide : PySem.W.subIn K (.ref CCannotDecide) (.ref CInvalidRule) = some false)
    (sbInvalidRule_NoChain : PySem.W.subIn K (.ref CNoChain) (.ref CInvalidRule) = some false)
    (sbInvalidRule_NotClosed : PySem.W.subIn K (.ref CNotClosed) (.ref CInvalidRule) = some false)
    (xLInvalidRule : K.lookup CInvalidRule = some (excClassObj nmInvalidRule qInvalidRule CInvalidRule NInvalidRule bsInvalidRule bmInvalidRule true snInvalidRule subInvalidRule abInvalidRule colInvalidRule ddInvalidRule k0InvalidRule k1InvalidRule k2InvalidRule k3InvalidRule k5InvalidRule "ValueError.__new__"))
    (xrInvalidRule : PySem.HandSPX.refsVE bmInvalidRule = true)
    (saInvalidRule : PySem.W.findIn K (.ref CInvalidRule) "__setattr__" = some (some (.builtin "object.__setattr__")))
    (kCInvalidRule : PySem.W.keepIn K (.ref CInvalidRule) = true)
    (aiInvalidRule : PySem.W.findIn K (.ref CInvalidRule) "__init__" = some (some (.ref fInvalidRule)))
    (tiInvalidRule : PySem.W.typeIn K (.ref fInvalidRule) = some (.type "function"))
    (liInvalidRule : K.lookup fInvalidRule = some ⟨ocInvalidRule, odInvalidRule, .func ((nf_InvalidRule ccInvalidRule cdInvalidRule).fd dcInvalidRule pmInvalidRule ctInvalidRule), slInvalidRule⟩)
    (ciInvalidRule : PySem.W.codeIn K (.ref cdInvalidRule) "InvalidRule.__init__" = true)
    (ceInvalidRule : K.lookup ccInvalidRule = some ⟨oc2InvalidRule, od2InvalidRule, .cell (some (.ref CInvalidRule)), sl2InvalidRule⟩)
    (coInvalidRule : K.lookup cdInvalidRule = some ⟨oc3InvalidRule, od3InvalidRule, .fields vsInvalidRule, sl3InvalidRule⟩)
    (cfInvalidRule : vsInvalidRule[2]? = some (.str fiInvalidRule tfInvalidRule))
    (cgInvalidRule : ((P.main.file : Str) == fiInvalidRule) = true)
    (suInvalidRule : PySem.W.ks_superIn K CInvalidRule CInvalidRule "__init__" = some (some (.builtin "ValueError.__init__")))
    (scInvalidRule : PySem.W.mroIn K CInvalidRule (.ref CInvalidRule) = some true)
    (svInvalidRule : PySem.W.subIn K (.ref CInvalidRule) (.type "ValueError") = some true)
    (exCInvalidState : PySem.W.subIn K (.ref CInvalidState) (.type "BaseException") = some true)
    (tyCInvalidState : PySem.W.typeIn K (.ref CInvalidState) = some (.type "type"))
    (hdInvalidState : PySem.W.hasDictIn K CInvalidState = true)
    (nInvalidState : PySem.W.findIn K (.ref CInvalidState) "state" = some none)
    (heInvalidState : PySem.W.findIn K (.ref CInvalidState) "__class__" = some (some (.builtin "object.__class__")))
    (hqInvalidState : PySem.W.mroIn K CInvalidState (.type "object") = some true)
    (gaInvalidState : PySem.W.findIn K (.ref CInvalidState) "__getattribute__" = some (some (.builtin "BaseException.__getattribute__")))
    (ggInvalidState : PySem.W.findIn K (.ref CInvalidState) "__getattr__" = some none)
    (veInvalidState : PySem.W.subIn K (.ref CInvalidState) (.type "ValueError") = some true)
    (ssInvalidState : PySem.W.subIn K (.ref CInvalidState) (.ref CInvalidState) = some true)
    (sbInvalidState_InvalidFate : PySem.W.subIn K (.ref CInvalidFate) (.ref CInvalidState) = some false)
    (sbInvalidState_InvalidEnd : PySem.W.subIn K (.ref CInvalidEnd) (.ref CInvalidState) = some false)
    (sbInvalidState_InvalidBit : PySem.W.subIn K (.ref CInvalidBit) (.ref CInvalidState) = some false)
    (sbInvalidState_InvalidCount : PySem.W.subIn K (.ref CInvalidCount) (.ref CInvalidState) = some false)
    (sbInvalidState_InvalidRule : PySem.W.subIn K (.ref CInvalidRule) (.ref CInvalidState) = some false)
    (sbInvalidState_InvalidState : PySem.W.subIn K (.ref CInvalidState) (.ref CInvalidState) = some true)
    (sbInvalidState_InvalidNotation : PySem.W.subIn K (.ref CInvalidNotation) (.ref CInvalidState) = some false)
    (sbInvalidState_OutOfChain : PySem.W.subIn K (.ref COutOfChain) (.ref CInvalidState) = some false)
    (sbInvalidState_NeverSeen : PySem.W.subIn K (.ref CNeverSeen) (.ref CInvalidState) = some false)
    (sbInvalidState_Unmatched : PySem.W.subIn K (.ref CUnmatched) (.ref CInvalidState) = some false)
    (sbInvalidState_CannotDecide : PySem.W.subIn K (.ref CCannotDecide) (.ref CInvalidState) = some false)
    (sbInvalidState_NoChain : PySem.W.subIn K (.ref CNoChain) (.ref CInvalidState) = some false)
    (sbInvalidState_NotClosed : PySem.W.subIn K (.ref CNotClosed) (.ref CInvalidState) = some false)
    (xLInvalidState : K.lookup CInvalidState = some (excClassObj nmInvalidState qInvalidState CInvalidState NInvalidState bsInvalidState bmInvalidState true snInvalidState subInvalidState abInvalidState colInvalidState ddInvalidState k0InvalidState k1InvalidState k2InvalidState k3InvalidState k5InvalidState "ValueError.__new__"))
    (xrInvalidState : PySem.HandSPX.refsVE bmInvalidState = true)
    (saInvalidState : PySem.W.findIn K (.ref CInvalidState) "__setattr__" = some (some (.builtin "object.__setattr__")))
    (kCInvalidState : PySem.W.keepIn K (.ref CInvalidState) = true)
    (aiInvalidState : PySem.W.findIn K (.ref CInvalidState) "__init__" = some (some (.ref fInvalidState)))
    (tiInvalidState : PySem.W.typeIn K (.ref fInvalidState) = some (.type "function"))
    (liInvalidState : K.lookup fInvalidState = some ⟨ocInvalidState, odInvalidState, .func ((nf_InvalidState ccInvalidState cdInvalidState).fd dcInvalidState pmInvalidState ctInvalidState), slInvalidState⟩)
    (ciInvalidState : PySem.W.codeIn K (.ref cdInvalidState) "InvalidState.__init__" = true)
    (ceInvalidState : K.lookup ccInvalidState = some ⟨oc2InvalidState, od2InvalidState, .cell (some (.ref CInvalidState)), sl2InvalidState⟩)
    (coInvalidState : K.lookup cdInvalidState = some ⟨oc3InvalidState, od3InvalidState, .fields vsInvalidState, sl3InvalidState⟩)
    (cfInvalidState : vsInvalidState[2]? = some (.str fiInvalidState tfInvalidState))
    (cgInvalidState : ((P.main.file : Str) == fiInvalidState) = true)
    (suInvalidState : PySem.W.ks_superIn K CInvalidState CInvalidState "__init__" = some (some (.builtin "ValueError.__init__")))
    (scInvalidState : PySem.W.mroIn K CInvalidState (.ref CInvalidState) = some true)
    (svInvalidState : PySem.W.subIn K (.ref CInvalidState) (.type "ValueError") = some true)
    (exCInvalidNotation : PySem.W.subIn K (.ref CInvalidNotation) (.type "BaseException") = some true)
    (tyCInvalidNotation : PySem.W.typeIn K (.ref CInvalidNotation) = some (.type "type"))
    (hdInvalidNotation : PySem.W.hasDictIn K CInvalidNotation = true)
    (nInvalidNotation : PySem.W.findIn K (.ref CInvalidNotation) "line" = some none)
    (heInvalidNotation : PySem.W.findIn K (.ref CInvalidNotation) "__class__" = some (some (.builtin "object.__class__")))
    (hqInvalidNotation : PySem.W.mroIn K CInvalidNotation (.type "object") = some true)
    (gaInvalidNotation : PySem.W.findIn K (.ref CInvalidNotation) "__getattribute__" = some (some (.builtin "BaseException.__getattribute__")))
    (ggInvalidNotation : PySem.W.findIn K (.ref CInvalidNotation) "__getattr__" = some none)
    (veInvalidNotation : PySem.W.subIn K (.ref CInvalidNotation) (.type "ValueError") = some true)
    (ssInvalidNotation : PySem.W.subIn K (.ref CInvalidNotation) (.ref CInvalidNotation) = some true)
    (sbInvalidNotation_InvalidFate : PySem.W.subIn K (.ref CInvalidFate) (.ref CInvalidNotation) = some false)
    (sbInvalidNotation_InvalidEnd : PySem.W.subIn K (.ref CInvalidEnd) (.ref CInvalidNotation) = some false)
    (sbInvalidNotation_InvalidBit : PySem.W.subIn K (.ref CInvalidBit) (.ref CInvalidNotation) = some false)
    (sbInvalidNotation_InvalidCount : PySem.W.subIn K (.ref CInvalidCount) (.ref CInvalidNotation) = some false)
    (sbInvalidNotation_InvalidRule : PySem.W.subIn K (.ref CInvalidRule) (.ref CInvalidNotation) = some false)
    (sbInvalidNotation_InvalidState : PySem.W.subIn K (.ref CInvalidState) (.ref CInvalidNotation) = some false)
    (sbInvalidNotation_InvalidNotation : PySem.W.subIn K (.ref CInvalidNotation) (.ref CInvalidNotation) = some true)
    (sbInvalidNotation_OutOfChain : PySem.W.subIn K (.ref COutOfChain) (.ref CInvalidNotation) = some false)
    (sbInvalidNotation_NeverSeen : PySem.W.subIn K (.ref CNeverSeen) (.ref CInvalidNotation) = some false)
    (sbInvalidNotation_Unmatched : PySem.W.subIn K (.ref CUnmatched) (.ref CInvalidNotation) = some false)
    (sbInvalidNotation_CannotDecide : PySem.W.subIn K (.ref CCannotDecide) (.ref CInvalidNotation) = some false)
    (sbInvalidNotation_NoChain : PySem.W.subIn K (.ref CNoChain) (.ref CInvalidNotation) = some false)
    (sbInvalidNotation_NotClosed : PySem.W.subIn K (.ref CNotClosed) (.ref CInvalidNotation) = some false)
    (xLInvalidNotation : K.lookup CInvalidNotation = some (excClassObj nmInvalidNotation qInvalidNotation CInvalidNotation NInvalidNotation bsInvalidNotation bmInvalidNotation true snInvalidNotation subInvalidNotation abInvalidNotation colInvalidNotation ddInvalidNotation k0InvalidNotation k1InvalidNotation k2InvalidNotation k3InvalidNotation k5InvalidNotation "ValueError.__new__"))
    (xrInvalidNotation : PySem.HandSPX.refsVE bmInvalidNotation = true)
    (saInvalidNotation : PySem.W.findIn K (.ref CInvalidNotation) "__setattr__" = some (some (.builtin "object.__setattr__")))
    (kCInvalidNotation : PySem.W.keepIn K (.ref CInvalidNotation) = true)
    (aiInvalidNotation : PySem.W.findIn K (.ref CInvalidNotation) "__init__" = some (some (.ref fInvalidNotation)))
    (tiInvalidNotation : PySem.W.typeIn K (.ref fInvalidNotation) = some (.type "function"))
    (liInvalidNotation : K.lookup fInvalidNotation = some ⟨ocInvalidNotation, odInvalidNotation, .func ((nf_InvalidNotation ccInvalidNotation cdInvalidNotation).fd dcInvalidNotation pmInvalidNotation ctInvalidNotation), slInvalidNotation⟩)
    (ciInvalidNotation : PySem.W.codeIn K (.ref cdInvalidNotation) "InvalidNotation.__init__" = true)
    (ceInvalidNotation : K.lookup ccInvalidNotation = some ⟨oc2InvalidNotation, od2InvalidNotation, .cell (some (.ref CInvalidNotation)), sl2InvalidNotation⟩)
    (coInvalidNotation : K.lookup cdInvalidNotation = some ⟨oc3InvalidNotation, od3InvalidNotation, .fields vsInvalidNotation, sl3InvalidNotation⟩)
    (cfInvalidNotation : vsInvalidNotation[2]? = some (.str fiInvalidNotation tfInvalidNotation))
    (cgInvalidNotation : ((P.main.file : Str) == fiInvalidNotation) = true)
    (suInvalidNotation : PySem.W.ks_superIn K CInvalidNotation CInvalidNotation "__init__" = some (some (.builtin "ValueError.__init__")))
    (scInvalidNotation : PySem.W.mroIn K CInvalidNotation (.ref CInvalidNotation) = some true)
    (svInvalidNotation : PySem.W.subIn K (.ref CInvalidNotation) (.type "ValueError") = some true)
    (exCOutOfChain : PySem.W.subIn K (.ref COutOfChain) (.type "BaseException") = some true)
    (tyCOutOfChain : PySem.W.typeIn K (.ref COutOfChain) = some (.type "type"))
    (hdOutOfChain : PySem.W.hasDictIn K COutOfChain = true)
    (nOutOfChain : PySem.W.findIn K (.ref COutOfChain) "position" = some none)
    (heOutOfChain : PySem.W.findIn K (.ref COutOfChain) "__class__" = some (some (.builtin "object.__class__")))
    (hqOutOfChain : PySem.W.mroIn K COutOfChain (.type "object") = some true)
    (gaOutOfChain : PySem.W.findIn K (.ref COutOfChain) "__getattribute__" = some (some (.builtin "BaseException.__getattribute__")))
    (ggOutOfChain : PySem.W.findIn K (.ref COutOfChain) "__getattr__" = some none)
    (veOutOfChain : PySem.W.subIn K (.ref COutOfChain) (.type "ValueError") = some true)
    (ssOutOfChain : PySem.W.subIn K (.ref COutOfChain) (.ref COutOfChain) = some true)
    (sbOutOfChain_InvalidFate : PySem.W.subIn K (.ref CInvalidFate) (.ref COutOfChain) = some false)
    (sbOutOfChain_InvalidEnd : PySem.W.subIn K (.ref CInvalidEnd) (.ref COutOfChain) = some false)
    (sbOutOfChain_InvalidBit : PySem.W.subIn K (.ref CInvalidBit) (.ref COutOfChain) = some false)
    (sbOutOfChain_InvalidCount : PySem.W.subIn K (.ref CInvalidCount) (.ref COutOfChain) = some false)
    (sbOutOfChain_InvalidRule : PySem.W.subIn K (.ref CInvalidRule) (.ref COutOfChain) = some false)
    (sbOutOfChain_InvalidState : PySem.W.subIn K (.ref CInvalidState) (.ref COutOfChain) = some false)
    (sbOutOfChain_InvalidNotation : PySem.W.subIn K (.ref CInvalidNotation) (.ref COutOfChain) = some false)
    (sbOutOfChain_OutOfChain : PySem.W.subIn K (.ref COutOfChain) (.ref COutOfChain) = some true)
    (sbOutOfChain_NeverSeen : PySem.W.subIn K (.ref CNeverSeen) (.ref COutOfChain) = some false)
    (sbOutOfChain_Unmatched : PySem.W.subIn K (.ref CUnmatched) (.ref COutOfChain) = some false)
    (sbOutOfChain_CannotDecide : PySem.W.subIn K (.ref CCannotDecide) (.ref COutOfChain) = some false)
    (sbOutOfChain_NoChain : PySem.W.subIn K (.ref CNoChain) (.ref COutOfChain) = some false)
    (sbOutOfChain_NotClosed : PySem.W.subIn K (.ref CNotClosed) (.ref COutOfChain) = some false)
    (xLOutOfChain : K.lookup COutOfChain = some (excClassObj nmOutOfChain qOutOfChain COutOfChain NOutOfChain bsOutOfChain bmOutOfChain true snOutOfChain subOutOfChain abOutOfChain colOutOfChain ddOutOfChain k0OutOfChain k1OutOfChain k2OutOfChain k3OutOfChain k5OutOfChain "ValueError.__new__"))
    (xrOutOfChain : PySem.HandSPX.refsVE bmOutOfChain = true)
    (saOutOfChain : PySem.W.findIn K (.ref COutOfChain) "__setattr__" = some (some (.builtin "object.__setattr__")))
    (kCOutOfChain : PySem.W.keepIn K (.ref COutOfChain) = true)
    (aiOutOfChain : PySem.W.findIn K (.ref COutOfChain) "__init__" = some (some (.ref fOutOfChain)))
    (tiOutOfChain : PySem.W.typeIn K (.ref fOutOfChain) = some (.type "function"))
    (liOutOfChain : K.lookup fOutOfChain = some ⟨ocOutOfChain, odOutOfChain, .func ((nf_OutOfChain ccOutOfChain cdOutOfChain).fd dcOutOfChain pmOutOfChain ctOutOfChain), slOutOfChain⟩)
    (ciOutOfChain : PySem.W.codeIn K (.ref cdOutOfChain) "OutOfChain.__init__" = true)
    (ceOutOfChain : K.lookup ccOutOfChain = some ⟨oc2OutOfChain, od2OutOfChain, .cell (some (.ref COutOfChain)), sl2OutOfChain⟩)
    (coOutOfChain : K.lookup cdOutOfChain = some ⟨oc3OutOfChain, od3OutOfChain, .fields vsOutOfChain, sl3OutOfChain⟩)
    (cfOutOfChain : vsOutOfChain[2]? = some (.str fiOutOfChain tfOutOfChain))
    (cgOutOfChain : ((P.main.file : Str) == fiOutOfChain) = true)
    (suOutOfChain : PySem.W.ks_superIn K COutOfChain COutOfChain "__init__" = some (some (.builtin "ValueError.__init__")))
    (scOutOfChain : PySem.W.mroIn K COutOfChain (.ref COutOfChain) = some true)
    (svOutOfChain : PySem.W.subIn K (.ref COutOfChain) (.type "ValueError") = some true)
    (exCNeverSeen : PySem.W.subIn K (.ref CNeverSeen) (.type "BaseException") = some true)
    (tyCNeverSeen : PySem.W.typeIn K (.ref CNeverSeen) = some (.type "type"))
    (hdNeverSeen : PySem.W.hasDictIn K CNeverSeen = true)
    (nNeverSeen : PySem.W.findIn K (.ref CNeverSeen) "wrong_view" = some none)
    (heNeverSeen : PySem.W.findIn K (.ref CNeverSeen) "__class__" = some (some (.builtin "object.__class__")))
    (hqNeverSeen : PySem.W.mroIn K CNeverSeen (.type "object") = some true)
    (gaNeverSeen : PySem.W.findIn K (.ref CNeverSeen) "__getattribute__" = some (some (.builtin "BaseException.__getattribute__")))
    (ggNeverSeen : PySem.W.findIn K (.ref CNeverSeen) "__getattr__" = some none)
    (veNeverSeen : PySem.W.subIn K (.ref CNeverSeen) (.type "ValueError") = some true)
    (ssNeverSeen : PySem.W.subIn K (.ref CNeverSeen) (.ref CNeverSeen) = some true)
    (sbNeverSeen_InvalidFate : PySem.W.subIn K (.ref CInvalidFate) (.ref CNeverSeen) = some false)
    (sbNeverSeen_InvalidEnd : PySem.W.subIn K (.ref CInvalidEnd) (.ref CNeverSeen) = some false)
    (sbNeverSeen_InvalidBit : PySem.W.subIn K (.ref CInvalidBit) (.ref CNeverSeen) = some false)
    (sbNeverSeen_InvalidCount : PySem.W.subIn K (.ref CInvalidCount) (.ref CNeverSeen) = some false)
    (sbNeverSeen_InvalidRule : PySem.W.subIn K (.ref CInvalidRule) (.ref CNeverSeen) = some false)
    (sbNeverSeen_InvalidState : PySem.W.subIn K (.ref CInvalidState) (.ref CNeverSeen) = some false)
    (sbNeverSeen_InvalidNotation : PySem.W.subIn K (.ref CInvalidNotation) (.ref CNeverSeen) = some false)
    (sbNeverSeen_OutOfChain : PySem.W.subIn K (.ref COutOfChain) (.ref CNeverSeen) = some false)
    (sbNeverSeen_NeverSeen : PySem.W.subIn K (.ref CNeverSeen) (.ref CNeverSeen) = some true)
    (sbNeverSeen_Unmatched : PySem.W.subIn K (.ref CUnmatched) (.ref CNeverSeen) = some false)
    (sbNeverSeen_CannotDecide : PySem.W.subIn K (.ref CCannotDecide) (.ref CNeverSeen) = some false)
    (sbNeverSeen_NoChain : PySem.W.subIn K (.ref CNoChain) (.ref CNeverSeen) = some false)
    (sbNeverSeen_NotClosed : PySem.W.subIn K (.ref CNotClosed) (.ref CNeverSeen) = some false)
    (xLNeverSeen : K.lookup CNeverSeen = some (excClassObj nmNeverSeen qNeverSeen CNeverSeen NNeverSeen bsNeverSeen bmNeverSeen true snNeverSeen subNeverSeen abNeverSeen colNeverSeen ddNeverSeen k0NeverSeen k1NeverSeen k2NeverSeen k3NeverSeen k5NeverSeen "ValueError.__new__"))
    (xrNeverSeen : PySem.HandSPX.refsVE bmNeverSeen = true)
    (saNeverSeen : PySem.W.findIn K (.ref CNeverSeen) "__setattr__" = some (some (.builtin "object.__setattr__")))
    (kCNeverSeen : PySem.W.keepIn K (.ref CNeverSeen) = true)
    (aiNeverSeen : PySem.W.findIn K (.ref CNeverSeen) "__init__" = some (some (.ref fNeverSeen)))
    (tiNeverSeen : PySem.W.typeIn K (.ref fNeverSeen) = some (.type "function"))
    (liNeverSeen : K.lookup fNeverSeen = some ⟨ocNeverSeen, odNeverSeen, .func ((nf_NeverSeen ccNeverSeen cdNeverSeen).fd dcNeverSeen pmNeverSeen ctNeverSeen), slNeverSeen⟩)
    (ciNeverSeen : PySem.W.codeIn K (.ref cdNeverSeen) "NeverSeen.__init__" = true)
    (ceNeverSeen : K.lookup ccNeverSeen = some ⟨oc2NeverSeen, od2NeverSeen, .cell (some (.ref CNeverSeen)), sl2NeverSeen⟩)
    (coNeverSeen : K.lookup cdNeverSeen = some ⟨oc3NeverSeen, od3NeverSeen, .fields vsNeverSeen, sl3NeverSeen⟩)
    (cfNeverSeen : vsNeverSeen[2]? = some (.str fiNeverSeen tfNeverSeen))
    (cgNeverSeen : ((P.main.file : Str) == fiNeverSeen) = true)
    (suNeverSeen : PySem.W.ks_superIn K CNeverSeen CNeverSeen "__init__" = some (some (.builtin "ValueError.__init__")))
    (scNeverSeen : PySem.W.mroIn K CNeverSeen (.ref CNeverSeen) = some true)
    (svNeverSeen : PySem.W.subIn K (.ref CNeverSeen) (.type "ValueError") = some true)
    (exCUnmatched : PySem.W.subIn K (.ref CUnmatched) (.type "BaseException") = some true)
    (tyCUnmatched : PySem.W.typeIn K (.ref CUnmatched) = some (.type "type"))
    (hdUnmatched : PySem.W.hasDictIn K CUnmatched = true)
    (heUnmatched : PySem.W.findIn K (.ref CUnmatched) "__class__" = some (some (.builtin "object.__class__")))
    (hqUnmatched : PySem.W.mroIn K CUnmatched (.type "object") = some true)
    (gaUnmatched : PySem.W.findIn K (.ref CUnmatched) "__getattribute__" = some (some (.builtin "BaseException.__getattribute__")))
    (ggUnmatched : PySem.W.findIn K (.ref CUnmatched) "__getattr__" = some none)
    (veUnmatched : PySem.W.subIn K (.ref CUnmatched) (.type "ValueError") = some true)
    (ssUnmatched : PySem.W.subIn K (.ref CUnmatched) (.ref CUnmatched) = some true)
    (sbUnmatched_InvalidFate : PySem.W.subIn K (.ref CInvalidFate) (.ref CUnmatched) = some false)
    (sbUnmatched_InvalidEnd : PySem.W.subIn K (.ref CInvalidEnd) (.ref CUnmatched) = some false)
    (sbUnmatched_InvalidBit : PySem.W.subIn K (.ref CInvalidBit) (.ref CUnmatched) = some false)
    (sbUnmatched_InvalidCount : PySem.W.subIn K (.ref CInvalidCount) (.ref CUnmatched) = some false)
    (sbUnmatched_InvalidRule : PySem.W.subIn K (.ref CInvalidRule) (.ref CUnmatched) = some false)
    (sbUnmatched_InvalidState : PySem.W.subIn K (.ref CInvalidState) (.ref CUnmatched) = some false)
    (sbUnmatched_InvalidNotation : PySem.W.subIn K (.ref CInvalidNotation) (.ref CUnmatched) = some false)
    (sbUnmatched_OutOfChain : PySem.W.subIn K (.ref COutOfChain) (.ref CUnmatched) = some false)
    (sbUnmatched_NeverSeen : PySem.W.subIn K (.ref CNeverSeen) (.ref CUnmatched) = some false)
    (sbUnmatched_Unmatched : PySem.W.subIn K (.ref CUnmatched) (.ref CUnmatched) = some true)
    (sbUnmatched_CannotDecide : PySem.W.subIn K (.ref CCannotDecide) (.ref CUnmatched) = some false)
    (sbUnmatched_NoChain : PySem.W.subIn K (.ref CNoChain) (.ref CUnmatched) = some false)
    (sbUnmatched_NotClosed : PySem.W.subIn K (.ref CNotClosed) (.ref CUnmatched) = some false)
    (q0Unmatched : PySem.W.excIn K CUnmatched [.type "ValueError", .type "Exception", .type "BaseException", .type "object"] "ValueError.__new__" = true)
    (k0Unmatched : PySem.W.keepIn K (.ref CUnmatched) = true)
    (exCCannotDecide : PySem.W.subIn K (.ref CCannotDecide) (.type "BaseException") = some true)
    (tyCCannotDecide : PySem.W.typeIn K (.ref CCannotDecide) = some (.type "type"))
    (hdCannotDecide : PySem.W.hasDictIn K CCannotDecide = true)
    (heCannotDecide : PySem.W.findIn K (.ref CCannotDecide) "__class__" = some (some (.builtin "object.__class__")))
    (hqCannotDecide : PySem.W.mroIn K CCannotDecide (.type "object") = some true)
    (gaCannotDecide : PySem.W.findIn K (.ref CCannotDecide) "__getattribute__" = some (some (.builtin "BaseException.__getattribute__")))
    (ggCannotDecide : PySem.W.findIn K (.ref CCannotDecide) "__getattr__" = some none)
    (veCannotDecide : PySem.W.subIn K (.ref CCannotDecide) (.type "ValueError") = some true)
    (ssCannotDecide : PySem.W.subIn K (.ref CCannotDecide) (.ref CCannotDecide) = some true)
    (sbCannotDecide_InvalidFate : PySem.W.subIn K (.ref CInvalidFate) (.ref CCannotDecide) = some false)
    (sbCannotDecide_InvalidEnd : PySem.W.subIn K (.ref CInvalidEnd) (.ref CCannotDecide) = some false)
    (sbCannotDecide_InvalidBit : PySem.W.subIn K (.ref CInvalidBit) (.ref CCannotDecide) = some false)
    (sbCannotDecide_InvalidCount : PySem.W.subIn K (.ref CInvalidCount) (.ref CCannotDecide) = some false)
    (sbCannotDecide_InvalidRule : PySem.W.subIn K (.ref CInvalidRule) (.ref CCannotDecide) = some false)
    (sbCannotDecide_InvalidState : PySem.W.subIn K (.ref CInvalidState) (.ref CCannotDecide) = some false)
    (sbCannotDecide_InvalidNotation : PySem.W.subIn K (.ref CInvalidNotation) (.ref CCannotDecide) = some false)
    (sbCannotDecide_OutOfChain : PySem.W.subIn K (.ref COutOfChain) (.ref CCannotDecide) = some false)
    (sbCannotDecide_NeverSeen : PySem.W.subIn K (.ref CNeverSeen) (.ref CCannotDecide) = some false)
    (sbCannotDecide_Unmatched : PySem.W.subIn K (.ref CUnmatched) (.ref CCannotDecide) = some false)
    (sbCannotDecide_CannotDecide : PySem.W.subIn K (.ref CCannotDecide) (.ref CCannotDecide) = some true)
    (sbCannotDecide_NoChain : PySem.W.subIn K (.ref CNoChain) (.ref CCannotDecide) = some false)
    (sbCannotDecide_NotClosed : PySem.W.subIn K (.ref CNotClosed) (.ref CCannotDecide) = some false)
    (q0CannotDecide : PySem.W.excIn K CCannotDecide [.type "ValueError", .type "Exception", .type "BaseException", .type "object"] "ValueError.__new__" = true)
    (k0CannotDecide : PySem.W.keepIn K (.ref CCannotDecide) = true)
    (exCNoChain : PySem.W.subIn K (.ref CNoChain) (.type "BaseException") = some true)
    (tyCNoChain : PySem.W.typeIn K (.ref CNoChain) = some (.type "type"))
    (hdNoChain : PySem.W.hasDictIn K CNoChain = true)
    (heNoChain : PySem.W.findIn K (.ref CNoChain) "__class__" = some (some (.builtin "object.__class__")))
    (hqNoChain : PySem.W.mroIn K CNoChain (.type "object") = some true)
    (gaNoChain : PySem.W.findIn K (.ref CNoChain) "__getattribute__" = some (some (.builtin "BaseException.__getattribute__")))
    (ggNoChain : PySem.W.findIn K (.ref CNoChain) "__getattr__" = some none)
    (veNoChain : PySem.W.subIn K (.ref CNoChain) (.type "ValueError") = some true)
    (ssNoChain : PySem.W.subIn K (.ref CNoChain) (.ref CNoChain) = some true)
    (sbNoChain_InvalidFate : PySem.W.subIn K (.ref CInvalidFate) (.ref CNoChain) = some false)
    (sbNoChain_InvalidEnd : PySem.W.subIn K (.ref CInvalidEnd) (.ref CNoChain) = some false)
    (sbNoChain_InvalidBit : PySem.W.subIn K (.ref CInvalidBit) (.ref CNoChain) = some false)
    (sbNoChain_InvalidCount : PySem.W.subIn K (.ref CInvalidCount) (.ref CNoChain) = some false)
    (sbNoChain_InvalidRule : PySem.W.subIn K (.ref CInvalidRule) (.ref CNoChain) = some false)
    (sbNoChain_InvalidState : PySem.W.subIn K (.ref CInvalidState) (.ref CNoChain) = some false)
    (sbNoChain_InvalidNotation : PySem.W.subIn K (.ref CInvalidNotation) (.ref CNoChain) = some false)
    (sbNoChain_OutOfChain : PySem.W.subIn K (.ref COutOfChain) (.ref CNoChain) = some false)
    (sbNoChain_NeverSeen : PySem.W.subIn K (.ref CNeverSeen) (.ref CNoChain) = some false)
    (sbNoChain_Unmatched : PySem.W.subIn K (.ref CUnmatched) (.ref CNoChain) = some false)
    (sbNoChain_CannotDecide : PySem.W.subIn K (.ref CCannotDecide) (.ref CNoChain) = some false)
    (sbNoChain_NoChain : PySem.W.subIn K (.ref CNoChain) (.ref CNoChain) = some true)
    (sbNoChain_NotClosed : PySem.W.subIn K (.ref CNotClosed) (.ref CNoChain) = some false)
    (q0NoChain : PySem.W.excIn K CNoChain [.type "ValueError", .type "Exception", .type "BaseException", .type "object"] "ValueError.__new__" = true)
    (k0NoChain : PySem.W.keepIn K (.ref CNoChain) = true)
    (exCNotClosed : PySem.W.subIn K (.ref CNotClosed) (.type "BaseException") = some true)
    (tyCNotClosed : PySem.W.typeIn K (.ref CNotClosed) = some (.type "type"))
    (hdNotClosed : PySem.W.hasDictIn K CNotClosed = true)
    (heNotClosed : PySem.W.findIn K (.ref CNotClosed) "__class__" = some (some (.builtin "object.__class__")))
    (hqNotClosed : PySem.W.mroIn K CNotClosed (.type "object") = some true)
    (gaNotClosed : PySem.W.findIn K (.ref CNotClosed) "__getattribute__" = some (some (.builtin "BaseException.__getattribute__")))
    (ggNotClosed : PySem.W.findIn K (.ref CNotClosed) "__getattr__" = some none)
    (veNotClosed : PySem.W.subIn K (.ref CNotClosed) (.type "ValueError") = some true)
    (ssNotClosed : PySem.W.subIn K (.ref CNotClosed) (.ref CNotClosed) = some true)
    (sbNotClosed_InvalidFate : PySem.W.subIn K (.ref CInvalidFate) (.ref CNotClosed) = some false)
    (sbNotClosed_InvalidEnd : PySem.W.subIn K (.ref CInvalidEnd) (.ref CNotClosed) = some false)
    (sbNotClosed_InvalidBit : PySem.W.subIn K (.ref CInvalidBit) (.ref CNotClosed) = some false)
    (sbNotClosed_InvalidCount : PySem.W.subIn K (.ref CInvalidCount) (.ref CNotClosed) = some false)
    (sbNotClosed_InvalidRule : PySem.W.subIn K (.ref CInvalidRule) (.ref CNotClosed) = some false)
    (sbNotClosed_InvalidState : PySem.W.subIn K (.ref CInvalidState) (.ref CNotClosed) = some false)
    (sbNotClosed_InvalidNotation : PySem.W.subIn K (.ref CInvalidNotation) (.ref CNotClosed) = some false)
    (sbNotClosed_OutOfChain : PySem.W.subIn K (.ref COutOfChain) (.ref CNotClosed) = some false)
    (sbNotClosed_NeverSeen : PySem.W.subIn K (.ref CNeverSeen) (.ref CNotClosed) = some false)
    (sbNotClosed_Unmatched : PySem.W.subIn K (.ref CUnmatched) (.ref CNotClosed) = some false)
    (sbNotClosed_CannotDecide : PySem.W.subIn K (.ref CCannotDecide) (.ref CNotClosed) = some false)
    (sbNotClosed_NoChain : PySem.W.subIn K (.ref CNoChain) (.ref CNotClosed) = some false)
    (sbNotClosed_NotClosed : PySem.W.subIn K (.ref CNotClosed) (.ref CNotClosed) = some true)
    (q0NotClosed : PySem.W.excIn K CNotClosed [.type "ValueError", .type "Exception", .type "BaseException", .type "object"] "ValueError.__new__" = true)
    (k0NotClosed : PySem.W.keepIn K (.ref CNotClosed) = true)
    (aFATES : PySem.W.nsIn K mainGlobals "FATES" = some (some (.str "bfsn" tFATES)))
    (aSWAPPED : PySem.W.nsIn K mainGlobals "SWAPPED" = some (some (.ref DSWAPPED)))
    (lSWAPPED : K.lookup DSWAPPED = some { cls := .type "dict", data := .dict esSWAPPED nnSWAPPED })
    (kSWAPPED : PySem.W.KeysLit w.params esSWAPPED.toList)
    (vSWAPPED0 : PySem.W.nsIn K DSWAPPED "b" = some (some (.str "b" tSWAPPED0)))
    (vSWAPPED1 : PySem.W.nsIn K DSWAPPED "f" = some (some (.str "s" tSWAPPED1)))
    (vSWAPPED2 : PySem.W.nsIn K DSWAPPED "s" = some (some (.str "f" tSWAPPED2)))
    (vSWAPPED3 : PySem.W.nsIn K DSWAPPED "n" = some (some (.str "n" tSWAPPED3)))
    (acheck_fates : PySem.W.nsIn K mainGlobals "check_fates" = some (some (.ref fcheck_fates)))
    (lcheck_fates : K.lookup fcheck_fates = some ⟨occheck_fates, odcheck_fates, .func (PySem.W.fnOf "check_fates" "check_fates" (defArgs s_check_fates) (defBody s_check_fates) (defScope s_check_fates) .none kVcheck_fates dccheck_fates pmcheck_fates ancheck_fates cdcheck_fates ctcheck_fates), slcheck_fates⟩)
    (ccheck_fates : PySem.W.codeIn K cdcheck_fates "check_fates" = true)
    (kcheck_fates : PySem.W.keepIn K (.ref fcheck_fates) = true)
    (aswap_fates : PySem.W.nsIn K mainGlobals "swap_fates" = some (some (.ref fswap_fates)))
    (lswap_fates : K.lookup fswap_fates = some ⟨ocswap_fates, odswap_fates, .func (PySem.W.fnOf "swap_fates" "swap_fates" (defArgs s_swap_fates) (defBody s_swap_fates) (defScope s_swap_fates) .none kVswap_fates dcswap_fates pmswap_fates answap_fates cdswap_fates ctswap_fates), slswap_fates⟩)
    (cswap_fates : PySem.W.codeIn K cdswap_fates "swap_fates" = true)
    (kswap_fates : PySem.W.keepIn K (.ref fswap_fates) = true)
    (aLcell : PySem.W.nsIn K mainGlobals "_law_cell" = some (some (.ref fLcell)))
    (lLcell : K.lookup fLcell = some ⟨ocLcell, odLcell, .func (PySem.W.fnOf "_law_cell" "_law_cell" (defArgs s_Lcell) (defBody s_Lcell) (defScope s_Lcell) .none kVLcell dcLcell pmLcell anLcell cdLcell ctLcell), slLcell⟩)
    (cLcell : PySem.W.codeIn K cdLcell "_law_cell" = true)
    (kLcell : PySem.W.keepIn K (.ref fLcell) = true)
    (aLnumber : PySem.W.nsIn K mainGlobals "_law_number" = some (some (.ref fLnumber)))
    (lLnumber : K.lookup fLnumber = some ⟨ocLnumber, odLnumber, .func (PySem.W.fnOf "_law_number" "_law_number" (defArgs s_Lnumber) (defBody s_Lnumber) (defScope s_Lnumber) .none kVLnumber dcLnumber pmLnumber anLnumber cdLnumber ctLnumber), slLnumber⟩)
    (cLnumber : PySem.W.codeIn K cdLnumber "_law_number" = true)
    (kLnumber : PySem.W.keepIn K (.ref fLnumber) = true)
    (aLdraws : PySem.W.nsIn K mainGlobals "_law_draws" = some (some (.ref fLdraws)))
    (lLdraws : K.lookup fLdraws = some ⟨ocLdraws, odLdraws, .func (PySem.W.fnOf "_law_draws" "_law_draws" (defArgs s_Ldraws) (defBody s_Ldraws) (defScope s_Ldraws) .none kVLdraws dcLdraws pmLdraws anLdraws cdLdraws ctLdraws), slLdraws⟩)
    (cLdraws : PySem.W.codeIn K cdLdraws "_law_draws" = true)
    (kLdraws : PySem.W.keepIn K (.ref fLdraws) = true)
    (aLfates : PySem.W.nsIn K mainGlobals "_law_fates" = some (some (.ref fLfates)))
    (lLfates : K.lookup fLfates = some ⟨ocLfates, odLfates, .func (PySem.W.fnOf "_law_fates" "_law_fates" (defArgs s_Lfates) (defBody s_Lfates) (defScope s_Lfates) .none kVLfates dcLfates pmLfates anLfates cdLfates ctLfates), slLfates⟩)
    (cLfates : PySem.W.codeIn K cdLfates "_law_fates" = true)
    (kLfates : PySem.W.keepIn K (.ref fLfates) = true)
    (aLinteger : PySem.W.nsIn K mainGlobals "_law_integer" = some (some (.ref fLinteger)))
    (lLinteger : K.lookup fLinteger = some ⟨ocLinteger, odLinteger, .func (PySem.W.fnOf "_law_integer" "_law_integer" (defArgs s_Linteger) (defBody s_Linteger) (defScope s_Linteger) .none kVLinteger dcLinteger pmLinteger anLinteger cdLinteger ctLinteger), slLinteger⟩)
    (cLinteger : PySem.W.codeIn K cdLinteger "_law_integer" = true)
    (kLinteger : PySem.W.keepIn K (.ref fLinteger) = true)
    (aLraise : PySem.W.nsIn K mainGlobals "_law_raise" = some (some (.ref fLraise)))
    (lLraise : K.lookup fLraise = some ⟨ocLraise, odLraise, .func (PySem.W.fnOf "_law_raise" "_law_raise" (defArgs s_Lraise) (defBody s_Lraise) (defScope s_Lraise) .none kVLraise dcLraise pmLraise anLraise cdLraise ctLraise), slLraise⟩)
    (cLraise : PySem.W.codeIn K cdLraise "_law_raise" = true)
    (kLraise : PySem.W.keepIn K (.ref fLraise) = true)
    (aLkinds : PySem.W.nsIn K mainGlobals "_law_kinds" = some (some (.ref fLkinds)))
    (lLkinds : K.lookup fLkinds = some ⟨ocLkinds, odLkinds, .func (PySem.W.fnOf "_law_kinds" "_law_kinds" (defArgs s_Lkinds) (defBody s_Lkinds) (defScope s_Lkinds) .none kVLkinds dcLkinds pmLkinds anLkinds cdLkinds ctLkinds), slLkinds⟩)
    (cLkinds : PySem.W.codeIn K cdLkinds "_law_kinds" = true)
    (kLkinds : PySem.W.keepIn K (.ref fLkinds) = true)
    (aLfield : PySem.W.nsIn K mainGlobals "_law_field" = some (some (.ref fLfield)))
    (lLfield : K.lookup fLfield = some ⟨ocLfield, odLfield, .func (PySem.W.fnOf "_law_field" "_law_field" (defArgs s_Lfield) (defBody s_Lfield) (defScope s_Lfield) .none kVLfield dcLfield pmLfield anLfield cdLfield ctLfield), slLfield⟩)
    (cLfield : PySem.W.codeIn K cdLfield "_law_field" = true)
    (kLfield : PySem.W.keepIn K (.ref fLfield) = true)
    (alaw : PySem.W.nsIn K mainGlobals "law" = some (some (.ref flaw)))
    (llaw : K.lookup flaw = some ⟨oclaw, odlaw, .func (PySem.W.fnOf "law" "law" (defArgs s_law) (defBody s_law) (defScope s_law) .none kVlaw dclaw pmlaw anlaw cdlaw ctlaw), sllaw⟩)
    (claw : PySem.W.codeIn K cdlaw "law" = true)
    (klaw : PySem.W.keepIn K (.ref flaw) = true) :
    ∃ fd : FuncData, (∀ (s : Shared) (v : Value), BindsTo s fd ⟨[v], []⟩ [("_law_script", v)]) ∧ ∀ base : Heap, K.In base → base.Ns mainGlobals mg → FnOk P w K mg base (L2N.CX P w) 5 fa fd ["_law_script"] (spTop K) := by
  have e := hfa.symm.trans (PySem.W.mg_of X G alaw)
  cases e
  have B : Blt mg := ⟨PySem.W.mg_none_of X G z_len, PySem.W.mg_none_of X G z_range, PySem.W.mg_none_of X G z_int, PySem.W.mg_none_of X G z_isinstance, PySem.W.mg_none_of X G z_enumerate, PySem.W.mg_none_of X G z_zip, PySem.W.mg_none_of X G z_str, PySem.W.mg_none_of X G z_list, PySem.W.mg_none_of X G z_tuple, PySem.W.mg_none_of X G z_all, PySem.W.mg_none_of X G z_any, PySem.W.mg_none_of X G z_reversed, PySem.W.mg_none_of X G z_iter, PySem.W.mg_none_of X G z_bool, PySem.W.mg_none_of X G z_super, PySem.W.mg_none_of X G z_dict, PySem.W.mg_none_of X G z_ValueError⟩
  have mSureError : ∀ c b, sb_SureError c = some b → PySem.W.exmOne K (.ref ((fun i => [CInvalidFate, CInvalidEnd, CInvalidBit, CInvalidCount, CInvalidRule, CInvalidState, CInvalidNotation, COutOfChain, CNeverSeen, CUnmatched, CCannotDecide, CNoChain, CNotClosed, CSureError].getD i 0) c)) (.ref ((fun i => [CInvalidFate, CInvalidEnd, CInvalidBit, CInvalidCount, CInvalidRule, CInvalidState, CInvalidNotation, COutOfChain, CNeverSeen, CUnmatched, CCannotDecide, CNoChain, CNotClosed, CSureError].getD i 0) 13)) = some b := fun c b h => by
    unfold sb_SureError at h
    split at h
    · cases h
      exact PySem.W.exm_ref exCSureError hdSureError tyCSureError sbSureError_InvalidFate
    · cases h
      exact PySem.W.exm_ref exCSureError hdSureError tyCSureError sbSureError_InvalidEnd
    · cases h
      exact PySem.W.exm_ref exCSureError hdSureError tyCSureError sbSureError_InvalidBit
    · cases h
      exact PySem.W.exm_ref exCSureError hdSureError tyCSureError sbSureError_InvalidCount
    · cases h
      exact PySem.W.exm_ref exCSureError hdSureError tyCSureError sbSureError_InvalidRule
    · cases h
      exact PySem.W.exm_ref exCSureError hdSureError tyCSureError sbSureError_InvalidState
    · cases h
      exact PySem.W.exm_ref exCSureError hdSureError tyCSureError sbSureError_InvalidNotation
    · cases h
      exact PySem.W.exm_ref exCSureError hdSureError tyCSureError sbSureError_OutOfChain
    · cases h
      exact PySem.W.exm_ref exCSureError hdSureError tyCSureError sbSureError_NeverSeen
    · cases h
      exact PySem.W.exm_ref exCSureError hdSureError tyCSureError sbSureError_Unmatched
    · cases h
      exact PySem.W.exm_ref exCSureError hdSureError tyCSureError sbSureError_CannotDecide
    · cases h
      exact PySem.W.exm_ref exCSureError hdSureError tyCSureError sbSureError_NoChain
    · cases h
      exact PySem.W.exm_ref exCSureError hdSureError tyCSureError sbSureError_NotClosed
    · cases h
  have kInvalidFate : ∀ c b, sb_InvalidFate c = some b → PySem.W.kitOne K (.ref ((fun i => [CInvalidFate, CInvalidEnd, CInvalidBit, CInvalidCount, CInvalidRule, CInvalidState, CInvalidNotation, COutOfChain, CNeverSeen, CUnmatched, CCannotDecide, CNoChain, CNotClosed, CSureError].getD i 0) c)) (.ref ((fun i => [CInvalidFate, CInvalidEnd, CInvalidBit, CInvalidCount, CInvalidRule, CInvalidState, CInvalidNotation, COutOfChain, CNeverSeen, CUnmatched, CCannotDecide, CNoChain, CNotClosed, CSureError].getD i 0) 0)) = some b := fun c b h => by
    unfold sb_InvalidFate at h
    split at h
    · cases h
      exact kit_ref hdInvalidFate tyCInvalidFate ssInvalidFate sbInvalidFate_InvalidFate
    · cases h
      exact kit_ref hdInvalidFate tyCInvalidFate ssInvalidFate sbInvalidFate_InvalidEnd
    · cases h
      exact kit_ref hdInvalidFate tyCInvalidFate ssInvalidFate sbInvalidFate_InvalidBit
    · cases h
      exact kit_ref hdInvalidFate tyCInvalidFate ssInvalidFate sbInvalidFate_InvalidCount
    · cases h
      exact kit_ref hdInvalidFate tyCInvalidFate ssInvalidFate sbInvalidFate_InvalidRule
    · cases h
      exact kit_ref hdInvalidFate tyCInvalidFate ssInvalidFate sbInvalidFate_InvalidState
    · cases h
      exact kit_ref hdInvalidFate tyCInvalidFate ssInvalidFate sbInvalidFate_InvalidNotation
    · cases h
      exact kit_ref hdInvalidFate tyCInvalidFate ssInvalidFate sbInvalidFate_OutOfChain
    · cases h
      exact kit_ref hdInvalidFate tyCInvalidFate ssInvalidFate sbInvalidFate_NeverSeen
    · cases h
      exact kit_ref hdInvalidFate tyCInvalidFate ssInvalidFate sbInvalidFate_Unmatched
    · cases h
      exact kit_ref hdInvalidFate tyCInvalidFate ssInvalidFate sbInvalidFate_CannotDecide
    · cases h
      exact kit_ref hdInvalidFate tyCInvalidFate ssInvalidFate sbInvalidFate_NoChain
    · cases h
      exact kit_ref hdInvalidFate tyCInvalidFate ssInvalidFate sbInvalidFate_NotClosed
    · cases h
  have ecInvalidFate : ∀ c b, sb_InvalidFate c = some b → ExcC K ((fun i => [CInvalidFate, CInvalidEnd, CInvalidBit, CInvalidCount, CInvalidRule, CInvalidState, CInvalidNotation, COutOfChain, CNeverSeen, CUnmatched, CCannotDecide, CNoChain, CNotClosed, CSureError].getD i 0) c) := fun c b h => by
    unfold sb_InvalidFate at h
    split at h
    · exact ⟨gaInvalidFate, ggInvalidFate, exCInvalidFate, hdInvalidFate, heInvalidFate, hnC, htC, hqInvalidFate⟩
    · exact ⟨gaInvalidEnd, ggInvalidEnd, exCInvalidEnd, hdInvalidEnd, heInvalidEnd, hnC, htC, hqInvalidEnd⟩
    · exact ⟨gaInvalidBit, ggInvalidBit, exCInvalidBit, hdInvalidBit, heInvalidBit, hnC, htC, hqInvalidBit⟩
    · exact ⟨gaInvalidCount, ggInvalidCount, exCInvalidCount, hdInvalidCount, heInvalidCount, hnC, htC, hqInvalidCount⟩
    · exact ⟨gaInvalidRule, ggInvalidRule, exCInvalidRule, hdInvalidRule, heInvalidRule, hnC, htC, hqInvalidRule⟩
    · exact ⟨gaInvalidState, ggInvalidState, exCInvalidState, hdInvalidState, heInvalidState, hnC, htC, hqInvalidState⟩
    · exact ⟨gaInvalidNotation, ggInvalidNotation, exCInvalidNotation, hdInvalidNotation, heInvalidNotation, hnC, htC, hqInvalidNotation⟩
    · exact ⟨gaOutOfChain, ggOutOfChain, exCOutOfChain, hdOutOfChain, heOutOfChain, hnC, htC, hqOutOfChain⟩
    · exact ⟨gaNeverSeen, ggNeverSeen, exCNeverSeen, hdNeverSeen, heNeverSeen, hnC, htC, hqNeverSeen⟩
    · exact ⟨gaUnmatched, ggUnmatched, exCUnmatched, hdUnmatched, heUnmatched, hnC, htC, hqUnmatched⟩
    · exact ⟨gaCannotDecide, ggCannotDecide, exCCannotDecide, hdCannotDecide, heCannotDecide, hnC, htC, hqCannotDecide⟩
    · exact ⟨gaNoChain, ggNoChain, exCNoChain, hdNoChain, heNoChain, hnC, htC, hqNoChain⟩
    · exact ⟨gaNotClosed, ggNotClosed, exCNotClosed, hdNotClosed, heNotClosed, hnC, htC, hqNotClosed⟩
    · cases h
  have mInvalidFate : ∀ c b, sb_InvalidFate c = some b → PySem.W.exmOne K (.ref ((fun i => [CInvalidFate, CInvalidEnd, CInvalidBit, CInvalidCount, CInvalidRule, CInvalidState, CInvalidNotation, COutOfChain, CNeverSeen, CUnmatched, CCannotDecide, CNoChain, CNotClosed, CSureError].getD i 0) c)) (.ref ((fun i => [CInvalidFate, CInvalidEnd, CInvalidBit, CInvalidCount, CInvalidRule, CInvalidState, CInvalidNotation, COutOfChain, CNeverSeen, CUnmatched, CCannotDecide, CNoChain, CNotClosed, CSureError].getD i 0) 0)) = some b := fun c b h => by
    unfold sb_InvalidFate at h
    split at h
    · cases h
      exact PySem.W.exm_ref exCInvalidFate hdInvalidFate tyCInvalidFate sbInvalidFate_InvalidFate
    · cases h
      exact PySem.W.exm_ref exCInvalidFate hdInvalidFate tyCInvalidFate sbInvalidFate_InvalidEnd
    · cases h
      exact PySem.W.exm_ref exCInvalidFate hdInvalidFate tyCInvalidFate sbInvalidFate_InvalidBit
    · cases h
      exact PySem.W.exm_ref exCInvalidFate hdInvalidFate tyCInvalidFate sbInvalidFate_InvalidCount
    · cases h
      exact PySem.W.exm_ref exCInvalidFate hdInvalidFate tyCInvalidFate sbInvalidFate_InvalidRule
    · cases h
      exact PySem.W.exm_ref exCInvalidFate hdInvalidFate tyCInvalidFate sbInvalidFate_InvalidState
    · cases h
      exact PySem.W.exm_ref exCInvalidFate hdInvalidFate tyCInvalidFate sbInvalidFate_InvalidNotation
    · cases h
      exact PySem.W.exm_ref exCInvalidFate hdInvalidFate tyCInvalidFate sbInvalidFate_OutOfChain
    · cases h
      exact PySem.W.exm_ref exCInvalidFate hdInvalidFate tyCInvalidFate sbInvalidFate_NeverSeen
    · cases h
      exact PySem.W.exm_ref exCInvalidFate hdInvalidFate tyCInvalidFate sbInvalidFate_Unmatched
    · cases h
      exact PySem.W.exm_ref exCInvalidFate hdInvalidFate tyCInvalidFate sbInvalidFate_CannotDecide
    · cases h
      exact PySem.W.exm_ref exCInvalidFate hdInvalidFate tyCInvalidFate sbInvalidFate_NoChain
    · cases h
      exact PySem.W.exm_ref exCInvalidFate hdInvalidFate tyCInvalidFate sbInvalidFate_NotClosed
    · cases h
  have oxInvalidFate : OexC K CInvalidFate := ⟨⟨_, _, _, _, _, _, _, _, _, _, _, _, _, _, _, xLInvalidFate, xrInvalidFate⟩, saInvalidFate, exCInvalidFate, tyCInvalidFate, kCInvalidFate⟩
  have sfInvalidFate : SupF P K mg (nf_InvalidFate ccInvalidFate cdInvalidFate) fInvalidFate ccInvalidFate CInvalidFate := ⟨⟨_, _, _, _, _, _, liInvalidFate⟩, ciInvalidFate, rfl, ⟨_, _, _, ceInvalidFate⟩, ⟨_, _, _, _, _, _, coInvalidFate, cfInvalidFate, cgInvalidFate⟩, suInvalidFate, scInvalidFate, svInvalidFate, opq, B.super_, topS_⟩
  have X_InvalidFate : ∀ base, CalX P w K mg base "InvalidFate" CInvalidFate "at" := fun base => ⟨⟨_, _, _, oxInvalidFate, aiInvalidFate, tiInvalidFate, okx_InvalidFate liInvalidFate oxInvalidFate sfInvalidFate nInvalidFate, Binds.all fun us hl => match us, hl with | [_, _], _ => rfl, PySem.W.mg_of X G aCInvalidFate⟩⟩
  have kInvalidEnd : ∀ c b, sb_InvalidEnd c = some b → PySem.W.kitOne K (.ref ((fun i => [CInvalidFate, CInvalidEnd, CInvalidBit, CInvalidCount, CInvalidRule, CInvalidState, CInvalidNotation, COutOfChain, CNeverSeen, CUnmatched, CCannotDecide, CNoChain, CNotClosed, CSureError].getD i 0) c)) (.ref ((fun i => [CInvalidFate, CInvalidEnd, CInvalidBit, CInvalidCount, CInvalidRule, CInvalidState, CInvalidNotation, COutOfChain, CNeverSeen, CUnmatched, CCannotDecide, CNoChain, CNotClosed, CSureError].getD i 0) 1)) = some b := fun c b h => by
    unfold sb_InvalidEnd at h
    split at h
    · cases h
      exact kit_ref hdInvalidEnd tyCInvalidEnd ssInvalidEnd sbInvalidEnd_InvalidFate
    · cases h
      exact kit_ref hdInvalidEnd tyCInvalidEnd ssInvalidEnd sbInvalidEnd_InvalidEnd
    · cases h
      exact kit_ref hdInvalidEnd tyCInvalidEnd ssInvalidEnd sbInvalidEnd_InvalidBit
    · cases h
      exact kit_ref hdInvalidEnd tyCInvalidEnd ssInvalidEnd sbInvalidEnd_InvalidCount
    · cases h
      exact kit_ref hdInvalidEnd tyCInvalidEnd ssInvalidEnd sbInvalidEnd_InvalidRule
    · cases h
      exact kit_ref hdInvalidEnd tyCInvalidEnd ssInvalidEnd sbInvalidEnd_InvalidState
    · cases h
      exact kit_ref hdInvalidEnd tyCInvalidEnd ssInvalidEnd sbInvalidEnd_InvalidNotation
    · cases h
      exact kit_ref hdInvalidEnd tyCInvalidEnd ssInvalidEnd sbInvalidEnd_OutOfChain
    · cases h
      exact kit_ref hdInvalidEnd tyCInvalidEnd ssInvalidEnd sbInvalidEnd_NeverSeen
    · cases h
      exact kit_ref hdInvalidEnd tyCInvalidEnd ssInvalidEnd sbInvalidEnd_Unmatched
    · cases h
      exact kit_ref hdInvalidEnd tyCInvalidEnd ssInvalidEnd sbInvalidEnd_CannotDecide
    · cases h
      exact kit_ref hdInvalidEnd tyCInvalidEnd ssInvalidEnd sbInvalidEnd_NoChain
    · cases h
      exact kit_ref hdInvalidEnd tyCInvalidEnd ssInvalidEnd sbInvalidEnd_NotClosed
    · cases h
  have ecInvalidEnd : ∀ c b, sb_InvalidEnd c = some b → ExcC K ((fun i => [CInvalidFate, CInvalidEnd, CInvalidBit, CInvalidCount, CInvalidRule, CInvalidState, CInvalidNotation, COutOfChain, CNeverSeen, CUnmatched, CCannotDecide, CNoChain, CNotClosed, CSureError].getD i 0) c) := fun c b h => by
    unfold sb_InvalidEnd at h
    split at h
    · exact ⟨gaInvalidFate, ggInvalidFate, exCInvalidFate, hdInvalidFate, heInvalidFate, hnC, htC, hqInvalidFate⟩
    · exact ⟨gaInvalidEnd, ggInvalidEnd, exCInvalidEnd, hdInvalidEnd, heInvalidEnd, hnC, htC, hqInvalidEnd⟩
    · exact ⟨gaInvalidBit, ggInvalidBit, exCInvalidBit, hdInvalidBit, heInvalidBit, hnC, htC, hqInvalidBit⟩
    · exact ⟨gaInvalidCount, ggInvalidCount, exCInvalidCount, hdInvalidCount, heInvalidCount, hnC, htC, hqInvalidCount⟩
    · exact ⟨gaInvalidRule, ggInvalidRule, exCInvalidRule, hdInvalidRule, heInvalidRule, hnC, htC, hqInvalidRule⟩
    · exact ⟨gaInvalidState, ggInvalidState, exCInvalidState, hdInvalidState, heInvalidState, hnC, htC, hqInvalidState⟩
    · exact ⟨gaInvalidNotation, ggInvalidNotation, exCInvalidNotation, hdInvalidNotation, heInvalidNotation, hnC, htC, hqInvalidNotation⟩
    · exact ⟨gaOutOfChain, ggOutOfChain, exCOutOfChain, hdOutOfChain, heOutOfChain, hnC, htC, hqOutOfChain⟩
    · exact ⟨gaNeverSeen, ggNeverSeen, exCNeverSeen, hdNeverSeen, heNeverSeen, hnC, htC, hqNeverSeen⟩
    · exact ⟨gaUnmatched, ggUnmatched, exCUnmatched, hdUnmatched, heUnmatched, hnC, htC, hqUnmatched⟩
    · exact ⟨gaCannotDecide, ggCannotDecide, exCCannotDecide, hdCannotDecide, heCannotDecide, hnC, htC, hqCannotDecide⟩
    · exact ⟨gaNoChain, ggNoChain, exCNoChain, hdNoChain, heNoChain, hnC, htC, hqNoChain⟩
    · exact ⟨gaNotClosed, ggNotClosed, exCNotClosed, hdNotClosed, heNotClosed, hnC, htC, hqNotClosed⟩
    · cases h
  have mInvalidEnd : ∀ c b, sb_InvalidEnd c = some b → PySem.W.exmOne K (.ref ((fun i => [CInvalidFate, CInvalidEnd, CInvalidBit, CInvalidCount, CInvalidRule, CInvalidState, CInvalidNotation, COutOfChain, CNeverSeen, CUnmatched, CCannotDecide, CNoChain, CNotClosed, CSureError].getD i 0) c)) (.ref ((fun i => [CInvalidFate, CInvalidEnd, CInvalidBit, CInvalidCount, CInvalidRule, CInvalidState, CInvalidNotation, COutOfChain, CNeverSeen, CUnmatched, CCannotDecide, CNoChain, CNotClosed, CSureError].getD i 0) 1)) = some b := fun c b h => by
    unfold sb_InvalidEnd at h
    split at h
    · cases h
      exact PySem.W.exm_ref exCInvalidEnd hdInvalidEnd tyCInvalidEnd sbInvalidEnd_InvalidFate
    · cases h
      exact PySem.W.exm_ref exCInvalidEnd hdInvalidEnd tyCInvalidEnd sbInvalidEnd_InvalidEnd
    · cases h
      exact PySem.W.exm_ref exCInvalidEnd hdInvalidEnd tyCInvalidEnd sbInvalidEnd_InvalidBit
    · cases h
      exact PySem.W.exm_ref exCInvalidEnd hdInvalidEnd tyCInvalidEnd sbInvalidEnd_InvalidCount
    · cases h
      exact PySem.W.exm_ref exCInvalidEnd hdInvalidEnd tyCInvalidEnd sbInvalidEnd_InvalidRule
    · cases h
      exact PySem.W.exm_ref exCInvalidEnd hdInvalidEnd tyCInvalidEnd sbInvalidEnd_InvalidState
    · cases h
      exact PySem.W.exm_ref exCInvalidEnd hdInvalidEnd tyCInvalidEnd sbInvalidEnd_InvalidNotation
    · cases h
      exact PySem.W.exm_ref exCInvalidEnd hdInvalidEnd tyCInvalidEnd sbInvalidEnd_OutOfChain
    · cases h
      exact PySem.W.exm_ref exCInvalidEnd hdInvalidEnd tyCInvalidEnd sbInvalidEnd_NeverSeen
    · cases h
      exact PySem.W.exm_ref exCInvalidEnd hdInvalidEnd tyCInvalidEnd sbInvalidEnd_Unmatched
    · cases h
      exact PySem.W.exm_ref exCInvalidEnd hdInvalidEnd tyCInvalidEnd sbInvalidEnd_CannotDecide
    · cases h
      exact PySem.W.exm_ref exCInvalidEnd hdInvalidEnd tyCInvalidEnd sbInvalidEnd_NoChain
    · cases h
      exact PySem.W.exm_ref exCInvalidEnd hdInvalidEnd tyCInvalidEnd sbInvalidEnd_NotClosed
    · cases h
  have oxInvalidEnd : OexC K CInvalidEnd := ⟨⟨_, _, _, _, _, _, _, _, _, _, _, _, _, _, _, xLInvalidEnd, xrInvalidEnd⟩, saInvalidEnd, exCInvalidEnd, tyCInvalidEnd, kCInvalidEnd⟩
  have sfInvalidEnd : SupF P K mg (nf_InvalidEnd ccInvalidEnd cdInvalidEnd) fInvalidEnd ccInvalidEnd CInvalidEnd := ⟨⟨_, _, _, _, _, _, liInvalidEnd⟩, ciInvalidEnd, rfl, ⟨_, _, _, ceInvalidEnd⟩, ⟨_, _, _, _, _, _, coInvalidEnd, cfInvalidEnd, cgInvalidEnd⟩, suInvalidEnd, scInvalidEnd, svInvalidEnd, opq, B.super_, topS_⟩
  have X_InvalidEnd : ∀ base, CalX P w K mg base "InvalidEnd" CInvalidEnd "end" := fun base => ⟨⟨_, _, _, oxInvalidEnd, aiInvalidEnd, tiInvalidEnd, okx_InvalidEnd liInvalidEnd oxInvalidEnd sfInvalidEnd nInvalidEnd, Binds.all fun us hl => match us, hl with | [_, _], _ => rfl, PySem.W.mg_of X G aCInvalidEnd⟩⟩
  have kInvalidBit : ∀ c b, sb_InvalidBit c = some b → PySem.W.kitOne K (.ref ((fun i => [CInvalidFate, CInvalidEnd, CInvalidBit, CInvalidCount, CInvalidRule, CInvalidState, CInvalidNotation, COutOfChain, CNeverSeen, CUnmatched, CCannotDecide, CNoChain, CNotClosed, CSureError].getD i 0) c)) (.ref ((fun i => [CInvalidFate, CInvalidEnd, CInvalidBit, CInvalidCount, CInvalidRule, CInvalidState, CInvalidNotation, COutOfChain, CNeverSeen, CUnmatched, CCannotDecide, CNoChain, CNotClosed, CSureError].getD i 0) 2)) = some b := fun c b h => by
    unfold sb_InvalidBit at h
    split at h
    · cases h
      exact kit_ref hdInvalidBit tyCInvalidBit ssInvalidBit sbInvalidBit_InvalidFate
    · cases h
      exact kit_ref hdInvalidBit tyCInvalidBit ssInvalidBit sbInvalidBit_InvalidEnd
    · cases h
      exact kit_ref hdInvalidBit tyCInvalidBit ssInvalidBit sbInvalidBit_InvalidBit
    · cases h
      exact kit_ref hdInvalidBit tyCInvalidBit ssInvalidBit sbInvalidBit_InvalidCount
    · cases h
      exact kit_ref hdInvalidBit tyCInvalidBit ssInvalidBit sbInvalidBit_InvalidRule
    · cases h
      exact kit_ref hdInvalidBit tyCInvalidBit ssInvalidBit sbInvalidBit_InvalidState
    · cases h
      exact kit_ref hdInvalidBit tyCInvalidBit ssInvalidBit sbInvalidBit_InvalidNotation
    · cases h
      exact kit_ref hdInvalidBit tyCInvalidBit ssInvalidBit sbInvalidBit_OutOfChain
    · cases h
      exact kit_ref hdInvalidBit tyCInvalidBit ssInvalidBit sbInvalidBit_NeverSeen
    · cases h
      exact kit_ref hdInvalidBit tyCInvalidBit ssInvalidBit sbInvalidBit_Unmatched
    · cases h
      exact kit_ref hdInvalidBit tyCInvalidBit ssInvalidBit sbInvalidBit_CannotDecide
    · cases h
      exact kit_ref hdInvalidBit tyCInvalidBit ssInvalidBit sbInvalidBit_NoChain
    · cases h
      exact kit_ref hdInvalidBit tyCInvalidBit ssInvalidBit sbInvalidBit_NotClosed
    · cases h
  have ecInvalidBit : ∀ c b, sb_InvalidBit c = some b → ExcC K ((fun i => [CInvalidFate, CInvalidEnd, CInvalidBit, CInvalidCount, CInvalidRule, CInvalidState, CInvalidNotation, COutOfChain, CNeverSeen, CUnmatched, CCannotDecide, CNoChain, CNotClosed, CSureError].getD i 0) c) := fun c b h => by
    unfold sb_InvalidBit at h
    split at h
    · exact ⟨gaInvalidFate, ggInvalidFate, exCInvalidFate, hdInvalidFate, heInvalidFate, hnC, htC, hqInvalidFate⟩
    · exact ⟨gaInvalidEnd, ggInvalidEnd, exCInvalidEnd, hdInvalidEnd, heInvalidEnd, hnC, htC, hqInvalidEnd⟩
    · exact ⟨gaInvalidBit, ggInvalidBit, exCInvalidBit, hdInvalidBit, heInvalidBit, hnC, htC, hqInvalidBit⟩
    · exact ⟨gaInvalidCount, ggInvalidCount, exCInvalidCount, hdInvalidCount, heInvalidCount, hnC, htC, hqInvalidCount⟩
    · exact ⟨gaInvalidRule, ggInvalidRule, exCInvalidRule, hdInvalidRule, heInvalidRule, hnC, htC, hqInvalidRule⟩
    · exact ⟨gaInvalidState, ggInvalidState, exCInvalidState, hdInvalidState, heInvalidState, hnC, htC, hqInvalidState⟩
    · exact ⟨gaInvalidNotation, ggInvalidNotation, exCInvalidNotation, hdInvalidNotation, heInvalidNotation, hnC, htC, hqInvalidNotation⟩
    · exact ⟨gaOutOfChain, ggOutOfChain, exCOutOfChain, hdOutOfChain, heOutOfChain, hnC, htC, hqOutOfChain⟩
    · exact ⟨gaNeverSeen, ggNeverSeen, exCNeverSeen, hdNeverSeen, heNeverSeen, hnC, htC, hqNeverSeen⟩
    · exact ⟨gaUnmatched, ggUnmatched, exCUnmatched, hdUnmatched, heUnmatched, hnC, htC, hqUnmatched⟩
    · exact ⟨gaCannotDecide, ggCannotDecide, exCCannotDecide, hdCannotDecide, heCannotDecide, hnC, htC, hqCannotDecide⟩
    · exact ⟨gaNoChain, ggNoChain, exCNoChain, hdNoChain, heNoChain, hnC, htC, hqNoChain⟩
    · exact ⟨gaNotClosed, ggNotClosed, exCNotClosed, hdNotClosed, heNotClosed, hnC, htC, hqNotClosed⟩
    · cases h
  have mInvalidBit : ∀ c b, sb_InvalidBit c = some b → PySem.W.exmOne K (.ref ((fun i => [CInvalidFate, CInvalidEnd, CInvalidBit, CInvalidCount, CInvalidRule, CInvalidState, CInvalidNotation, COutOfChain, CNeverSeen, CUnmatched, CCannotDecide, CNoChain, CNotClosed, CSureError].getD i 0) c)) (.ref ((fun i => [CInvalidFate, CInvalidEnd, CInvalidBit, CInvalidCount, CInvalidRule, CInvalidState, CInvalidNotation, COutOfChain, CNeverSeen, CUnmatched, CCannotDecide, CNoChain, CNotClosed, CSureError].getD i 0) 2)) = some b := fun c b h => by
    unfold sb_InvalidBit at h
    split at h
    · cases h
      exact PySem.W.exm_ref exCInvalidBit hdInvalidBit tyCInvalidBit sbInvalidBit_InvalidFate
    · cases h
      exact PySem.W.exm_ref exCInvalidBit hdInvalidBit tyCInvalidBit sbInvalidBit_InvalidEnd
    · cases h
      exact PySem.W.exm_ref exCInvalidBit hdInvalidBit tyCInvalidBit sbInvalidBit_InvalidBit
    · cases h
      exact PySem.W.exm_ref exCInvalidBit hdInvalidBit tyCInvalidBit sbInvalidBit_InvalidCount
    · cases h
      exact PySem.W.exm_ref exCInvalidBit hdInvalidBit tyCInvalidBit sbInvalidBit_InvalidRule
    · cases h
      exact PySem.W.exm_ref exCInvalidBit hdInvalidBit tyCInvalidBit sbInvalidBit_InvalidState
    · cases h
      exact PySem.W.exm_ref exCInvalidBit hdInvalidBit tyCInvalidBit sbInvalidBit_InvalidNotation
    · cases h
      exact PySem.W.exm_ref exCInvalidBit hdInvalidBit tyCInvalidBit sbInvalidBit_OutOfChain
    · cases h
      exact PySem.W.exm_ref exCInvalidBit hdInvalidBit tyCInvalidBit sbInvalidBit_NeverSeen
    · cases h
      exact PySem.W.exm_ref exCInvalidBit hdInvalidBit tyCInvalidBit sbInvalidBit_Unmatched
    · cases h
      exact PySem.W.exm_ref exCInvalidBit hdInvalidBit tyCInvalidBit sbInvalidBit_CannotDecide
    · cases h
      exact PySem.W.exm_ref exCInvalidBit hdInvalidBit tyCInvalidBit sbInvalidBit_NoChain
    · cases h
      exact PySem.W.exm_ref exCInvalidBit hdInvalidBit tyCInvalidBit sbInvalidBit_NotClosed
    · cases h
  have oxInvalidBit : OexC K CInvalidBit := ⟨⟨_, _, _, _, _, _, _, _, _, _, _, _, _, _, _, xLInvalidBit, xrInvalidBit⟩, saInvalidBit, exCInvalidBit, tyCInvalidBit, kCInvalidBit⟩
  have sfInvalidBit : SupF P K mg (nf_InvalidBit ccInvalidBit cdInvalidBit) fInvalidBit ccInvalidBit CInvalidBit := ⟨⟨_, _, _, _, _, _, liInvalidBit⟩, ciInvalidBit, rfl, ⟨_, _, _, ceInvalidBit⟩, ⟨_, _, _, _, _, _, coInvalidBit, cfInvalidBit, cgInvalidBit⟩, suInvalidBit, scInvalidBit, svInvalidBit, opq, B.super_, topS_⟩
  have X_InvalidBit : ∀ base, CalX P w K mg base "InvalidBit" CInvalidBit "bit" := fun base => ⟨⟨_, _, _, oxInvalidBit, aiInvalidBit, tiInvalidBit, okx_InvalidBit liInvalidBit oxInvalidBit sfInvalidBit nInvalidBit, Binds.all fun us hl => match us, hl with | [_, _], _ => rfl, PySem.W.mg_of X G aCInvalidBit⟩⟩
  have kInvalidCount : ∀ c b, sb_InvalidCount c = some b → PySem.W.kitOne K (.ref ((fun i => [CInvalidFate, CInvalidEnd, CInvalidBit, CInvalidCount, CInvalidRule, CInvalidState, CInvalidNotation, COutOfChain, CNeverSeen, CUnmatched, CCannotDecide, CNoChain, CNotClosed, CSureError].getD i 0) c)) (.ref ((fun i => [CInvalidFate, CInvalidEnd, CInvalidBit, CInvalidCount, CInvalidRule, CInvalidState, CInvalidNotation, COutOfChain, CNeverSeen, CUnmatched, CCannotDecide, CNoChain, CNotClosed, CSureError].getD i 0) 3)) = some b := fun c b h => by
    unfold sb_InvalidCount at h
    split at h
    · cases h
      exact kit_ref hdInvalidCount tyCInvalidCount ssInvalidCount sbInvalidCount_InvalidFate
    · cases h
      exact kit_ref hdInvalidCount tyCInvalidCount ssInvalidCount sbInvalidCount_InvalidEnd
    · cases h
      exact kit_ref hdInvalidCount tyCInvalidCount ssInvalidCount sbInvalidCount_InvalidBit
    · cases h
      exact kit_ref hdInvalidCount tyCInvalidCount ssInvalidCount sbInvalidCount_InvalidCount
    · cases h
      exact kit_ref hdInvalidCount tyCInvalidCount ssInvalidCount sbInvalidCount_InvalidRule
    · cases h
      exact kit_ref hdInvalidCount tyCInvalidCount ssInvalidCount sbInvalidCount_InvalidState
    · cases h
      exact kit_ref hdInvalidCount tyCInvalidCount ssInvalidCount sbInvalidCount_InvalidNotation
    · cases h
      exact kit_ref hdInvalidCount tyCInvalidCount ssInvalidCount sbInvalidCount_OutOfChain
    · cases h
      exact kit_ref hdInvalidCount tyCInvalidCount ssInvalidCount sbInvalidCount_NeverSeen
    · cases h
      exact kit_ref hdInvalidCount tyCInvalidCount ssInvalidCount sbInvalidCount_Unmatched
    · cases h
      exact kit_ref hdInvalidCount tyCInvalidCount ssInvalidCount sbInvalidCount_CannotDecide
    · cases h
      exact kit_ref hdInvalidCount tyCInvalidCount ssInvalidCount sbInvalidCount_NoChain
    · cases h
      exact kit_ref hdInvalidCount tyCInvalidCount ssInvalidCount sbInvalidCount_NotClosed
    · cases h
  have ecInvalidCount : ∀ c b, sb_InvalidCount c = some b → ExcC K ((fun i => [CInvalidFate, CInvalidEnd, CInvalidBit, CInvalidCount, CInvalidRule, CInvalidState, CInvalidNotation, COutOfChain, CNeverSeen, CUnmatched, CCannotDecide, CNoChain, CNotClosed, CSureError].getD i 0) c) := fun c b h => by
    unfold sb_InvalidCount at h
    split at h
    · exact ⟨gaInvalidFate, ggInvalidFate, exCInvalidFate, hdInvalidFate, heInvalidFate, hnC, htC, hqInvalidFate⟩
    · exact ⟨gaInvalidEnd, ggInvalidEnd, exCInvalidEnd, hdInvalidEnd, heInvalidEnd, hnC, htC, hqInvalidEnd⟩
    · exact ⟨gaInvalidBit, ggInvalidBit, exCInvalidBit, hdInvalidBit, heInvalidBit, hnC, htC, hqInvalidBit⟩
    · exact ⟨gaInvalidCount, ggInvalidCount, exCInvalidCount, hdInvalidCount, heInvalidCount, hnC, htC, hqInvalidCount⟩
    · exact ⟨gaInvalidRule, ggInvalidRule, exCInvalidRule, hdInvalidRule, heInvalidRule, hnC, htC, hqInvalidRule⟩
    · exact ⟨gaInvalidState, ggInvalidState, exCInvalidState, hdInvalidState, heInvalidState, hnC, htC, hqInvalidState⟩
    · exact ⟨gaInvalidNotation, ggInvalidNotation, exCInvalidNotation, hdInvalidNotation, heInvalidNotation, hnC, htC, hqInvalidNotation⟩
    · exact ⟨gaOutOfChain, ggOutOfChain, exCOutOfChain, hdOutOfChain, heOutOfChain, hnC, htC, hqOutOfChain⟩
    · exact ⟨gaNeverSeen, ggNeverSeen, exCNeverSeen, hdNeverSeen, heNeverSeen, hnC, htC, hqNeverSeen⟩
    · exact ⟨gaUnmatched, ggUnmatched, exCUnmatched, hdUnmatched, heUnmatched, hnC, htC, hqUnmatched⟩
    · exact ⟨gaCannotDecide, ggCannotDecide, exCCannotDecide, hdCannotDecide, heCannotDecide, hnC, htC, hqCannotDecide⟩
    · exact ⟨gaNoChain, ggNoChain, exCNoChain, hdNoChain, heNoChain, hnC, htC, hqNoChain⟩
    · exact ⟨gaNotClosed, ggNotClosed, exCNotClosed, hdNotClosed, heNotClosed, hnC, htC, hqNotClosed⟩
    · cases h
  have mInvalidCount : ∀ c b, sb_InvalidCount c = some b → PySem.W.exmOne K (.ref ((fun i => [CInvalidFate, CInvalidEnd, CInvalidBit, CInvalidCount, CInvalidRule, CInvalidState, CInvalidNotation, COutOfChain, CNeverSeen, CUnmatched, CCannotDecide, CNoChain, CNotClosed, CSureError].getD i 0) c)) (.ref ((fun i => [CInvalidFate, CInvalidEnd, CInvalidBit, CInvalidCount, CInvalidRule, CInvalidState, CInvalidNotation, COutOfChain, CNeverSeen, CUnmatched, CCannotDecide, CNoChain, CNotClosed, CSureError].getD i 0) 3)) = some b := fun c b h => by
    unfold sb_InvalidCount at h
    split at h
    · cases h
      exact PySem.W.exm_ref exCInvalidCount hdInvalidCount tyCInvalidCount sbInvalidCount_InvalidFate
    · cases h
      exact PySem.W.exm_ref exCInvalidCount hdInvalidCount tyCInvalidCount sbInvalidCount_InvalidEnd
    · cases h
      exact PySem.W.exm_ref exCInvalidCount hdInvalidCount tyCInvalidCount sbInvalidCount_InvalidBit
    · cases h
      exact PySem.W.exm_ref exCInvalidCount hdInvalidCount tyCInvalidCount sbInvalidCount_InvalidCount
    · cases h
      exact PySem.W.exm_ref exCInvalidCount hdInvalidCount tyCInvalidCount sbInvalidCount_InvalidRule
    · cases h
      exact PySem.W.exm_ref exCInvalidCount hdInvalidCount tyCInvalidCount sbInvalidCount_InvalidState
    · cases h
      exact PySem.W.exm_ref exCInvalidCount hdInvalidCount tyCInvalidCount sbInvalidCount_InvalidNotation
    · cases h
      exact PySem.W.exm_ref exCInvalidCount hdInvalidCount tyCInvalidCount sbInvalidCount_OutOfChain
    · cases h
      exact PySem.W.exm_ref exCInvalidCount hdInvalidCount tyCInvalidCount sbInvalidCount_NeverSeen
    · cases h
      exact PySem.W.exm_ref exCInvalidCount hdInvalidCount tyCInvalidCount sbInvalidCount_Unmatched
    · cases h
      exact PySem.W.exm_ref exCInvalidCount hdInvalidCount tyCInvalidCount sbInvalidCount_CannotDecide
    · cases h
      exact PySem.W.exm_ref exCInvalidCount hdInvalidCount tyCInvalidCount sbInvalidCount_NoChain
    · cases h
      exact PySem.W.exm_ref exCInvalidCount hdInvalidCount tyCInvalidCount sbInvalidCount_NotClosed
    · cases h
  have oxInvalidCount : OexC K CInvalidCount := ⟨⟨_, _, _, _, _, _, _, _, _, _, _, _, _, _, _, xLInvalidCount, xrInvalidCount⟩, saInvalidCount, exCInvalidCount, tyCInvalidCount, kCInvalidCount⟩
  have sfInvalidCount : SupF P K mg (nf_InvalidCount ccInvalidCount cdInvalidCount) fInvalidCount ccInvalidCount CInvalidCount := ⟨⟨_, _, _, _, _, _, liInvalidCount⟩, ciInvalidCount, rfl, ⟨_, _, _, ceInvalidCount⟩, ⟨_, _, _, _, _, _, coInvalidCount, cfInvalidCount, cgInvalidCount⟩, suInvalidCount, scInvalidCount, svInvalidCount, opq, B.super_, topS_⟩
  have X_InvalidCount : ∀ base, CalX P w K mg base "InvalidCount" CInvalidCount "amount" := fun base => ⟨⟨_, _, _, oxInvalidCount, aiInvalidCount, tiInvalidCount, okx_InvalidCount liInvalidCount oxInvalidCount sfInvalidCount nInvalidCount, Binds.all fun us hl => match us, hl with | [_, _], _ => rfl, PySem.W.mg_of X G aCInvalidCount⟩⟩
  have kInvalidRule : ∀ c b, sb_InvalidRule c = some b → PySem.W.kitOne K (.ref ((fun i => [CInvalidFate, CInvalidEnd, CInvalidBit, CInvalidCount, CInvalidRule, CInvalidState, CInvalidNotation, COutOfChain, CNeverSeen, CUnmatched, CCannotDecide, CNoChain, CNotClosed, CSureError].getD i 0) c)) (.ref ((fun i => [CInvalidFate, CInvalidEnd, CInvalidBit, CInvalidCount, CInvalidRule, CInvalidState, CInvalidNotation, COutOfChain, CNeverSeen, CUnmatched, CCannotDecide, CNoChain, CNotClosed, CSureError].getD i 0) 4)) = some b := fun c b h => by
    unfold sb_InvalidRule at h
    split at h
    · cases h
      exact kit_ref hdInvalidRule tyCInvalidRule ssInvalidRule sbInvalidRule_InvalidFate
    · cases h
      exact kit_ref hdInvalidRule tyCInvalidRule ssInvalidRule sbInvalidRule_InvalidEnd
    · cases h
      exact kit_ref hdInvalidRule tyCInvalidRule ssInvalidRule sbInvalidRule_InvalidBit
    · cases h
      exact kit_ref hdInvalidRule tyCInvalidRule ssInvalidRule sbInvalidRule_InvalidCount
    · cases h
      exact kit_ref hdInvalidRule tyCInvalidRule ssInvalidRule sbInvalidRule_InvalidRule
    · cases h
      exact kit_ref hdInvalidRule tyCInvalidRule ssInvalidRule sbInvalidRule_InvalidState
    · cases h
      exact kit_ref hdInvalidRule tyCInvalidRule ssInvalidRule sbInvalidRule_InvalidNotation
    · cases h
      exact kit_ref hdInvalidRule tyCInvalidRule ssInvalidRule sbInvalidRule_OutOfChain
    · cases h
      exact kit_ref hdInvalidRule tyCInvalidRule ssInvalidRule sbInvalidRule_NeverSeen
    · cases h
      exact kit_ref hdInvalidRule tyCInvalidRule ssInvalidRule sbInvalidRule_Unmatched
    · cases h
      exact kit_ref hdInvalidRule tyCInvalidRule ssInvalidRule sbInvalidRule_CannotDecide
    · cases h
      exact kit_ref hdInvalidRule tyCInvalidRule ssInvalidRule sbInvalidRule_NoChain
    · cases h
      exact kit_ref hdInvalidRule tyCInvalidRule ssInvalidRule sbInvalidRule_NotClosed
    · cases h
  have ecInvalidRule : ∀ c b, sb_InvalidRule c = some b → ExcC K ((fun i => [CInvalidFate, CInvalidEnd, CInvalidBit, CInvalidCount, CInvalidRule, CInvalidState, CInvalidNotation, COutOfChain, CNeverSeen, CUnmatched, CCannotDecide, CNoChain, CNotClosed, CSureError].getD i 0) c) := fun c b h => by
    unfold sb_InvalidRule at h
    split at h
    · exact ⟨gaInvalidFate, ggInvalidFate, exCInvalidFate, hdInvalidFate, heInvalidFate, hnC, htC, hqInvalidFate⟩
    · exact ⟨gaInvalidEnd, ggInvalidEnd, exCInvalidEnd, hdInvalidEnd, heInvalidEnd, hnC, htC, hqInvalidEnd⟩
    · exact ⟨gaInvalidBit, ggInvalidBit, exCInvalidBit, hdInvalidBit, heInvalidBit, hnC, htC, hqInvalidBit⟩
    · exact ⟨gaInvalidCount, ggInvalidCount, exCInvalidCount, hdInvalidCount, heInvalidCount, hnC, htC, hqInvalidCount⟩
    · exact ⟨gaInvalidRule, ggInvalidRule, exCInvalidRule, hdInvalidRule, heInvalidRule, hnC, htC, hqInvalidRule⟩
    · exact ⟨gaInvalidState, ggInvalidState, exCInvalidState, hdInvalidState, heInvalidState, hnC, htC, hqInvalidState⟩
    · exact ⟨gaInvalidNotation, ggInvalidNotation, exCInvalidNotation, hdInvalidNotation, heInvalidNotation, hnC, htC, hqInvalidNotation⟩
    · exact ⟨gaOutOfChain, ggOutOfChain, exCOutOfChain, hdOutOfChain, heOutOfChain, hnC, htC, hqOutOfChain⟩
    · exact ⟨gaNeverSeen, ggNeverSeen, exCNeverSeen, hdNeverSeen, heNeverSeen, hnC, htC, hqNeverSeen⟩
    · exact ⟨gaUnmatched, ggUnmatched, exCUnmatched, hdUnmatched, heUnmatched, hnC, htC, hqUnmatched⟩
    · exact ⟨gaCannotDecide, ggCannotDecide, exCCannotDecide, hdCannotDecide, heCannotDecide, hnC, htC, hqCannotDecide⟩
    · exact ⟨gaNoChain, ggNoChain, exCNoChain, hdNoChain, heNoChain, hnC, htC, hqNoChain⟩
    · exact ⟨gaNotClosed, ggNotClosed, exCNotClosed, hdNotClosed, heNotClosed, hnC, htC, hqNotClosed⟩
    · cases h
  have mInvalidRule : ∀ c b, sb_InvalidRule c = some b → PySem.W.exmOne K (.ref ((fun i => [CInvalidFate, CInvalidEnd, CInvalidBit, CInvalidCount, CInvalidRule, CInvalidState, CInvalidNotation, COutOfChain, CNeverSeen, CUnmatched, CCannotDecide, CNoChain, CNotClosed, CSureError].getD i 0) c)) (.ref ((fun i => [CInvalidFate, CInvalidEnd, CInvalidBit, CInvalidCount, CInvalidRule, CInvalidState, CInvalidNotation, COutOfChain, CNeverSeen, CUnmatched, CCannotDecide, CNoChain, CNotClosed, CSureError].getD i 0) 4)) = some b := fun c b h => by
    unfold sb_InvalidRule at h
    split at h
    · cases h
      exact PySem.W.exm_ref exCInvalidRule hdInvalidRule tyCInvalidRule sbInvalidRule_InvalidFate
    · cases h
      exact PySem.W.exm_ref exCInvalidRule hdInvalidRule tyCInvalidRule sbInvalidRule_InvalidEnd
    · cases h
      exact PySem.W.exm_ref exCInvalidRule hdInvalidRule tyCInvalidRule sbInvalidRule_InvalidBit
    · cases h
      exact PySem.W.exm_ref exCInvalidRule hdInvalidRule tyCInvalidRule sbInvalidRule_InvalidCount
    · cases h
      exact PySem.W.exm_ref exCInvalidRule hdInvalidRule tyCInvalidRule sbInvalidRule_InvalidRule
    · cases h
      exact PySem.W.exm_ref exCInvalidRule hdInvalidRule tyCInvalidRule sbInvalidRule_InvalidState
    · cases h
      exact PySem.W.exm_ref exCInvalidRule hdInvalidRule tyCInvalidRule sbInvalidRule_InvalidNotation
    · cases h
      exact PySem.W.exm_ref exCInvalidRule hdInvalidRule tyCInvalidRule sbInvalidRule_OutOfChain
    · cases h
      exact PySem.W.exm_ref exCInvalidRule hdInvalidRule tyCInvalidRule sbInvalidRule_NeverSeen
    · cases h
      exact PySem.W.exm_ref exCInvalidRule hdInvalidRule tyCInvalidRule sbInvalidRule_Unmatched
    · cases h
      exact PySem.W.exm_ref exCInvalidRule hdInvalidRule tyCInvalidRule sbInvalidRule_CannotDecide
    · cases h
      exact PySem.W.exm_ref exCInvalidRule hdInvalidRule tyCInvalidRule sbInvalidRule_NoChain
    · cases h
      exact PySem.W.exm_ref exCInvalidRule hdInvalidRule tyCInvalidRule sbInvalidRule_NotClosed
    · cases h
  have oxInvalidRule : OexC K CInvalidRule := ⟨⟨_, _, _, _, _, _, _, _, _, _, _, _, _, _, _, xLInvalidRule, xrInvalidRule⟩, saInvalidRule, exCInvalidRule, tyCInvalidRule, kCInvalidRule⟩
  have sfInvalidRule : SupF P K mg (nf_InvalidRule ccInvalidRule cdInvalidRule) fInvalidRule ccInvalidRule CInvalidRule := ⟨⟨_, _, _, _, _, _, liInvalidRule⟩, ciInvalidRule, rfl, ⟨_, _, _, ceInvalidRule⟩, ⟨_, _, _, _, _, _, coInvalidRule, cfInvalidRule, cgInvalidRule⟩, suInvalidRule, scInvalidRule, svInvalidRule, opq, B.super_, topS_⟩
  have X_InvalidRule : ∀ base, CalX P w K mg base "InvalidRule" CInvalidRule "state" := fun base => ⟨⟨_, _, _, oxInvalidRule, aiInvalidRule, tiInvalidRule, okx_InvalidRule liInvalidRule oxInvalidRule sfInvalidRule nInvalidRule, Binds.all fun us hl => match us, hl with | [_, _], _ => rfl, PySem.W.mg_of X G aCInvalidRule⟩⟩
  have kInvalidState : ∀ c b, sb_InvalidState c = some b → PySem.W.kitOne K (.ref ((fun i => [CInvalidFate, CInvalidEnd, CInvalidBit, CInvalidCount, CInvalidRule, CInvalidState, CInvalidNotation, COutOfChain, CNeverSeen, CUnmatched, CCannotDecide, CNoChain, CNotClosed, CSureError].getD i 0) c)) (.ref ((fun i => [CInvalidFate, CInvalidEnd, CInvalidBit, CInvalidCount, CInvalidRule, CInvalidState, CInvalidNotation, COutOfChain, CNeverSeen, CUnmatched, CCannotDecide, CNoChain, CNotClosed, CSureError].getD i 0) 5)) = some b := fun c b h => by
    unfold sb_InvalidState at h
    split at h
    · cases h
      exact kit_ref hdInvalidState tyCInvalidState ssInvalidState sbInvalidState_InvalidFate
    · cases h
      exact kit_ref hdInvalidState tyCInvalidState ssInvalidState sbInvalidState_InvalidEnd
    · cases h
      exact kit_ref hdInvalidState tyCInvalidState ssInvalidState sbInvalidState_InvalidBit
    · cases h
      exact kit_ref hdInvalidState tyCInvalidState ssInvalidState sbInvalidState_InvalidCount
    · cases h
      exact kit_ref hdInvalidState tyCInvalidState ssInvalidState sbInvalidState_InvalidRule
    · cases h
      exact kit_ref hdInvalidState tyCInvalidState ssInvalidState sbInvalidState_InvalidState
    · cases h
      exact kit_ref hdInvalidState tyCInvalidState ssInvalidState sbInvalidState_InvalidNotation
    · cases h
      exact kit_ref hdInvalidState tyCInvalidState ssInvalidState sbInvalidState_OutOfChain
    · cases h
      exact kit_ref hdInvalidState tyCInvalidState ssInvalidState sbInvalidState_NeverSeen
    · cases h
      exact kit_ref hdInvalidState tyCInvalidState ssInvalidState sbInvalidState_Unmatched
    · cases h
      exact kit_ref hdInvalidState tyCInvalidState ssInvalidState sbInvalidState_CannotDecide
    · cases h
      exact kit_ref hdInvalidState tyCInvalidState ssInvalidState sbInvalidState_NoChain
    · cases h
      exact kit_ref hdInvalidState tyCInvalidState ssInvalidState sbInvalidState_NotClosed
    · cases h
  have ecInvalidState : ∀ c b, sb_InvalidState c = some b → ExcC K ((fun i => [CInvalidFate, CInvalidEnd, CInvalidBit, CInvalidCount, CInvalidRule, CInvalidState, CInvalidNotation, COutOfChain, CNeverSeen, CUnmatched, CCannotDecide, CNoChain, CNotClosed, CSureError].getD i 0) c) := fun c b h => by
    unfold sb_InvalidState at h
    split at h
    · exact ⟨gaInvalidFate, ggInvalidFate, exCInvalidFate, hdInvalidFate, heInvalidFate, hnC, htC, hqInvalidFate⟩
    · exact ⟨gaInvalidEnd, ggInvalidEnd, exCInvalidEnd, hdInvalidEnd, heInvalidEnd, hnC, htC, hqInvalidEnd⟩
    · exact ⟨gaInvalidBit, ggInvalidBit, exCInvalidBit, hdInvalidBit, heInvalidBit, hnC, htC, hqInvalidBit⟩
    · exact ⟨gaInvalidCount, ggInvalidCount, exCInvalidCount, hdInvalidCount, heInvalidCount, hnC, htC, hqInvalidCount⟩
    · exact ⟨gaInvalidRule, ggInvalidRule, exCInvalidRule, hdInvalidRule, heInvalidRule, hnC, htC, hqInvalidRule⟩
    · exact ⟨gaInvalidState, ggInvalidState, exCInvalidState, hdInvalidState, heInvalidState, hnC, htC, hqInvalidState⟩
    · exact ⟨gaInvalidNotation, ggInvalidNotation, exCInvalidNotation, hdInvalidNotation, heInvalidNotation, hnC, htC, hqInvalidNotation⟩
    · exact ⟨gaOutOfChain, ggOutOfChain, exCOutOfChain, hdOutOfChain, heOutOfChain, hnC, htC, hqOutOfChain⟩
    · exact ⟨gaNeverSeen, ggNeverSeen, exCNeverSeen, hdNeverSeen, heNeverSeen, hnC, htC, hqNeverSeen⟩
    · exact ⟨gaUnmatched, ggUnmatched, exCUnmatched, hdUnmatched, heUnmatched, hnC, htC, hqUnmatched⟩
    · exact ⟨gaCannotDecide, ggCannotDecide, exCCannotDecide, hdCannotDecide, heCannotDecide, hnC, htC, hqCannotDecide⟩
    · exact ⟨gaNoChain, ggNoChain, exCNoChain, hdNoChain, heNoChain, hnC, htC, hqNoChain⟩
    · exact ⟨gaNotClosed, ggNotClosed, exCNotClosed, hdNotClosed, heNotClosed, hnC, htC, hqNotClosed⟩
    · cases h
  have mInvalidState : ∀ c b, sb_InvalidState c = some b → PySem.W.exmOne K (.ref ((fun i => [CInvalidFate, CInvalidEnd, CInvalidBit, CInvalidCount, CInvalidRule, CInvalidState, CInvalidNotation, COutOfChain, CNeverSeen, CUnmatched, CCannotDecide, CNoChain, CNotClosed, CSureError].getD i 0) c)) (.ref ((fun i => [CInvalidFate, CInvalidEnd, CInvalidBit, CInvalidCount, CInvalidRule, CInvalidState, CInvalidNotation, COutOfChain, CNeverSeen, CUnmatched, CCannotDecide, CNoChain, CNotClosed, CSureError].getD i 0) 5)) = some b := fun c b h => by
    unfold sb_InvalidState at h
    split at h
    · cases h
      exact PySem.W.exm_ref exCInvalidState hdInvalidState tyCInvalidState sbInvalidState_InvalidFate
    · cases h
      exact PySem.W.exm_ref exCInvalidState hdInvalidState tyCInvalidState sbInvalidState_InvalidEnd
    · cases h
      exact PySem.W.exm_ref exCInvalidState hdInvalidState tyCInvalidState sbInvalidState_InvalidBit
    · cases h
      exact PySem.W.exm_ref exCInvalidState hdInvalidState tyCInvalidState sbInvalidState_InvalidCount
    · cases h
      exact PySem.W.exm_ref exCInvalidState hdInvalidState tyCInvalidState sbInvalidState_InvalidRule
    · cases h
      exact PySem.W.exm_ref exCInvalidState hdInvalidState tyCInvalidState sbInvalidState_InvalidState
    · cases h
      exact PySem.W.exm_ref exCInvalidState hdInvalidState tyCInvalidState sbInvalidState_InvalidNotation
    · cases h
      exact PySem.W.exm_ref exCInvalidState hdInvalidState tyCInvalidState sbInvalidState_OutOfChain
    · cases h
      exact PySem.W.exm_ref exCInvalidState hdInvalidState tyCInvalidState sbInvalidState_NeverSeen
    · cases h
      exact PySem.W.exm_ref exCInvalidState hdInvalidState tyCInvalidState sbInvalidState_Unmatched
    · cases h
      exact PySem.W.exm_ref exCInvalidState hdInvalidState tyCInvalidState sbInvalidState_CannotDecide
    · cases h
      exact PySem.W.exm_ref exCInvalidState hdInvalidState tyCInvalidState sbInvalidState_NoChain
    · cases h
      exact PySem.W.exm_ref exCInvalidState hdInvalidState tyCInvalidState sbInvalidState_NotClosed
    · cases h
  have oxInvalidState : OexC K CInvalidState := ⟨⟨_, _, _, _, _, _, _, _, _, _, _, _, _, _, _, xLInvalidState, xrInvalidState⟩, saInvalidState, exCInvalidState, tyCInvalidState, kCInvalidState⟩
  have sfInvalidState : SupF P K mg (nf_InvalidState ccInvalidState cdInvalidState) fInvalidState ccInvalidState CInvalidState := ⟨⟨_, _, _, _, _, _, liInvalidState⟩, ciInvalidState, rfl, ⟨_, _, _, ceInvalidState⟩, ⟨_, _, _, _, _, _, coInvalidState, cfInvalidState, cgInvalidState⟩, suInvalidState, scInvalidState, svInvalidState, opq, B.super_, topS_⟩
  have X_InvalidState : ∀ base, CalX P w K mg base "InvalidState" CInvalidState "state" := fun base => ⟨⟨_, _, _, oxInvalidState, aiInvalidState, tiInvalidState, okx_InvalidState liInvalidState oxInvalidState sfInvalidState nInvalidState, Binds.all fun us hl => match us, hl with | [_, _], _ => rfl, PySem.W.mg_of X G aCInvalidState⟩⟩
  have kInvalidNotation : ∀ c b, sb_InvalidNotation c = some b → PySem.W.kitOne K (.ref ((fun i => [CInvalidFate, CInvalidEnd, CInvalidBit, CInvalidCount, CInvalidRule, CInvalidState, CInvalidNotation, COutOfChain, CNeverSeen, CUnmatched, CCannotDecide, CNoChain, CNotClosed, CSureError].getD i 0) c)) (.ref ((fun i => [CInvalidFate, CInvalidEnd, CInvalidBit, CInvalidCount, CInvalidRule, CInvalidState, CInvalidNotation, COutOfChain, CNeverSeen, CUnmatched, CCannotDecide, CNoChain, CNotClosed, CSureError].getD i 0) 6)) = some b := fun c b h => by
    unfold sb_InvalidNotation at h
    split at h
    · cases h
      exact kit_ref hdInvalidNotation tyCInvalidNotation ssInvalidNotation sbInvalidNotation_InvalidFate
    · cases h
      exact kit_ref hdInvalidNotation tyCInvalidNotation ssInvalidNotation sbInvalidNotation_InvalidEnd
    · cases h
      exact kit_ref hdInvalidNotation tyCInvalidNotation ssInvalidNotation sbInvalidNotation_InvalidBit
    · cases h
      exact kit_ref hdInvalidNotation tyCInvalidNotation ssInvalidNotation sbInvalidNotation_InvalidCount
    · cases h
      exact kit_ref hdInvalidNotation tyCInvalidNotation ssInvalidNotation sbInvalidNotation_InvalidRule
    · cases h
      exact kit_ref hdInvalidNotation tyCInvalidNotation ssInvalidNotation sbInvalidNotation_InvalidState
    · cases h
      exact kit_ref hdInvalidNotation tyCInvalidNotation ssInvalidNotation sbInvalidNotation_InvalidNotation
    · cases h
      exact kit_ref hdInvalidNotation tyCInvalidNotation ssInvalidNotation sbInvalidNotation_OutOfChain
    · cases h
      exact kit_ref hdInvalidNotation tyCInvalidNotation ssInvalidNotation sbInvalidNotation_NeverSeen
    · cases h
      exact kit_ref hdInvalidNotation tyCInvalidNotation ssInvalidNotation sbInvalidNotation_Unmatched
    · cases h
      exact kit_ref hdInvalidNotation tyCInvalidNotation ssInvalidNotation sbInvalidNotation_CannotDecide
    · cases h
      exact kit_ref hdInvalidNotation tyCInvalidNotation ssInvalidNotation sbInvalidNotation_NoChain
    · cases h
      exact kit_ref hdInvalidNotation tyCInvalidNotation ssInvalidNotation sbInvalidNotation_NotClosed
    · cases h
  have ecInvalidNotation : ∀ c b, sb_InvalidNotation c = some b → ExcC K ((fun i => [CInvalidFate, CInvalidEnd, CInvalidBit, CInvalidCount, CInvalidRule, CInvalidState, CInvalidNotation, COutOfChain, CNeverSeen, CUnmatched, CCannotDecide, CNoChain, CNotClosed, CSureError].getD i 0) c) := fun c b h => by
    unfold sb_InvalidNotation at h
    split at h
    · exact ⟨gaInvalidFate, ggInvalidFate, exCInvalidFate, hdInvalidFate, heInvalidFate, hnC, htC, hqInvalidFate⟩
    · exact ⟨gaInvalidEnd, ggInvalidEnd, exCInvalidEnd, hdInvalidEnd, heInvalidEnd, hnC, htC, hqInvalidEnd⟩
    · exact ⟨gaInvalidBit, ggInvalidBit, exCInvalidBit, hdInvalidBit, heInvalidBit, hnC, htC, hqInvalidBit⟩
    · exact ⟨gaInvalidCount, ggInvalidCount, exCInvalidCount, hdInvalidCount, heInvalidCount, hnC, htC, hqInvalidCount⟩
    · exact ⟨gaInvalidRule, ggInvalidRule, exCInvalidRule, hdInvalidRule, heInvalidRule, hnC, htC, hqInvalidRule⟩
    · exact ⟨gaInvalidState, ggInvalidState, exCInvalidState, hdInvalidState, heInvalidState, hnC, htC, hqInvalidState⟩
    · exact ⟨gaInvalidNotation, ggInvalidNotation, exCInvalidNotation, hdInvalidNotation, heInvalidNotation, hnC, htC, hqInvalidNotation⟩
    · exact ⟨gaOutOfChain, ggOutOfChain, exCOutOfChain, hdOutOfChain, heOutOfChain, hnC, htC, hqOutOfChain⟩
    · exact ⟨gaNeverSeen, ggNeverSeen, exCNeverSeen, hdNeverSeen, heNeverSeen, hnC, htC, hqNeverSeen⟩
    · exact ⟨gaUnmatched, ggUnmatched, exCUnmatched, hdUnmatched, heUnmatched, hnC, htC, hqUnmatched⟩
    · exact ⟨gaCannotDecide, ggCannotDecide, exCCannotDecide, hdCannotDecide, heCannotDecide, hnC, htC, hqCannotDecide⟩
    · exact ⟨gaNoChain, ggNoChain, exCNoChain, hdNoChain, heNoChain, hnC, htC, hqNoChain⟩
    · exact ⟨gaNotClosed, ggNotClosed, exCNotClosed, hdNotClosed, heNotClosed, hnC, htC, hqNotClosed⟩
    · cases h
  have mInvalidNotation : ∀ c b, sb_InvalidNotation c = some b → PySem.W.exmOne K (.ref ((fun i => [CInvalidFate, CInvalidEnd, CInvalidBit, CInvalidCount, CInvalidRule, CInvalidState, CInvalidNotation, COutOfChain, CNeverSeen, CUnmatched, CCannotDecide, CNoChain, CNotClosed, CSureError].getD i 0) c)) (.ref ((fun i => [CInvalidFate, CInvalidEnd, CInvalidBit, CInvalidCount, CInvalidRule, CInvalidState, CInvalidNotation, COutOfChain, CNeverSeen, CUnmatched, CCannotDecide, CNoChain, CNotClosed, CSureError].getD i 0) 6)) = some b := fun c b h => by
    unfold sb_InvalidNotation at h
    split at h
    · cases h
      exact PySem.W.exm_ref exCInvalidNotation hdInvalidNotation tyCInvalidNotation sbInvalidNotation_InvalidFate
    · cases h
      exact PySem.W.exm_ref exCInvalidNotation hdInvalidNotation tyCInvalidNotation sbInvalidNotation_InvalidEnd
    · cases h
      exact PySem.W.exm_ref exCInvalidNotation hdInvalidNotation tyCInvalidNotation sbInvalidNotation_InvalidBit
    · cases h
      exact PySem.W.exm_ref exCInvalidNotation hdInvalidNotation tyCInvalidNotation sbInvalidNotation_InvalidCount
    · cases h
      exact PySem.W.exm_ref exCInvalidNotation hdInvalidNotation tyCInvalidNotation sbInvalidNotation_InvalidRule
    · cases h
      exact PySem.W.exm_ref exCInvalidNotation hdInvalidNotation tyCInvalidNotation sbInvalidNotation_InvalidState
    · cases h
      exact PySem.W.exm_ref exCInvalidNotation hdInvalidNotation tyCInvalidNotation sbInvalidNotation_InvalidNotation
    · cases h
      exact PySem.W.exm_ref exCInvalidNotation hdInvalidNotation tyCInvalidNotation sbInvalidNotation_OutOfChain
    · cases h
      exact PySem.W.exm_ref exCInvalidNotation hdInvalidNotation tyCInvalidNotation sbInvalidNotation_NeverSeen
    · cases h
      exact PySem.W.exm_ref exCInvalidNotation hdInvalidNotation tyCInvalidNotation sbInvalidNotation_Unmatched
    · cases h
      exact PySem.W.exm_ref exCInvalidNotation hdInvalidNotation tyCInvalidNotation sbInvalidNotation_CannotDecide
    · cases h
      exact PySem.W.exm_ref exCInvalidNotation hdInvalidNotation tyCInvalidNotation sbInvalidNotation_NoChain
    · cases h
      exact PySem.W.exm_ref exCInvalidNotation hdInvalidNotation tyCInvalidNotation sbInvalidNotation_NotClosed
    · cases h
  have oxInvalidNotation : OexC K CInvalidNotation := ⟨⟨_, _, _, _, _, _, _, _, _, _, _, _, _, _, _, xLInvalidNotation, xrInvalidNotation⟩, saInvalidNotation, exCInvalidNotation, tyCInvalidNotation, kCInvalidNotation⟩
  have sfInvalidNotation : SupF P K mg (nf_InvalidNotation ccInvalidNotation cdInvalidNotation) fInvalidNotation ccInvalidNotation CInvalidNotation := ⟨⟨_, _, _, _, _, _, liInvalidNotation⟩, ciInvalidNotation, rfl, ⟨_, _, _, ceInvalidNotation⟩, ⟨_, _, _, _, _, _, coInvalidNotation, cfInvalidNotation, cgInvalidNotation⟩, suInvalidNotation, scInvalidNotation, svInvalidNotation, opq, B.super_, topS_⟩
  have X_InvalidNotation : ∀ base, CalX P w K mg base "InvalidNotation" CInvalidNotation "line" := fun base => ⟨⟨_, _, _, oxInvalidNotation, aiInvalidNotation, tiInvalidNotation, okx_InvalidNotation liInvalidNotation oxInvalidNotation sfInvalidNotation nInvalidNotation, Binds.all fun us hl => match us, hl with | [_, _], _ => rfl, PySem.W.mg_of X G aCInvalidNotation⟩⟩
  have kOutOfChain : ∀ c b, sb_OutOfChain c = some b → PySem.W.kitOne K (.ref ((fun i => [CInvalidFate, CInvalidEnd, CInvalidBit, CInvalidCount, CInvalidRule, CInvalidState, CInvalidNotation, COutOfChain, CNeverSeen, CUnmatched, CCannotDecide, CNoChain, CNotClosed, CSureError].getD i 0) c)) (.ref ((fun i => [CInvalidFate, CInvalidEnd, CInvalidBit, CInvalidCount, CInvalidRule, CInvalidState, CInvalidNotation, COutOfChain, CNeverSeen, CUnmatched, CCannotDecide, CNoChain, CNotClosed, CSureError].getD i 0) 7)) = some b := fun c b h => by
    unfold sb_OutOfChain at h
    split at h
    · cases h
      exact kit_ref hdOutOfChain tyCOutOfChain ssOutOfChain sbOutOfChain_InvalidFate
    · cases h
      exact kit_ref hdOutOfChain tyCOutOfChain ssOutOfChain sbOutOfChain_InvalidEnd
    · cases h
      exact kit_ref hdOutOfChain tyCOutOfChain ssOutOfChain sbOutOfChain_InvalidBit
    · cases h
      exact kit_ref hdOutOfChain tyCOutOfChain ssOutOfChain sbOutOfChain_InvalidCount
    · cases h
      exact kit_ref hdOutOfChain tyCOutOfChain ssOutOfChain sbOutOfChain_InvalidRule
    · cases h
      exact kit_ref hdOutOfChain tyCOutOfChain ssOutOfChain sbOutOfChain_InvalidState
    · cases h
      exact kit_ref hdOutOfChain tyCOutOfChain ssOutOfChain sbOutOfChain_InvalidNotation
    · cases h
      exact kit_ref hdOutOfChain tyCOutOfChain ssOutOfChain sbOutOfChain_OutOfChain
    · cases h
      exact kit_ref hdOutOfChain tyCOutOfChain ssOutOfChain sbOutOfChain_NeverSeen
    · cases h
      exact kit_ref hdOutOfChain tyCOutOfChain ssOutOfChain sbOutOfChain_Unmatched
    · cases h
      exact kit_ref hdOutOfChain tyCOutOfChain ssOutOfChain sbOutOfChain_CannotDecide
    · cases h
      exact kit_ref hdOutOfChain tyCOutOfChain ssOutOfChain sbOutOfChain_NoChain
    · cases h
      exact kit_ref hdOutOfChain tyCOutOfChain ssOutOfChain sbOutOfChain_NotClosed
    · cases h
  have ecOutOfChain : ∀ c b, sb_OutOfChain c = some b → ExcC K ((fun i => [CInvalidFate, CInvalidEnd, CInvalidBit, CInvalidCount, CInvalidRule, CInvalidState, CInvalidNotation, COutOfChain, CNeverSeen, CUnmatched, CCannotDecide, CNoChain, CNotClosed, CSureError].getD i 0) c) := fun c b h => by
    unfold sb_OutOfChain at h
    split at h
    · exact ⟨gaInvalidFate, ggInvalidFate, exCInvalidFate, hdInvalidFate, heInvalidFate, hnC, htC, hqInvalidFate⟩
    · exact ⟨gaInvalidEnd, ggInvalidEnd, exCInvalidEnd, hdInvalidEnd, heInvalidEnd, hnC, htC, hqInvalidEnd⟩
    · exact ⟨gaInvalidBit, ggInvalidBit, exCInvalidBit, hdInvalidBit, heInvalidBit, hnC, htC, hqInvalidBit⟩
    · exact ⟨gaInvalidCount, ggInvalidCount, exCInvalidCount, hdInvalidCount, heInvalidCount, hnC, htC, hqInvalidCount⟩
    · exact ⟨gaInvalidRule, ggInvalidRule, exCInvalidRule, hdInvalidRule, heInvalidRule, hnC, htC, hqInvalidRule⟩
    · exact ⟨gaInvalidState, ggInvalidState, exCInvalidState, hdInvalidState, heInvalidState, hnC, htC, hqInvalidState⟩
    · exact ⟨gaInvalidNotation, ggInvalidNotation, exCInvalidNotation, hdInvalidNotation, heInvalidNotation, hnC, htC, hqInvalidNotation⟩
    · exact ⟨gaOutOfChain, ggOutOfChain, exCOutOfChain, hdOutOfChain, heOutOfChain, hnC, htC, hqOutOfChain⟩
    · exact ⟨gaNeverSeen, ggNeverSeen, exCNeverSeen, hdNeverSeen, heNeverSeen, hnC, htC, hqNeverSeen⟩
    · exact ⟨gaUnmatched, ggUnmatched, exCUnmatched, hdUnmatched, heUnmatched, hnC, htC, hqUnmatched⟩
    · exact ⟨gaCannotDecide, ggCannotDecide, exCCannotDecide, hdCannotDecide, heCannotDecide, hnC, htC, hqCannotDecide⟩
    · exact ⟨gaNoChain, ggNoChain, exCNoChain, hdNoChain, heNoChain, hnC, htC, hqNoChain⟩
    · exact ⟨gaNotClosed, ggNotClosed, exCNotClosed, hdNotClosed, heNotClosed, hnC, htC, hqNotClosed⟩
    · cases h
  have mOutOfChain : ∀ c b, sb_OutOfChain c = some b → PySem.W.exmOne K (.ref ((fun i => [CInvalidFate, CInvalidEnd, CInvalidBit, CInvalidCount, CInvalidRule, CInvalidState, CInvalidNotation, COutOfChain, CNeverSeen, CUnmatched, CCannotDecide, CNoChain, CNotClosed, CSureError].getD i 0) c)) (.ref ((fun i => [CInvalidFate, CInvalidEnd, CInvalidBit, CInvalidCount, CInvalidRule, CInvalidState, CInvalidNotation, COutOfChain, CNeverSeen, CUnmatched, CCannotDecide, CNoChain, CNotClosed, CSureError].getD i 0) 7)) = some b := fun c b h => by
    unfold sb_OutOfChain at h
    split at h
    · cases h
      exact PySem.W.exm_ref exCOutOfChain hdOutOfChain tyCOutOfChain sbOutOfChain_InvalidFate
    · cases h
      exact PySem.W.exm_ref exCOutOfChain hdOutOfChain tyCOutOfChain sbOutOfChain_InvalidEnd
    · cases h
      exact PySem.W.exm_ref exCOutOfChain hdOutOfChain tyCOutOfChain sbOutOfChain_InvalidBit
    · cases h
      exact PySem.W.exm_ref exCOutOfChain hdOutOfChain tyCOutOfChain sbOutOfChain_InvalidCount
    · cases h
      exact PySem.W.exm_ref exCOutOfChain hdOutOfChain tyCOutOfChain sbOutOfChain_InvalidRule
    · cases h
      exact PySem.W.exm_ref exCOutOfChain hdOutOfChain tyCOutOfChain sbOutOfChain_InvalidState
    · cases h
      exact PySem.W.exm_ref exCOutOfChain hdOutOfChain tyCOutOfChain sbOutOfChain_InvalidNotation
    · cases h
      exact PySem.W.exm_ref exCOutOfChain hdOutOfChain tyCOutOfChain sbOutOfChain_OutOfChain
    · cases h
      exact PySem.W.exm_ref exCOutOfChain hdOutOfChain tyCOutOfChain sbOutOfChain_NeverSeen
    · cases h
      exact PySem.W.exm_ref exCOutOfChain hdOutOfChain tyCOutOfChain sbOutOfChain_Unmatched
    · cases h
      exact PySem.W.exm_ref exCOutOfChain hdOutOfChain tyCOutOfChain sbOutOfChain_CannotDecide
    · cases h
      exact PySem.W.exm_ref exCOutOfChain hdOutOfChain tyCOutOfChain sbOutOfChain_NoChain
    · cases h
      exact PySem.W.exm_ref exCOutOfChain hdOutOfChain tyCOutOfChain sbOutOfChain_NotClosed
    · cases h
  have oxOutOfChain : OexC K COutOfChain := ⟨⟨_, _, _, _, _, _, _, _, _, _, _, _, _, _, _, xLOutOfChain, xrOutOfChain⟩, saOutOfChain, exCOutOfChain, tyCOutOfChain, kCOutOfChain⟩
  have sfOutOfChain : SupF P K mg (nf_OutOfChain ccOutOfChain cdOutOfChain) fOutOfChain ccOutOfChain COutOfChain := ⟨⟨_, _, _, _, _, _, liOutOfChain⟩, ciOutOfChain, rfl, ⟨_, _, _, ceOutOfChain⟩, ⟨_, _, _, _, _, _, coOutOfChain, cfOutOfChain, cgOutOfChain⟩, suOutOfChain, scOutOfChain, svOutOfChain, opq, B.super_, topS_⟩
  have X_OutOfChain : ∀ base, CalX P w K mg base "OutOfChain" COutOfChain "position" := fun base => ⟨⟨_, _, _, oxOutOfChain, aiOutOfChain, tiOutOfChain, okx_OutOfChain liOutOfChain oxOutOfChain sfOutOfChain nOutOfChain, Binds.all fun us hl => match us, hl with | [_, _], _ => rfl, PySem.W.mg_of X G aCOutOfChain⟩⟩
  have kNeverSeen : ∀ c b, sb_NeverSeen c = some b → PySem.W.kitOne K (.ref ((fun i => [CInvalidFate, CInvalidEnd, CInvalidBit, CInvalidCount, CInvalidRule, CInvalidState, CInvalidNotation, COutOfChain, CNeverSeen, CUnmatched, CCannotDecide, CNoChain, CNotClosed, CSureError].getD i 0) c)) (.ref ((fun i => [CInvalidFate, CInvalidEnd, CInvalidBit, CInvalidCount, CInvalidRule, CInvalidState, CInvalidNotation, COutOfChain, CNeverSeen, CUnmatched, CCannotDecide, CNoChain, CNotClosed, CSureError].getD i 0) 8)) = some b := fun c b h => by
    unfold sb_NeverSeen at h
    split at h
    · cases h
      exact kit_ref hdNeverSeen tyCNeverSeen ssNeverSeen sbNeverSeen_InvalidFate
    · cases h
      exact kit_ref hdNeverSeen tyCNeverSeen ssNeverSeen sbNeverSeen_InvalidEnd
    · cases h
      exact kit_ref hdNeverSeen tyCNeverSeen ssNeverSeen sbNeverSeen_InvalidBit
    · cases h
      exact kit_ref hdNeverSeen tyCNeverSeen ssNeverSeen sbNeverSeen_InvalidCount
    · cases h
      exact kit_ref hdNeverSeen tyCNeverSeen ssNeverSeen sbNeverSeen_InvalidRule
    · cases h
      exact kit_ref hdNeverSeen tyCNeverSeen ssNeverSeen sbNeverSeen_InvalidState
    · cases h
      exact kit_ref hdNeverSeen tyCNeverSeen ssNeverSeen sbNeverSeen_InvalidNotation
    · cases h
      exact kit_ref hdNeverSeen tyCNeverSeen ssNeverSeen sbNeverSeen_OutOfChain
    · cases h
      exact kit_ref hdNeverSeen tyCNeverSeen ssNeverSeen sbNeverSeen_NeverSeen
    · cases h
      exact kit_ref hdNeverSeen tyCNeverSeen ssNeverSeen sbNeverSeen_Unmatched
    · cases h
      exact kit_ref hdNeverSeen tyCNeverSeen ssNeverSeen sbNeverSeen_CannotDecide
    · cases h
      exact kit_ref hdNeverSeen tyCNeverSeen ssNeverSeen sbNeverSeen_NoChain
    · cases h
      exact kit_ref hdNeverSeen tyCNeverSeen ssNeverSeen sbNeverSeen_NotClosed
    · cases h
  have ecNeverSeen : ∀ c b, sb_NeverSeen c = some b → ExcC K ((fun i => [CInvalidFate, CInvalidEnd, CInvalidBit, CInvalidCount, CInvalidRule, CInvalidState, CInvalidNotation, COutOfChain, CNeverSeen, CUnmatched, CCannotDecide, CNoChain, CNotClosed, CSureError].getD i 0) c) := fun c b h => by
    unfold sb_NeverSeen at h
    split at h
    · exact ⟨gaInvalidFate, ggInvalidFate, exCInvalidFate, hdInvalidFate, heInvalidFate, hnC, htC, hqInvalidFate⟩
    · exact ⟨gaInvalidEnd, ggInvalidEnd, exCInvalidEnd, hdInvalidEnd, heInvalidEnd, hnC, htC, hqInvalidEnd⟩
    · exact ⟨gaInvalidBit, ggInvalidBit, exCInvalidBit, hdInvalidBit, heInvalidBit, hnC, htC, hqInvalidBit⟩
    · exact ⟨gaInvalidCount, ggInvalidCount, exCInvalidCount, hdInvalidCount, heInvalidCount, hnC, htC, hqInvalidCount⟩
    · exact ⟨gaInvalidRule, ggInvalidRule, exCInvalidRule, hdInvalidRule, heInvalidRule, hnC, htC, hqInvalidRule⟩
    · exact ⟨gaInvalidState, ggInvalidState, exCInvalidState, hdInvalidState, heInvalidState, hnC, htC, hqInvalidState⟩
    · exact ⟨gaInvalidNotation, ggInvalidNotation, exCInvalidNotation, hdInvalidNotation, heInvalidNotation, hnC, htC, hqInvalidNotation⟩
    · exact ⟨gaOutOfChain, ggOutOfChain, exCOutOfChain, hdOutOfChain, heOutOfChain, hnC, htC, hqOutOfChain⟩
    · exact ⟨gaNeverSeen, ggNeverSeen, exCNeverSeen, hdNeverSeen, heNeverSeen, hnC, htC, hqNeverSeen⟩
    · exact ⟨gaUnmatched, ggUnmatched, exCUnmatched, hdUnmatched, heUnmatched, hnC, htC, hqUnmatched⟩
    · exact ⟨gaCannotDecide, ggCannotDecide, exCCannotDecide, hdCannotDecide, heCannotDecide, hnC, htC, hqCannotDecide⟩
    · exact ⟨gaNoChain, ggNoChain, exCNoChain, hdNoChain, heNoChain, hnC, htC, hqNoChain⟩
    · exact ⟨gaNotClosed, ggNotClosed, exCNotClosed, hdNotClosed, heNotClosed, hnC, htC, hqNotClosed⟩
    · cases h
  have mNeverSeen : ∀ c b, sb_NeverSeen c = some b → PySem.W.exmOne K (.ref ((fun i => [CInvalidFate, CInvalidEnd, CInvalidBit, CInvalidCount, CInvalidRule, CInvalidState, CInvalidNotation, COutOfChain, CNeverSeen, CUnmatched, CCannotDecide, CNoChain, CNotClosed, CSureError].getD i 0) c)) (.ref ((fun i => [CInvalidFate, CInvalidEnd, CInvalidBit, CInvalidCount, CInvalidRule, CInvalidState, CInvalidNotation, COutOfChain, CNeverSeen, CUnmatched, CCannotDecide, CNoChain, CNotClosed, CSureError].getD i 0) 8)) = some b := fun c b h => by
    unfold sb_NeverSeen at h
    split at h
    · cases h
      exact PySem.W.exm_ref exCNeverSeen hdNeverSeen tyCNeverSeen sbNeverSeen_InvalidFate
    · cases h
      exact PySem.W.exm_ref exCNeverSeen hdNeverSeen tyCNeverSeen sbNeverSeen_InvalidEnd
    · cases h
      exact PySem.W.exm_ref exCNeverSeen hdNeverSeen tyCNeverSeen sbNeverSeen_InvalidBit
    · cases h
      exact PySem.W.exm_ref exCNeverSeen hdNeverSeen tyCNeverSeen sbNeverSeen_InvalidCount
    · cases h
      exact PySem.W.exm_ref exCNeverSeen hdNeverSeen tyCNeverSeen sbNeverSeen_InvalidRule
    · cases h
      exact PySem.W.exm_ref exCNeverSeen hdNeverSeen tyCNeverSeen sbNeverSeen_InvalidState
    · cases h
      exact PySem.W.exm_ref exCNeverSeen hdNeverSeen tyCNeverSeen sbNeverSeen_InvalidNotation
    · cases h
      exact PySem.W.exm_ref exCNeverSeen hdNeverSeen tyCNeverSeen sbNeverSeen_OutOfChain
    · cases h
      exact PySem.W.exm_ref exCNeverSeen hdNeverSeen tyCNeverSeen sbNeverSeen_NeverSeen
    · cases h
      exact PySem.W.exm_ref exCNeverSeen hdNeverSeen tyCNeverSeen sbNeverSeen_Unmatched
    · cases h
      exact PySem.W.exm_ref exCNeverSeen hdNeverSeen tyCNeverSeen sbNeverSeen_CannotDecide
    · cases h
      exact PySem.W.exm_ref exCNeverSeen hdNeverSeen tyCNeverSeen sbNeverSeen_NoChain
    · cases h
      exact PySem.W.exm_ref exCNeverSeen hdNeverSeen tyCNeverSeen sbNeverSeen_NotClosed
    · cases h
  have oxNeverSeen : OexC K CNeverSeen := ⟨⟨_, _, _, _, _, _, _, _, _, _, _, _, _, _, _, xLNeverSeen, xrNeverSeen⟩, saNeverSeen, exCNeverSeen, tyCNeverSeen, kCNeverSeen⟩
  have sfNeverSeen : SupF P K mg (nf_NeverSeen ccNeverSeen cdNeverSeen) fNeverSeen ccNeverSeen CNeverSeen := ⟨⟨_, _, _, _, _, _, liNeverSeen⟩, ciNeverSeen, rfl, ⟨_, _, _, ceNeverSeen⟩, ⟨_, _, _, _, _, _, coNeverSeen, cfNeverSeen, cgNeverSeen⟩, suNeverSeen, scNeverSeen, svNeverSeen, opq, B.super_, topS_⟩
  have X_NeverSeen : ∀ base, CalXT P w K mg base "NeverSeen" CNeverSeen "wrong_view" := fun base => ⟨⟨_, _, _, oxNeverSeen, aiNeverSeen, tiNeverSeen, okx_NeverSeen liNeverSeen oxNeverSeen sfNeverSeen nNeverSeen, Binds.all fun us hl => match us, hl with | [_, _], _ => rfl, PySem.W.mg_of X G aCNeverSeen⟩⟩
  have kUnmatched : ∀ c b, sb_Unmatched c = some b → PySem.W.kitOne K (.ref ((fun i => [CInvalidFate, CInvalidEnd, CInvalidBit, CInvalidCount, CInvalidRule, CInvalidState, CInvalidNotation, COutOfChain, CNeverSeen, CUnmatched, CCannotDecide, CNoChain, CNotClosed, CSureError].getD i 0) c)) (.ref ((fun i => [CInvalidFate, CInvalidEnd, CInvalidBit, CInvalidCount, CInvalidRule, CInvalidState, CInvalidNotation, COutOfChain, CNeverSeen, CUnmatched, CCannotDecide, CNoChain, CNotClosed, CSureError].getD i 0) 9)) = some b := fun c b h => by
    unfold sb_Unmatched at h
    split at h
    · cases h
      exact kit_ref hdUnmatched tyCUnmatched ssUnmatched sbUnmatched_InvalidFate
    · cases h
      exact kit_ref hdUnmatched tyCUnmatched ssUnmatched sbUnmatched_InvalidEnd
    · cases h
      exact kit_ref hdUnmatched tyCUnmatched ssUnmatched sbUnmatched_InvalidBit
    · cases h
      exact kit_ref hdUnmatched tyCUnmatched ssUnmatched sbUnmatched_InvalidCount
    · cases h
      exact kit_ref hdUnmatched tyCUnmatched ssUnmatched sbUnmatched_InvalidRule
    · cases h
      exact kit_ref hdUnmatched tyCUnmatched ssUnmatched sbUnmatched_InvalidState
    · cases h
      exact kit_ref hdUnmatched tyCUnmatched ssUnmatched sbUnmatched_InvalidNotation
    · cases h
      exact kit_ref hdUnmatched tyCUnmatched ssUnmatched sbUnmatched_OutOfChain
    · cases h
      exact kit_ref hdUnmatched tyCUnmatched ssUnmatched sbUnmatched_NeverSeen
    · cases h
      exact kit_ref hdUnmatched tyCUnmatched ssUnmatched sbUnmatched_Unmatched
    · cases h
      exact kit_ref hdUnmatched tyCUnmatched ssUnmatched sbUnmatched_CannotDecide
    · cases h
      exact kit_ref hdUnmatched tyCUnmatched ssUnmatched sbUnmatched_NoChain
    · cases h
      exact kit_ref hdUnmatched tyCUnmatched ssUnmatched sbUnmatched_NotClosed
    · cases h
  have ecUnmatched : ∀ c b, sb_Unmatched c = some b → ExcC K ((fun i => [CInvalidFate, CInvalidEnd, CInvalidBit, CInvalidCount, CInvalidRule, CInvalidState, CInvalidNotation, COutOfChain, CNeverSeen, CUnmatched, CCannotDecide, CNoChain, CNotClosed, CSureError].getD i 0) c) := fun c b h => by
    unfold sb_Unmatched at h
    split at h
    · exact ⟨gaInvalidFate, ggInvalidFate, exCInvalidFate, hdInvalidFate, heInvalidFate, hnC, htC, hqInvalidFate⟩
    · exact ⟨gaInvalidEnd, ggInvalidEnd, exCInvalidEnd, hdInvalidEnd, heInvalidEnd, hnC, htC, hqInvalidEnd⟩
    · exact ⟨gaInvalidBit, ggInvalidBit, exCInvalidBit, hdInvalidBit, heInvalidBit, hnC, htC, hqInvalidBit⟩
    · exact ⟨gaInvalidCount, ggInvalidCount, exCInvalidCount, hdInvalidCount, heInvalidCount, hnC, htC, hqInvalidCount⟩
    · exact ⟨gaInvalidRule, ggInvalidRule, exCInvalidRule, hdInvalidRule, heInvalidRule, hnC, htC, hqInvalidRule⟩
    · exact ⟨gaInvalidState, ggInvalidState, exCInvalidState, hdInvalidState, heInvalidState, hnC, htC, hqInvalidState⟩
    · exact ⟨gaInvalidNotation, ggInvalidNotation, exCInvalidNotation, hdInvalidNotation, heInvalidNotation, hnC, htC, hqInvalidNotation⟩
    · exact ⟨gaOutOfChain, ggOutOfChain, exCOutOfChain, hdOutOfChain, heOutOfChain, hnC, htC, hqOutOfChain⟩
    · exact ⟨gaNeverSeen, ggNeverSeen, exCNeverSeen, hdNeverSeen, heNeverSeen, hnC, htC, hqNeverSeen⟩
    · exact ⟨gaUnmatched, ggUnmatched, exCUnmatched, hdUnmatched, heUnmatched, hnC, htC, hqUnmatched⟩
    · exact ⟨gaCannotDecide, ggCannotDecide, exCCannotDecide, hdCannotDecide, heCannotDecide, hnC, htC, hqCannotDecide⟩
    · exact ⟨gaNoChain, ggNoChain, exCNoChain, hdNoChain, heNoChain, hnC, htC, hqNoChain⟩
    · exact ⟨gaNotClosed, ggNotClosed, exCNotClosed, hdNotClosed, heNotClosed, hnC, htC, hqNotClosed⟩
    · cases h
  have Y_Unmatched : CalX0 K mg "Unmatched" CUnmatched := ⟨⟨_, _, _, _, PySem.F.excBase_ValueError, q0Unmatched⟩, PySem.W.mg_of X G aCUnmatched, k0Unmatched, exCUnmatched, tyCUnmatched⟩
  have kCannotDecide : ∀ c b, sb_CannotDecide c = some b → PySem.W.kitOne K (.ref ((fun i => [CInvalidFate, CInvalidEnd, CInvalidBit, CInvalidCount, CInvalidRule, CInvalidState, CInvalidNotation, COutOfChain, CNeverSeen, CUnmatched, CCannotDecide, CNoChain, CNotClosed, CSureError].getD i 0) c)) (.ref ((fun i => [CInvalidFate, CInvalidEnd, CInvalidBit, CInvalidCount, CInvalidRule, CInvalidState, CInvalidNotation, COutOfChain, CNeverSeen, CUnmatched, CCannotDecide, CNoChain, CNotClosed, CSureError].getD i 0) 10)) = some b := fun c b h => by
    unfold sb_CannotDecide at h
    split at h
    · cases h
      exact kit_ref hdCannotDecide tyCCannotDecide ssCannotDecide sbCannotDecide_InvalidFate
    · cases h
      exact kit_ref hdCannotDecide tyCCannotDecide ssCannotDecide sbCannotDecide_InvalidEnd
    · cases h
      exact kit_ref hdCannotDecide tyCCannotDecide ssCannotDecide sbCannotDecide_InvalidBit
    · cases h
      exact kit_ref hdCannotDecide tyCCannotDecide ssCannotDecide sbCannotDecide_InvalidCount
    · cases h
      exact kit_ref hdCannotDecide tyCCannotDecide ssCannotDecide sbCannotDecide_InvalidRule
    · cases h
      exact kit_ref hdCannotDecide tyCCannotDecide ssCannotDecide sbCannotDecide_InvalidState
    · cases h
      exact kit_ref hdCannotDecide tyCCannotDecide ssCannotDecide sbCannotDecide_InvalidNotation
    · cases h
      exact kit_ref hdCannotDecide tyCCannotDecide ssCannotDecide sbCannotDecide_OutOfChain
    · cases h
      exact kit_ref hdCannotDecide tyCCannotDecide ssCannotDecide sbCannotDecide_NeverSeen
    · cases h
      exact kit_ref hdCannotDecide tyCCannotDecide ssCannotDecide sbCannotDecide_Unmatched
    · cases h
      exact kit_ref hdCannotDecide tyCCannotDecide ssCannotDecide sbCannotDecide_CannotDecide
    · cases h
      exact kit_ref hdCannotDecide tyCCannotDecide ssCannotDecide sbCannotDecide_NoChain
    · cases h
      exact kit_ref hdCannotDecide tyCCannotDecide ssCannotDecide sbCannotDecide_NotClosed
    · cases h
  have ecCannotDecide : ∀ c b, sb_CannotDecide c = some b → ExcC K ((fun i => [CInvalidFate, CInvalidEnd, CInvalidBit, CInvalidCount, CInvalidRule, CInvalidState, CInvalidNotation, COutOfChain, CNeverSeen, CUnmatched, CCannotDecide, CNoChain, CNotClosed, CSureError].getD i 0) c) := fun c b h => by
    unfold sb_CannotDecide at h
    split at h
    · exact ⟨gaInvalidFate, ggInvalidFate, exCInvalidFate, hdInvalidFate, heInvalidFate, hnC, htC, hqInvalidFate⟩
    · exact ⟨gaInvalidEnd, ggInvalidEnd, exCInvalidEnd, hdInvalidEnd, heInvalidEnd, hnC, htC, hqInvalidEnd⟩
    · exact ⟨gaInvalidBit, ggInvalidBit, exCInvalidBit, hdInvalidBit, heInvalidBit, hnC, htC, hqInvalidBit⟩
    · exact ⟨gaInvalidCount, ggInvalidCount, exCInvalidCount, hdInvalidCount, heInvalidCount, hnC, htC, hqInvalidCount⟩
    · exact ⟨gaInvalidRule, ggInvalidRule, exCInvalidRule, hdInvalidRule, heInvalidRule, hnC, htC, hqInvalidRule⟩
    · exact ⟨gaInvalidState, ggInvalidState, exCInvalidState, hdInvalidState, heInvalidState, hnC, htC, hqInvalidState⟩
    · exact ⟨gaInvalidNotation, ggInvalidNotation, exCInvalidNotation, hdInvalidNotation, heInvalidNotation, hnC, htC, hqInvalidNotation⟩
    · exact ⟨gaOutOfChain, ggOutOfChain, exCOutOfChain, hdOutOfChain, heOutOfChain, hnC, htC, hqOutOfChain⟩
    · exact ⟨gaNeverSeen, ggNeverSeen, exCNeverSeen, hdNeverSeen, heNeverSeen, hnC, htC, hqNeverSeen⟩
    · exact ⟨gaUnmatched, ggUnmatched, exCUnmatched, hdUnmatched, heUnmatched, hnC, htC, hqUnmatched⟩
    · exact ⟨gaCannotDecide, ggCannotDecide, exCCannotDecide, hdCannotDecide, heCannotDecide, hnC, htC, hqCannotDecide⟩
    · exact ⟨gaNoChain, ggNoChain, exCNoChain, hdNoChain, heNoChain, hnC, htC, hqNoChain⟩
    · exact ⟨gaNotClosed, ggNotClosed, exCNotClosed, hdNotClosed, heNotClosed, hnC, htC, hqNotClosed⟩
    · cases h
  have Y_CannotDecide : CalX0 K mg "CannotDecide" CCannotDecide := ⟨⟨_, _, _, _, PySem.F.excBase_ValueError, q0CannotDecide⟩, PySem.W.mg_of X G aCCannotDecide, k0CannotDecide, exCCannotDecide, tyCCannotDecide⟩
  have kNoChain : ∀ c b, sb_NoChain c = some b → PySem.W.kitOne K (.ref ((fun i => [CInvalidFate, CInvalidEnd, CInvalidBit, CInvalidCount, CInvalidRule, CInvalidState, CInvalidNotation, COutOfChain, CNeverSeen, CUnmatched, CCannotDecide, CNoChain, CNotClosed, CSureError].getD i 0) c)) (.ref ((fun i => [CInvalidFate, CInvalidEnd, CInvalidBit, CInvalidCount, CInvalidRule, CInvalidState, CInvalidNotation, COutOfChain, CNeverSeen, CUnmatched, CCannotDecide, CNoChain, CNotClosed, CSureError].getD i 0) 11)) = some b := fun c b h => by
    unfold sb_NoChain at h
    split at h
    · cases h
      exact kit_ref hdNoChain tyCNoChain ssNoChain sbNoChain_InvalidFate
    · cases h
      exact kit_ref hdNoChain tyCNoChain ssNoChain sbNoChain_InvalidEnd
    · cases h
      exact kit_ref hdNoChain tyCNoChain ssNoChain sbNoChain_InvalidBit
    · cases h
      exact kit_ref hdNoChain tyCNoChain ssNoChain sbNoChain_InvalidCount
    · cases h
      exact kit_ref hdNoChain tyCNoChain ssNoChain sbNoChain_InvalidRule
    · cases h
      exact kit_ref hdNoChain tyCNoChain ssNoChain sbNoChain_InvalidState
    · cases h
      exact kit_ref hdNoChain tyCNoChain ssNoChain sbNoChain_InvalidNotation
    · cases h
      exact kit_ref hdNoChain tyCNoChain ssNoChain sbNoChain_OutOfChain
    · cases h
      exact kit_ref hdNoChain tyCNoChain ssNoChain sbNoChain_NeverSeen
    · cases h
      exact kit_ref hdNoChain tyCNoChain ssNoChain sbNoChain_Unmatched
    · cases h
      exact kit_ref hdNoChain tyCNoChain ssNoChain sbNoChain_CannotDecide
    · cases h
      exact kit_ref hdNoChain tyCNoChain ssNoChain sbNoChain_NoChain
    · cases h
      exact kit_ref hdNoChain tyCNoChain ssNoChain sbNoChain_NotClosed
    · cases h
  have ecNoChain : ∀ c b, sb_NoChain c = some b → ExcC K ((fun i => [CInvalidFate, CInvalidEnd, CInvalidBit, CInvalidCount, CInvalidRule, CInvalidState, CInvalidNotation, COutOfChain, CNeverSeen, CUnmatched, CCannotDecide, CNoChain, CNotClosed, CSureError].getD i 0) c) := fun c b h => by
    unfold sb_NoChain at h
    split at h
    · exact ⟨gaInvalidFate, ggInvalidFate, exCInvalidFate, hdInvalidFate, heInvalidFate, hnC, htC, hqInvalidFate⟩
    · exact ⟨gaInvalidEnd, ggInvalidEnd, exCInvalidEnd, hdInvalidEnd, heInvalidEnd, hnC, htC, hqInvalidEnd⟩
    · exact ⟨gaInvalidBit, ggInvalidBit, exCInvalidBit, hdInvalidBit, heInvalidBit, hnC, htC, hqInvalidBit⟩
    · exact ⟨gaInvalidCount, ggInvalidCount, exCInvalidCount, hdInvalidCount, heInvalidCount, hnC, htC, hqInvalidCount⟩
    · exact ⟨gaInvalidRule, ggInvalidRule, exCInvalidRule, hdInvalidRule, heInvalidRule, hnC, htC, hqInvalidRule⟩
    · exact ⟨gaInvalidState, ggInvalidState, exCInvalidState, hdInvalidState, heInvalidState, hnC, htC, hqInvalidState⟩
    · exact ⟨gaInvalidNotation, ggInvalidNotation, exCInvalidNotation, hdInvalidNotation, heInvalidNotation, hnC, htC, hqInvalidNotation⟩
    · exact ⟨gaOutOfChain, ggOutOfChain, exCOutOfChain, hdOutOfChain, heOutOfChain, hnC, htC, hqOutOfChain⟩
    · exact ⟨gaNeverSeen, ggNeverSeen, exCNeverSeen, hdNeverSeen, heNeverSeen, hnC, htC, hqNeverSeen⟩
    · exact ⟨gaUnmatched, ggUnmatched, exCUnmatched, hdUnmatched, heUnmatched, hnC, htC, hqUnmatched⟩
    · exact ⟨gaCannotDecide, ggCannotDecide, exCCannotDecide, hdCannotDecide, heCannotDecide, hnC, htC, hqCannotDecide⟩
    · exact ⟨gaNoChain, ggNoChain, exCNoChain, hdNoChain, heNoChain, hnC, htC, hqNoChain⟩
    · exact ⟨gaNotClosed, ggNotClosed, exCNotClosed, hdNotClosed, heNotClosed, hnC, htC, hqNotClosed⟩
    · cases h
  have Y_NoChain : CalX0 K mg "NoChain" CNoChain := ⟨⟨_, _, _, _, PySem.F.excBase_ValueError, q0NoChain⟩, PySem.W.mg_of X G aCNoChain, k0NoChain, exCNoChain, tyCNoChain⟩
  have kNotClosed : ∀ c b, sb_NotClosed c = some b → PySem.W.kitOne K (.ref ((fun i => [CInvalidFate, CInvalidEnd, CInvalidBit, CInvalidCount, CInvalidRule, CInvalidState, CInvalidNotation, COutOfChain, CNeverSeen, CUnmatched, CCannotDecide, CNoChain, CNotClosed, CSureError].getD i 0) c)) (.ref ((fun i => [CInvalidFate, CInvalidEnd, CInvalidBit, CInvalidCount, CInvalidRule, CInvalidState, CInvalidNotation, COutOfChain, CNeverSeen, CUnmatched, CCannotDecide, CNoChain, CNotClosed, CSureError].getD i 0) 12)) = some b := fun c b h => by
    unfold sb_NotClosed at h
    split at h
    · cases h
      exact kit_ref hdNotClosed tyCNotClosed ssNotClosed sbNotClosed_InvalidFate
    · cases h
      exact kit_ref hdNotClosed tyCNotClosed ssNotClosed sbNotClosed_InvalidEnd
    · cases h
      exact kit_ref hdNotClosed tyCNotClosed ssNotClosed sbNotClosed_InvalidBit
    · cases h
      exact kit_ref hdNotClosed tyCNotClosed ssNotClosed sbNotClosed_InvalidCount
    · cases h
      exact kit_ref hdNotClosed tyCNotClosed ssNotClosed sbNotClosed_InvalidRule
    · cases h
      exact kit_ref hdNotClosed tyCNotClosed ssNotClosed sbNotClosed_InvalidState
    · cases h
      exact kit_ref hdNotClosed tyCNotClosed ssNotClosed sbNotClosed_InvalidNotation
    · cases h
      exact kit_ref hdNotClosed tyCNotClosed ssNotClosed sbNotClosed_OutOfChain
    · cases h
      exact kit_ref hdNotClosed tyCNotClosed ssNotClosed sbNotClosed_NeverSeen
    · cases h
      exact kit_ref hdNotClosed tyCNotClosed ssNotClosed sbNotClosed_Unmatched
    · cases h
      exact kit_ref hdNotClosed tyCNotClosed ssNotClosed sbNotClosed_CannotDecide
    · cases h
      exact kit_ref hdNotClosed tyCNotClosed ssNotClosed sbNotClosed_NoChain
    · cases h
      exact kit_ref hdNotClosed tyCNotClosed ssNotClosed sbNotClosed_NotClosed
    · cases h
  have ecNotClosed : ∀ c b, sb_NotClosed c = some b → ExcC K ((fun i => [CInvalidFate, CInvalidEnd, CInvalidBit, CInvalidCount, CInvalidRule, CInvalidState, CInvalidNotation, COutOfChain, CNeverSeen, CUnmatched, CCannotDecide, CNoChain, CNotClosed, CSureError].getD i 0) c) := fun c b h => by
    unfold sb_NotClosed at h
    split at h
    · exact ⟨gaInvalidFate, ggInvalidFate, exCInvalidFate, hdInvalidFate, heInvalidFate, hnC, htC, hqInvalidFate⟩
    · exact ⟨gaInvalidEnd, ggInvalidEnd, exCInvalidEnd, hdInvalidEnd, heInvalidEnd, hnC, htC, hqInvalidEnd⟩
    · exact ⟨gaInvalidBit, ggInvalidBit, exCInvalidBit, hdInvalidBit, heInvalidBit, hnC, htC, hqInvalidBit⟩
    · exact ⟨gaInvalidCount, ggInvalidCount, exCInvalidCount, hdInvalidCount, heInvalidCount, hnC, htC, hqInvalidCount⟩
    · exact ⟨gaInvalidRule, ggInvalidRule, exCInvalidRule, hdInvalidRule, heInvalidRule, hnC, htC, hqInvalidRule⟩
    · exact ⟨gaInvalidState, ggInvalidState, exCInvalidState, hdInvalidState, heInvalidState, hnC, htC, hqInvalidState⟩
    · exact ⟨gaInvalidNotation, ggInvalidNotation, exCInvalidNotation, hdInvalidNotation, heInvalidNotation, hnC, htC, hqInvalidNotation⟩
    · exact ⟨gaOutOfChain, ggOutOfChain, exCOutOfChain, hdOutOfChain, heOutOfChain, hnC, htC, hqOutOfChain⟩
    · exact ⟨gaNeverSeen, ggNeverSeen, exCNeverSeen, hdNeverSeen, heNeverSeen, hnC, htC, hqNeverSeen⟩
    · exact ⟨gaUnmatched, ggUnmatched, exCUnmatched, hdUnmatched, heUnmatched, hnC, htC, hqUnmatched⟩
    · exact ⟨gaCannotDecide, ggCannotDecide, exCCannotDecide, hdCannotDecide, heCannotDecide, hnC, htC, hqCannotDecide⟩
    · exact ⟨gaNoChain, ggNoChain, exCNoChain, hdNoChain, heNoChain, hnC, htC, hqNoChain⟩
    · exact ⟨gaNotClosed, ggNotClosed, exCNotClosed, hdNotClosed, heNotClosed, hnC, htC, hqNotClosed⟩
    · cases h
  have Y_NotClosed : CalX0 K mg "NotClosed" CNotClosed := ⟨⟨_, _, _, _, PySem.F.excBase_ValueError, q0NotClosed⟩, PySem.W.mg_of X G aCNotClosed, k0NotClosed, exCNotClosed, tyCNotClosed⟩
  have kValueError : ∀ c b, sb_ValueError c = some b → PySem.W.kitOne K (.ref ((fun i => [CInvalidFate, CInvalidEnd, CInvalidBit, CInvalidCount, CInvalidRule, CInvalidState, CInvalidNotation, COutOfChain, CNeverSeen, CUnmatched, CCannotDecide, CNoChain, CNotClosed, CSureError].getD i 0) c)) (.type "ValueError") = some b := fun c b h => by
    unfold sb_ValueError at h
    split at h
    · cases h
      exact kit_VE veInvalidFate
    · cases h
      exact kit_VE veInvalidEnd
    · cases h
      exact kit_VE veInvalidBit
    · cases h
      exact kit_VE veInvalidCount
    · cases h
      exact kit_VE veInvalidRule
    · cases h
      exact kit_VE veInvalidState
    · cases h
      exact kit_VE veInvalidNotation
    · cases h
      exact kit_VE veOutOfChain
    · cases h
      exact kit_VE veNeverSeen
    · cases h
      exact kit_VE veUnmatched
    · cases h
      exact kit_VE veCannotDecide
    · cases h
      exact kit_VE veNoChain
    · cases h
      exact kit_VE veNotClosed
    · cases h
  have ecValueError : ∀ c b, sb_ValueError c = some b → ExcC K ((fun i => [CInvalidFate, CInvalidEnd, CInvalidBit, CInvalidCount, CInvalidRule, CInvalidState, CInvalidNotation, COutOfChain, CNeverSeen, CUnmatched, CCannotDecide, CNoChain, CNotClosed, CSureError].getD i 0) c) := fun c b h => by
    unfold sb_ValueError at h
    split at h
    · exact ⟨gaInvalidFate, ggInvalidFate, exCInvalidFate, hdInvalidFate, heInvalidFate, hnC, htC, hqInvalidFate⟩
    · exact ⟨gaInvalidEnd, ggInvalidEnd, exCInvalidEnd, hdInvalidEnd, heInvalidEnd, hnC, htC, hqInvalidEnd⟩
    · exact ⟨gaInvalidBit, ggInvalidBit, exCInvalidBit, hdInvalidBit, heInvalidBit, hnC, htC, hqInvalidBit⟩
    · exact ⟨gaInvalidCount, ggInvalidCount, exCInvalidCount, hdInvalidCount, heInvalidCount, hnC, htC, hqInvalidCount⟩
    · exact ⟨gaInvalidRule, ggInvalidRule, exCInvalidRule, hdInvalidRule, heInvalidRule, hnC, htC, hqInvalidRule⟩
    · exact ⟨gaInvalidState, ggInvalidState, exCInvalidState, hdInvalidState, heInvalidState, hnC, htC, hqInvalidState⟩
    · exact ⟨gaInvalidNotation, ggInvalidNotation, exCInvalidNotation, hdInvalidNotation, heInvalidNotation, hnC, htC, hqInvalidNotation⟩
    · exact ⟨gaOutOfChain, ggOutOfChain, exCOutOfChain, hdOutOfChain, heOutOfChain, hnC, htC, hqOutOfChain⟩
    · exact ⟨gaNeverSeen, ggNeverSeen, exCNeverSeen, hdNeverSeen, heNeverSeen, hnC, htC, hqNeverSeen⟩
    · exact ⟨gaUnmatched, ggUnmatched, exCUnmatched, hdUnmatched, heUnmatched, hnC, htC, hqUnmatched⟩
    · exact ⟨gaCannotDecide, ggCannotDecide, exCCannotDecide, hdCannotDecide, heCannotDecide, hnC, htC, hqCannotDecide⟩
    · exact ⟨gaNoChain, ggNoChain, exCNoChain, hdNoChain, heNoChain, hnC, htC, hqNoChain⟩
    · exact ⟨gaNotClosed, ggNotClosed, exCNotClosed, hdNotClosed, heNotClosed, hnC, htC, hqNotClosed⟩
    · cases h
  have fc : Fc K (fun i => [CInvalidFate, CInvalidEnd, CInvalidBit, CInvalidCount, CInvalidRule, CInvalidState, CInvalidNotation, COutOfChain, CNeverSeen, CUnmatched, CCannotDecide, CNoChain, CNotClosed, CSureError].getD i 0) mg := { mSureError := mSureError, gSureError := PySem.W.mg_of X G aCSureError, xInvalidFate := ⟨gaInvalidFate, ggInvalidFate, exCInvalidFate, hdInvalidFate⟩, nInvalidFate_at := nInvalidFate, kInvalidFate := kInvalidFate, ecInvalidFate := ecInvalidFate, mInvalidFate := mInvalidFate, gInvalidFate := PySem.W.mg_of X G aCInvalidFate, xInvalidEnd := ⟨gaInvalidEnd, ggInvalidEnd, exCInvalidEnd, hdInvalidEnd⟩, nInvalidEnd_end := nInvalidEnd, kInvalidEnd := kInvalidEnd, ecInvalidEnd := ecInvalidEnd, mInvalidEnd := mInvalidEnd, gInvalidEnd := PySem.W.mg_of X G aCInvalidEnd, xInvalidBit := ⟨gaInvalidBit, ggInvalidBit, exCInvalidBit, hdInvalidBit⟩, nInvalidBit_bit := nInvalidBit, kInvalidBit := kInvalidBit, ecInvalidBit := ecInvalidBit, mInvalidBit := mInvalidBit, gInvalidBit := PySem.W.mg_of X G aCInvalidBit, xInvalidCount := ⟨gaInvalidCount, ggInvalidCount, exCInvalidCount, hdInvalidCount⟩, nInvalidCount_amount := nInvalidCount, kInvalidCount := kInvalidCount, ecInvalidCount := ecInvalidCount, mInvalidCount := mInvalidCount, gInvalidCount := PySem.W.mg_of X G aCInvalidCount, xInvalidRule := ⟨gaInvalidRule, ggInvalidRule, exCInvalidRule, hdInvalidRule⟩, nInvalidRule_state := nInvalidRule, kInvalidRule := kInvalidRule, ecInvalidRule := ecInvalidRule, mInvalidRule := mInvalidRule, gInvalidRule := PySem.W.mg_of X G aCInvalidRule, xInvalidState := ⟨gaInvalidState, ggInvalidState, exCInvalidState, hdInvalidState⟩, nInvalidState_state := nInvalidState, kInvalidState := kInvalidState, ecInvalidState := ecInvalidState, mInvalidState := mInvalidState, gInvalidState := PySem.W.mg_of X G aCInvalidState, xInvalidNotation := ⟨gaInvalidNotation, ggInvalidNotation, exCInvalidNotation, hdInvalidNotation⟩, nInvalidNotation_line := nInvalidNotation, kInvalidNotation := kInvalidNotation, ecInvalidNotation := ecInvalidNotation, mInvalidNotation := mInvalidNotation, gInvalidNotation := PySem.W.mg_of X G aCInvalidNotation, xOutOfChain := ⟨gaOutOfChain, ggOutOfChain, exCOutOfChain, hdOutOfChain⟩, nOutOfChain_position := nOutOfChain, kOutOfChain := kOutOfChain, ecOutOfChain := ecOutOfChain, mOutOfChain := mOutOfChain, gOutOfChain := PySem.W.mg_of X G aCOutOfChain, xNeverSeen := ⟨gaNeverSeen, ggNeverSeen, exCNeverSeen, hdNeverSeen⟩, nNeverSeen_wrong_view := nNeverSeen, kNeverSeen := kNeverSeen, ecNeverSeen := ecNeverSeen, mNeverSeen := mNeverSeen, gNeverSeen := PySem.W.mg_of X G aCNeverSeen, kUnmatched := kUnmatched, ecUnmatched := ecUnmatched, gUnmatched := PySem.W.mg_of X G aCUnmatched, kCannotDecide := kCannotDecide, ecCannotDecide := ecCannotDecide, gCannotDecide := PySem.W.mg_of X G aCCannotDecide, kNoChain := kNoChain, ecNoChain := ecNoChain, gNoChain := PySem.W.mg_of X G aCNoChain, kNotClosed := kNotClosed, ecNotClosed := ecNotClosed, gNotClosed := PySem.W.mg_of X G aCNotClosed, kValueError := kValueError, ecValueError := ecValueError }
  have gFATES : mg "FATES" = some (.str "bfsn" tFATES) ∧ L2.RelV (.str "bfsn") (.str "bfsn" tFATES) := ⟨PySem.W.mg_of X G aFATES, _, rfl⟩
  have tSWAPPED : mg "SWAPPED" = some (.ref DSWAPPED) ∧ ∀ z d, tabSWAPPED.lookup z = some d → ∃ v, KDct K w DSWAPPED z v ∧ ∀ G, Rep K (fun i => [CInvalidFate, CInvalidEnd, CInvalidBit, CInvalidCount, CInvalidRule, CInvalidState, CInvalidNotation, COutOfChain, CNeverSeen, CUnmatched, CCannotDecide, CNoChain, CNotClosed, CSureError].getD i 0) G v d := ⟨PySem.W.mg_of X G aSWAPPED, fun z d h => by
    unfold tabSWAPPED at h
    rw [lkp_cons] at h
    split at h
    · next e =>
      cases e
      cases h
      exact ⟨.str "b", ⟨_, _, _, lSWAPPED, kSWAPPED, vSWAPPED0, _, rfl⟩, fun _ => .str _⟩
    rw [lkp_cons] at h
    split at h
    · next e =>
      cases e
      cases h
      exact ⟨.str "s", ⟨_, _, _, lSWAPPED, kSWAPPED, vSWAPPED1, _, rfl⟩, fun _ => .str _⟩
    rw [lkp_cons] at h
    split at h
    · next e =>
      cases e
      cases h
      exact ⟨.str "f", ⟨_, _, _, lSWAPPED, kSWAPPED, vSWAPPED2, _, rfl⟩, fun _ => .str _⟩
    rw [lkp_cons] at h
    split at h
    · next e =>
      cases e
      cases h
      exact ⟨.str "n", ⟨_, _, _, lSWAPPED, kSWAPPED, vSWAPPED3, _, rfl⟩, fun _ => .str _⟩
    cases h⟩
  have Fcheck_fates := fun_mk (x := "check_fates") (st := s_check_fates) lcheck_fates ccheck_fates kcheck_fates
  have bcheck_fates := Fcheck_fates.binds (ps := ["fates"]) fun _ _ _ _ _ _ us hl => match us, hl with | [_], _ => rfl
  have Fswap_fates := fun_mk (x := "swap_fates") (st := s_swap_fates) lswap_fates cswap_fates kswap_fates
  have bswap_fates := Fswap_fates.binds (ps := ["fates"]) fun _ _ _ _ _ _ us hl => match us, hl with | [_], _ => rfl
  have FLcell := fun_mk (x := "_law_cell") (st := s_Lcell) lLcell cLcell kLcell
  have bLcell := FLcell.binds (ps := ["_law_script", "_law_k"]) fun _ _ _ _ _ _ us hl => match us, hl with | [_, _], _ => rfl
  have FLnumber := fun_mk (x := "_law_number") (st := s_Lnumber) lLnumber cLnumber kLnumber
  have bLnumber := FLnumber.binds (ps := ["_law_cell_here"]) fun _ _ _ _ _ _ us hl => match us, hl with | [_], _ => rfl
  have FLdraws := fun_mk (x := "_law_draws") (st := s_Ldraws) lLdraws cLdraws kLdraws
  have bLdraws := FLdraws.binds (ps := ["_law_cell_here", "_law_many", "_law_base"]) fun _ _ _ _ _ _ us hl => match us, hl with | [_, _, _], _ => rfl
  have FLfates := fun_mk (x := "_law_fates") (st := s_Lfates) lLfates cLfates kLfates
  have bLfates := FLfates.binds (ps := ["_law_cell_here", "_law_many"]) fun _ _ _ _ _ _ us hl => match us, hl with | [_, _], _ => rfl
  have FLinteger := fun_mk (x := "_law_integer") (st := s_Linteger) lLinteger cLinteger kLinteger
  have bLinteger := FLinteger.binds (ps := ["_law_actual"]) fun _ _ _ _ _ _ us hl => match us, hl with | [_], _ => rfl
  have FLraise := fun_mk (x := "_law_raise") (st := s_Lraise) lLraise cLraise kLraise
  have bLraise := FLraise.binds (ps := ["_law_k", "_law_number_here", "_law_text"]) fun _ _ _ _ _ _ us hl => match us, hl with | [_, _, _], _ => rfl
  have FLkinds := fun_mk (x := "_law_kinds") (st := s_Lkinds) lLkinds cLkinds kLkinds
  have bLkinds := FLkinds.binds (ps := ["_law_k", "_law_number_here", "_law_text"]) fun _ _ _ _ _ _ us hl => match us, hl with | [_, _, _], _ => rfl
  have FLfield := fun_mk (x := "_law_field") (st := s_Lfield) lLfield cLfield kLfield
  have bLfield := FLfield.binds (ps := ["_law_k", "_law_number_here", "_law_text"]) fun _ _ _ _ _ _ us hl => match us, hl with | [_, _, _], _ => rfl
  have Flaw := fun_mk (x := "law") (st := s_law) llaw claw klaw
  have blaw := Flaw.binds (ps := ["_law_script"]) fun _ _ _ _ _ _ us hl => match us, hl with | [_], _ => rfl
  refine ⟨PySem.W.fnOf "law" "law" (defArgs s_law) (defBody s_law) (defScope s_law) .none kVlaw dclaw pmlaw anlaw cdlaw ctlaw, fun s v => .of_eq rfl, fun base _ _ => ?_⟩
  have GLcell := ok_Lcell (P := P) (w := w) (base := base) (T := (fun i => [CInvalidFate, CInvalidEnd, CInvalidBit, CInvalidCount, CInvalidRule, CInvalidState, CInvalidNotation, COutOfChain, CNeverSeen, CUnmatched, CCannotDecide, CNoChain, CNotClosed, CSureError].getD i 0)) B FLcell
  have K_Lcell : Cal P w K mg base "_law_cell" 1 _ := ⟨⟨_, _, _, PySem.W.mg_of X G aLcell, kLcell, bLcell, GLcell⟩⟩
  have GLnumber := ok_Lnumber (P := P) (w := w) (base := base) (T := (fun i => [CInvalidFate, CInvalidEnd, CInvalidBit, CInvalidCount, CInvalidRule, CInvalidState, CInvalidNotation, COutOfChain, CNeverSeen, CUnmatched, CCannotDecide, CNoChain, CNotClosed, CSureError].getD i 0)) B FLnumber
  have K_Lnumber : Cal P w K mg base "_law_number" 1 _ := ⟨⟨_, _, _, PySem.W.mg_of X G aLnumber, kLnumber, bLnumber, GLnumber⟩⟩
  have GLdraws := ok_Ldraws (P := P) (w := w) (base := base) (T := (fun i => [CInvalidFate, CInvalidEnd, CInvalidBit, CInvalidCount, CInvalidRule, CInvalidState, CInvalidNotation, COutOfChain, CNeverSeen, CUnmatched, CCannotDecide, CNoChain, CNotClosed, CSureError].getD i 0)) B FLdraws
  have K_Ldraws : Cal P w K mg base "_law_draws" 1 _ := ⟨⟨_, _, _, PySem.W.mg_of X G aLdraws, kLdraws, bLdraws, GLdraws⟩⟩
  have GLinteger := ok_Linteger (P := P) (w := w) (base := base) (T := (fun i => [CInvalidFate, CInvalidEnd, CInvalidBit, CInvalidCount, CInvalidRule, CInvalidState, CInvalidNotation, COutOfChain, CNeverSeen, CUnmatched, CCannotDecide, CNoChain, CNotClosed, CSureError].getD i 0)) B FLinteger
  have K_Linteger : Cal P w K mg base "_law_integer" 1 _ := ⟨⟨_, _, _, PySem.W.mg_of X G aLinteger, kLinteger, bLinteger, GLinteger⟩⟩
  have GLfates := ok_Lfates (P := P) (w := w) (base := base) (T := (fun i => [CInvalidFate, CInvalidEnd, CInvalidBit, CInvalidCount, CInvalidRule, CInvalidState, CInvalidNotation, COutOfChain, CNeverSeen, CUnmatched, CCannotDecide, CNoChain, CNotClosed, CSureError].getD i 0)) B FLfates K_Ldraws
  have K_Lfates : Cal P w K mg base "_law_fates" 2 _ := ⟨⟨_, _, _, PySem.W.mg_of X G aLfates, kLfates, bLfates, GLfates⟩⟩
  have Gcheck_fates := ok_check_fates (P := P) (w := w) (base := base) (T := (fun i => [CInvalidFate, CInvalidEnd, CInvalidBit, CInvalidCount, CInvalidRule, CInvalidState, CInvalidNotation, COutOfChain, CNeverSeen, CUnmatched, CCannotDecide, CNoChain, CNotClosed, CSureError].getD i 0)) B Fcheck_fates (X_InvalidFate base) gFATES
  have K_check_fates : Cal P w K mg base "check_fates" 3 _ := ⟨⟨_, _, _, PySem.W.mg_of X G acheck_fates, kcheck_fates, bcheck_fates, Gcheck_fates⟩⟩
  have GLraise := ok_Lraise (P := P) (w := w) (base := base) (T := (fun i => [CInvalidFate, CInvalidEnd, CInvalidBit, CInvalidCount, CInvalidRule, CInvalidState, CInvalidNotation, COutOfChain, CNeverSeen, CUnmatched, CCannotDecide, CNoChain, CNotClosed, CSureError].getD i 0)) B FLraise (X_InvalidBit base) (X_InvalidCount base) (X_InvalidEnd base) (X_InvalidFate base) (X_InvalidNotation base) (X_InvalidRule base) (X_InvalidState base) (X_NeverSeen base) (X_OutOfChain base) Y_CannotDecide Y_NoChain Y_NotClosed Y_Unmatched
  have K_Lraise : Cal P w K mg base "_law_raise" 3 _ := ⟨⟨_, _, _, PySem.W.mg_of X G aLraise, kLraise, bLraise, GLraise⟩⟩
  have Gswap_fates := ok_swap_fates (P := P) (w := w) (base := base) (T := (fun i => [CInvalidFate, CInvalidEnd, CInvalidBit, CInvalidCount, CInvalidRule, CInvalidState, CInvalidNotation, COutOfChain, CNeverSeen, CUnmatched, CCannotDecide, CNoChain, CNotClosed, CSureError].getD i 0)) B DSWAPPED tSWAPPED Fswap_fates K_check_fates
  have K_swap_fates : Cal P w K mg base "swap_fates" 4 _ := ⟨⟨_, _, _, PySem.W.mg_of X G aswap_fates, kswap_fates, bswap_fates, Gswap_fates⟩⟩
  have GLkinds := ok_Lkinds (P := P) (w := w) (base := base) (T := (fun i => [CInvalidFate, CInvalidEnd, CInvalidBit, CInvalidCount, CInvalidRule, CInvalidState, CInvalidNotation, COutOfChain, CNeverSeen, CUnmatched, CCannotDecide, CNoChain, CNotClosed, CSureError].getD i 0)) B fc FLkinds K_Lraise
  have K_Lkinds : Cal P w K mg base "_law_kinds" 4 _ := ⟨⟨_, _, _, PySem.W.mg_of X G aLkinds, kLkinds, bLkinds, GLkinds⟩⟩
  have GLfield := ok_Lfield (P := P) (w := w) (base := base) (T := (fun i => [CInvalidFate, CInvalidEnd, CInvalidBit, CInvalidCount, CInvalidRule, CInvalidState, CInvalidNotation, COutOfChain, CNeverSeen, CUnmatched, CCannotDecide, CNoChain, CNotClosed, CSureError].getD i 0)) B fc FLfield K_Lraise
  have K_Lfield : Cal P w K mg base "_law_field" 4 _ := ⟨⟨_, _, _, PySem.W.mg_of X G aLfield, kLfield, bLfield, GLfield⟩⟩
  have Glaw := ok_law (P := P) (w := w) (base := base) (T := (fun i => [CInvalidFate, CInvalidEnd, CInvalidBit, CInvalidCount, CInvalidRule, CInvalidState, CInvalidNotation, COutOfChain, CNeverSeen, CUnmatched, CCannotDecide, CNoChain, CNotClosed, CSureError].getD i 0)) B Flaw K_Lcell K_Lfates K_Lfield K_Linteger K_Lkinds K_Lnumber K_swap_fates
  exact Glaw.imp fun _ _ _ _ s => top_le law_true s
end My
open PySem PySem.W PyProof.Rows
set_option maxRecDepth 100000 in
set_option maxHeartbeats 0 in
theorem PySem.Challenge.cw_bothsure_k00_errors_and_their_fields_holds : PySem.Challenge.rw_bothsure_k00_errors_and_their_fields.Holds := by
  w_on; o_law; k_head; (case hw => w_witness2)
  k_fill
  refine L2.walk_of (l := PySem.Challenge.rw_bothsure_k00_errors_and_their_fields) (n := 63) (k := 5) (x := "_law_script") (CX := fun w => L2N.CX PySem.Challenge.rw_bothsure_k00_errors_and_their_fields.prog w) (sp := fun w => My.spTop _) rfl (by decide) rfl ⟨rfl, by decide, by decide⟩ (fun w h Y => PySem.W.kIn_of Y) ?F (fun _ _ a ns hl _ hS => ⟨a, ns, rfl, hl, hS, fun _ => rfl⟩) fun _ _ _ _ _ ⟨_, _, _, _, _, _, _, _, _, _, _, _, z⟩ => z
  case F =>
    intro w mg fa h KX G hmg
    refine' My.all_mk KX G hmg ?z_len ?z_range ?z_int ?z_isinstance ?z_enumerate ?z_zip ?z_str ?z_list ?z_tuple ?z_all ?z_any ?z_reversed ?z_iter ?z_bool ?z_super ?z_dict ?z_ValueError ?opq ?topS_ ?aCSureError ?aCInvalidFate ?aCInvalidEnd ?aCInvalidBit ?aCInvalidCount ?aCInvalidRule ?aCInvalidState ?aCInvalidNotation ?aCOutOfChain ?aCNeverSeen ?aCUnmatched ?aCCannotDecide ?aCNoChain ?aCNotClosed ?exCSureError ?tyCSureError ?hdSureError ?sbSureError_InvalidFate ?sbSureError_InvalidEnd ?sbSureError_InvalidBit ?sbSureError_InvalidCount ?sbSureError_InvalidRule ?sbSureError_InvalidState ?sbSureError_InvalidNotation ?sbSureError_OutOfChain ?sbSureError_NeverSeen ?sbSureError_Unmatched ?sbSureError_CannotDecide ?sbSureError_NoChain ?sbSureError_NotClosed ?exCInvalidFate ?tyCInvalidFate ?hdInvalidFate ?nInvalidFate ?hnC ?htC ?heInvalidFate ?hqInvalidFate ?gaInvalidFate ?ggInvalidFate ?veInvalidFate ?ssInvalidFate ?sbInvalidFate_InvalidFate ?sbInvalidFate_InvalidEnd ?sbInvalidFate_InvalidBit ?sbInvalidFate_InvalidCount ?sbInvalidFate_InvalidRule ?sbInvalidFate_InvalidState ?sbInvalidFate_InvalidNotation ?sbInvalidFate_OutOfChain ?sbInvalidFate_NeverSeen ?sbInvalidFate_Unmatched ?sbInvalidFate_CannotDecide ?sbInvalidFate_NoChain ?sbInvalidFate_NotClosed ?xLInvalidFate ?xrInvalidFate ?saInvalidFate ?kCInvalidFate ?aiInvalidFate ?tiInvalidFate ?liInvalidFate ?ciInvalidFate ?ceInvalidFate ?coInvalidFate ?cfInvalidFate ?cgInvalidFate ?suInvalidFate ?scInvalidFate ?svInvalidFate ?exCInvalidEnd ?tyCInvalidEnd ?hdInvalidEnd ?nInvalidEnd ?heInvalidEnd ?hqInvalidEnd ?gaInvalidEnd ?ggInvalidEnd ?veInvalidEnd ?ssInvalidEnd ?sbInvalidEnd_InvalidFate ?sbInvalidEnd_InvalidEnd ?sbInvalidEnd_InvalidBit ?sbInvalidEnd_InvalidCount ?sbInvalidEnd_InvalidRule ?sbInvalidEnd_InvalidState ?sbInvalidEnd_InvalidNotation ?sbInvalidEnd_OutOfChain ?sbInvalidEnd_NeverSeen ?sbInvalidEnd_Unmatched ?sbInvalidEnd_CannotDecide ?sbInvalidEnd_NoChain ?sbInvalidEnd_NotClosed ?xLInvalidEnd ?xrInvalidEnd ?saInvalidEnd ?kCInvalidEnd ?aiInvalidEnd ?tiInvalidEnd ?liInvalidEnd ?ciInvalidEnd ?ceInvalidEnd ?coInvalidEnd ?cfInvalidEnd ?cgInvalidEnd ?suInvalidEnd ?scInvalidEnd ?svInvalidEnd ?exCInvalidBit ?tyCInvalidBit ?hdInvalidBit ?nInvalidBit ?heInvalidBit ?hqInvalidBit ?gaInvalidBit ?ggInvalidBit ?veInvalidBit ?ssInvalidBit ?sbInvalidBit_InvalidFate ?sbInvalidBit_InvalidEnd ?sbInvalidBit_InvalidBit ?sbInvalidBit_InvalidCount ?sbInvalidBit_InvalidRule ?sbInvalidBit_InvalidState ?sbInvalidBit_InvalidNotation ?sbInvalidBit_OutOfChain ?sbInvalidBit_NeverSeen ?sbInvalidBit_Unmatched ?sbInvalidBit_CannotDecide ?sbInvalidBit_NoChain ?sbInvalidBit_NotClosed ?xLInvalidBit ?xrInvalidBit ?saInvalidBit ?kCInvalidBit ?aiInvalidBit ?tiInvalidBit ?liInvalidBit ?ciInvalidBit ?ceInvalidBit ?coInvalidBit ?cfInvalidBit ?cgInvalidBit ?suInvalidBit ?scInvalidBit ?svInvalidBit ?exCInvalidCount ?tyCInvalidCount ?hdInvalidCount ?nInvalidCount ?heInvalidCount ?hqInvalidCount ?gaInvalidCount ?ggInvalidCount ?veInvalidCount ?ssInvalidCount ?sbInvalidCount_InvalidFate ?sbInvalidCount_InvalidEnd ?sbInvalidCount_InvalidBit ?sbInvalidCount_InvalidCount ?sbInvalidCount_InvalidRule ?sbInvalidCount_InvalidState ?sbInvalidCount_InvalidNotation ?sbInvalidCount_OutOfChain ?sbInvalidCount_NeverSeen ?sbInvalidCount_Unmatched ?sbInvalidCount_CannotDecide ?sbInvalidCount_NoChain ?sbInvalidCount_NotClosed ?xLInvalidCount ?xrInvalidCount ?saInvalidCount ?kCInvalidCount ?aiInvalidCount ?tiInvalidCount ?liInvalidCount ?ciInvalidCount ?ceInvalidCount ?coInvalidCount ?cfInvalidCount ?cgInvalidCount ?suInvalidCount ?scInvalidCount ?svInvalidCount ?exCInvalidRule ?tyCInvalidRule ?hdInvalidRule ?nInvalidRule ?heInvalidRule ?hqInvalidRule ?gaInvalidRule ?ggInvalidRule ?veInvalidRule ?ssInvalidRule ?sbInvalidRule_InvalidFate ?sbInvalidRule_InvalidEnd ?sbInvalidRule_InvalidBit ?sbInvalidRule_InvalidCount ?sbInvalidRule_InvalidRule ?sbInvalidRule_InvalidState ?sbInvalidRule_InvalidNotation ?sbInvalidRule_OutOfChain ?sbInvalidRule_NeverSeen ?sbInvalidRule_Unmatched ?sbInvalidRule_CannotDecide ?sbInvalidRule_NoChain ?sbInvalidRule_NotClosed ?xLInvalidRule ?xrInvalidRule ?saInvalidRule ?kCInvalidRule ?aiInvalidRule ?tiInvalidRule ?liInvalidRule ?ciInvalidRule ?ceInvalidRule ?coInvalidRule ?cfInvalidRule ?cgInvalidRule ?suInvalidRule ?scInvalidRule ?svInvalidRule ?exCInvalidState ?tyCInvalidState ?hdInvalidState ?nInvalidState ?heInvalidState ?hqInvalidState ?gaInvalidState ?ggInvalidState ?veInvalidState ?ssInvalidState ?sbInvalidState_InvalidFate ?sbInvalidState_InvalidEnd ?sbInvalidState_InvalidBit ?sbInvalidState_InvalidCount ?sbInvalidState_InvalidRule ?sbInvalidState_InvalidState ?sbInvalidState_InvalidNotation ?sbInvalidState_OutOfChain ?sbInvalidState_NeverSeen ?sbInvalidState_Unmatched ?sbInvalidState_CannotDecide ?sbInvalidState_NoChain ?sbInvalidState_NotClosed ?xLInvalidState ?xrInvalidState ?saInvalidState ?kCInvalidState ?aiInvalidState ?tiInvalidState ?liInvalidState ?ciInvalidState ?ceInvalidState ?coInvalidState ?cfInvalidState ?cgInvalidState ?suInvalidState ?scInvalidState ?svInvalidState ?exCInvalidNotation ?tyCInvalidNotation ?hdInvalidNotation ?nInvalidNotation ?heInvalidNotation ?hqInvalidNotation ?gaInvalidNotation ?ggInvalidNotation ?veInvalidNotation ?ssInvalidNotation ?sbInvalidNotation_InvalidFate ?sbInvalidNotation_InvalidEnd ?sbInvalidNotation_InvalidBit ?sbInvalidNotation_InvalidCount ?sbInvalidNotation_InvalidRule ?sbInvalidNotation_InvalidState ?sbInvalidNotation_InvalidNotation ?sbInvalidNotation_OutOfChain ?sbInvalidNotation_NeverSeen ?sbInvalidNotation_Unmatched ?sbInvalidNotation_CannotDecide ?sbInvalidNotation_NoChain ?sbInvalidNotation_NotClosed ?xLInvalidNotation ?xrInvalidNotation ?saInvalidNotation ?kCInvalidNotation ?aiInvalidNotation ?tiInvalidNotation ?liInvalidNotation ?ciInvalidNotation ?ceInvalidNotation ?coInvalidNotation ?cfInvalidNotation ?cgInvalidNotation ?suInvalidNotation ?scInvalidNotation ?svInvalidNotation ?exCOutOfChain ?tyCOutOfChain ?hdOutOfChain ?nOutOfChain ?heOutOfChain ?hqOutOfChain ?gaOutOfChain ?ggOutOfChain ?veOutOfChain ?ssOutOfChain ?sbOutOfChain_InvalidFate ?sbOutOfChain_InvalidEnd ?sbOutOfChain_InvalidBit ?sbOutOfChain_InvalidCount ?sbOutOfChain_InvalidRule ?sbOutOfChain_InvalidState ?sbOutOfChain_InvalidNotation ?sbOutOfChain_OutOfChain ?sbOutOfChain_NeverSeen ?sbOutOfChain_Unmatched ?sbOutOfChain_CannotDecide ?sbOutOfChain_NoChain ?sbOutOfChain_NotClosed ?xLOutOfChain ?xrOutOfChain ?saOutOfChain ?kCOutOfChain ?aiOutOfChain ?tiOutOfChain ?liOutOfChain ?ciOutOfChain ?ceOutOfChain ?coOutOfChain ?cfOutOfChain ?cgOutOfChain ?suOutOfChain ?scOutOfChain ?svOutOfChain ?exCNeverSeen ?tyCNeverSeen ?hdNeverSeen ?nNeverSeen ?heNeverSeen ?hqNeverSeen ?gaNeverSeen ?ggNeverSeen ?veNeverSeen ?ssNeverSeen ?sbNeverSeen_InvalidFate ?sbNeverSeen_InvalidEnd ?sbNeverSeen_InvalidBit ?sbNeverSeen_InvalidCount ?sbNeverSeen_InvalidRule ?sbNeverSeen_InvalidState ?sbNeverSeen_InvalidNotation ?sbNeverSeen_OutOfChain ?sbNeverSeen_NeverSeen ?sbNeverSeen_Unmatched ?sbNeverSeen_CannotDecide ?sbNeverSeen_NoChain ?sbNeverSeen_NotClosed ?xLNeverSeen ?xrNeverSeen ?saNeverSeen ?kCNeverSeen ?aiNeverSeen ?tiNeverSeen ?liNeverSeen ?ciNeverSeen ?ceNeverSeen ?coNeverSeen ?cfNeverSeen ?cgNeverSeen ?suNeverSeen ?scNeverSeen ?svNeverSeen ?exCUnmatched ?tyCUnmatched ?hdUnmatched ?heUnmatched ?hqUnmatched ?gaUnmatched ?ggUnmatched ?veUnmatched ?ssUnmatched ?sbUnmatched_InvalidFate ?sbUnmatched_InvalidEnd ?sbUnmatched_InvalidBit ?sbUnmatched_InvalidCount ?sbUnmatched_InvalidRule ?sbUnmatched_InvalidState ?sbUnmatched_InvalidNotation ?sbUnmatched_OutOfChain ?sbUnmatched_NeverSeen ?sbUnmatched_Unmatched ?sbUnmatched_CannotDecide ?sbUnmatched_NoChain ?sbUnmatched_NotClosed ?q0Unmatched ?k0Unmatched ?exCCannotDecide ?tyCCannotDecide ?hdCannotDecide ?heCannotDecide ?hqCannotDecide ?gaCannotDecide ?ggCannotDecide ?veCannotDecide ?ssCannotDecide ?sbCannotDecide_InvalidFate ?sbCannotDecide_InvalidEnd ?sbCannotDecide_InvalidBit ?sbCannotDecide_InvalidCount ?sbCannotDecide_InvalidRule ?sbCannotDecide_InvalidState ?sbCannotDecide_InvalidNotation ?sbCannotDecide_OutOfChain ?sbCannotDecide_NeverSeen ?sbCannotDecide_Unmatched ?sbCannotDecide_CannotDecide ?sbCannotDecide_NoChain ?sbCannotDecide_NotClosed ?q0CannotDecide ?k0CannotDecide ?exCNoChain ?tyCNoChain ?hdNoChain ?heNoChain ?hqNoChain ?gaNoChain ?ggNoChain ?veNoChain ?ssNoChain ?sbNoChain_InvalidFate ?sbNoChain_InvalidEnd ?sbNoChain_InvalidBit ?sbNoChain_InvalidCount ?sbNoChain_InvalidRule ?sbNoChain_InvalidState ?sbNoChain_InvalidNotation ?sbNoChain_OutOfChain ?sbNoChain_NeverSeen ?sbNoChain_Unmatched ?sbNoChain_CannotDecide ?sbNoChain_NoChain ?sbNoChain_NotClosed ?q0NoChain ?k0NoChain ?exCNotClosed ?tyCNotClosed ?hdNotClosed ?heNotClosed ?hqNotClosed ?gaNotClosed ?ggNotClosed ?veNotClosed ?ssNotClosed ?sbNotClosed_InvalidFate ?sbNotClosed_InvalidEnd ?sbNotClosed_InvalidBit ?sbNotClosed_InvalidCount ?sbNotClosed_InvalidRule ?sbNotClosed_InvalidState ?sbNotClosed_InvalidNotation ?sbNotClosed_OutOfChain ?sbNotClosed_NeverSeen ?sbNotClosed_Unmatched ?sbNotClosed_CannotDecide ?sbNotClosed_NoChain ?sbNotClosed_NotClosed ?q0NotClosed ?k0NotClosed ?aFATES ?aSWAPPED ?lSWAPPED ?kSWAPPED ?vSWAPPED0 ?vSWAPPED1 ?vSWAPPED2 ?vSWAPPED3 ?acheck_fates ?lcheck_fates ?ccheck_fates ?kcheck_fates ?aswap_fates ?lswap_fates ?cswap_fates ?kswap_fates ?aLcell ?lLcell ?cLcell ?kLcell ?aLnumber ?lLnumber ?cLnumber ?kLnumber ?aLdraws ?lLdraws ?cLdraws ?kLdraws ?aLfates ?lLfates ?cLfates ?kLfates ?aLinteger ?lLinteger ?cLinteger ?kLinteger ?aLraise ?lLraise ?cLraise ?kLraise ?aLkinds ?lLkinds ?cLkinds ?kLkinds ?aLfield ?lLfield ?cLfield ?kLfield ?alaw ?llaw ?claw ?klaw
    (case z_len => k_is)
    (case z_range => k_is)
    (case z_int => k_is)
    (case z_isinstance => k_is)
    (case z_enumerate => k_is)
    (case z_zip => k_is)
    (case z_str => k_is)
    (case z_list => k_is)
    (case z_tuple => k_is)
    (case z_all => k_is)
    (case z_any => k_is)
    (case z_reversed => k_is)
    (case z_iter => k_is)
    (case z_bool => k_is)
    (case z_super => k_is)
    (case z_dict => k_is)
    (case z_ValueError => k_is)
    (case opq => k_is)
    (case topS_ => (first | rfl | decide +kernel))
    (case aCSureError => k_is)
    (case aCInvalidFate => k_is)
    (case aCInvalidEnd => k_is)
    (case aCInvalidBit => k_is)
    (case aCInvalidCount => k_is)
    (case aCInvalidRule => k_is)
    (case aCInvalidState => k_is)
    (case aCInvalidNotation => k_is)
    (case aCOutOfChain => k_is)
    (case aCNeverSeen => k_is)
    (case aCUnmatched => k_is)
    (case aCCannotDecide => k_is)
    (case aCNoChain => k_is)
    (case aCNotClosed => k_is)
    (case exCSureError => k_is)
    (case tyCSureError => k_is)
    (case hdSureError => k_is)
    (case sbSureError_InvalidFate => k_is)
    (case sbSureError_InvalidEnd => k_is)
    (case sbSureError_InvalidBit => k_is)
    (case sbSureError_InvalidCount => k_is)
    (case sbSureError_InvalidRule => k_is)
    (case sbSureError_InvalidState => k_is)
    (case sbSureError_InvalidNotation => k_is)
    (case sbSureError_OutOfChain => k_is)
    (case sbSureError_NeverSeen => k_is)
    (case sbSureError_Unmatched => k_is)
    (case sbSureError_CannotDecide => k_is)
    (case sbSureError_NoChain => k_is)
    (case sbSureError_NotClosed => k_is)
    (case exCInvalidFate => k_is)
    (case tyCInvalidFate => k_is)
    (case hdInvalidFate => k_is)
    (case nInvalidFate => k_is)
    (case hnC => k_is)
    (case htC => k_is)
    (case heInvalidFate => k_is)
    (case hqInvalidFate => k_is)
    (case gaInvalidFate => k_is)
    (case ggInvalidFate => k_is)
    (case veInvalidFate => k_is)
    (case ssInvalidFate => k_is)
    (case sbInvalidFate_InvalidFate => k_is)
    (case sbInvalidFate_InvalidEnd => k_is)
    (case sbInvalidFate_InvalidBit => k_is)
    (case sbInvalidFate_InvalidCount => k_is)
    (case sbInvalidFate_InvalidRule => k_is)
    (case sbInvalidFate_InvalidState => k_is)
    (case sbInvalidFate_InvalidNotation => k_is)
    (case sbInvalidFate_OutOfChain => k_is)
    (case sbInvalidFate_NeverSeen => k_is)
    (case sbInvalidFate_Unmatched => k_is)
    (case sbInvalidFate_CannotDecide => k_is)
    (case sbInvalidFate_NoChain => k_is)
    (case sbInvalidFate_NotClosed => k_is)
    (case xLInvalidFate => k_is)
    (case xrInvalidFate => (first | rfl | decide +kernel))
    (case saInvalidFate => k_is)
    (case kCInvalidFate => k_is)
    (case aiInvalidFate => k_is)
    (case tiInvalidFate => k_is)
    (case liInvalidFate => k_is)
    (case ciInvalidFate => k_is)
    (case ceInvalidFate => k_is)
    (case coInvalidFate => k_is)
    (case cfInvalidFate => rfl)
    (case cgInvalidFate => (first | rfl | decide +kernel))
    (case suInvalidFate => kernel_rfl)
    (case scInvalidFate => k_is)
    (case svInvalidFate => k_is)
    (case exCInvalidEnd => k_is)
    (case tyCInvalidEnd => k_is)
    (case hdInvalidEnd => k_is)
    (case nInvalidEnd => k_is)
    (case heInvalidEnd => k_is)
    (case hqInvalidEnd => k_is)
    (case gaInvalidEnd => k_is)
    (case ggInvalidEnd => k_is)
    (case veInvalidEnd => k_is)
    (case ssInvalidEnd => k_is)
    (case sbInvalidEnd_InvalidFate => k_is)
    (case sbInvalidEnd_InvalidEnd => k_is)
    (case sbInvalidEnd_InvalidBit => k_is)
    (case sbInvalidEnd_InvalidCount => k_is)
    (case sbInvalidEnd_InvalidRule => k_is)
    (case sbInvalidEnd_InvalidState => k_is)
    (case sbInvalidEnd_InvalidNotation => k_is)
    (case sbInvalidEnd_OutOfChain => k_is)
    (case sbInvalidEnd_NeverSeen => k_is)
    (case sbInvalidEnd_Unmatched => k_is)
    (case sbInvalidEnd_CannotDecide => k_is)
    (case sbInvalidEnd_NoChain => k_is)
    (case sbInvalidEnd_NotClosed => k_is)
    (case xLInvalidEnd => k_is)
    (case xrInvalidEnd => (first | rfl | decide +kernel))
    (case saInvalidEnd => k_is)
    (case kCInvalidEnd => k_is)
    (case aiInvalidEnd => k_is)
    (case tiInvalidEnd => k_is)
    (case liInvalidEnd => k_is)
    (case ciInvalidEnd => k_is)
    (case ceInvalidEnd => k_is)
    (case coInvalidEnd => k_is)
    (case cfInvalidEnd => rfl)
    (case cgInvalidEnd => (first | rfl | decide +kernel))
    (case suInvalidEnd => kernel_rfl)
    (case scInvalidEnd => k_is)
    (case svInvalidEnd => k_is)
    (case exCInvalidBit => k_is)
    (case tyCInvalidBit => k_is)
    (case hdInvalidBit => k_is)
    (case nInvalidBit => k_is)
    (case heInvalidBit => k_is)
    (case hqInvalidBit => k_is)
    (case gaInvalidBit => k_is)
    (case ggInvalidBit => k_is)
    (case veInvalidBit => k_is)
    (case ssInvalidBit => k_is)
    (case sbInvalidBit_InvalidFate => k_is)
    (case sbInvalidBit_InvalidEnd => k_is)
    (case sbInvalidBit_InvalidBit => k_is)
    (case sbInvalidBit_InvalidCount => k_is)
    (case sbInvalidBit_InvalidRule => k_is)
    (case sbInvalidBit_InvalidState => k_is)
    (case sbInvalidBit_InvalidNotation => k_is)
    (case sbInvalidBit_OutOfChain => k_is)
    (case sbInvalidBit_NeverSeen => k_is)
    (case sbInvalidBit_Unmatched => k_is)
    (case sbInvalidBit_CannotDecide => k_is)
    (case sbInvalidBit_NoChain => k_is)
    (case sbInvalidBit_NotClosed => k_is)
    (case xLInvalidBit => k_is)
    (case xrInvalidBit => (first | rfl | decide +kernel))
    (case saInvalidBit => k_is)
    (case kCInvalidBit => k_is)
    (case aiInvalidBit => k_is)
    (case tiInvalidBit => k_is)
    (case liInvalidBit => k_is)
    (case ciInvalidBit => k_is)
    (case ceInvalidBit => k_is)
    (case coInvalidBit => k_is)
    (case cfInvalidBit => rfl)
    (case cgInvalidBit => (first | rfl | decide +kernel))
    (case suInvalidBit => kernel_rfl)
    (case scInvalidBit => k_is)
    (case svInvalidBit => k_is)
    (case exCInvalidCount => k_is)
    (case tyCInvalidCount => k_is)
    (case hdInvalidCount => k_is)
    (case nInvalidCount => k_is)
    (case heInvalidCount => k_is)
    (case hqInvalidCount => k_is)
    (case gaInvalidCount => k_is)
    (case ggInvalidCount => k_is)
    (case veInvalidCount => k_is)
    (case ssInvalidCount => k_is)
    (case sbInvalidCount_InvalidFate => k_is)
    (case sbInvalidCount_InvalidEnd => k_is)
    (case sbInvalidCount_InvalidBit => k_is)
    (case sbInvalidCount_InvalidCount => k_is)
    (case sbInvalidCount_InvalidRule => k_is)
    (case sbInvalidCount_InvalidState => k_is)
    (case sbInvalidCount_InvalidNotation => k_is)
    (case sbInvalidCount_OutOfChain => k_is)
    (case sbInvalidCount_NeverSeen => k_is)
    (case sbInvalidCount_Unmatched => k_is)
    (case sbInvalidCount_CannotDecide => k_is)
    (case sbInvalidCount_NoChain => k_is)
    (case sbInvalidCount_NotClosed => k_is)
    (case xLInvalidCount => k_is)
    (case xrInvalidCount => (first | rfl | decide +kernel))
    (case saInvalidCount => k_is)
    (case kCInvalidCount => k_is)
    (case aiInvalidCount => k_is)
    (case tiInvalidCount => k_is)
    (case liInvalidCount => k_is)
    (case ciInvalidCount => k_is)
    (case ceInvalidCount => k_is)
    (case coInvalidCount => k_is)
    (case cfInvalidCount => rfl)
    (case cgInvalidCount => (first | rfl | decide +kernel))
    (case suInvalidCount => kernel_rfl)
    (case scInvalidCount => k_is)
    (case svInvalidCount => k_is)
    (case exCInvalidRule => k_is)
    (case tyCInvalidRule => k_is)
    (case hdInvalidRule => k_is)
    (case nInvalidRule => k_is)
    (case heInvalidRule => k_is)
    (case hqInvalidRule => k_is)
    (case gaInvalidRule => k_is)
    (case ggInvalidRule => k_is)
    (case veInvalidRule => k_is)
    (case ssInvalidRule => k_is)
    (case sbInvalidRule_InvalidFate => k_is)
    (case sbInvalidRule_InvalidEnd => k_is)
    (case sbInvalidRule_InvalidBit => k_is)
    (case sbInvalidRule_InvalidCount => k_is)
    (case sbInvalidRule_InvalidRule => k_is)
    (case sbInvalidRule_InvalidState => k_is)
    (case sbInvalidRule_InvalidNotation => k_is)
    (case sbInvalidRule_OutOfChain => k_is)
    (case sbInvalidRule_NeverSeen => k_is)
    (case sbInvalidRule_Unmatched => k_is)
    (case sbInvalidRule_CannotDecide => k_is)
    (case sbInvalidRule_NoChain => k_is)
    (case sbInvalidRule_NotClosed => k_is)
    (case xLInvalidRule => k_is)
    (case xrInvalidRule => (first | rfl | decide +kernel))
    (case saInvalidRule => k_is)
    (case kCInvalidRule => k_is)
    (case aiInvalidRule => k_is)
    (case tiInvalidRule => k_is)
    (case liInvalidRule => k_is)
    (case ciInvalidRule => k_is)
    (case ceInvalidRule => k_is)
    (case coInvalidRule => k_is)
    (case cfInvalidRule => rfl)
    (case cgInvalidRule => (first | rfl | decide +kernel))
    (case suInvalidRule => kernel_rfl)
    (case scInvalidRule => k_is)
    (case svInvalidRule => k_is)
    (case exCInvalidState => k_is)
    (case tyCInvalidState => k_is)
    (case hdInvalidState => k_is)
    (case nInvalidState => k_is)
    (case heInvalidState => k_is)
    (case hqInvalidState => k_is)
    (case gaInvalidState => k_is)
    (case ggInvalidState => k_is)
    (case veInvalidState => k_is)
    (case ssInvalidState => k_is)
    (case sbInvalidState_InvalidFate => k_is)
    (case sbInvalidState_InvalidEnd => k_is)
    (case sbInvalidState_InvalidBit => k_is)
    (case sbInvalidState_InvalidCount => k_is)
    (case sbInvalidState_InvalidRule => k_is)
    (case sbInvalidState_InvalidState => k_is)
    (case sbInvalidState_InvalidNotation => k_is)
    (case sbInvalidState_OutOfChain => k_is)
    (case sbInvalidState_NeverSeen => k_is)
    (case sbInvalidState_Unmatched => k_is)
    (case sbInvalidState_CannotDecide => k_is)
    (case sbInvalidState_NoChain => k_is)
    (case sbInvalidState_NotClosed => k_is)
    (case xLInvalidState => k_is)
    (case xrInvalidState => (first | rfl | decide +kernel))
    (case saInvalidState => k_is)
    (case kCInvalidState => k_is)
    (case aiInvalidState => k_is)
    (case tiInvalidState => k_is)
    (case liInvalidState => k_is)
    (case ciInvalidState => k_is)
    (case ceInvalidState => k_is)
    (case coInvalidState => k_is)
    (case cfInvalidState => rfl)
    (case cgInvalidState => (first | rfl | decide +kernel))
    (case suInvalidState => kernel_rfl)
    (case scInvalidState => k_is)
    (case svInvalidState => k_is)
    (case exCInvalidNotation => k_is)
    (case tyCInvalidNotation => k_is)
    (case hdInvalidNotation => k_is)
    (case nInvalidNotation => k_is)
    (case heInvalidNotation => k_is)
    (case hqInvalidNotation => k_is)
    (case gaInvalidNotation => k_is)
    (case ggInvalidNotation => k_is)
    (case veInvalidNotation => k_is)
    (case ssInvalidNotation => k_is)
    (case sbInvalidNotation_InvalidFate => k_is)
    (case sbInvalidNotation_InvalidEnd => k_is)
    (case sbInvalidNotation_InvalidBit => k_is)
    (case sbInvalidNotation_InvalidCount => k_is)
    (case sbInvalidNotation_InvalidRule => k_is)
    (case sbInvalidNotation_InvalidState => k_is)
    (case sbInvalidNotation_InvalidNotation => k_is)
    (case sbInvalidNotation_OutOfChain => k_is)
    (case sbInvalidNotation_NeverSeen => k_is)
    (case sbInvalidNotation_Unmatched => k_is)
    (case sbInvalidNotation_CannotDecide => k_is)
    (case sbInvalidNotation_NoChain => k_is)
    (case sbInvalidNotation_NotClosed => k_is)
    (case xLInvalidNotation => k_is)
    (case xrInvalidNotation => (first | rfl | decide +kernel))
    (case saInvalidNotation => k_is)
    (case kCInvalidNotation => k_is)
    (case aiInvalidNotation => k_is)
    (case tiInvalidNotation => k_is)
    (case liInvalidNotation => k_is)
    (case ciInvalidNotation => k_is)
    (case ceInvalidNotation => k_is)
    (case coInvalidNotation => k_is)
    (case cfInvalidNotation => rfl)
    (case cgInvalidNotation => (first | rfl | decide +kernel))
    (case suInvalidNotation => kernel_rfl)
    (case scInvalidNotation => k_is)
    (case svInvalidNotation => k_is)
    (case exCOutOfChain => k_is)
    (case tyCOutOfChain => k_is)
    (case hdOutOfChain => k_is)
    (case nOutOfChain => k_is)
    (case heOutOfChain => k_is)
    (case hqOutOfChain => k_is)
    (case gaOutOfChain => k_is)
    (case ggOutOfChain => k_is)
    (case veOutOfChain => k_is)
    (case ssOutOfChain => k_is)
    (case sbOutOfChain_InvalidFate => k_is)
    (case sbOutOfChain_InvalidEnd => k_is)
    (case sbOutOfChain_InvalidBit => k_is)
    (case sbOutOfChain_InvalidCount => k_is)
    (case sbOutOfChain_InvalidRule => k_is)
    (case sbOutOfChain_InvalidState => k_is)
    (case sbOutOfChain_InvalidNotation => k_is)
    (case sbOutOfChain_OutOfChain => k_is)
    (case sbOutOfChain_NeverSeen => k_is)
    (case sbOutOfChain_Unmatched => k_is)
    (case sbOutOfChain_CannotDecide => k_is)
    (case sbOutOfChain_NoChain => k_is)
    (case sbOutOfChain_NotClosed => k_is)
    (case xLOutOfChain => k_is)
    (case xrOutOfChain => (first | rfl | decide +kernel))
    (case saOutOfChain => k_is)
    (case kCOutOfChain => k_is)
    (case aiOutOfChain => k_is)
    (case tiOutOfChain => k_is)
    (case liOutOfChain => k_is)
    (case ciOutOfChain => k_is)
    (case ceOutOfChain => k_is)
    (case coOutOfChain => k_is)
    (case cfOutOfChain => rfl)
    (case cgOutOfChain => (first | rfl | decide +kernel))
    (case suOutOfChain => kernel_rfl)
    (case scOutOfChain => k_is)
    (case svOutOfChain => k_is)
    (case exCNeverSeen => k_is)
    (case tyCNeverSeen => k_is)
    (case hdNeverSeen => k_is)
    (case nNeverSeen => k_is)
    (case heNeverSeen => k_is)
    (case hqNeverSeen => k_is)
    (case gaNeverSeen => k_is)
    (case ggNeverSeen => k_is)
    (case veNeverSeen => k_is)
    (case ssNeverSeen => k_is)
    (case sbNeverSeen_InvalidFate => k_is)
    (case sbNeverSeen_InvalidEnd => k_is)
    (case sbNeverSeen_InvalidBit => k_is)
    (case sbNeverSeen_InvalidCount => k_is)
    (case sbNeverSeen_InvalidRule => k_is)
    (case sbNeverSeen_InvalidState => k_is)
    (case sbNeverSeen_InvalidNotation => k_is)
    (case sbNeverSeen_OutOfChain => k_is)
    (case sbNeverSeen_NeverSeen => k_is)
    (case sbNeverSeen_Unmatched => k_is)
    (case sbNeverSeen_CannotDecide => k_is)
    (case sbNeverSeen_NoChain => k_is)
    (case sbNeverSeen_NotClosed => k_is)
    (case xLNeverSeen => k_is)
    (case xrNeverSeen => (first | rfl | decide +kernel))
    (case saNeverSeen => k_is)
    (case kCNeverSeen => k_is)
    (case aiNeverSeen => k_is)
    (case tiNeverSeen => k_is)
    (case liNeverSeen => k_is)
    (case ciNeverSeen => k_is)
    (case ceNeverSeen => k_is)
    (case coNeverSeen => k_is)
    (case cfNeverSeen => rfl)
    (case cgNeverSeen => (first | rfl | decide +kernel))
    (case suNeverSeen => kernel_rfl)
    (case scNeverSeen => k_is)
    (case svNeverSeen => k_is)
    (case exCUnmatched => k_is)
    (case tyCUnmatched => k_is)
    (case hdUnmatched => k_is)
    (case heUnmatched => k_is)
    (case hqUnmatched => k_is)
    (case gaUnmatched => k_is)
    (case ggUnmatched => k_is)
    (case veUnmatched => k_is)
    (case ssUnmatched => k_is)
    (case sbUnmatched_InvalidFate => k_is)
    (case sbUnmatched_InvalidEnd => k_is)
    (case sbUnmatched_InvalidBit => k_is)
    (case sbUnmatched_InvalidCount => k_is)
    (case sbUnmatched_InvalidRule => k_is)
    (case sbUnmatched_InvalidState => k_is)
    (case sbUnmatched_InvalidNotation => k_is)
    (case sbUnmatched_OutOfChain => k_is)
    (case sbUnmatched_NeverSeen => k_is)
    (case sbUnmatched_Unmatched => k_is)
    (case sbUnmatched_CannotDecide => k_is)
    (case sbUnmatched_NoChain => k_is)
    (case sbUnmatched_NotClosed => k_is)
    (case q0Unmatched => k_exc)
    (case k0Unmatched => k_is)
    (case exCCannotDecide => k_is)
    (case tyCCannotDecide => k_is)
    (case hdCannotDecide => k_is)
    (case heCannotDecide => k_is)
    (case hqCannotDecide => k_is)
    (case gaCannotDecide => k_is)
    (case ggCannotDecide => k_is)
    (case veCannotDecide => k_is)
    (case ssCannotDecide => k_is)
    (case sbCannotDecide_InvalidFate => k_is)
    (case sbCannotDecide_InvalidEnd => k_is)
    (case sbCannotDecide_InvalidBit => k_is)
    (case sbCannotDecide_InvalidCount => k_is)
    (case sbCannotDecide_InvalidRule => k_is)
    (case sbCannotDecide_InvalidState => k_is)
    (case sbCannotDecide_InvalidNotation => k_is)
    (case sbCannotDecide_OutOfChain => k_is)
    (case sbCannotDecide_NeverSeen => k_is)
    (case sbCannotDecide_Unmatched => k_is)
    (case sbCannotDecide_CannotDecide => k_is)
    (case sbCannotDecide_NoChain => k_is)
    (case sbCannotDecide_NotClosed => k_is)
    (case q0CannotDecide => k_exc)
    (case k0CannotDecide => k_is)
    (case exCNoChain => k_is)
    (case tyCNoChain => k_is)
    (case hdNoChain => k_is)
    (case heNoChain => k_is)
    (case hqNoChain => k_is)
    (case gaNoChain => k_is)
    (case ggNoChain => k_is)
    (case veNoChain => k_is)
    (case ssNoChain => k_is)
    (case sbNoChain_InvalidFate => k_is)
    (case sbNoChain_InvalidEnd => k_is)
    (case sbNoChain_InvalidBit => k_is)
    (case sbNoChain_InvalidCount => k_is)
    (case sbNoChain_InvalidRule => k_is)
    (case sbNoChain_InvalidState => k_is)
    (case sbNoChain_InvalidNotation => k_is)
    (case sbNoChain_OutOfChain => k_is)
    (case sbNoChain_NeverSeen => k_is)
    (case sbNoChain_Unmatched => k_is)
    (case sbNoChain_CannotDecide => k_is)
    (case sbNoChain_NoChain => k_is)
    (case sbNoChain_NotClosed => k_is)
    (case q0NoChain => k_exc)
    (case k0NoChain => k_is)
    (case exCNotClosed => k_is)
    (case tyCNotClosed => k_is)
    (case hdNotClosed => k_is)
    (case heNotClosed => k_is)
    (case hqNotClosed => k_is)
    (case gaNotClosed => k_is)
    (case ggNotClosed => k_is)
    (case veNotClosed => k_is)
    (case ssNotClosed => k_is)
    (case sbNotClosed_InvalidFate => k_is)
    (case sbNotClosed_InvalidEnd => k_is)
    (case sbNotClosed_InvalidBit => k_is)
    (case sbNotClosed_InvalidCount => k_is)
    (case sbNotClosed_InvalidRule => k_is)
    (case sbNotClosed_InvalidState => k_is)
    (case sbNotClosed_InvalidNotation => k_is)
    (case sbNotClosed_OutOfChain => k_is)
    (case sbNotClosed_NeverSeen => k_is)
    (case sbNotClosed_Unmatched => k_is)
    (case sbNotClosed_CannotDecide => k_is)
    (case sbNotClosed_NoChain => k_is)
    (case sbNotClosed_NotClosed => k_is)
    (case q0NotClosed => k_exc)
    (case k0NotClosed => k_is)
    (case aFATES => k_is)
    (case aSWAPPED => k_is)
    (case lSWAPPED => k_is)
    (case kSWAPPED => k_keys)
    (case vSWAPPED0 => k_is)
    (case vSWAPPED1 => k_is)
    (case vSWAPPED2 => k_is)
    (case vSWAPPED3 => k_is)
    (case acheck_fates => k_is)
    (case lcheck_fates => k_is)
    (case ccheck_fates => k_is)
    (case kcheck_fates => k_is)
    (case aswap_fates => k_is)
    (case lswap_fates => k_is)
    (case cswap_fates => k_is)
    (case kswap_fates => k_is)
    (case aLcell => k_is)
    (case lLcell => k_is)
    (case cLcell => k_is)
    (case kLcell => k_is)
    (case aLnumber => k_is)
    (case lLnumber => k_is)
    (case cLnumber => k_is)
    (case kLnumber => k_is)
    (case aLdraws => k_is)
    (case lLdraws => k_is)
    (case cLdraws => k_is)
    (case kLdraws => k_is)
    (case aLfates => k_is)
    (case lLfates => k_is)
    (case cLfates => k_is)
    (case kLfates => k_is)
    (case aLinteger => k_is)
    (case lLinteger => k_is)
    (case cLinteger => k_is)
    (case kLinteger => k_is)
    (case aLraise => k_is)
    (case lLraise => k_is)
    (case cLraise => k_is)
    (case kLraise => k_is)
    (case aLkinds => k_is)
    (case lLkinds => k_is)
    (case cLkinds => k_is)
    (case kLkinds => k_is)
    (case aLfield => k_is)
    (case lLfield => k_is)
    (case cLfield => k_is)
    (case kLfield => k_is)
    (case alaw => k_is)
    (case llaw => k_is)
    (case claw => k_is)
    (case klaw => k_is)
