import PyProof.Rows.All
import Wide.All
import OpenK.AllK
import Wide.FinOn
import PyProof.EqAt
import PyProof.EqKinds
import PyProof.TupleCall
import Lean
import PyProof.IsiTupleAll
import PySem.Challenge.RW_skylanes_k20_gaps
section
set_option Elab.async false
set_option linter.all false
set_option maxRecDepth 100000
/-! Keys ((top, bottom), side) of a dict. -/
namespace PySem
open Sem (wp)
abbrev FK := (Int × Int) × Int
section
variable {prog : Program} {w : World}
def IsFK (prog : Program) (w : World) (h : Heap) (k : FK) (a : Addr) : Prop := ∃ o items n b u, h.get? a = some o ∧ o.cls = .type "tuple" ∧ o.data = .seq items n ∧ items.toList = [.ref b, .int k.2 u] ∧ IsTupleKey (intKind prog w) h [k.1.1, k.1.2] b
theorem IsFK.typeIs {s : Shared} {k : FK} {a : Addr} (x : IsFK prog w s.heap k a) : s.TypeIs (.ref a) "tuple" := let ⟨o, _, _, _, _, ho, hc, _⟩ := x; ⟨o, ho, hc⟩
theorem IsFK.inj {h : Heap} {a : Addr} {x y : FK} (hx : IsFK prog w h x a) (hy : IsFK prog w h y a) : x = y := by
  obtain ⟨o, items, n, b, u, ho, _, hd, hi, hk⟩ := hx
  obtain ⟨o', items', n', b', u', ho', _, hd', hi', hk'⟩ := hy
  obtain rfl : o = o' := Option.some.inj (ho.symm.trans ho')
  rw [hd] at hd'
  injection hd' with h1 _
  subst h1
  rw [hi] at hi'
  injection hi' with h1 h2
  injection h1 with h1
  subst h1
  injection h2 with h2 _
  injection h2 with h2 _
  have := hk.inj hk'
  obtain ⟨⟨x1, x2⟩, x3⟩ := x
  obtain ⟨⟨y1, y2⟩, y3⟩ := y
  injection this with e1 e2
  injection e2 with e2 _
  simp only at h2 e1 e2
  subst h2; subst e1; subst e2
  rfl
theorem IsFK.keeps {h h' : Heap} {k : FK} {a d : Addr} {o : Obj} {es ep} (x : IsFK prog w h k a) (ho : h.get? d = some o) (hd : o.data = .dict es ep) (hs : Heap.SameBut d h h') : IsFK prog w h' k a := by
  obtain ⟨o', items, n, b, u, ho', hc, hd', hi, hk⟩ := x
  have hne : a ≠ d := by
    rintro rfl
    obtain rfl : o' = o := Option.some.inj (ho'.symm.trans ho)
    rw [hd] at hd'; exact nomatch hd'
  exact ⟨o', items, n, b, u, (hs.2 a hne).trans ho', hc, hd', hi, hk.keeps ho hd hs⟩
def fkHash (prog : Program) (w : World) (k : FK) : Int := reduceHash (Builtin.Tuple.tupleHashOf [tupleKeyHash (intKind prog w) [k.1.1, k.1.2], hashInt k.2])
variable {A : Around} {E : Value → Shared → Prop} {s : Shared}
theorem wpAny_pyHash_fk {k : FK} {a : Addr} {Q : Int → Shared → Prop} (hu : A.units + 1 < cLine) (hk : IsFK prog w s.heap k a) (h : Q (fkHash prog w k) { s with toks := s.toks + 5 }) :
    wpAny (model prog w) A (pyHash (.ref a)) Q E s := by
  have hT := hk.typeIs
  obtain ⟨o, items, n, b, u, ho, _, hd, hi, hin⟩ := hk
  unfold pyHash
  first | unfold pyHashByItsType | skip
  first | refine wpAny_bind (wpAny_cRoomFor_or (.inr (by omega)) ?_) | skip
  refine wpAny_bind (wpAny_specialOf hT F.slot_tuple_hash.lookup ?_)
  show wpAny _ _ (if (some (Value.builtin "tuple.__hash__") == some Value.none) = true then _ else _) Q E s
  rw [if_neg (by rw [beq_builtin_none]; exact Bool.false_ne_true)]
  refine wpAny_bind (wpAny_specialOf hT F.slot_tuple_hash.lookup ?_)
  show wpAny _ _ (callSpecialIfBoundUnlessNone? (.ref a) "__hash__" _ >>= _) Q E s
  refine wpAny_bind (wpAny_callSpecialIfBoundUnlessNone?_slot hT F.slot_tuple_hash (wpAny_call_entry F.slot_tuple_hash hT F.entry_tuple_hash ?_ (F.args_tuple_hash_1 _)))
  show wpAny _ _ (Builtin.Tuple.tupleItemsOf (.ref a) >>= _) _ _ s
  refine wpAny_bind (wpAny_tupleItemsOf ho hd ?_)
  refine wpAny_bind ?_
  rw [← Array.forIn_toList, hi]
  refine wpAny_forIn_list _
    (fun rest (r : Array Int) s' => (rest = [.ref b, .int k.2 u] ∧ r.toList = [] ∧ s' = s) ∨ (rest = [.int k.2 u] ∧ r.toList = [tupleKeyHash (intKind prog w) [k.1.1, k.1.2]] ∧ s' = { s with toks := s.toks + 3 }) ∨
      (rest = [] ∧ r.toList = [tupleKeyHash (intKind prog w) [k.1.1, k.1.2], hashInt k.2] ∧ s' = { s with toks := s.toks + 4 }))
    _ ?_ ?_ _ _ (.inl ⟨rfl, rfl, rfl⟩)
  · rintro x rest r s' (⟨e1, e2, rfl⟩ | ⟨e1, e2, rfl⟩ | ⟨e1, _⟩)
    · cases e1
      refine wpAny_bind (wpAny_pyHash_tuple (knd := intKind prog w) (by first | exact hu | omega) hin ?_)
      exact wpAny_pure (.inr (.inl ⟨rfl, by simp [e2], rfl⟩))
    · cases e1
      refine wpAny_bind (wpAny_pyHash_int ?_)
      exact wpAny_pure (.inr (.inr ⟨rfl, by simp [e2], by simp [Nat.add_assoc]⟩))
    · cases e1
  · rintro r s' (⟨e1, _⟩ | ⟨e1, _⟩ | ⟨_, e2, rfl⟩)
    · cases e1
    · cases e1
    · show wpAny _ _ (retInt (Builtin.Tuple.tupleHashOf r.toList)) _ _ _
      rw [e2]
      refine wpAny_ret_mkInt ?_
      show wpAny _ _ (if (decide (-(2 : Int) ^ 63 ≤ Builtin.Tuple.tupleHashOf [tupleKeyHash (intKind prog w) [k.1.1, k.1.2], hashInt k.2]) && decide (Builtin.Tuple.tupleHashOf [tupleKeyHash (intKind prog w) [k.1.1, k.1.2], hashInt k.2] < 2 ^ 63)) = true then _ else _) Q E _
      unfold fkHash reduceHash at h
      by_cases hr : (decide (-(2 : Int) ^ 63 ≤ Builtin.Tuple.tupleHashOf [tupleKeyHash (intKind prog w) [k.1.1, k.1.2], hashInt k.2]) && decide (Builtin.Tuple.tupleHashOf [tupleKeyHash (intKind prog w) [k.1.1, k.1.2], hashInt k.2] < 2 ^ 63)) = true
      · rw [if_pos hr]
        rw [if_pos hr] at h
        exact wpAny_pure (by simpa [Nat.add_assoc] using h)
      · rw [if_neg hr]
        rw [if_neg hr] at h
        exact wpAny_bind (wpAny_rule (wpAny_pure (by simpa [Nat.add_assoc] using h)))
theorem fk_eq_tree {x y : FK} {a b : Addr} {P : Fin → Shared → Prop} (hu : A.units < cLine) (hx : IsFK prog w s.heap x a) (hy : IsFK prog w s.heap y b) (h : P (.done (.ret (.bool (decide (x = y))))) s) :
    wpAny (model prog w) A (Builtin.«tuple.__eq__» ⟨[.ref a, .ref b], []⟩) P E s := by
  have hTb := hy.typeIs
  obtain ⟨oa, xs, na, ba, ua, hoa, _, hda, hia, hka⟩ := hx
  obtain ⟨ob, ys, nb, bb, ub, hob, _, hdb, hib, hkb⟩ := hy
  have sx : xs.size = 2 := by rw [← Array.length_toList, hia]; rfl
  have sy : ys.size = 2 := by rw [← Array.length_toList, hib]; rfl
  obtain ⟨⟨x1, x2⟩, x3⟩ := x
  obtain ⟨⟨y1, y2⟩, y3⟩ := y
  show wpAny _ _ (isInstance (.ref b) (.type "tuple") >>= _) _ _ s
  refine wpAny_bind (wpAny_isInstance hTb isSubtype_tuple_tuple ?_)
  simp only [Bool.not_true, Bool.false_eq_true, if_false]
  refine wpAny_bind (wpAny_tupleItemsOf hoa hda ?_)
  refine wpAny_bind (wpAny_tupleItemsOf hob hdb ?_)
  refine wpAny_bind ?_
  rw [hia, hib]
  refine wpAny_forIn_list _
    (fun rest r s' => r.1 = none ∧ s' = s ∧ (rest = [(.ref ba, .ref bb), (.int x3 ua, .int y3 ub)] ∨ (rest = [(.int x3 ua, .int y3 ub)] ∧ x1 = y1 ∧ x2 = y2) ∨ (rest = [] ∧ x1 = y1 ∧ x2 = y2 ∧ x3 = y3)))
    _ ?_ ?_ _ _ ⟨rfl, rfl, .inl rfl⟩
  · rintro ⟨u, v⟩ rest r s' ⟨hr, rfl, (hz | ⟨hz, e1, e2⟩ | ⟨hz, _⟩)⟩
    · cases hz
      refine wpAny_bind (wpAny_eqBool_tuple (knd := intKind prog w) (by first | exact hu | omega) hka hkb ?_)
      by_cases hk : x1 = y1 ∧ x2 = y2
      · rw [decide_eq_true (by rw [hk.1, hk.2])]
        simp only [Bool.not_true, Bool.false_eq_true, if_false]
        exact wpAny_pure ⟨rfl, rfl, .inr (.inl ⟨by first | trivial | rfl, hk⟩)⟩
      · rw [decide_eq_false (by intro z; injection z with z1 z2; injection z2 with z2 _; exact hk ⟨z1, z2⟩)]
        simp only [Bool.not_false, if_true]
        have hf : decide ((((x1, x2), x3) : FK) = ((y1, y2), y3)) = false := by
          apply decide_eq_false
          intro z
          injection z with z1 z2
          injection z1 with z3 z4
          exact hk ⟨z3, z4⟩
        rw [hf] at h
        exact wpAny_bind (wpAny_pure (wpAny_pure (wpAny_pure h)))
    · cases hz
      refine wpAny_bind (wpAny_eqBool_int ?_)
      by_cases hk : x3 = y3
      · rw [show (x3 == y3) = true by simp [hk]]
        simp only [Bool.not_true, Bool.false_eq_true, if_false]
        exact wpAny_pure ⟨rfl, rfl, .inr (.inr ⟨by first | trivial | rfl, e1, e2, hk⟩)⟩
      · rw [show (x3 == y3) = false by simp [hk]]
        simp only [Bool.not_false, if_true]
        have hf : decide ((((x1, x2), x3) : FK) = ((y1, y2), y3)) = false := by
          apply decide_eq_false
          intro z
          injection z with z1 z2
          exact hk z2
        rw [hf] at h
        exact wpAny_bind (wpAny_pure (wpAny_pure (wpAny_pure h)))
    · cases hz
  · rintro ⟨r1, r2⟩ s' ⟨hr, rfl, (hz | ⟨hz, _⟩ | ⟨_, e1, e2, e3⟩)⟩
    · cases hz
    · cases hz
    · simp only at hr
      subst hr
      refine wpAny_pure ?_
      show P (.done (.ret (.bool (xs.size == ys.size)))) s'
      rw [sx, sy]
      rw [decide_eq_true (by rw [e1, e2, e3])] at h
      exact h
theorem wpAny_eqBool_fk {x y : FK} {a b : Addr} {Q : Bool → Shared → Prop} (hu : A.units + 1 < cLine) (hx : IsFK prog w s.heap x a) (hy : IsFK prog w s.heap y b) (h : Q (decide (x = y)) s) :
    wpAny (model prog w) A (eqBool (.ref a) (.ref b)) Q E s := by
  unfold eqBool
  try with_reducible refine wpAny_holding ?_
  show wpAny _ _ (if (Value.ref a == Value.ref b) = true then _ else _) Q E s
  by_cases hab : (Value.ref a == Value.ref b) = true
  · rw [if_pos hab]
    have e : a = b := by have := eq_of_beq hab; injection this
    subst e
    obtain rfl := hx.inj hy
    exact wpAny_bind (wpAny_rule (wpAny_pure (by simpa using h)))
  · rw [if_neg hab]
    exact wpAny_bind (wpAny_richCompare_same_room (op := .Eq) hx.typeIs hy.typeIs F.slot_tuple_eq
      (wpAny_call_entry F.slot_tuple_eq hx.typeIs F.entry_tuple_eq (fk_eq_tree (by first | exact hu | omega) hx hy ⟨_, rfl, (fun e => nomatch e), wpAny_truthy_bool h⟩) (F.args_tuple_eq_2 _ _)) (by omega))
theorem wpAny_eqIsQuiet_tupleN {K : Type} [DecidableEq K] {knd : KeyKind prog w K} {ks : List K} {a : Addr} {Q : Bool → Shared → Prop} (m : Nat) (hk : IsTupleKey knd s.heap ks a) (h : Q true s) : wpAny (model prog w) A (eqIsQuiet (m + 1) (.ref a)) Q E s := by
  have hT := hk.typeIs
  obtain ⟨o, items, n, ho, _, hd, hi⟩ := hk
  unfold eqIsQuiet
  refine wpAny_bind (wpAny_specialOf hT F.slot_tuple_eq.lookup ?_)
  show wpAny _ _ (isInstance (.ref a) (.type "tuple") >>= _) _ _ s
  refine wpAny_bind (wpAny_isInstance hT isSubtype_tuple_tuple ?_)
  simp only [Bool.not_true, Bool.false_eq_true, if_false]
  refine wpAny_bind (wpAny_seqItems ho hd ?_)
  refine wpAny_bind ?_
  show wpAny _ _ (forIn items _ _) _ _ s
  rw [← Array.forIn_toList]
  refine wpAny_forIn_list _ (fun rest r s' => r.1 = none ∧ s' = s ∧ ∀ v ∈ rest, carriedByValue v = true) _ ?_ ?_ _ _ ⟨rfl, rfl, hi.byValue⟩
  · rintro v rest r s' ⟨hr, rfl, hall⟩
    rw [eqIsQuiet_byValue _ (hall v List.mem_cons_self)]
    refine wpAny_bind (wpAny_pure ?_)
    simp only [Bool.not_true, Bool.false_eq_true, if_false]
    exact wpAny_pure ⟨rfl, rfl, fun u hu' => hall u (List.mem_cons_of_mem _ hu')⟩
  · rintro ⟨r1, r2⟩ s' ⟨hr, rfl, _⟩
    simp only at hr
    subst hr
    exact wpAny_pure h
theorem wpAny_eqIsQuiet_fk {k : FK} {a : Addr} {Q : Bool → Shared → Prop} (hk : IsFK prog w s.heap k a) (h : Q true s) : wpAny (model prog w) A (eqIsQuiet 8 (.ref a)) Q E s := by
  have hT := hk.typeIs
  obtain ⟨o, items, n, b, u, ho, _, hd, hi, hin⟩ := hk
  unfold eqIsQuiet
  refine wpAny_bind (wpAny_specialOf hT F.slot_tuple_eq.lookup ?_)
  show wpAny _ _ (isInstance (.ref a) (.type "tuple") >>= _) _ _ s
  refine wpAny_bind (wpAny_isInstance hT isSubtype_tuple_tuple ?_)
  simp only [Bool.not_true, Bool.false_eq_true, if_false]
  refine wpAny_bind (wpAny_seqItems ho hd ?_)
  refine wpAny_bind ?_
  show wpAny _ _ (forIn items _ _) _ _ s
  rw [← Array.forIn_toList, hi]
  refine wpAny_forIn_list _ (fun rest r s' => r.1 = none ∧ s' = s ∧ (rest = [.ref b, .int k.2 u] ∨ rest = [.int k.2 u] ∨ rest = [])) _ ?_ ?_ _ _ ⟨rfl, rfl, .inl rfl⟩
  · rintro v rest r s' ⟨hr, rfl, (hz | hz | hz)⟩
    · cases hz
      refine wpAny_bind (wpAny_eqIsQuiet_tupleN (knd := intKind prog w) 6 hin ?_)
      simp only [Bool.not_true, Bool.false_eq_true, if_false]
      exact wpAny_pure ⟨rfl, rfl, .inr (.inl (by first | trivial | rfl))⟩
    · cases hz
      rw [eqIsQuiet_byValue _ rfl]
      refine wpAny_bind (wpAny_pure ?_)
      simp only [Bool.not_true, Bool.false_eq_true, if_false]
      exact wpAny_pure ⟨rfl, rfl, .inr (.inr (by first | trivial | rfl))⟩
    · cases hz
  · rintro ⟨r1, r2⟩ s' ⟨hr, rfl, _⟩
    simp only at hr
    subst hr
    exact wpAny_pure h
end
def fkKind (prog : Program) (w : World) : HeapKind prog w FK where
  is := IsFK prog w
  hash := fkHash prog w
  draws := fun _ => 5
  room := fun A => A.units + 1 < cLine
  inj := fun hx hy => hx.inj hy
  keeps := fun x ho hd hs => x.keeps ho hd hs
  pyHash := fun hu hk h => wpAny_pyHash_fk hu hk h
  eqBool := fun hu hx hy h => wpAny_eqBool_fk hu hx hy h
  quiet := fun hk h => wpAny_eqIsQuiet_fk hk h
end PySem
end
-- CHANGE: your row's module here, as the last of these rows
set_option Elab.async false
set_option linter.all false
set_option maxRecDepth 100000
/-! THE HAND LAYER, for ints, bools, texts, own classes, LISTS and tuples (index, slices, in, append, pop ..), calls, loops. Paste it whole ahead of your own text; what your proof does not reach may be deleted. -/
namespace L2
open PySem PySem.Spec PyProof.Rows
/-- a key: an int or a str -/
abbrev Key := Sum Int Str
def keyIs : Key → Value → Bool
  | .inl k, v => Value.isInt k v
  | .inr x, v => Value.isStrOf x v
def keyH (w : World) : Key → Int
  | .inl k => hashInt k
  | .inr x => hashStr w x
theorem keyIs_shape : ∀ {k : Key} {v : Value}, keyIs k v = true → (∃ i t, k = Sum.inl i ∧ v = Value.int i t) ∨ (∃ x t, k = Sum.inr x ∧ v = Value.str x t)
  | .inl i, v, h => by
    obtain ⟨t, e⟩ := Value.isInt_shape (k := i) (v := v) h
    exact .inl ⟨i, t, rfl, e⟩
  | .inr x, v, h => by
    obtain ⟨t, e⟩ := Value.isStrOf_shape (x := x) (v := v) h
    exact .inr ⟨x, t, rfl, e⟩
theorem key_ll (a b : Int) : decide ((Sum.inl a : Key) = Sum.inl b) = (a == b) := by
  by_cases e : a = b
  · subst e; simp
  · have h : ¬ (Sum.inl a : Key) = Sum.inl b := fun q => e (Sum.inl.inj q)
    rw [decide_eq_false h]
    exact (beq_eq_false_iff_ne.mpr e).symm
theorem key_rr (a b : Str) : decide ((Sum.inr a : Key) = Sum.inr b) = decide (a = b) := by
  by_cases e : a = b
  · subst e; simp
  · have h : ¬ (Sum.inr a : Key) = Sum.inr b := fun q => e (Sum.inr.inj q)
    rw [decide_eq_false h, decide_eq_false e]
theorem key_lr (a : Int) (b : Str) : decide ((Sum.inl a : Key) = Sum.inr b) = false := decide_eq_false (fun q => nomatch q)
theorem key_rl (a : Str) (b : Int) : decide ((Sum.inr a : Key) = Sum.inl b) = false := decide_eq_false (fun q => nomatch q)
def mixKind (prog : Program) (w : World) : PySem.KeyKind prog w Key where
  is := keyIs
  hash := keyH w
  inj := fun v a b ha hb => by
    rcases keyIs_shape ha with ⟨i, t, rfl, rfl⟩ | ⟨x, t, rfl, rfl⟩
    · rcases keyIs_shape hb with ⟨j, u, rfl, e⟩ | ⟨y, u, rfl, e⟩
      · injection e with e1 _; rw [e1]
      · exact nomatch e
    · rcases keyIs_shape hb with ⟨j, u, rfl, e⟩ | ⟨y, u, rfl, e⟩
      · exact nomatch e
      · injection e with e1 _; rw [e1]
  byValue := fun k v h => by
    rcases keyIs_shape h with ⟨i, t, rfl, rfl⟩ | ⟨x, t, rfl, rfl⟩ <;> rfl
  pyHash := fun hv h => by
    rcases keyIs_shape hv with ⟨i, t, rfl, rfl⟩ | ⟨x, t, rfl, rfl⟩
    · exact wpAny_pyHash_int h
    · exact wpAny_pyHash_str h
  eqBool := fun hu hv h => by
    rcases keyIs_shape hu with ⟨i, t, rfl, rfl⟩ | ⟨x, t, rfl, rfl⟩
    · rcases keyIs_shape hv with ⟨j, u, rfl, rfl⟩ | ⟨y, u, rfl, rfl⟩
      · rw [key_ll] at h; exact wpAny_eqBool_int h
      · rw [key_lr] at h; exact SeqAt.EqAt.int_str i t y u _ _ _ _ h
    · rcases keyIs_shape hv with ⟨j, u, rfl, rfl⟩ | ⟨y, u, rfl, rfl⟩
      · rw [key_rl] at h; exact SeqAt.EqAt.str_int x t j u _ _ _ _ h
      · rw [key_rr] at h; exact wpAny_eqBool_str h
  «strs» := fun k x t v h => by
    rcases keyIs_shape h with ⟨i, u, rfl, e⟩ | ⟨y, u, rfl, e⟩
    · exact nomatch e
    · injection e with e1 _
      subst e1
      cases v <;> rfl
end L2
namespace L2
open PySem PySem.Spec PyProof.Rows
/-- a value, without the heap -/
inductive V where
  | non | bl (b : Bool) | int (i : Int) | str (x : Str) | byt (b : Array UInt8) | flt (b : UInt64) | ref (a : Addr) | ty (n : String)
  deriving DecidableEq
def RelV : V → Value → Prop
  | .non, u => u = Value.none
  | .bl b, u => u = Value.bool b
  | .int i, u => ∃ t, u = Value.int i t
  | .str x, u => ∃ t, u = Value.str x t
  | .byt b, u => ∃ t, u = Value.bytes b t
  | .flt b, u => ∃ t, u = Value.float b t
  | .ref a, u => u = Value.ref a
  | .ty n, u => u = Value.type n
abbrev Vals : List V → List Value → Prop := Paired RelV
theorem Vals.length {xs : List V} {us : List Value} (r : Vals xs us) : xs.length = us.length := Paired.length r
theorem Vals.get : ∀ {xs : List V} {us : List Value} {i : Nat} {x : V}, Vals xs us → xs[i]? = some x → ∃ u, us[i]? = some u ∧ RelV x u
  | _, _, _, _, .nil, e => by simp at e
  | _, _, 0, _, .cons r _, e => by simp at e; subst e; exact ⟨_, rfl, r⟩
  | _, _, i + 1, x, .cons _ t, e => by
    obtain ⟨u, h1, h2⟩ := Vals.get (i := i) (x := x) t (by simpa using e)
    exact ⟨u, by simpa using h1, h2⟩
theorem Vals.set {x : V} {u : Value} (r : RelV x u) : ∀ {xs : List V} {us : List Value} (i : Nat), Vals xs us → Vals (xs.set i x) (us.set i u)
  | _, _, _, .nil => .nil
  | _, _, 0, .cons _ t => .cons r t
  | _, _, i + 1, .cons q t => .cons q (Vals.set r i t)
theorem Vals.append : ∀ {xs ys : List V} {us ws : List Value}, Vals xs us → Vals ys ws → Vals (xs ++ ys) (us ++ ws)
  | _, _, _, _, .nil, s => s
  | _, _, _, _, .cons r t, s => .cons r (Vals.append t s)
theorem Vals.take : ∀ {xs : List V} {us : List Value} (n : Nat), Vals xs us → Vals (xs.take n) (us.take n)
  | _, _, 0, _ => .nil
  | _, _, _ + 1, .nil => .nil
  | _, _, n + 1, .cons r t => .cons r (Vals.take n t)
theorem Vals.drop : ∀ {xs : List V} {us : List Value} (n : Nat), Vals xs us → Vals (xs.drop n) (us.drop n)
  | _, _, 0, r => r
  | _, _, _ + 1, .nil => .nil
  | _, _, n + 1, .cons _ t => Vals.drop n t
theorem Vals.none_of : ∀ {xs : List V} {us : List Value} {i : Nat}, Vals xs us → xs[i]? = none → us[i]? = none := fun {xs us i} r e => by
  have h1 := r.length
  have h2 : xs.length ≤ i := List.getElem?_eq_none_iff.mp e
  exact List.getElem?_eq_none_iff.mpr (by omega)
def RelO : Option V → Option Value → Prop
  | some v, some u => RelV v u
  | none, none => True
  | _, _ => False
def KV {κ : Type} : List (κ × V) → List (κ × Value) → Prop := Paired fun (p : κ × V) (q : κ × Value) => p.1 = q.1 ∧ RelV p.2 q.2
/-- a key of a dict (00_mix): an int or a text -/
def kV : Key → V
  | .inl i => .int i
  | .inr x => .str x
/-- what stands at a tracked address -/
inductive HO where
  /-- a list -/
  | lst (xs : List V)
  /-- a tuple (never changes) -/
  | tup (xs : List V)
  /-- a dict whose keys are ints and texts; one whose keys are tuples of ints and texts (the empty one is both) -/
  | dK (kvs : List (Key × V)) | dT (kvs : List (List Key × V)) | dN (K : PySem.W.Frag) (kvs : List (PySem.FK × V))
  /-- a set of ints: its members, its size -/
  | set (S : Int → Bool) (n : Nat)
  /-- an instance of the class at C, its dict at dx, its attributes -/
  | ins (C dx : Addr) (fs : List (Str × V))
  /-- the dict of the instance at x -/
  | own (x : Addr)
  /-- the dict of an exception -/
  | xd (fs : List (Str × V))
  /-- a bound method, f of x -/
  | met (f x : Addr)
  /-- a range object lo, lo + 1, .. below hi -/
  | rng (lo hi : Int)
  /-- a thing that is known to the object (the script; a dict while a loop walks it): read, never written while it is so -/
  | frz (o : Obj) (u : HO)
  /-- a code object's table -/
  | tbl (ps : Array Value)
  /-- any other thing, by what is true of its one object (a def of one's own: SetO a S n := HO.ext fun h => ..) -/
  | ext (φ : Heap → Prop)
abbrev Hp := Addr → Option HO
def upd (H : Hp) (a : Addr) (o : HO) : Hp := fun b => if b = a then some o else H b
theorem upd_same {H : Hp} {a : Addr} {o : HO} : upd H a o a = some o := by unfold upd; rw [if_pos rfl]
theorem upd_ne {H : Hp} {a b : Addr} {o : HO} (h : b ≠ a) : upd H a o b = H b := by unfold upd; rw [if_neg h]
theorem ne_of_none {H : Hp} {a b : Addr} {o : HO} (h : H a = some o) (h' : H b = none) : a ≠ b := by
  intro e; subst e; rw [h] at h'; cases h'
def TupN (K : PySem.W.Frag) (H : Hp) (b : Addr) (t d : Int) : Prop := H b = some (.tup [.int t, .int d]) ∨ ∃ (o : Obj) (its : Array Value) (n : Nat), K.lookup b = some o ∧ o.cls = .type "tuple" ∧ o.data = .seq its n ∧ Vals [.int t, .int d] its.toList
def KeyN (K : PySem.W.Frag) (H : Hp) (a : Addr) (k : PySem.FK) : Prop := ∃ b, H a = some (.tup [.ref b, .int k.2]) ∧ TupN K H b k.1.1 k.1.2
theorem KeyN.stay {K : PySem.W.Frag} {H H' : Hp} {a : Addr} {k : PySem.FK} (x : KeyN K H a k) (ht : ∀ b xs, H b = some (.tup xs) → H' b = some (.tup xs)) : KeyN K H' a k := let ⟨b, h1, h2⟩ := x; ⟨b, ht _ _ h1, h2.elim (fun z => .inl (ht _ _ z)) .inr⟩
section
variable (P : Program) (w : World)
def ObjOk (H : Hp) (h : Heap) (a : Addr) : HO → Prop
  | .lst xs => xs.length ≤ sizeLine ∧ ∃ (its : List Value) (n : Nat), Vals xs its ∧ h.get? a = some { cls := .type "list", data := .seq its.toArray n }
  | .tup xs => xs.length ≤ sizeLine ∧ ∃ its : List Value, Vals xs its ∧ IsTup h a its.toArray
  | .dK kvs => kvs.length ≤ sizeLine ∧ (a == sysModules) = false ∧ ∃ vs, KV kvs vs ∧ h.DictOf (mixKind P w) a vs
  | .dT kvs => kvs.length ≤ sizeLine ∧ (a == sysModules) = false ∧ ∃ xs : List (List Key × Addr × Value),
      Paired (fun (p : List Key × V) (q : List Key × Addr × Value) => p.1 = q.1 ∧ H q.2.1 = some (.tup (p.1.map kV)) ∧ RelV p.2 q.2.2) kvs xs ∧
      ∃ o es ep, h.get? a = some o ∧ o.ExactDict ∧ o.data = .dict es ep ∧ es.toList = xs.map (entryOfKey (tupleKind (mixKind P w))) ∧ (xs.map (·.1)).Nodup
  | .dN K kvs => kvs.length ≤ sizeLine ∧ (a == sysModules) = false ∧ ∃ xs : List (PySem.FK × Addr × Value), Paired (fun (p : PySem.FK × V) (q : PySem.FK × Addr × Value) => p.1 = q.1 ∧ KeyN K H q.2.1 p.1 ∧ RelV p.2 q.2.2) kvs xs ∧ ∃ o es ep, h.get? a = some o ∧ o.ExactDict ∧ o.data = .dict es ep ∧ es.toList = xs.map (entryOfKey (PySem.fkKind P w)) ∧ (xs.map (·.1)).Nodup
  | .set S n => h.SetOf (intKind P w) a S n
  | .ins C dx fs => H dx = some (.own a) ∧ fs.length ≤ 1000 ∧ dx ≠ a ∧ h.get? a = some (PySem.W.instObj C dx) ∧
      ∃ mA, h.Ns1 dx mA ∧ (∀ f, RelO (fs.lookup f) (mA f)) ∧ PySem.Within mA (fs.map (·.1))
  | .own _ => ∃ o, h.get? a = some o
  | .xd fs => ∃ mA, h.Ns1 a mA ∧ ∀ f, RelO (fs.lookup f) (mA f)
  | .rng lo hi => ∃ t u v, h.get? a = some { cls := .type "range", data := .fields #[.int lo t, .int hi u, .int 1 v] }
  | .frz o u => h.get? a = some o ∧ ObjOk H h a u
  | .tbl ps => h.get? a = some { cls := .none, data := .fields ps }
  | .met f x => h.get? a = some (PySem.W.methodObj (.ref f) (.ref x))
  | .ext φ => φ h ∧ (∃ o, h.get? a = some o) ∧ ∀ h1 h2 : Heap, φ h1 → (∀ o, h1.get? a = some o → h2.get? a = some o) → φ h2
/-- the abstract heap is held -/
def HOk (H : Hp) (h : Heap) : Prop := ∀ a o, H a = some o → ObjOk P w H h a o
end
section
variable {P : Program} {w : World} {H H' : Hp} {h h' : Heap} {a : Addr} {o : HO}
theorem ObjOk.lt (x : ObjOk P w H h a o) : a < h.objs.size := by
  cases o with
  | lst xs => obtain ⟨_, _, _, _, e⟩ := x; exact Heap.lt_size e
  | tup xs => obtain ⟨_, _, _, p⟩ := x; exact p.lt
  | dK kvs => obtain ⟨_, _, _, _, o, _, _, e, _⟩ := x; exact Heap.lt_size e
  | dT kvs => obtain ⟨_, _, _, _, o, _, _, e, _⟩ := x; exact Heap.lt_size e
  | dN K kvs => obtain ⟨_, _, _, _, o, _, _, e, _⟩ := x; exact Heap.lt_size e
  | set S n => obtain ⟨o, _, _, _, e, _⟩ := x; exact Heap.lt_size e
  | ins C dx fs => obtain ⟨_, _, _, e, _⟩ := x; exact Heap.lt_size e
  | own y => obtain ⟨_, e⟩ := x; exact Heap.lt_size e
  | xd fs => obtain ⟨_, ⟨_, _, _, e, _⟩, _⟩ := x; exact Heap.lt_size e
  | rng lo hi => obtain ⟨_, _, _, e⟩ := x; exact Heap.lt_size e
  | frz ob u => obtain ⟨e, _⟩ := x; exact Heap.lt_size e
  | tbl ps => exact Heap.lt_size (show h.get? a = some _ from x)
  | met f y => exact Heap.lt_size (show h.get? a = some _ from x)
  | ext φ => obtain ⟨_, ⟨_, e⟩, _⟩ := x; exact Heap.lt_size e
theorem Paired.mapP {α β : Type} {F G : α → β → Prop} : ∀ {l₁ : List α} {l₂ : List β}, Paired F l₁ l₂ → (∀ a b, F a b → G a b) → Paired G l₁ l₂
  | _, _, .nil, _ => .nil
  | _, _, .cons r t, f => .cons (f _ _ r) (Paired.mapP t f)
/-- what an object's description leans on: its own object, its own dict, the tuples -/
theorem ObjOk.stay (x : ObjOk P w H h a o) (k : ∀ b u, (b = a ∨ H b = some (.own a)) → h.get? b = some u → h'.get? b = some u)
    (ho : ∀ b, H b = some (.own a) → H' b = some (.own a)) (ht : ∀ b xs, H b = some (.tup xs) → H' b = some (.tup xs)) : ObjOk P w H' h' a o := by
  induction o with
  | lst xs => obtain ⟨z, its, n, r, e⟩ := x; exact ⟨z, its, n, r, k _ _ (.inl rfl) e⟩
  | tup xs => obtain ⟨z, its, r, ob, e, c⟩ := x; exact ⟨z, its, r, ob, k _ _ (.inl rfl) e, c⟩
  | dK kvs => obtain ⟨z, y, vs, r, ob, es, ep, e, c⟩ := x; exact ⟨z, y, vs, r, ob, es, ep, k _ _ (.inl rfl) e, c⟩
  | dT kvs =>
    obtain ⟨z, y, xs, r, ob, es, ep, e, c⟩ := x
    exact ⟨z, y, xs, Paired.mapP r fun p q z => ⟨z.1, ht _ _ z.2.1, z.2.2⟩, ob, es, ep, k _ _ (.inl rfl) e, c⟩
  | dN K kvs =>
    obtain ⟨z, y, xs, r, ob, es, ep, e, c⟩ := x
    exact ⟨z, y, xs, Paired.mapP r fun p q z => ⟨z.1, z.2.1.stay ht, z.2.2⟩, ob, es, ep, k _ _ (.inl rfl) e, c⟩
  | set S n => obtain ⟨ob, es, ep, t, e, c⟩ := x; exact ⟨ob, es, ep, t, k _ _ (.inl rfl) e, c⟩
  | ins C dx fs =>
    obtain ⟨d, z, ne, e, mA, ⟨od, es, ep, e2, c⟩, r⟩ := x
    exact ⟨ho _ d, z, ne, k _ _ (.inl rfl) e, mA, ⟨od, es, ep, k _ _ (.inr d) e2, c⟩, r⟩
  | own y => obtain ⟨ob, e⟩ := x; exact ⟨ob, k _ _ (.inl rfl) e⟩
  | xd fs => obtain ⟨mA, ⟨od, es, ep, e, c⟩, r⟩ := x; exact ⟨mA, ⟨od, es, ep, k _ _ (.inl rfl) e, c⟩, r⟩
  | rng lo hi => obtain ⟨t, u, v, e⟩ := x; exact ⟨t, u, v, k _ _ (.inl rfl) e⟩
  | frz ob u ih => obtain ⟨e, q⟩ := x; exact ⟨k _ _ (.inl rfl) e, ih q⟩
  | tbl ps =>
    have e : h.get? a = some { cls := .none, data := .fields ps } := x
    show h'.get? a = some { cls := .none, data := .fields ps }
    exact k a _ (.inl rfl) e
  | met f y =>
    have e : h.get? a = some (PySem.W.methodObj (.ref f) (.ref y)) := x
    show h'.get? a = some (PySem.W.methodObj (.ref f) (.ref y))
    exact k a _ (.inl rfl) e
  | ext φ => obtain ⟨p, ⟨o, e⟩, st⟩ := x; exact ⟨st _ _ p fun o q => k _ _ (.inl rfl) q, ⟨o, k _ _ (.inl rfl) e⟩, st⟩
theorem HOk.lt (x : HOk P w H h) (e : H a = some o) : a < h.objs.size := (x a o e).lt
theorem HOk.fresh (x : HOk P w H h) (e : h.objs.size ≤ a) : H a = none := by
  cases q : H a with
  | none => rfl
  | some u => exact absurd (Nat.lt_of_lt_of_le (x.lt q) e) (Nat.lt_irrefl _)
/-- every object of the heap is kept -/
theorem HOk.kept (x : HOk P w H h) (k : ∀ b u, h.get? b = some u → h'.get? b = some u) : HOk P w H h' := fun a o e =>
  (x a o e).stay (fun b u _ q => k b u q) (fun _ q => q) fun _ _ q => q
/-- a new object is laid and tracked -/
theorem HOk.laid (x : HOk P w H h) (k : ∀ b u, h.get? b = some u → h'.get? b = some u) (hp : h.objs.size ≤ a) (new : ObjOk P w (upd H a o) h' a o) : HOk P w (upd H a o) h' := fun b u e => by
  have hn := x.fresh hp
  by_cases hb : b = a
  · subst hb; rw [upd_same] at e; cases e; exact new
  · rw [upd_ne hb] at e
    exact (x b u e).stay (fun c v _ q => k c v q) (fun c q => by rw [upd_ne (ne_of_none q hn)]; exact q) fun c xs q => by rw [upd_ne (ne_of_none q hn)]; exact q
end
/-- what may be read as u: it is u, or a known u -/
def Rd (H : Hp) (a : Addr) (u : HO) : Prop := H a = some u ∨ ∃ o, H a = some (.frz o u)
theorem Rd.of {H : Hp} {a : Addr} {u : HO} (h : H a = some u) : Rd H a u := .inl h
theorem Rd.ok {P : Program} {w : World} {H : Hp} {h : Heap} {a : Addr} {u : HO} (r : Rd H a u) (x : HOk P w H h) : ObjOk P w H h a u := by
  rcases r with r | ⟨o, r⟩
  · exact x a u r
  · obtain ⟨_, q⟩ := x a _ r
    exact q
/-- what may be written -/
def Mut : Option HO → Prop
  | some (.lst _) => True
  | some (.dK _) => True
  | some (.dT _) => True
  | some (.dN _ _) => True
  | some (.set _ _) => True
  | some (.ins _ _ _) => True
  | some (.ext _) => True
  | _ => False
section
variable {P : Program} {w : World} {H : Hp} {h h' : Heap} {x e : Addr} {o' : HO}
/-- the object at e is changed: x itself, or the dict of the instance x -/
theorem HOk.write (ok : HOk P w H h) (mu : Mut (H x)) (he : e = x ∨ H e = some (.own x)) (k : ∀ b u, b ≠ e → h.get? b = some u → h'.get? b = some u) (heo : ∃ u, h'.get? e = some u)
    (new : ObjOk P w (upd H x o') h' x o') : HOk P w (upd H x o') h' := fun b u q => by
  have nown : ∀ c y, H c = some (.own y) → c ≠ x := fun c y r z => by subst z; rw [r] at mu; exact mu
  have ntup : ∀ c xs, H c = some (.tup xs) → c ≠ x := fun c xs r z => by subst z; rw [r] at mu; exact mu
  by_cases hb : b = x
  · subst hb; rw [upd_same] at q; cases q; exact new
  · rw [upd_ne hb] at q
    by_cases hbe : b = e
    · have q' : H b = some (.own x) := by
        rcases he with z | z
        · exact absurd (hbe.trans z) hb
        · rw [hbe]; exact z
      rw [q] at q'; cases q'
      obtain ⟨v, hv⟩ := heo
      exact ⟨v, by rw [hbe]; exact hv⟩
    · refine (ok b u q).stay (fun c v hc r => k c v ?_ r) (fun c r => by rw [upd_ne (nown c b r)]; exact r) fun c xs r => by rw [upd_ne (ntup c xs r)]; exact r
      rcases hc with rfl | hc
      · exact hbe
      · rintro rfl
        rcases he with z | z
        · exact nown c b hc z
        · rw [hc] at z; cases z; exact hb rfl
end
/-! ### kept unless tracked; of the frames at fs (the callers') the slots may change (an exception that passes writes there); of the records at ex (iterators) nothing is said -/
structure Un (fs ex : List Addr) (H H' : Hp) (h h' : Heap) : Prop where
  keep : ∀ b o, h.get? b = some o → H b = none → b ∉ fs → b ∉ ex → h'.get? b = some o
  slot : ∀ b o, h.get? b = some o → H b = none → b ∈ fs → b ∉ ex → ∃ sl, h'.get? b = some { o with slots := sl }
  free : ∀ b o, h.get? b = some o → H b = none → b ∉ ex → H' b = none
  there : ∀ b o, h.get? b = some o → b ∉ ex → ∃ o', h'.get? b = some o'
  tups : ∀ b xs, H b = some (.tup xs) → H' b = some (.tup xs)
  frzs : ∀ b o u, H b = some (.frz o u) → H' b = some (.frz o u)
  tbls : ∀ b ps, H b = some (.tbl ps) → ∃ more, H' b = some (.tbl (ps ++ more))
section
variable {fs fs' ex ex' : List Addr} {H H1 H2 : Hp} {h h1 h2 h' : Heap} {a x e : Addr} {o : HO}
theorem Un.any (u : Un fs ex H H1 h h1) {b : Addr} {ob : Obj} (q : h.get? b = some ob) (n : H b = none) (hx : b ∉ ex) : ∃ sl, h1.get? b = some { ob with slots := sl } := by
  by_cases hb : b ∈ fs
  · exact u.slot b ob q n hb hx
  · exact ⟨ob.slots, u.keep b ob q n hb hx⟩
theorem Un.trans (a : Un fs ex H H1 h h1) (b : Un fs ex H1 H2 h1 h2) : Un fs ex H H2 h h2 where
  keep := fun c ob q n hc hx => b.keep c ob (a.keep c ob q n hc hx) (a.free c ob q n hx) hc hx
  slot := fun c ob q n hc hx => by
    obtain ⟨sl, e1⟩ := a.slot c ob q n hc hx
    obtain ⟨sl', e2⟩ := b.slot c _ e1 (a.free c ob q n hx) hc hx
    exact ⟨sl', e2⟩
  free := fun c ob q n hx => by
    obtain ⟨o', e1⟩ := a.there c ob q hx
    exact b.free c o' e1 (a.free c ob q n hx) hx
  there := fun c ob q hx => by
    obtain ⟨o', e1⟩ := a.there c ob q hx
    exact b.there c o' e1 hx
  tups := fun c xs q => b.tups c xs (a.tups c xs q)
  frzs := fun c ob xs q => b.frzs c ob xs (a.frzs c ob xs q)
  tbls := fun c ps q => by
    obtain ⟨m1, e1⟩ := a.tbls c ps q
    obtain ⟨m2, e2⟩ := b.tbls c _ e1
    exact ⟨m1 ++ m2, by rw [e2, Array.append_assoc]⟩
theorem Un.kept (k : ∀ b u, h.get? b = some u → h'.get? b = some u) : Un fs ex H H h h' :=
  ⟨fun b ob q _ _ _ => k b ob q, fun b ob q _ _ _ => ⟨ob.slots, k b ob q⟩, fun _ _ _ n _ => n, fun b ob q _ => ⟨ob, k b ob q⟩, fun _ _ q => q, fun _ _ _ q => q, fun _ ps q => ⟨#[], by rw [q]; simp⟩⟩
theorem Un.refl : Un fs ex H H h h := Un.kept fun _ _ q => q
theorem Un.laid (k : ∀ b u, h.get? b = some u → h'.get? b = some u) (hp : h.objs.size ≤ a) (hn : H a = none) : Un fs ex H (upd H a o) h h' where
  keep := fun b u q _ _ _ => k b u q
  slot := fun b u q _ _ _ => ⟨u.slots, k b u q⟩
  free := fun b u q n _ => by rw [upd_ne (Nat.ne_of_lt (Nat.lt_of_lt_of_le (Heap.lt_size q) hp))]; exact n
  there := fun b u q _ => ⟨u, k b u q⟩
  tups := fun b xs q => by rw [upd_ne (ne_of_none q hn)]; exact q
  frzs := fun b u xs q => by rw [upd_ne (ne_of_none q hn)]; exact q
  tbls := fun b ps q => ⟨#[], by rw [upd_ne (ne_of_none q hn), q]; simp⟩
theorem Un.write (mu : Mut (H x)) (he : e = x ∨ H e = some (.own x)) (k : ∀ b u, b ≠ e → h.get? b = some u → h'.get? b = some u) (heo : ∃ u, h'.get? e = some u) : Un fs ex H (upd H x o) h h' := by
  have hx : ∀ b, H b = none → b ≠ x := fun b n z => by subst z; rw [n] at mu; exact mu
  have hb : ∀ b, H b = none → b ≠ e := fun b n z => by
    subst z
    rcases he with r | r
    · exact hx b n r
    · rw [n] at r; cases r
  have hm : ∀ b u, H b = some u → ¬ Mut (some u) → b ≠ x := fun b u q nm z => by subst z; rw [q] at mu; exact nm mu
  refine ⟨fun b u q n _ _ => k b u (hb b n) q, fun b u q n _ _ => ⟨u.slots, k b u (hb b n) q⟩, fun b u q n _ => by rw [upd_ne (hx b n)]; exact n, fun b u q _ => ?_,
    fun b xs q => by rw [upd_ne (hm b _ q fun z => z)]; exact q, fun b u xs q => by rw [upd_ne (hm b _ q fun z => z)]; exact q, fun b ps q => ⟨#[], by rw [upd_ne (hm b _ q fun z => z), q]; simp⟩⟩
  by_cases hbe : b = e
  · subst hbe; exact heo
  · exact ⟨u, k b u hbe q⟩
theorem Un.mono (u : Un fs ex H H1 h h1) (hs : ∀ b ∈ fs, b ∈ fs') (hx : ∀ b ∈ ex, b ∈ ex') : Un fs' ex' H H1 h h1 :=
  ⟨fun b ob q n hb he => u.keep b ob q n (fun z => hb (hs b z)) fun z => he (hx b z), fun _ _ q n _ he => u.any q n fun z => he (hx _ z), fun b ob q n he => u.free b ob q n fun z => he (hx b z), fun b ob q he => u.there b ob q fun z => he (hx b z), u.tups, u.frzs, u.tbls⟩
end
/-! ### the heap without what is tracked -/
def trk (h : Heap) (H : Hp) : List Addr := (List.range h.objs.size).filter fun a => (H a).isSome
def hidT (h : Heap) (H : Hp) : Heap := PySem.W.hideAll h (trk h H)
theorem hidT_size (h : Heap) (H : Hp) : (hidT h H).objs.size = h.objs.size := PySem.W.hideAll_size _ _
theorem hidT_get {h : Heap} {H : Hp} {b : Addr} {o : Obj} (e : h.get? b = some o) (n : H b = none) : (hidT h H).get? b = some o :=
  PySem.W.hideAll_get _ e fun hm => by
    have q : (H b).isSome = true := (List.mem_filter.mp hm).2
    rw [n] at q; simp at q
theorem of_hidT {h : Heap} {H : Hp} {b : Addr} {o : Obj} (e : (hidT h H).get? b = some o) : h.get? b = some o ∧ H b = none := by
  have e' : h.get? b = some o := PySem.W.of_hideAll (trk h H) e
  refine ⟨e', ?_⟩
  cases q : H b with
  | none => rfl
  | some x =>
    have hm : b ∈ trk h H := List.mem_filter.mpr ⟨List.mem_range.mpr (Heap.lt_size e'), by simp [q]⟩
    have z : (hidT h H).get? b = none := PySem.W.hideAll_none (trk h H) hm
    rw [z] at e; cases e
/-! ### OpenK's ledger, filled with every new object but one -/
def allNews (g h : Heap) (L : Addr) : List (Addr × Obj) := (List.range h.objs.size).filterMap fun a => if a = L ∨ (g.get? a).isSome = true then none else (h.get? a).map fun o => (a, o)
def rest (g h : Heap) (L d : Addr) : List (Addr × Obj) := (allNews g h L).filter fun p => decide (p.1 ≠ d)
end L2
namespace L2
open PySem PySem.Spec PyProof.Rows
/-- the module's facts, over the base: the heap at the law's entry without what is tracked there -/
structure Mod (K : PySem.W.Frag) (mg : Str → Option Value) (base : Heap) : Prop where
  kin : K.In base
  glob : base.Ns mainGlobals mg
  blt : ∃ mb, base.Ns builtinsNs mb ∧ ∀ x : Str, x ≠ "__name__" → mb x = bootBuiltins x
  nolimit : base.NoLimit
/-- the context: a def's body (or a comprehension's block) running. base: fixed through the whole law; s₀, H₀: the entry; outer: the frames whose slots others may change (a def's callers); stack: all frames that run;
   ex: iterators that were made ahead of the entry and are walked here (a comprehension's); fn: the names whose cells were made at the entry (a def: all; a comprehension's block: its own); calm: not within an except suite; pn: pins that every state bears; xe: what is wanted of an exception that leaves the code -/
structure Cx where
  prog : Program
  w : World
  K : PySem.W.Frag
  mg : Str → Option Value
  base : Heap
  A : Around
  N : List Str
  s₀ : Shared
  H₀ : Hp
  env : Env
  outer : List Env
  stack : List Env
  ex : List Addr
  fn : Str → Bool
  calm : Bool
  pn : List (Addr × Obj)
  xe : Value → Shared → Prop
/-- the callers' frames -/
def frs (l : List Env) : List Addr := l.filterMap (·.frame)
abbrev Cx.fs (X : Cx) : List Addr := frs X.outer
def Vis (sc : Scope) (x : Str) : Prop := sc.names.lookup x = some .local ∨ sc.names.lookup x = some .cell ∨ sc.names.lookup x = some .free
def Loc (sc : Scope) (x : Str) : Prop := sc.names.lookup x = some .local ∨ sc.names.lookup x = some .cell
def Look (env : Env) (h : Heap) (m : Str → Option Value) (x : Str) (u : Value) : Prop :=
  (env.kindOf x = some .local ∧ m x = some u) ∨ ((env.kindOf x = some .cell ∨ env.kindOf x = some .free) ∧ ∃ c, env.cells.lookup x = some c ∧ h.IsCell c (some u))
structure Cx.Ok (X : Cx) : Prop where
  mod : Mod X.K X.mg X.base
  kind : X.env.scope.kind = .function
  glob : X.env.globals = mainGlobals
  blt : X.env.builtins = builtinsNs
  above : X.s₀.heap.objs.size ≤ X.env.locals
  inj : ∀ x y c, X.env.cells.lookup x = some c → X.env.cells.lookup y = some c → x = y
  has : ∀ x, (X.env.kindOf x = some .cell ∨ X.env.kindOf x = some .free) → ∃ c, X.env.cells.lookup x = some c
  cab : ∀ x c, X.fn x = true → X.env.cells.lookup x = some c → X.s₀.heap.objs.size ≤ c
  hd : X.calm = true → X.A.handled = none
  frames : X.A.frames = some X.stack
  stk : X.stack = X.outer ∨ (X.stack = X.env :: X.outer ∧ X.env.frame = some X.env.locals)
  exf : ∀ b ∈ X.ex, b ≠ X.env.locals ∧ ∀ x c, X.env.cells.lookup x = some c → c ≠ b
  bs : ∀ b o, X.base.get? b = some o → X.s₀.heap.get? b = some o ∧ X.H₀ b = none
  bsz : X.base.objs.size ≤ X.s₀.heap.objs.size
  noex : ∀ b o, X.base.get? b = some o → b ∉ X.ex
  exfs : ∀ b ∈ X.ex, b ∉ X.fs
  funs : X.s₀.heap.FunFrames X.base X.outer
  frf : ∀ b ∈ X.fs, X.H₀ b = none
structure Inv (X : Cx) (pins : List (Addr × Obj)) (σ : List (Option V)) (H : Hp) (s : Shared) : Prop where
  ok : X.Ok
  os : s.os = X.s₀.os
  bare : AllBare s.gens
  base : Un X.fs X.ex X.H₀ H X.s₀.heap s.heap
  loc : ∃ m, s.heap.Ns X.env.locals m ∧ ∀ (i : Nat) (x : Str) (v : V), X.N[i]? = some x → σ[i]? = some (some v) → Vis X.env.scope x → ∃ u, RelV v u ∧ Look X.env s.heap m x u
  cell : ∀ x c, X.env.cells.lookup x = some c → ∃ v, s.heap.IsCell c v
  free : H X.env.locals = none
  freeC : ∀ x c, X.env.cells.lookup x = some c → H c = none
  pin : ∀ p ∈ X.pn ++ pins, s.heap.get? p.1 = some p.2 ∧ H p.1 = none ∧ p.1 ≠ X.env.locals ∧ p.1 ∉ X.fs ∧ ∀ v, p.2.data ≠ .cell v
  hok : HOk X.prog X.w H s.heap
  len : σ.length = X.N.length
section
variable {X : Cx} {pins : List (Addr × Obj)} {σ : List (Option V)} {H H' : Hp} {s : Shared} {h' : Heap}
theorem Cx.Ok.nofr (ok : X.Ok) {b : Addr} {o : Obj} (e : X.base.get? b = some o) : b ∉ X.fs := fun hb => by
  have := (ok.funs.mem hb).1
  rw [e] at this; cases this
theorem Inv.bs (I : Inv X pins σ H s) : ∀ b o, X.base.get? b = some o → s.heap.get? b = some o ∧ H b = none := fun b o e =>
  ⟨I.base.keep b o (I.ok.bs b o e).1 (I.ok.bs b o e).2 (I.ok.nofr e) (I.ok.noex b o e), I.base.free b o (I.ok.bs b o e).1 (I.ok.bs b o e).2 (I.ok.noex b o e)⟩
theorem Inv.bk (I : Inv X pins σ H s) : ∀ b o, X.base.get? b = some o → s.heap.get? b = some o := fun b o e => (I.bs b o e).1
theorem Inv.mod (I : Inv X pins σ H s) : Mod X.K X.mg X.base := I.ok.mod
theorem Inv.kIn (I : Inv X pins σ H s) : X.K.In s.heap := I.ok.mod.kin.keeps I.bk
theorem Inv.nolimit (I : Inv X pins σ H s) : s.heap.NoLimit := I.ok.mod.nolimit.keeps I.bk
/-- the frame over the base: for OpenK's rules (K.In X.base is I.mod.kin) -/
theorem Inv.fr (I : Inv X pins σ H s) : ∃ m, Fr X.base X.env.locals s.heap m :=
  let ⟨m, hn, _⟩ := I.loc
  ⟨m, hn, I.bk, Nat.le_trans I.ok.bsz I.ok.above⟩
theorem Inv.lt (I : Inv X pins σ H s) : X.env.locals < s.heap.objs.size := let ⟨_, hn, _⟩ := I.loc; hn.lt
theorem Inv.sz (I : Inv X pins σ H s) : X.s₀.heap.objs.size ≤ s.heap.objs.size := Nat.le_trans I.ok.above (Nat.le_of_lt I.lt)
theorem Inv.nofs (I : Inv X pins σ H s) {a : Addr} (h : s.heap.objs.size ≤ a) : a ∉ X.fs := fun hb => by
  obtain ⟨_, o, ho, _⟩ := I.ok.funs.mem hb
  exact absurd (Nat.lt_of_lt_of_le (Heap.lt_size ho) (Nat.le_trans I.sz h)) (Nat.lt_irrefl _)
theorem Inv.cne (I : Inv X pins σ H s) : ∀ x c, X.env.cells.lookup x = some c → c ≠ X.env.locals := fun x c e z => by
  obtain ⟨v, o, ho, hd⟩ := I.cell x c e
  obtain ⟨m, ⟨o', es, ep, ho', hd', _⟩, _⟩ := I.loc
  rw [z, ho'] at ho; cases ho; rw [hd'] at hd; cases hd
theorem Inv.funs (I : Inv X pins σ H s) : s.heap.FunFrames X.base X.outer := by
  have all : ∀ (l : List Env), (∀ b ∈ frs l, b ∈ X.fs) → X.s₀.heap.FunFrames X.base l → s.heap.FunFrames X.base l := by
    intro l
    induction l with
    | nil => intro _ _; trivial
    | cons env r ih =>
      intro hs hl
      obtain ⟨hk, ⟨L, o, hf, hn, ho, hd⟩, hr⟩ := hl
      have hL : L ∈ X.fs := hs L (by unfold frs; rw [List.filterMap_cons, hf]; exact List.mem_cons_self)
      obtain ⟨sl, e⟩ := I.base.slot L o ho (I.ok.frf L hL) hL fun z => I.ok.exfs L z hL
      exact ⟨hk, ⟨L, _, hf, hn, e, hd⟩, ih (fun b hb => hs b (by unfold frs; rw [List.filterMap_cons, hf]; exact List.mem_cons_of_mem _ hb)) hr⟩
  exact all X.outer (fun _ hb => hb) I.ok.funs
/-- the frames that run, for a call -/
theorem Inv.stack (I : Inv X pins σ H s) : s.heap.FunFrames X.base X.stack := by
  rcases I.ok.stk with e | ⟨e, hf⟩
  · rw [e]; exact I.funs
  · rw [e]
    obtain ⟨m, hn, _⟩ := I.loc
    refine .cons (by rw [I.ok.kind]; decide) hf hn ?_ I.funs
    exact Heap.get?_none_of_le (Nat.le_trans I.ok.bsz I.ok.above)
theorem Inv.stkSub (I : Inv X pins σ H s) : ∀ b ∈ frs X.stack, b ∈ X.env.locals :: X.fs := fun b hb => by
  rcases I.ok.stk with e | ⟨e, hf⟩
  · rw [e] at hb; exact List.mem_cons_of_mem _ hb
  · rw [e] at hb
    unfold frs at hb
    rw [List.filterMap_cons, hf] at hb
    exact hb
theorem Inv.stkFree (I : Inv X pins σ H s) : ∀ b ∈ frs X.stack, H b = none := fun b hb => by
  rcases List.mem_cons.mp (I.stkSub b hb) with e | hb
  · rw [e]; exact I.free
  · obtain ⟨_, o, ho, _⟩ := I.ok.funs.mem hb
    exact I.base.free b o ho (I.ok.frf b hb) fun z => I.ok.exfs b z hb
/-- THE STEP: the untracked objects but the frame and the records at ch are kept (the callers' frames up to slots), the frame's map is kept, the new abstract heap is held -/
theorem Inv.step {g' : Array GenState} {t' : Nat} {d' : Drawn} {ch : List Addr} (I : Inv X pins σ H s)
    (hch : ∀ b ∈ ch, (b ∈ X.ex ∨ X.s₀.heap.objs.size ≤ b) ∧ b ≠ X.env.locals ∧ (∀ x c, X.env.cells.lookup x = some c → c ≠ b) ∧ ∀ p ∈ X.pn ++ pins, p.1 ≠ b)
    (keep : ∀ b o, b ≠ X.env.locals → b ∉ X.fs → b ∉ ch → s.heap.get? b = some o → H b = none → h'.get? b = some o)
    (slot : ∀ b o, b ≠ X.env.locals → b ∈ X.fs → b ∉ ch → s.heap.get? b = some o → H b = none → ∃ sl, h'.get? b = some { o with slots := sl }) (free : ∀ b o, b ∉ ch → s.heap.get? b = some o → H b = none → H' b = none)
    (there : ∀ b o, b ∉ ch → s.heap.get? b = some o → ∃ o', h'.get? b = some o')
    (tups : ∀ b xs, H b = some (.tup xs) → H' b = some (.tup xs)) (frzs : ∀ b o u, H b = some (.frz o u) → H' b = some (.frz o u)) (tbls : ∀ b ps, H b = some (.tbl ps) → ∃ more, H' b = some (.tbl (ps ++ more)))
    (ns : ∀ m, s.heap.Ns X.env.locals m → h'.Ns X.env.locals m) (hok : HOk X.prog X.w H' h') (hg : AllBare g') :
    Inv X pins σ H' { s with heap := h', gens := g', drawn := d', toks := t' } := by
  have neL : ∀ b o, X.s₀.heap.get? b = some o → b ≠ X.env.locals := fun b o e => Nat.ne_of_lt (Nat.lt_of_lt_of_le (Heap.lt_size e) I.ok.above)
  have neC : ∀ b o, X.s₀.heap.get? b = some o → b ∉ X.ex → b ∉ ch := fun b o e hx hb => by
    rcases (hch b hb).1 with z | z
    · exact hx z
    · exact absurd (Nat.lt_of_lt_of_le (Heap.lt_size e) z) (Nat.lt_irrefl _)
  have cellK : ∀ x c, X.env.cells.lookup x = some c → ∀ v, s.heap.IsCell c v → h'.IsCell c v := fun x c e v ⟨o, ho, hd⟩ => by
    have nch : c ∉ ch := fun z => (hch c z).2.2.1 x c e rfl
    by_cases hc : c ∈ X.fs
    · obtain ⟨sl, q⟩ := slot c o (I.cne x c e) hc nch ho (I.freeC x c e)
      exact ⟨_, q, hd⟩
    · exact ⟨o, keep c o (I.cne x c e) hc nch ho (I.freeC x c e), hd⟩
  refine ⟨I.ok, I.os, hg, ⟨fun b o e n hb hx => ?_, fun b o e n hb hx => ?_, fun b o e n hx => ?_, fun b o e hx => ?_, fun b xs e => tups b xs (I.base.tups b xs e), fun b o xs e => frzs b o xs (I.base.frzs b o xs e), fun b ps e => ?_⟩, ?_, fun x c e => ?_, ?_, fun x c e => ?_, fun p hp => ?_, hok, I.len⟩
  · exact keep b o (neL b o e) hb (neC b o e hx) (I.base.keep b o e n hb hx) (I.base.free b o e n hx)
  · obtain ⟨sl, e1⟩ := I.base.slot b o e n hb hx
    obtain ⟨sl', e2⟩ := slot b _ (neL b o e) hb (neC b o e hx) e1 (I.base.free b o e n hx)
    exact ⟨sl', e2⟩
  · obtain ⟨o', e1⟩ := I.base.there b o e hx
    exact free b o' (neC b o e hx) e1 (I.base.free b o e n hx)
  · obtain ⟨o', e1⟩ := I.base.there b o e hx
    exact there b o' (neC b o e hx) e1
  · obtain ⟨m1, e1⟩ := I.base.tbls b ps e
    obtain ⟨m2, e2⟩ := tbls b _ e1
    exact ⟨m1 ++ m2, by rw [e2, Array.append_assoc]⟩
  · obtain ⟨m, hn, hl⟩ := I.loc
    refine ⟨m, ns m hn, fun i x v e1 e2 e3 => ?_⟩
    obtain ⟨u, r, l⟩ := hl i x v e1 e2 e3
    refine ⟨u, r, ?_⟩
    rcases l with l | ⟨k, c, e, z⟩
    · exact .inl l
    · exact .inr ⟨k, c, e, cellK x c e _ z⟩
  · obtain ⟨v, z⟩ := I.cell x c e
    exact ⟨v, cellK x c e v z⟩
  · obtain ⟨m, ⟨o, _, _, ho, _⟩, _⟩ := I.loc
    exact free _ o (fun z => (hch _ z).2.1 rfl) ho I.free
  · obtain ⟨v, o, ho, hd⟩ := I.cell x c e
    exact free c o (fun z => (hch c z).2.2.1 x c e rfl) ho (I.freeC x c e)
  · obtain ⟨e, n, ne, nf, d⟩ := I.pin p hp
    have nch : p.1 ∉ ch := fun z => (hch p.1 z).2.2.2 p hp rfl
    exact ⟨keep p.1 p.2 ne nf nch e n, free p.1 p.2 nch e n, ne, nf, d⟩
/-- .. where the frame's own object is kept too -/
theorem Inv.un {t' : Nat} (I : Inv X pins σ H s) (u : Un X.fs [] H H' s.heap h') (hok : HOk X.prog X.w H' h') : Inv X pins σ H' { s with heap := h', toks := t' } := by
  obtain ⟨m, ⟨o, es, ep, ho, r⟩, _⟩ := id I.loc
  obtain ⟨sl, hL⟩ := u.any ho I.free (by simp)
  exact I.step (g' := s.gens) (d' := s.drawn) (ch := []) (fun _ z => nomatch z) (fun b o _ hb _ e n => u.keep b o e n hb (by simp)) (fun b o _ hb _ e n => u.slot b o e n hb (by simp)) (fun b o _ e n => u.free b o e n (by simp)) (fun b o _ e => u.there b o e (by simp)) u.tups u.frzs u.tbls (fun m' hm => by
    obtain ⟨o', es', ep', ho', r'⟩ := hm
    rw [ho] at ho'; cases ho'
    exact ⟨_, es', ep', hL, r'⟩) hok I.bare
/-- behind a call (or a comprehension's block): the slots of this frame may have changed too, the records at ch may have turned -/
theorem Inv.call {g' : Array GenState} {t' : Nat} {d' : Drawn} {ch : List Addr} (I : Inv X pins σ H s) (u : Un (frs X.stack) ch H H' s.heap h') (hok : HOk X.prog X.w H' h') (hg : AllBare g')
    (hch : ∀ b ∈ ch, (b ∈ X.ex ∨ X.s₀.heap.objs.size ≤ b) ∧ b ≠ X.env.locals ∧ (∀ x c, X.env.cells.lookup x = some c → c ≠ b) ∧ ∀ p ∈ X.pn ++ pins, p.1 ≠ b) :
    Inv X pins σ H' { s with heap := h', gens := g', drawn := d', toks := t' } := by
  obtain ⟨m, ⟨o, es, ep, ho, r⟩, _⟩ := id I.loc
  obtain ⟨sl, hL⟩ := u.any ho I.free fun z => (hch _ z).2.1 rfl
  exact I.step (ch := ch) hch (fun b o hL hb hc e n => u.keep b o e n (fun z => (List.mem_cons.mp (I.stkSub b z)).elim hL hb) hc) (fun b o _ _ hc e n => u.any e n hc) (fun b o hc e n => u.free b o e n hc) (fun b o hc e => u.there b o e hc) u.tups u.frzs u.tbls (fun m' hm => by
    obtain ⟨o', es', ep', ho', r'⟩ := hm
    rw [ho] at ho'; cases ho'
    exact ⟨_, es', ep', hL, r'⟩) hok hg
/-- an untracked record of ours (an iterator) has turned -/
theorem Inv.turned {t' : Nat} {it : Addr} (I : Inv X pins σ H s) (k : ∀ b o, b ≠ it → s.heap.get? b = some o → h'.get? b = some o) (hn : H it = none) (hL : it ≠ X.env.locals)
    (h1 : it ∈ X.ex ∨ X.s₀.heap.objs.size ≤ it) (h2 : ∀ x c, X.env.cells.lookup x = some c → c ≠ it) (h3 : ∀ p ∈ X.pn ++ pins, p.1 ≠ it) : Inv X pins σ H { s with heap := h', toks := t' } := by
  have nit : ∀ b u, H b = some u → b ≠ it := fun b u e z => by rw [z, hn] at e; cases e
  refine I.step (g' := s.gens) (d' := s.drawn) (ch := [it]) (fun b hb => ?_) (fun b o _ _ hc e _ => k b o (fun z => hc (by simp [z])) e) (fun b o _ _ hc e _ => ⟨o.slots, k b o (fun z => hc (by simp [z])) e⟩) (fun _ _ _ _ n => n)
    (fun b o hc e => ⟨o, k b o (fun z => hc (by simp [z])) e⟩) (fun _ _ e => e) (fun _ _ _ e => e) (fun b ps e => ⟨#[], by rw [e]; simp⟩) (fun m hm => ?_) (fun b u e => ?_) I.bare
  · have e : b = it := by simpa using hb
    subst e
    exact ⟨h1, hL, h2, h3⟩
  · obtain ⟨o, es, ep, ho, r⟩ := hm
    exact ⟨o, es, ep, k _ o (Ne.symm hL) ho, r⟩
  · refine (I.hok b u e).stay (fun c v hc q => k c v ?_ q) (fun _ q => q) fun _ _ q => q
    rcases hc with z | z
    · rw [z]; exact nit b u e
    · exact nit c _ z
theorem Inv.tok (I : Inv X pins σ H s) (t : Nat) : Inv X pins σ H { s with toks := t } := I.un (h' := s.heap) (t' := t) Un.refl I.hok
/-- all objects kept -/
theorem Inv.kept {t' : Nat} (I : Inv X pins σ H s) (k : ∀ b u, s.heap.get? b = some u → h'.get? b = some u) : Inv X pins σ H { s with heap := h', toks := t' } := I.un (Un.kept k) (I.hok.kept k)
/-- a new object laid and tracked -/
theorem Inv.laid {a : Addr} {o : HO} {t' : Nat} (I : Inv X pins σ H s) (k : ∀ b u, s.heap.get? b = some u → h'.get? b = some u) (hp : s.heap.objs.size ≤ a) (new : ObjOk X.prog X.w (upd H a o) h' a o) :
    Inv X pins σ (upd H a o) { s with heap := h', toks := t' } := I.un (Un.laid k hp (I.hok.fresh hp)) (I.hok.laid k hp new)
/-- an object written -/
theorem Inv.write {x e : Addr} {o : HO} {t' : Nat} (I : Inv X pins σ H s) (mu : Mut (H x)) (he : e = x ∨ H e = some (.own x)) (k : ∀ b u, b ≠ e → s.heap.get? b = some u → h'.get? b = some u) (heo : ∃ u, h'.get? e = some u)
    (new : ObjOk X.prog X.w (upd H x o) h' x o) : Inv X pins σ (upd H x o) { s with heap := h', toks := t' } := I.un (Un.write mu he k heo) (I.hok.write mu he k heo new)
/-- forgetting slots, pins -/
theorem Inv.weak {σ' : List (Option V)} (I : Inv X pins σ H s) (hl : σ'.length = σ.length) (w : ∀ (i : Nat) v, σ'[i]? = some (some v) → σ[i]? = some (some v)) : Inv X pins σ' H s :=
  ⟨I.ok, I.os, I.bare, I.base, let ⟨m, hn, hl'⟩ := I.loc; ⟨m, hn, fun i x v e1 e2 e3 => hl' i x v e1 (w i v e2) e3⟩, I.cell, I.free, I.freeC, I.pin, I.hok, hl.trans I.len⟩
theorem Inv.pins_of {pins' : List (Addr × Obj)} (I : Inv X pins σ H s) (h : ∀ p ∈ pins', s.heap.get? p.1 = some p.2 ∧ H p.1 = none ∧ p.1 ≠ X.env.locals ∧ p.1 ∉ X.fs ∧ ∀ v, p.2.data ≠ .cell v) : Inv X pins' σ H s :=
  ⟨I.ok, I.os, I.bare, I.base, I.loc, I.cell, I.free, I.freeC, fun p hp => (List.mem_append.mp hp).elim (fun z => I.pin p (List.mem_append_left _ z)) (h p), I.hok, I.len⟩
theorem nodup_ix {N : List Str} (hN : N.Nodup) {i j : Nat} {x : Str} (a : N[i]? = some x) (b : N[j]? = some x) : i = j := by
  obtain ⟨h1, e1⟩ := List.getElem?_eq_some_iff.mp a
  obtain ⟨h2, e2⟩ := List.getElem?_eq_some_iff.mp b
  exact (List.getElem_inj hN).mp (e1.trans e2.symm)
/-- a name is stored; what changed -/
theorem store_ok2 {M : Model} {A : Around} {E : Value → Shared → Prop} {i : Nat} {x : Str} {v : V} {u : Value} {Q : Unit → Shared → Prop} (I : Inv X pins σ H s) (hN : X.N.Nodup) (hi : X.N[i]? = some x) (hx : Loc X.env.scope x) (r : RelV v u)
    (h : ∀ s', Inv X pins (σ.set i (some v)) H s' → (∃ a, Heap.SameBut a s.heap s'.heap ∧ (a = X.env.locals ∨ X.env.cells.lookup x = some a)) → Q () s') (hf : X.fn x = true ∨ X.env.scope.names.lookup x = some .local := by first | exact .inl rfl | exact .inr rfl | assumption) : wpAny M A (storeName X.env x u) Q E s := by
  obtain ⟨m, hn, hl⟩ := id I.loc
  have hcls : (X.env.scope.kind == .class || (X.env.scope.kind == .module && X.env.locals != X.env.globals)) = false := by rw [I.ok.kind]; rfl
  have hiσ : i < σ.length := by rw [I.len]; exact (List.getElem?_eq_some_iff.mp hi).1
  have cne := I.cne
  have tracked : ∀ {a : Addr} {h' : Heap}, (∃ o, s.heap.get? a = some o ∧ H a = none) → Heap.SameBut a s.heap h' → HOk X.prog X.w H h' := fun {a h'} ha hs b ob e => by
    obtain ⟨_, _, hfree⟩ := ha
    refine (I.hok b ob e).stay (fun c w' hc q => (hs.2 c ?_).trans q) (fun _ q => q) fun _ _ q => q
    rintro rfl
    rcases hc with rfl | hc
    · rw [hfree] at e; cases e
    · rw [hfree] at hc; cases hc
  rcases hx with hk | hk
  · refine wpAny_storeName_local hk hn (fun h' hn' hs => ?_) hcls
    obtain ⟨oL, _, _, hoL, _⟩ := id hn
    refine h _ ⟨I.ok, I.os, I.bare, ⟨fun b o e n hb hx => ?_, fun b o e n hb hx => ?_, I.base.free, fun b o e hx => ?_, I.base.tups, I.base.frzs, I.base.tbls⟩, ⟨_, hn', fun j y v' e1 e2 e3 => ?_⟩, fun y c e => ?_, I.free, I.freeC, fun p hp => ?_, tracked ⟨oL, hoL, I.free⟩ hs, by simpa using I.len⟩ ⟨_, hs, .inl rfl⟩
    · exact (hs.2 b (Nat.ne_of_lt (Nat.lt_of_lt_of_le (Heap.lt_size e) I.ok.above))).trans (I.base.keep b o e n hb hx)
    · obtain ⟨sl, e1⟩ := I.base.slot b o e n hb hx
      exact ⟨sl, (hs.2 b (Nat.ne_of_lt (Nat.lt_of_lt_of_le (Heap.lt_size e) I.ok.above))).trans e1⟩
    · obtain ⟨o', e1⟩ := I.base.there b o e hx
      exact ⟨o', (hs.2 b (Nat.ne_of_lt (Nat.lt_of_lt_of_le (Heap.lt_size e) I.ok.above))).trans e1⟩
    · by_cases hj : j = i
      · subst hj
        rw [hi] at e1; cases e1
        rw [List.getElem?_set_self hiσ] at e2
        cases e2
        exact ⟨u, r, .inl ⟨hk, by simp⟩⟩
      · rw [List.getElem?_set_ne (Ne.symm hj)] at e2
        obtain ⟨u', r', q⟩ := hl j y v' e1 e2 e3
        refine ⟨u', r', ?_⟩
        rcases q with ⟨k, e⟩ | ⟨k, c, e, z⟩
        · refine .inl ⟨k, ?_⟩
          have : y ≠ x := fun e => hj (nodup_ix hN e1 (e ▸ hi))
          simp [this, e]
        · exact .inr ⟨k, c, e, z.sameBut hs (cne y c e)⟩
    · obtain ⟨w', z⟩ := I.cell y c e
      exact ⟨w', z.sameBut hs (cne y c e)⟩
    · obtain ⟨e, n, ne, nf, d⟩ := I.pin p hp
      exact ⟨(hs.2 p.1 ne).trans e, n, ne, nf, d⟩
  · have hfn : X.fn x = true := by
      rcases hf with z | z
      · exact z
      · rw [z] at hk; cases hk
    obtain ⟨c, hc⟩ := I.ok.has x (.inl hk)
    obtain ⟨w', z⟩ := I.cell x c hc
    refine wpAny_storeName_cell I.ok.kind hk hc z (fun h' hc' hs => ?_)
    obtain ⟨oc, hoc, hocd⟩ := id z
    refine h { s with heap := h' } ⟨I.ok, I.os, I.bare, ⟨fun b o e n hb hx => ?_, fun b o e n hb hx => ?_, I.base.free, fun b o e hx => ?_, I.base.tups, I.base.frzs, I.base.tbls⟩, ⟨m, hn.sameBut hs (Ne.symm (cne x c hc)), fun j y v' e1 e2 e3 => ?_⟩, fun y c' e => ?_, I.free, I.freeC, fun p hp => ?_, tracked ⟨oc, hoc, I.freeC x c hc⟩ hs, by simpa using I.len⟩ ⟨c, hs, .inr hc⟩
    · exact (hs.2 b (Nat.ne_of_lt (Nat.lt_of_lt_of_le (Heap.lt_size e) (I.ok.cab x c hfn hc)))).trans (I.base.keep b o e n hb hx)
    · obtain ⟨sl, e1⟩ := I.base.slot b o e n hb hx
      exact ⟨sl, (hs.2 b (Nat.ne_of_lt (Nat.lt_of_lt_of_le (Heap.lt_size e) (I.ok.cab x c hfn hc)))).trans e1⟩
    · obtain ⟨o', e1⟩ := I.base.there b o e hx
      exact ⟨o', (hs.2 b (Nat.ne_of_lt (Nat.lt_of_lt_of_le (Heap.lt_size e) (I.ok.cab x c hfn hc)))).trans e1⟩
    · by_cases hj : j = i
      · subst hj
        rw [hi] at e1; cases e1
        rw [List.getElem?_set_self hiσ] at e2
        cases e2
        exact ⟨u, r, .inr ⟨.inl hk, c, hc, hc'⟩⟩
      · rw [List.getElem?_set_ne (Ne.symm hj)] at e2
        obtain ⟨u', r', q⟩ := hl j y v' e1 e2 e3
        refine ⟨u', r', ?_⟩
        rcases q with q | ⟨k, c', e, z'⟩
        · exact .inl q
        · refine .inr ⟨k, c', e, z'.sameBut hs ?_⟩
          rintro rfl
          exact hj (nodup_ix hN e1 (I.ok.inj _ _ _ e hc ▸ hi))
    · by_cases hcc : c' = c
      · subst hcc; exact ⟨_, hc'⟩
      · obtain ⟨w2, z2⟩ := I.cell y c' e
        exact ⟨w2, z2.sameBut hs hcc⟩
    · obtain ⟨e, n, ne, nf, d⟩ := I.pin p hp
      refine ⟨(hs.2 p.1 ?_).trans e, n, ne, nf, d⟩
      intro q
      rw [q, hoc] at e
      have q' : oc = p.2 := Option.some.inj e
      exact d w' (by rw [← q']; exact hocd)
theorem store_ok {M : Model} {A : Around} {E : Value → Shared → Prop} {i : Nat} {x : Str} {v : V} {u : Value} {Q : Unit → Shared → Prop} (I : Inv X pins σ H s) (hN : X.N.Nodup) (hi : X.N[i]? = some x) (hx : Loc X.env.scope x) (r : RelV v u)
    (h : ∀ s', Inv X pins (σ.set i (some v)) H s' → Q () s') (hf : X.fn x = true ∨ X.env.scope.names.lookup x = some .local := by first | exact .inl rfl | exact .inr rfl | assumption) : wpAny M A (storeName X.env x u) Q E s :=
  store_ok2 I hN hi hx r (fun s' I' _ => h s' I') hf
/-- behind a call or a block, the state as it is -/
theorem Inv.call' {s' : Shared} {ch : List Addr} (I : Inv X pins σ H s) (ho : s'.os = s.os) (u : Un (frs X.stack) ch H H' s.heap s'.heap) (hok : HOk X.prog X.w H' s'.heap) (hg : AllBare s'.gens)
    (hch : ∀ b ∈ ch, (b ∈ X.ex ∨ X.s₀.heap.objs.size ≤ b) ∧ b ≠ X.env.locals ∧ (∀ x c, X.env.cells.lookup x = some c → c ≠ b) ∧ ∀ p ∈ X.pn ++ pins, p.1 ≠ b) : Inv X pins σ H' s' := by
  obtain ⟨h', g', d', t', o'⟩ := s'
  have e : o' = s.os := ho
  subst e
  exact I.call (g' := g') (t' := t') (d' := d') u hok hg hch
end
/-! ### the judgements -/
/-- an exception: its class, its own dict's address (where it has one), the abstract heap behind it -/
abbrev XK := Value → Option Addr → Hp → Prop
abbrev St := List (Option V)
abbrev VK := V → Hp → Prop
/-- an expression's reading; a test's; an argument list's -/
abbrev TE := St → Hp → VK → Prop
abbrev TT := St → Hp → (Bool → Hp → Prop) → Prop
abbrev TA := St → Hp → (List V → Hp → Prop) → Prop
/-- what is wanted behind a statement -/
structure Ends where
  nx : St → Hp → Prop
  rt : VK
  bk : St → Hp → Prop := fun _ _ => False
  ct : St → Hp → Prop := fun _ _ => False
abbrev TS := Ends → St → Hp → Prop
def EP (X : Cx) (pins : List (Addr × Obj)) (σ : St) (Q : VK) (u : Value) (s' : Shared) : Prop := ∃ v H', Inv X pins σ H' s' ∧ RelV v u ∧ Q v H'
def TP (X : Cx) (pins : List (Addr × Obj)) (σ : St) (Q : Bool → Hp → Prop) (b : Bool) (s' : Shared) : Prop := ∃ H', Inv X pins σ H' s' ∧ Q b H'
def AP (X : Cx) (pins : List (Addr × Obj)) (σ : St) (Q : List V → Hp → Prop) (us : List Value) (s' : Shared) : Prop := ∃ vs H', Inv X pins σ H' s' ∧ Vals vs us ∧ Q vs H'
def SP (X : Cx) (pins : List (Addr × Obj)) (D : Ends) (f : Flow) (s' : Shared) : Prop :=
  match f with
  | .next => ∃ σ' H', Inv X pins σ' H' s' ∧ D.nx σ' H'
  | .brk => ∃ σ' H', Inv X pins σ' H' s' ∧ D.bk σ' H'
  | .cont => ∃ σ' H', Inv X pins σ' H' s' ∧ D.ct σ' H'
  | .ret u => ∃ v σ' H', Inv X pins σ' H' s' ∧ RelV v u ∧ D.rt v H'
def PE (X : Cx) (e : Expr) (t : TE) : Prop :=
  ∀ (pins : List (Addr × Obj)) (s : Shared) (σ : St) (H : Hp) (Q : VK), Inv X pins σ H s → t σ H Q → wpAny (model X.prog X.w) X.A (eval e X.env) (EP X pins σ Q) X.xe s
def PT (X : Cx) (e : Expr) (t : TT) : Prop :=
  ∀ (pins : List (Addr × Obj)) (s : Shared) (σ : St) (H : Hp) (Q : Bool → Hp → Prop), Inv X pins σ H s → t σ H Q → wpAny (model X.prog X.w) X.A (isTrue e X.env (eval e X.env)) (TP X pins σ Q) X.xe s
/-- a test whatever its 'whole' is (and, or) -/
def PW (X : Cx) (e : Expr) (t : TT) : Prop :=
  ∀ (whole : Sem Value) (pins : List (Addr × Obj)) (s : Shared) (σ : St) (H : Hp) (Q : Bool → Hp → Prop), Inv X pins σ H s → t σ H Q → wpAny (model X.prog X.w) X.A (isTrue e X.env whole) (TP X pins σ Q) X.xe s
theorem PW.pt {X : Cx} {e : Expr} {t : TT} (h : PW X e t) : PT X e t := h _
/-- an argument list (no star), from the left -/
def PA (X : Cx) (es : List Expr) (t : TA) : Prop :=
  ∀ (pos : Pos) (pins : List (Addr × Obj)) (s : Shared) (σ : St) (H : Hp) (Q : List V → Hp → Prop), Inv X pins σ H s → t σ H Q → wpAny (model X.prog X.w) X.A (spliced (backTo pos (starEach es X.env))) (AP X pins σ Q) X.xe s
def PS (X : Cx) (st : Stmt) (t : TS) : Prop :=
  ∀ (pins : List (Addr × Obj)) (s : Shared) (σ : St) (H : Hp) (D : Ends), Inv X pins σ H s → t D σ H → wpAny (model X.prog X.w) X.A (exec st X.env) (SP X pins D) X.xe s
def PSs (X : Cx) (st : List Stmt) (t : TS) : Prop :=
  ∀ (pins : List (Addr × Obj)) (s : Shared) (σ : St) (H : Hp) (D : Ends), Inv X pins σ H s → t D σ H → wpAny (model X.prog X.w) X.A (execs st X.env) (SP X pins D) X.xe s
/-- weaken the end -/
theorem thn {α : Type} {t : Sem α} {Q Q' : α → Shared → Prop} {M : Model} {A : Around} {E : Value → Shared → Prop} {s : Shared} (h : wpAny M A t Q E s) (hQ : ∀ a s, Q a s → Q' a s) : wpAny M A t Q' E s := wpAny_mono h hQ fun _ _ x => x
end L2
namespace L2
open PySem PySem.Spec PyProof.Rows
section
variable {X : Cx}
/-! ### names and constants -/
def tVar (i : Nat) : TE := fun σ H Q => ∃ v, σ[i]? = some (some v) ∧ Q v H
def tC (v : V) : TE := fun _ H Q => Q v H
theorem pe_var {i : Nat} {x : Str} {pos : Pos} (hN : X.N[i]? = some x) (hv : Vis X.env.scope x) (hd : (x == ("__debug__" : Str)) = false := by decide) (hcd : (x == ("__classdict__" : Str)) = false := by decide) : PE X (.Name x pos) (tVar i) := by
  intro pins s σ H Q I h
  obtain ⟨v, e, h⟩ := h
  obtain ⟨m, hn, hl⟩ := I.loc
  obtain ⟨u, r, l⟩ := hl i x v hN e hv
  have fin : EP X pins σ Q u s := ⟨v, H, I, r, h⟩
  rcases l with ⟨hk, hm⟩ | ⟨hk, c, hc, hcell⟩
  · exact wpAny_Name (wpAny_loadName_local I.ok.kind hk hn hm fin) hd
  · rcases hk with hk | hk
    · exact wpAny_Name (wpAny_loadName_cell I.ok.kind hk hc hcell fin) hd
    · exact wpAny_Name (wpAny_loadName_free I.ok.kind hk hc hcell fin hcd) hd
theorem pe_int {i j pos} : PE X (.Constant (.int i) j pos) (tC (.int i)) := fun _ _ _ H _ I h => wpAny_Constant_int ⟨.int i, H, I.tok _, ⟨_, rfl⟩, h⟩
theorem pe_bl {b j pos} : PE X (.Constant (.bool b) j pos) (tC (.bl b)) := fun _ _ _ H _ I h => Constant_bool ⟨.bl b, H, I, rfl, h⟩
theorem pe_non {j pos} : PE X (.Constant .none j pos) (tC .non) := fun _ _ _ H _ I h => Constant_none ⟨.non, H, I, rfl, h⟩
/-- a global name of the def -/
def Gl (X : Cx) (x : Str) : Prop := X.env.kindOf x = some .globalImplicit
theorem ld_glob {E : Value → Shared → Prop} {pins : List (Addr × Obj)} {s : Shared} {σ : St} {H : Hp} {x : Str} {u : Value} {pos : Pos} {Q : Value → Shared → Prop} (I : Inv X pins σ H s) (hg : Gl X x) (hm : X.mg x = some u) (h : Q u s)
    (hd : (x == ("__debug__" : Str)) = false := by decide) : wpAny (model X.prog X.w) X.A (eval (.Name x pos) X.env) Q E s :=
  Calls.Name_function_global I.ok.kind hg (Calls.loadGlobal_global (by rw [I.ok.glob]; exact I.mod.glob.keeps I.bk) hm h) hd
theorem ld_blt {E : Value → Shared → Prop} {pins : List (Addr × Obj)} {s : Shared} {σ : St} {H : Hp} {x : Str} {u : Value} {pos : Pos} {Q : Value → Shared → Prop} (I : Inv X pins σ H s) (hg : Gl X x) (hm : X.mg x = none) (hv : bootBuiltins x = some u) (h : Q u s)
    (hn : x ≠ "__name__" := by decide) (hd : (x == ("__debug__" : Str)) = false := by decide) : wpAny (model X.prog X.w) X.A (eval (.Name x pos) X.env) Q E s := by
  obtain ⟨mb, h1, h2⟩ := I.mod.blt
  exact Calls.Name_function_global I.ok.kind hg (Calls.loadGlobal_builtin (by rw [I.ok.glob]; exact I.mod.glob.keeps I.bk) hm (by rw [I.ok.blt]; exact h1.keeps I.bk) ((h2 x hn).trans hv) h) hd
theorem pe_bltn {x : Str} {v : V} {u : Value} {pos : Pos} (hg : Gl X x) (hm : X.mg x = none) (hv : bootBuiltins x = some u) (r : RelV v u) (hn : x ≠ "__name__" := by decide) (hd : (x == ("__debug__" : Str)) = false := by decide) : PE X (.Name x pos) (tC v) :=
  fun _ _ _ H _ I h => ld_blt I hg hm hv ⟨v, H, I, r, h⟩ hn hd
/-! ### arithmetic -/
variable {a b : Expr} {ta tb : TE} {pos : Pos}
/-! ### comparisons -/
/-- a comparison as a value, as a test -/
def tB (t : TE) : TT := fun σ H Q => t σ H fun x H1 => ∃ c, x = .bl c ∧ Q c H1
/-- an expression whose value is a bool, as a test -/
theorem pt_val {e : Expr} {t : TE} (h : PE X e t) (he : ∀ whole, isTrue e X.env whole = (do let v ← whole; standAt e.pos; holding [v] (truthy v)) := by intro _; rfl) : PT X e (tB t) := by
  intro pins s σ H Q I hw
  refine isTrue_plain (thn (h pins s σ H _ I hw) fun v s1 ⟨x, H1, I1, r1, q1⟩ => ?_) (he _)
  obtain ⟨d, rfl, q⟩ := q1
  cases r1
  exact wpAny_truthy_bool ⟨H1, I1, q⟩
/-! ### and, or, not -/
variable {tA tB' : TT} {rest : List Expr}
def tAnd (t u : TT) : TT := fun σ H Q => t σ H fun c H1 => if c = true then u σ H1 Q else Q false H1
def tOr (t u : TT) : TT := fun σ H Q => t σ H fun c H1 => if c = true then Q true H1 else u σ H1 Q
def tNot (t : TT) : TT := fun σ H Q => t σ H fun c H1 => Q (!c) H1
theorem pw_and1 (ha : PT X a tA) : PW X (.BoolOp .And [a] pos) tA := by
  intro wh pins s σ H Q I h
  refine isTrue_and (thn (ha pins s σ H Q I h) fun c s1 e => ?_)
  cases c with
  | true => exact isTrue_and_nil e
  | false => exact e
theorem pw_or1 (ha : PT X a tA) : PW X (.BoolOp .Or [a] pos) tA := by
  intro wh pins s σ H Q I h
  refine isTrue_or (thn (ha pins s σ H Q I h) fun c s1 e => ?_)
  cases c with
  | false => exact isTrue_or_nil e
  | true => exact e
theorem pw_and (ha : PT X a tA) (hb : PW X (.BoolOp .And (b :: rest) pos) tB') : PW X (.BoolOp .And (a :: b :: rest) pos) (tAnd tA tB') := by
  intro wh pins s σ H Q I h
  refine isTrue_and (thn (ha pins s σ H _ I h) fun c s1 ⟨H1, I1, q1⟩ => ?_)
  cases c with
  | true => exact hb wh pins s1 σ H1 Q I1 q1
  | false => exact ⟨H1, I1, q1⟩
theorem pw_or (ha : PT X a tA) (hb : PW X (.BoolOp .Or (b :: rest) pos) tB') : PW X (.BoolOp .Or (a :: b :: rest) pos) (tOr tA tB') := by
  intro wh pins s σ H Q I h
  refine isTrue_or (thn (ha pins s σ H _ I h) fun c s1 ⟨H1, I1, q1⟩ => ?_)
  cases c with
  | true => exact ⟨H1, I1, q1⟩
  | false => exact hb wh pins s1 σ H1 Q I1 q1
theorem pt_not (ha : PT X a tA) : PT X (.UnaryOp .Not a pos) (tNot tA) := by
  intro pins s σ H Q I h
  exact isTrue_not (ha pins s σ H (fun c H1 => Q (!c) H1) I h)
/-- .. as values (bools) -/
def tAndV (ta tb : TE) : TE := fun σ H Q => ta σ H fun x H1 => ∃ c, x = .bl c ∧ if c = true then tb σ H1 Q else Q (.bl false) H1
def tNotV (ta : TE) : TE := fun σ H Q => ta σ H fun x H1 => ∃ c, x = .bl c ∧ Q (.bl (!c)) H1
theorem pe_one {op} {t : TE} (h : PE X a t) : PE X (.BoolOp op [a] pos) t := fun pins s σ H Q I hw => BoolOp_one (h pins s σ H Q I hw)
theorem pe_and (ha : PE X a ta) (hb : PE X (.BoolOp .And (b :: rest) pos) tb) : PE X (.BoolOp .And (a :: b :: rest) pos) (tAndV ta tb) := by
  intro pins s σ H Q I h
  refine BoolOp_and (thn (ha pins s σ H _ I h) fun v s1 ⟨x, H1, I1, r1, q1⟩ => ?_)
  obtain ⟨c, rfl, q1⟩ := q1
  cases r1
  refine wpAny_truthy_bool ?_
  cases c with
  | true => exact hb pins s1 σ H1 Q I1 q1
  | false => exact ⟨.bl false, H1, I1, rfl, q1⟩
theorem pe_not (ha : PE X a ta) : PE X (.UnaryOp .Not a pos) (tNotV ta) := by
  intro pins s σ H Q I h
  refine UnaryOp_ (thn (ha pins s σ H _ I h) fun v s1 ⟨x, H1, I1, r1, q1⟩ => ?_)
  obtain ⟨c, rfl, q1⟩ := q1
  cases r1
  exact not_of (wpAny_truthy_bool ⟨.bl (!c), H1, I1, rfl, q1⟩)
/-- a if t else b -/
def tIf (t : TT) (ta tb : TE) : TE := fun σ H Q => t σ H fun c H1 => if c = true then ta σ H1 Q else tb σ H1 Q
theorem pe_ifExp {c : Expr} (hc : PT X c tA) (ha : PE X a ta) (hb : PE X b tb) : PE X (.IfExp c a b pos) (tIf tA ta tb) := by
  intro pins s σ H Q I h
  refine wpAny_IfExp (thn (hc pins s σ H _ I h) fun d s1 ⟨H1, I1, q1⟩ => ?_)
  cases d with
  | true => exact ha pins s1 σ H1 Q I1 q1
  | false => exact hb pins s1 σ H1 Q I1 q1
end
end L2
namespace L2
open PySem PySem.Spec PyProof.Rows
/-! ### a list, a tuple that is read: tracked, frozen, or an object of the module -/
def SqL (K : PySem.W.Frag) (H : Hp) (a : Addr) (xs : List V) : Prop :=
  Rd H a (.lst xs) ∨
    ∃ (o : Obj) (its : Array Value) (n : Nat), K.lookup a = some o ∧ o.cls = .type "list" ∧ o.dict = none ∧ o.data = .seq its n ∧ its.size ≤ sizeLine ∧ Vals xs its.toList
def SqT (K : PySem.W.Frag) (H : Hp) (a : Addr) (xs : List V) : Prop :=
  Rd H a (.tup xs) ∨
    ∃ (o : Obj) (its : Array Value) (n : Nat), K.lookup a = some o ∧ o.cls = .type "tuple" ∧ o.data = .seq its n ∧ its.size ≤ sizeLine ∧ Vals xs its.toList
def absV : Value → Option V
  | .none => some .non
  | .bool b => some (.bl b)
  | .int i _ => some (.int i)
  | .str x _ => some (.str x)
  | .bytes b _ => some (.byt b)
  | .float b _ => some (.flt b)
  | .ref a => some (.ref a)
  | .type n => some (.ty n)
  | _ => none
theorem RelV.abs {x : V} {u : Value} (r : RelV x u) : absV u = some x := by
  cases x with
  | non => cases r; rfl
  | bl _ => cases r; rfl
  | int _ => obtain ⟨t, rfl⟩ := r; rfl
  | str _ => obtain ⟨t, rfl⟩ := r; rfl
  | byt _ => obtain ⟨t, rfl⟩ := r; rfl
  | flt _ => obtain ⟨t, rfl⟩ := r; rfl
  | ref _ => cases r; rfl
  | ty _ => cases r; rfl
theorem RelV.inj {x y : V} {u : Value} (r : RelV x u) (q : RelV y u) : x = y := Option.some.inj (r.abs.symm.trans q.abs)
theorem Vals.inj : ∀ {xs ys : List V} {us : List Value}, Vals xs us → Vals ys us → xs = ys
  | _, _, _, .nil, .nil => rfl
  | _, _, _, .cons r t, .cons r' t' => by rw [r.inj r', Vals.inj t t']
section
variable {X : Cx} {pins : List (Addr × Obj)} {σ : St} {H : Hp} {s : Shared} {a : Addr} {xs ys : List V}
theorem SqL.of {K : PySem.W.Frag} (h : H a = some (.lst xs)) : SqL K H a xs := .inl (.inl h)
theorem SqT.of {K : PySem.W.Frag} (h : H a = some (.tup xs)) : SqT K H a xs := .inl (.inl h)
theorem Inv.list (I : Inv X pins σ H s) (h : SqL X.K H a xs) : ∃ its : List Value, Vals xs its ∧ PlainL s.heap a its.toArray ∧ xs.length ≤ sizeLine := by
  rcases h with h | ⟨o, its, n, hk, hc, hd, hs, hz, r⟩
  · obtain ⟨z, its, n, r, e⟩ := h.ok I.hok
    exact ⟨its, r, ⟨_, n, e, rfl, rfl, rfl⟩, z⟩
  · refine ⟨its.toList, r, ⟨o, n, I.kIn a o hk, hc, hd, by simpa using hs⟩, ?_⟩
    have e := r.length
    simp only [Array.length_toList] at e
    omega
theorem Inv.tuple (I : Inv X pins σ H s) (h : SqT X.K H a xs) : ∃ its : List Value, Vals xs its ∧ IsTup s.heap a its.toArray ∧ xs.length ≤ sizeLine := by
  rcases h with h | ⟨o, its, n, hk, hc, hs, hz, r⟩
  · obtain ⟨z, its, r, p⟩ := h.ok I.hok
    exact ⟨its, r, p, z⟩
  · refine ⟨its.toList, r, ⟨o, I.kIn a o hk, hc, n, by simpa using hs⟩, ?_⟩
    have e := r.length
    simp only [Array.length_toList] at e
    omega
theorem Inv.list_inj (I : Inv X pins σ H s) (h : SqL X.K H a xs) (h' : SqL X.K H a ys) : xs = ys := by
  obtain ⟨its, r, ⟨o, n, e, _, _, d⟩, _⟩ := I.list h
  obtain ⟨its', r', ⟨o', n', e', _, _, d'⟩, _⟩ := I.list h'
  rw [e] at e'; cases e'
  rw [d] at d'
  injection d' with d1 _
  have : its = its' := by simpa using congrArg Array.toList d1
  subst this
  exact r.inj r'
theorem Inv.tuple_inj (I : Inv X pins σ H s) (h : SqT X.K H a xs) (h' : SqT X.K H a ys) : xs = ys := by
  obtain ⟨its, r, ⟨o, e, _, n, d⟩, _⟩ := I.tuple h
  obtain ⟨its', r', ⟨o', e', _, n', d'⟩, _⟩ := I.tuple h'
  rw [e] at e'; cases e'
  rw [d] at d'
  injection d' with d1 _
  have : its = its' := by simpa using congrArg Array.toList d1
  subst this
  exact r.inj r'
end
/-! ### another wish about exceptions -/
abbrev Cx.wish (X : Cx) (E : Value → Shared → Prop) : Cx := { X with xe := E }
/-- no exception leaves -/
abbrev Cx.nox (X : Cx) : Cx := X.wish fun _ _ => False
theorem Cx.Ok.wish {X : Cx} (ok : X.Ok) (E : Value → Shared → Prop) : (X.wish E).Ok :=
  ⟨ok.mod, ok.kind, ok.glob, ok.blt, ok.above, ok.inj, ok.has, ok.cab, ok.hd, ok.frames, ok.stk, ok.exf, ok.bs, ok.bsz, ok.noex, ok.exfs, ok.funs, ok.frf⟩
theorem Cx.Ok.unwish {X : Cx} {E : Value → Shared → Prop} (ok : (X.wish E).Ok) : X.Ok :=
  ⟨ok.mod, ok.kind, ok.glob, ok.blt, ok.above, ok.inj, ok.has, ok.cab, ok.hd, ok.frames, ok.stk, ok.exf, ok.bs, ok.bsz, ok.noex, ok.exfs, ok.funs, ok.frf⟩
section
variable {X : Cx} {pins : List (Addr × Obj)} {σ : St} {H : Hp} {s : Shared} {E : Value → Shared → Prop}
theorem Inv.wish (I : Inv X pins σ H s) (E : Value → Shared → Prop) : Inv (X.wish E) pins σ H s := ⟨I.ok.wish E, I.os, I.bare, I.base, I.loc, I.cell, I.free, I.freeC, I.pin, I.hok, I.len⟩
theorem Inv.unwish (I : Inv (X.wish E) pins σ H s) : Inv X pins σ H s := ⟨I.ok.unwish, I.os, I.bare, I.base, I.loc, I.cell, I.free, I.freeC, I.pin, I.hok, I.len⟩
theorem SP.unwish {D : Ends} {f : Flow} {s' : Shared} (h : SP (X.wish E) pins D f s') : SP X pins D f s' := by
  cases f with
  | next => obtain ⟨σ', H', I, q⟩ := h; exact ⟨σ', H', I.unwish, q⟩
  | brk => obtain ⟨σ', H', I, q⟩ := h; exact ⟨σ', H', I.unwish, q⟩
  | cont => obtain ⟨σ', H', I, q⟩ := h; exact ⟨σ', H', I.unwish, q⟩
  | ret u => obtain ⟨v, σ', H', I, r, q⟩ := h; exact ⟨v, σ', H', I.unwish, r, q⟩
theorem PE.nox {e : Expr} {t : TE} (h : PE X.nox e t) : PE X e t := fun pins s σ H Q I hw =>
  wpAny_mono (h pins s σ H Q (I.wish _) hw) (fun _ _ ⟨v, H', I', r, q⟩ => ⟨v, H', I'.unwish, r, q⟩) fun _ _ z => False.elim z
theorem PT.nox {e : Expr} {t : TT} (h : PT X.nox e t) : PT X e t := fun pins s σ H Q I hw =>
  wpAny_mono (h pins s σ H Q (I.wish _) hw) (fun _ _ ⟨H', I', q⟩ => ⟨H', I'.unwish, q⟩) fun _ _ z => False.elim z
theorem PSs.nox {st : List Stmt} {t : TS} (h : PSs X.nox st t) : PSs X st t := fun pins s σ H D I hw =>
  wpAny_mono (h pins s σ H D (I.wish _) hw) (fun _ _ q => q.unwish) fun _ _ z => False.elim z
end
/-! ### blocks and small statements -/
section
variable {X : Cx} {st : Stmt} {rest : List Stmt} {t u : TS} {e : Expr} {te : TE} {pos : Pos}
def tNext : TS := fun D σ H => D.nx σ H
def tSeq (t u : TS) : TS := fun D σ H => t { D with nx := u D } σ H
theorem pss_nil : PSs X [] tNext := fun _ _ σ H _ I h => wpAny_execs_nil ⟨σ, H, I, h⟩
theorem pss_cons (h1 : PS X st t) (h2 : PSs X rest u) : PSs X (st :: rest) (tSeq t u) := by
  intro pins s σ H D I h
  refine wpAny_execs_cons (thn (h1 pins s σ H { D with nx := u D } I h) fun f s1 q => ?_)
  cases f with
  | next =>
    obtain ⟨σ', H', I', q⟩ := q
    exact h2 pins s1 σ' H' D I' q
  | ret v => exact q
  | brk => exact q
  | cont => exact q
theorem pss_one (h1 : PS X st t) : PSs X [st] t := by
  intro pins s σ H D I h
  refine wpAny_execs_cons (thn (h1 pins s σ H D I h) fun f s1 q => ?_)
  cases f with
  | next => exact wpAny_execs_nil q
  | ret v => exact q
  | brk => exact q
  | cont => exact q
/-- in a def's body nothing is shown -/
theorem Inv.quiet {pins : List (Addr × Obj)} {σ : St} {H : Hp} {s : Shared} (I : Inv X pins σ H s) : interactive X.env = false := by simp [interactive, I.ok.kind]
/-- an expression whose value is dropped -/
def tDrop (te : TE) : TS := fun D σ H => te σ H fun _ H1 => D.nx σ H1
theorem ps_expr (he : PE X e te) (hs : swapsWith e none pos.line X.env = pure false := by rfl) : PS X (.Expr e pos) (tDrop te) := by
  intro pins s σ H D I h
  exact wpAny_Expr_any (thn (he pins s σ H _ I h) fun v s1 ⟨x, H1, I1, r1, q1⟩ => ⟨σ, H1, I1, q1⟩) I.quiet hs
def tRet (te : TE) : TS := fun D σ H => te σ H D.rt
theorem ps_ret (he : PE X e te) : PS X (.Return (some e) pos) (tRet te) := by
  intro pins s σ H D I h
  exact wpAny_Return_some (thn (he pins s σ H _ I h) fun v s1 ⟨x, H1, I1, r1, q1⟩ => ⟨x, σ, H1, I1, r1, q1⟩)
def tIfS (c : TT) (t u : TS) : TS := fun D σ H => c σ H fun b H1 => if b = true then t D σ H1 else u D σ H1
theorem ps_if {c : Expr} {a b : List Stmt} {tc : TT} (hc : PT X c tc) (ha : PSs X a t) (hb : PSs X b u) : PS X (.If c a b pos) (tIfS tc t u) := by
  intro pins s σ H D I h
  refine wpAny_If (thn (hc pins s σ H _ I h) fun d s1 ⟨H1, I1, q1⟩ => ?_)
  cases d with
  | true => exact ha pins s1 σ H1 D I1 q1
  | false => exact hb pins s1 σ H1 D I1 q1
end
/-! ### targets -/
abbrev TG := V → St → Hp → (St → Hp → Prop) → Prop
abbrev TGs := List V → St → Hp → (St → Hp → Prop) → Prop
def PG (X : Cx) (target : Expr) (t : TG) : Prop :=
  ∀ (pins : List (Addr × Obj)) (s : Shared) (σ : St) (H : Hp) (v : V) (u : Value) (Q : St → Hp → Prop), Inv X pins σ H s → RelV v u → t v σ H Q →
    wpAny (model X.prog X.w) X.A (assign target X.env u) (fun _ s' => ∃ σ' H', Inv X pins σ' H' s' ∧ Q σ' H') X.xe s
/-- several targets, one after another -/
def PGs (X : Cx) (ts : List Expr) (t : TGs) : Prop :=
  ∀ (pins : List (Addr × Obj)) (s : Shared) (σ : St) (H : Hp) (vs : List V) (us : List Value) (Q : St → Hp → Prop), Inv X pins σ H s → Vals vs us → t vs σ H Q →
    wpAny (model X.prog X.w) X.A (assignInOrder ((assignEach ts X.env).map (·.2)) us) (fun _ s' => ∃ σ' H', Inv X pins σ' H' s' ∧ Q σ' H') X.xe s
/-- o[i] = v, by values -/
abbrev TSet := V → V → V → Hp → (Hp → Prop) → Prop
def PSet (X : Cx) (t : TSet) : Prop :=
  ∀ (pins : List (Addr × Obj)) (s : Shared) (σ : St) (H : Hp) (o i v : V) (ov iv u : Value) (Q : Hp → Prop), Inv X pins σ H s → RelV o ov → RelV i iv → RelV v u → t o i v H Q →
    wpAny (model X.prog X.w) X.A (setItem ov iv u) (fun _ s' => ∃ H', Inv X pins σ H' s' ∧ Q H') X.xe s
section
variable {X : Cx} {pos : Pos}
def gName (i : Nat) : TG := fun v σ H Q => Q (σ.set i (some v)) H
theorem pg_name {i : Nat} {x : Str} (hN : X.N.Nodup) (hi : X.N[i]? = some x) (hx : Loc X.env.scope x) (hf : X.fn x = true ∨ X.env.scope.names.lookup x = some .local := by first | exact .inl rfl | exact .inr rfl | assumption) : PG X (.Name x pos) (gName i) := by
  intro pins s σ H v u Q I r h
  exact wpAny_assign_Name (store_ok I hN hi hx r (fun s' I' => ⟨_, H, I', h⟩) hf)
def gNil : TGs := fun vs σ H Q => vs = [] ∧ Q σ H
def gCons (t : TG) (u : TGs) : TGs := fun vs σ H Q => ∃ v r, vs = v :: r ∧ t v σ H fun σ' H' => u r σ' H' Q
theorem pgs_nil : PGs X [] gNil := by
  intro pins s σ H vs us Q I r h
  obtain ⟨e, h⟩ := h
  subst e
  cases r
  exact assignInOrder_nil ⟨σ, H, I, h⟩
theorem pgs_cons {e : Expr} {es : List Expr} {t : TG} {u : TGs} (h1 : PG X e t) (h2 : PGs X es u)
    (hs : (assignEach (e :: es) X.env).map (·.2) = assign e X.env :: (assignEach es X.env).map (·.2) := by rfl) : PGs X (e :: es) (gCons t u) := by
  intro pins s σ H vs us Q I r h
  obtain ⟨v, vr, e1, h⟩ := h
  subst e1
  cases r with
  | cons r rr =>
    rw [hs]
    refine assignInOrder_cons (thn (h1 pins s σ H _ _ _ I r h) fun _ s1 ⟨σ1, H1, I1, q1⟩ => ?_)
    exact h2 pins s1 σ1 H1 _ _ Q I1 rr q1
/-- o[i] = .. -/
def gSub (to ti : TE) (t : TSet) : TG := fun v σ H Q => to σ H fun o H1 => ti σ H1 fun i H2 => t o i v H2 fun H3 => Q σ H3
theorem pg_sub {o i : Expr} {to ti : TE} {t : TSet} (ho : PE X o to) (hi : PE X i ti) (hs : PSet X t)
    (ha : ∀ v, assign (.Subscript o i pos) X.env v = (do
      let ov ← holding [v] (eval o X.env)
      let iv ← holding [v, ov] (eval i X.env)
      standAt pos
      holding [v, ov, iv] (setItem ov iv v)
      release [v, ov, iv] []) := by intro _; rfl) : PG X (.Subscript o i pos) (gSub to ti t) := by
  intro pins s σ H v u Q I r h
  rw [ha]
  refine wpAny_bind (wpAny_holding (thn (ho pins s σ H _ I h) fun ov s1 ⟨x, H1, I1, r1, q1⟩ => ?_))
  refine wpAny_bind (wpAny_holding (thn (hi pins s1 σ H1 _ I1 q1) fun iv s2 ⟨y, H2, I2, r2, q2⟩ => ?_))
  refine wpAny_bind (wpAny_standAt (wpAny_bind (wpAny_holding (thn (hs pins s2 σ H2 x y v ov iv u _ I2 r1 r2 r q2) fun _ s3 ⟨H3, I3, q3⟩ => ?_))))
  exact wpAny_release ⟨σ, H3, I3, q3⟩
/-- target = value -/
def tAsg (te : TE) (g : TG) : TS := fun D σ H => te σ H fun x H1 => g x σ H1 D.nx
theorem ps_asg {tg e : Expr} {te : TE} {g : TG} (he : PE X e te) (hg : PG X tg g) (hs : swapsWithSole [tg] e pos.line X.env = pure false := by rfl) (hw : swappedStores [tg] e X.env = pure none := by rfl)
    (h1 : (assignEach [tg] X.env).map (·.2) = [assign tg X.env] := by rfl) : PS X (.Assign [tg] e pos) (tAsg te g) := by
  intro pins s σ H D I h
  refine wpAny_Assign_stores (thn (he pins s σ H _ I h) fun v s1 ⟨x, H1, I1, r1, q1⟩ => ?_) hs hw
  rw [h1]
  exact thn (hg pins s1 σ H1 x v _ I1 r1 q1) fun _ s2 q => q
/-- name = value -/
theorem ps_set {i : Nat} {x : Str} {e : Expr} {te : TE} {pos' : Pos} (hN : X.N.Nodup) (hi : X.N[i]? = some x) (hx : Loc X.env.scope x) (he : PE X e te) (hs : swapsWith e (some (.Name x pos')) pos.line X.env = pure false := by rfl) (hf : X.fn x = true ∨ X.env.scope.names.lookup x = some .local := by first | exact .inl rfl | exact .inr rfl | assumption) :
    PS X (.Assign [.Name x pos'] e pos) (tAsg te (gName i)) := by
  intro pins s σ H D I h
  refine wpAny_Assign_Name (thn (he pins s σ H _ I h) fun v s1 ⟨y, H1, I1, r1, q1⟩ => ?_) hs
  exact store_ok I1 hN hi hx r1 (fun s2 I2 => ⟨_, H1, I2, q1⟩) hf
/-- a, b = x, y with plain local names: stored from the right; the pair itself is not tracked (the opening rows as in PyProof/Rows/TupAssign.lean:23) -/
def tPar (i j : Nat) (ta : TA) : TS := fun D σ H => ta σ H fun vs H1 => ∃ v w, vs = [v, w] ∧ D.nx ((σ.set i (some v)).set j (some w)) H1
theorem ps_par {i j : Nat} {x y : Str} {a b : Expr} {ta : TA} {px py pt : Pos} {kt k2 pt2} (hc : X.calm = true) (hN : X.N.Nodup) (hi : X.N[i]? = some x) (hj : X.N[j]? = some y) (hij : i ≠ j)
    (hx : X.env.scope.names.lookup x = some .local) (hy : X.env.scope.names.lookup y = some .local) (ha : PA X [a, b] ta)
    (hw : swappedStores [.Tuple [.Name x px, .Name y py] kt pt] (.Tuple [a, b] k2 pt2) X.env = pure (some [x, y]))
    (hs : swapsWithSole [.Tuple [.Name x px, .Name y py] kt pt] (.Tuple [a, b] k2 pt2) pos.line X.env = pure false := by rfl) :
    PS X (.Assign [.Tuple [.Name x px, .Name y py] kt pt] (.Tuple [a, b] k2 pt2) pos) (tPar i j ta) := by
  intro pins s σ H D I h
  rw [exec_Assign_arm]
  refine wpAny_bind (wpAny_standAt ?_)
  rw [hs]
  refine wpAny_bind (wpAny_pure ?_)
  rw [if_neg (by decide)]
  refine wpAny_bind (Tuple_ (thn (ha _ pins s σ H _ I h) fun us s1 ⟨vs, H1, I1, r1, q1⟩ => ?_))
  obtain ⟨v, w, e1, q1⟩ := q1
  subst e1
  obtain ⟨u1, u2, rfl, rv, rw'⟩ : ∃ u1 u2, us = [u1, u2] ∧ RelV v u1 ∧ RelV w u2 := by
    cases r1 with
    | cons p q =>
      cases q with
      | cons p' q' =>
        cases q'
        exact ⟨_, _, rfl, p, p'⟩
  refine wpAny_newObj_type ?_ (by show 2 ≤ sizeLine; decide)
  have I2 : Inv X pins σ H1 { s1 with heap := s1.heap.push { cls := .type "tuple", data := .seq [u1, u2].toArray } } := I1.kept (t' := s1.toks) fun b o e => Heap.get?_push_of_some _ e
  rw [hw]
  refine wpAny_bind (wpAny_pure ?_)
  show wpAny (model X.prog X.w) X.A (do rule "assign.swapped-stores"; let items ← unpackItems (.ref s1.heap.objs.size) 2 none; assignInOrder [fun v => bindName X.env y v, fun v => bindName X.env x v] items.reverse; pure Flow.next) _ _ _
  refine wpAny_bind (wpAny_rule (wpAny_bind (unpackItems_tuple (items := #[u1, u2]) (I.ok.hd hc) (IsTup.new s1.heap _) fun h' hx' => ?_)))
  have I3 := I2.kept (h' := h') (t' := s1.toks) fun b o e => hx' b o (Nat.ne_of_lt (Heap.lt_size e)) e
  show wpAny _ _ (assignInOrder [fun v => bindName X.env y v, fun v => bindName X.env x v] [u2, u1] >>= fun _ => pure Flow.next) _ _ _
  refine wpAny_bind (assignInOrder_cons (wpAny_bindName (store_ok I3 hN hj (.inl hy) rw' (fun s2 I4 => ?_) (.inr hy))))
  refine assignInOrder_cons (wpAny_bindName (store_ok I4 hN hi (.inl hx) rv (fun s3 I5 => assignInOrder_nil (wpAny_pure ?_)) (.inr hx)))
  rw [List.set_comm _ _ (Ne.symm hij)] at I5
  exact ⟨_, H1, I5, q1⟩
end
/-! ### while -/
section
variable {X : Cx} {pos : Pos}
/-- the invariant W with its measure -/
def tWhile (c : TT) (tb : TS) : TS := fun D σ H => ∃ W : Nat → St → Hp → Prop, (∃ m, W m σ H) ∧ ∀ m σ H, W m σ H →
  c σ H fun b H1 => if b = true then ∃ N : St → Hp → Prop, (∀ σ' H', N σ' H' → ∃ m', m' < m ∧ W m' σ' H') ∧ tb { D with nx := N, ct := N, bk := D.nx } σ H1 else D.nx σ H1
theorem ps_while {c : Expr} {body : List Stmt} {tc : TT} {tb : TS} (hp : PassesOwn (model X.prog X.w) X.A X.env X.xe) (hc : PT X c tc) (hb : PSs X body tb) : PS X (.While c body [] pos) (tWhile tc tb) := by
  intro pins s σ H D I h
  obtain ⟨W, ⟨m0, w0⟩, turn⟩ := h
  refine wpAny_While (codeAny_whileLoop (fun n s' => ∃ σ' H', Inv X pins σ' H' s' ∧ W n σ' H') ?_ m0 ⟨σ, H, I, w0⟩)
  rintro n s1 ⟨σ1, H1, I1, w1⟩
  refine wpAny_passesOwn hp (thn (hc pins s1 σ1 H1 _ I1 (turn n σ1 H1 w1)) fun b s2 ⟨H2, I2, q2⟩ => ?_)
  cases b with
  | true =>
    obtain ⟨N, hN, q2⟩ := q2
    rw [if_pos rfl]
    refine wpAny_passesOwn hp (thn (hb pins s2 σ1 H2 _ I2 q2) fun f s3 q3 => ?_)
    cases f with
    | next =>
      obtain ⟨σ3, H3, I3, n3⟩ := q3
      obtain ⟨m', hm, w3⟩ := hN σ3 H3 n3
      exact ⟨m', hm, σ3, H3, I3, w3⟩
    | cont =>
      obtain ⟨σ3, H3, I3, n3⟩ := q3
      obtain ⟨m', hm, w3⟩ := hN σ3 H3 n3
      exact ⟨m', hm, σ3, H3, I3, w3⟩
    | brk => exact q3
    | ret v => exact q3
  | false =>
    rw [if_neg Bool.false_ne_true]
    exact wpAny_execs_nil ⟨σ1, H2, I2, q2⟩
end
/-! ### what a loop or a comprehension walks -/
/-- at turn i: it yields x (the heap may grow), or it stops -/
structure It where
  go : Nat → Hp → Prop
  yld : Nat → Hp → V → Hp → Prop
  stop : Nat → Hp → Prop
/-- the iterator's own objects may turn: they are not the frame's, not pinned, younger than the entry (or a comprehension's own) -/
def FpOk (X : Cx) (pins : List (Addr × Obj)) (H : Hp) (b : Addr) : Prop :=
  H b = none ∧ b ≠ X.env.locals ∧ b ∉ X.fs ∧ (b ∈ X.ex ∨ X.s₀.heap.objs.size ≤ b) ∧ (∀ x c, X.env.cells.lookup x = some c → c ≠ b) ∧ ∀ p ∈ X.pn ++ pins, p.1 ≠ b
theorem Inv.fpOk {X : Cx} {pins : List (Addr × Obj)} {σ : St} {H H' : Hp} {s : Shared} {b : Addr} (I : Inv X pins σ H s) (hb : s.heap.objs.size ≤ b) (hn : H' b = none) : FpOk X pins H' b := by
  refine ⟨hn, Nat.ne_of_gt (Nat.lt_of_lt_of_le I.lt hb), I.nofs hb, .inr (Nat.le_trans I.sz hb), fun x c e z => ?_, fun p hp z => ?_⟩
  · obtain ⟨v, q⟩ := I.cell x c e
    exact absurd (Nat.lt_of_lt_of_le q.lt (by rw [z]; exact hb)) (Nat.lt_irrefl _)
  · exact absurd (Nat.lt_of_lt_of_le (Heap.lt_size (I.pin p hp).1) (by rw [z]; exact hb)) (Nat.lt_irrefl _)
structure Turn (P : Program) (w : World) (K : PySem.W.Frag) (tg : Expr) (J : It) (fp : List Addr) (it : Addr) (tn : Nat → Heap → Prop) : Prop where
  mem : it ∈ fp
  obj : ∀ i h, tn i h → ∀ b ∈ fp, ∃ o, h.get? b = some o ∧ ∀ v, o.data ≠ .cell v
  keep : ∀ i h h', tn i h → (∀ b ∈ fp, ∀ o, h.get? b = some o → h'.get? b = some o) → tn i h'
  item : ∀ (X : Cx), X.prog = P → X.w = w → X.K = K → X.calm = true → ∀ (i : Nat) (pins : List (Addr × Obj)) (s : Shared) (σ : St) (H : Hp) (E : Value → Shared → Prop), Inv X pins σ H s → (∀ b ∈ fp, FpOk X pins H b) → tn i s.heap → J.go i H →
    wpAny (model P w) X.A (pyNext (.ref it)) (fun r s1 => ∃ u, r = some u ∧
      wpAny (model P w) X.A (letOwnedTupleGo tg (.ref it) u) (fun _ s2 => ∃ x H', Inv X pins σ H' s2 ∧ RelV x u ∧ J.yld i H x H' ∧ tn (i + 1) s2.heap ∧ ∀ b ∈ fp, H' b = none) E s1) E s
  done : ∀ (X : Cx), X.prog = P → X.w = w → X.K = K → X.calm = true → ∀ (i : Nat) (pins : List (Addr × Obj)) (s : Shared) (σ : St) (H : Hp) (E : Value → Shared → Prop), Inv X pins σ H s → (∀ b ∈ fp, FpOk X pins H b) → tn i s.heap → J.stop i H →
    wpAny (model P w) X.A (pyNext (.ref it)) (fun r s1 => r = none ∧ Inv X pins σ H s1) E s
  self : ∀ (A : Around) (i : Nat) (s : Shared) (Q : Value → Shared → Prop) (E : Value → Shared → Prop), tn i s.heap → Q (.ref it) s → wpAny (model P w) A (pyIter (.ref it)) Q E s
abbrev TI := St → Hp → (It → Hp → Prop) → Prop
/-- an iterator has come -/
def PIE (X : Cx) (pins : List (Addr × Obj)) (σ : St) (tg : Expr) (R : It → Hp → Prop) (itv : Value) (s2 : Shared) : Prop :=
  ∃ (it : Addr) (fp : List Addr) (tn : Nat → Heap → Prop) (J : It) (H' : Hp), itv = .ref it ∧ Inv X pins σ H' s2 ∧ Turn X.prog X.w X.K tg J fp it tn ∧ tn 0 s2.heap ∧ (∀ b ∈ fp, FpOk X pins H' b) ∧ R J H'
def PI (X : Cx) (tg iter : Expr) (wi : TI) : Prop :=
  ∀ (pins : List (Addr × Obj)) (s : Shared) (σ : St) (H : Hp) (R : It → Hp → Prop), Inv X pins σ H s → wi σ H R →
    wpAny (model X.prog X.w) X.A (eval iter X.env) (fun v s1 => wpAny (model X.prog X.w) X.A (pyIter v) (PIE X pins σ tg R) X.xe s1) X.xe s
/-- the step ahead of the store is nothing for an iterator that keeps no tuple -/
theorem go_of {M : Model} {A : Around} {E : Value → Shared → Prop} {s : Shared} {tg : Expr} {it : Addr} {u : Value} {o : Obj} {n : String} {vs : Array Value} {Q : Unit → Shared → Prop} (ho : s.heap.get? it = some o) (hc : o.cls = .type n) (hd : o.data = .fields vs)
    (hn : ["enumerate", "zip", "dict_itemiterator", "dict_reverseitemiterator", "odict_iterator", "itertools.zip_longest", "itertools.pairwise"].contains n = false) (hQ : Q () s) : wpAny M A (letOwnedTupleGo tg (.ref it) u) Q E s := by
  unfold letOwnedTupleGo
  cases tg <;> first
    | exact wpAny_pure hQ
    | (cases u <;> first
        | exact wpAny_pure hQ
        | (refine wpAny_bind (wpAny_load ho ?_)
           rw [hc, hd]
           show wpAny M A (if (["enumerate", "zip", "dict_itemiterator", "dict_reverseitemiterator", "odict_iterator", "itertools.zip_longest", "itertools.pairwise"].contains n && vs[0]? == some (rawInt _)) = true then _ else _) Q E s
           rw [if_neg (by intro h; rw [hn, Bool.false_and] at h; cases h)]
           exact wpAny_pure hQ))
/-- the list at a, as it stands at each turn (a loop may append to it) -/
def Itl (K : PySem.W.Frag) (a : Addr) : It :=
  ⟨fun i H => ∃ xs x, SqL K H a xs ∧ xs[i]? = some x, fun i H x H' => H' = H ∧ ∀ xs, SqL K H a xs → xs[i]? = some x, fun i H => ∃ xs, SqL K H a xs ∧ xs.length ≤ i⟩
def Itt (K : PySem.W.Frag) (a : Addr) : It :=
  ⟨fun i H => ∃ xs x, SqT K H a xs ∧ xs[i]? = some x, fun i H x H' => H' = H ∧ ∀ xs, SqT K H a xs → xs[i]? = some x, fun i H => ∃ xs, SqT K H a xs ∧ xs.length ≤ i⟩
/-- lo, lo + 1, .. (n of them) -/
def Itr (lo : Int) (n : Nat) : It := ⟨fun i _ => i < n, fun i H x H' => H' = H ∧ x = .int (lo + i), fun i _ => n ≤ i⟩
theorem turn_list {P : Program} {w : World} {K : PySem.W.Frag} {tg : Expr} (a it : Addr) : Turn P w K tg (Itl K a) [it] it (fun i h => h.IsListIter it a i) where
  mem := by simp
  obj := fun i h st b hb => by
    have e : b = it := by simpa using hb
    subst e
    obtain ⟨o, e, c, d⟩ := st
    exact ⟨o, e, fun v z => by rw [d] at z; cases z⟩
  keep := fun i h h' st k => st.at fun o e => k it (by simp) o e
  item := by
    intro X hP hw hK hc i pins s σ H E I hf st hg
    subst hP hw hK
    obtain ⟨xs, x, hq, hx⟩ := hg
    obtain ⟨its, rv, p, hz⟩ := I.list hq
    obtain ⟨u, hu, ru⟩ := rv.get hx
    obtain ⟨f0, f1, f2, f3, f4, f5⟩ := hf it (by simp)
    refine wpAny_pyNext_list_item st p.isList (x := u) (by simpa using hu) fun h' st' sb => ?_
    have I1 : Inv X pins σ H { s with heap := h' } := I.turned (t' := s.toks) (fun b o hb e => (sb.2 b hb).trans e) f0 f1 f3 f4 f5
    obtain ⟨o, e, c, d⟩ := id st'
    exact ⟨u, rfl, go_of (s := { s with heap := h' }) e c d (by decide) ⟨x, H, I1, ru, ⟨rfl, fun ys hy => by rw [I.list_inj hy hq]; exact hx⟩, st', fun b hb => (hf b hb).1⟩⟩
  done := by
    intro X hP hw hK hc i pins s σ H E I hf st hg
    subst hP hw hK
    obtain ⟨xs, hq, hx⟩ := hg
    obtain ⟨its, rv, p, hz⟩ := I.list hq
    obtain ⟨f0, f1, f2, f3, f4, f5⟩ := hf it (by simp)
    have hl := rv.length
    exact wpAny_pyNext_list_end (I.ok.hd hc) st p.isList (by simp; omega) fun h' eb => ⟨rfl, I.turned (t' := s.toks) (fun b o hb e => eb b o hb e) f0 f1 f3 f4 f5⟩
  self := fun _ _ _ _ _ st h => wpAny_pyIter_listiter st h
theorem turn_tuple {P : Program} {w : World} {K : PySem.W.Frag} {tg : Expr} (a it : Addr) : Turn P w K tg (Itt K a) [it] it (fun i h => h.IsTupleIter it a i) where
  mem := by simp
  obj := fun i h st b hb => by
    have e : b = it := by simpa using hb
    subst e
    obtain ⟨o, e, c, d⟩ := st
    exact ⟨o, e, fun v z => by rw [d] at z; cases z⟩
  keep := fun i h h' st k => st.at fun o e => k it (by simp) o e
  item := by
    intro X hP hw hK hc i pins s σ H E I hf st hg
    subst hP hw hK
    obtain ⟨xs, x, hq, hx⟩ := hg
    obtain ⟨its, rv, p, hz⟩ := I.tuple hq
    obtain ⟨u, hu, ru⟩ := rv.get hx
    obtain ⟨f0, f1, f2, f3, f4, f5⟩ := hf it (by simp)
    refine wpAny_pyNext_tuple_item st (show s.heap.IsTuple a its.toArray from p) (x := u) (by simpa using hu) fun h' st' sb => ?_
    have I1 : Inv X pins σ H { s with heap := h' } := I.turned (t' := s.toks) (fun b o hb e => (sb.2 b hb).trans e) f0 f1 f3 f4 f5
    obtain ⟨o, e, c, d⟩ := id st'
    exact ⟨u, rfl, go_of (s := { s with heap := h' }) e c d (by decide) ⟨x, H, I1, ru, ⟨rfl, fun ys hy => by rw [I.tuple_inj hy hq]; exact hx⟩, st', fun b hb => (hf b hb).1⟩⟩
  done := by
    intro X hP hw hK hc i pins s σ H E I hf st hg
    subst hP hw hK
    obtain ⟨xs, hq, hx⟩ := hg
    obtain ⟨its, rv, p, hz⟩ := I.tuple hq
    obtain ⟨f0, f1, f2, f3, f4, f5⟩ := hf it (by simp)
    have hl := rv.length
    exact wpAny_pyNext_tuple_end (I.ok.hd hc) st (show s.heap.IsTuple a its.toArray from p) (by simp; omega) fun h' eb => ⟨rfl, I.turned (t' := s.toks) (fun b o hb e => eb b o hb e) f0 f1 f3 f4 f5⟩
  self := fun _ _ _ _ _ st h => wpAny_pyIter_tupleiter st h
theorem turn_range {P : Program} {w : World} {K : PySem.W.Frag} {tg : Expr} (it : Addr) (lo : Int) (n : Nat) : Turn P w K tg (Itr lo n) [it] it (fun i h => IsRangeIter h it (lo + (i : Nat) * 1) ((n : Int) - (i : Nat)) 1) where
  mem := by simp
  obj := fun i h st b hb => by
    have e : b = it := by simpa using hb
    subst e
    exact ⟨_, st, fun v z => by
      have z' : Data.fields _ = Data.cell v := z
      cases z'⟩
  keep := fun i h h' st k => k it (by simp) _ st
  item := by
    intro X hP hw hK hc i pins s σ H E I hf st hg
    subst hP hw hK
    obtain ⟨f0, f1, f2, f3, f4, f5⟩ := hf it (by simp)
    have W := Walks.range (prog := X.prog) (w := X.w) (I.ok.hd hc) it lo 1 n
    refine W.item i s _ _ hg st fun v h' tk hv st' kk => ?_
    obtain ⟨t, rfl⟩ := hv
    have I1 : Inv X pins σ H { s with heap := h', toks := tk } := I.turned (fun b o hb e => kk b o (by simpa using hb) e) f0 f1 f3 f4 f5
    refine ⟨_, rfl, go_of (s := { s with heap := h', toks := tk }) (n := "range_iterator") st' rfl rfl (by decide) ⟨.int (lo + i), H, I1, ⟨t, ?_⟩, ⟨rfl, rfl⟩, st', fun b hb => (hf b hb).1⟩⟩
    rw [Int.mul_one]
  done := by
    intro X hP hw hK hc i pins s σ H E I hf st hg
    subst hP hw hK
    obtain ⟨f0, f1, f2, f3, f4, f5⟩ := hf it (by simp)
    exact wpAny_pyNext_range_end (I.ok.hd hc) st (by have : n ≤ i := hg; omega) fun h' eb => ⟨rfl, I.turned (t' := s.toks) (fun b o hb e => eb b o hb e) f0 f1 f3 f4 f5⟩
  self := fun _ _ _ _ _ st h => wpAny_pyIter_rangeiter st h
end L2
namespace L2
open PySem PySem.Spec PyProof.Rows
section
variable {X : Cx} {tg : Expr}
/-- a range object just made, walked -/
theorem range_it {pins : List (Addr × Obj)} {σ : St} {H : Hp} {s : Shared} {R : It → Hp → Prop} {E : Value → Shared → Prop} {lo hi : Int} {t u v : Tok} {tk : Nat} (I : Inv X pins σ H s) (h1 : -(2 ^ 62) ≤ lo) (h2 : lo < 2 ^ 62) (h3 : -(2 ^ 62) ≤ hi) (h4 : hi < 2 ^ 62)
    (q : R (Itr lo (hi - lo).toNat) H) : wpAny (model X.prog X.w) X.A (pyIter (.ref s.heap.objs.size)) (PIE X pins σ tg R) E { s with heap := s.heap.push { cls := .type "range", data := .fields #[.int lo t, .int hi u, .int 1 v] }, toks := tk } := by
  refine wpAny_pyIter_range (IsRange.new ..) (small_one h1 h2 h3 h4) ?_
  have I1 : Inv X pins σ H { s with heap := s.heap.push { cls := .type "range", data := .fields #[.int lo t, .int hi u, .int 1 v] }, toks := tk } := I.kept fun b o e => Heap.get?_push_of_some _ e
  refine ⟨(s.heap.push { cls := .type "range", data := .fields #[.int lo t, .int hi u, .int 1 v] }).objs.size, [(s.heap.push { cls := .type "range", data := .fields #[.int lo t, .int hi u, .int 1 v] }).objs.size], _, _, H, rfl,
    I1.kept (t' := tk) fun b o e => Heap.get?_push_of_some _ e, turn_range _ lo (hi - lo).toNat, ?_, fun b hb => ?_, q⟩
  · have e1 : lo + ((0 : Nat) : Int) * 1 = lo := by simp
    have e2 : (((hi - lo).toNat : Nat) : Int) - ((0 : Nat) : Int) = Builtin.Range.rangeSize lo hi 1 := by rw [rangeSize_one]; split <;> omega
    show IsRangeIter _ _ (lo + ((0 : Nat) : Int) * 1) ((((hi - lo).toNat : Nat) : Int) - ((0 : Nat) : Int)) 1
    rw [e1, e2]
    exact Heap.get?_push_size _ rfl
  · have e : b = (s.heap.push { cls := .type "range", data := .fields #[.int lo t, .int hi u, .int 1 v] }).objs.size := by simpa using hb
    subst e
    exact I1.fpOk (Nat.le_refl _) (I1.hok.fresh (Nat.le_refl _))
def iRng1 (ta : TA) : TI := fun σ H R => ta σ H fun vs H1 => ∃ j : Int, vs = [.int j] ∧ -(2 ^ 62) ≤ j ∧ j < 2 ^ 62 ∧ R (Itr 0 j.toNat) H1
def iRng2 (ta : TA) : TI := fun σ H R => ta σ H fun vs H1 => ∃ i j : Int, vs = [.int i, .int j] ∧ (-(2 ^ 62) ≤ i ∧ i < 2 ^ 62 ∧ -(2 ^ 62) ≤ j ∧ j < 2 ^ 62) ∧ R (Itr i (j - i).toNat) H1
theorem pi_range1 {a : Expr} {ta : TA} {p pos : Pos} (hg : Gl X "range") (hm : X.mg "range" = none) (ha : PA X [a] ta) (hs : starEach [a] X.env = [(false, eval a X.env)] := by rfl) : PI X tg (.Call (.Name "range" p) [a] [] pos) (iRng1 ta) := by
  intro pins s σ H R I h
  refine Call_ (ld_blt I hg hm boot_range (PyProof.Rows.callWith_type1 (thn (ha pos pins s σ H _ I h) fun us s1 ⟨vs, H1, I1, r1, q1⟩ => ?_) hs rfl))
  obtain ⟨j, e, q1, q2, q⟩ := q1
  subst e
  cases r1 with
  | cons r rr =>
    cases rr
    obtain ⟨t, rfl⟩ := r
    exact call_range_1 (range_it I1 (by omega) (by omega) q1 q2 (by simpa using q))
theorem pi_range2 {a b : Expr} {ta : TA} {p pos : Pos} (hg : Gl X "range") (hm : X.mg "range" = none) (ha : PA X [a, b] ta) (hs : starEach [a, b] X.env = [(false, eval a X.env), (false, eval b X.env)] := by rfl) (hs2 : starEach [b] X.env = [(false, eval b X.env)] := by rfl) :
    PI X tg (.Call (.Name "range" p) [a, b] [] pos) (iRng2 ta) := by
  intro pins s σ H R I h
  refine Call_ (ld_blt I hg hm boot_range (PyProof.Rows.callWith_type1 (thn (ha pos pins s σ H _ I h) fun us s1 ⟨vs, H1, I1, r1, q1⟩ => ?_) (by rw [hs, hs2]) (by rw [hs2]; rfl)))
  obtain ⟨i, j, e, ⟨q1, q2, q3, q4⟩, q⟩ := q1
  subst e
  cases r1 with
  | cons r rr =>
    cases rr with
    | cons r' rr =>
      cases rr
      obtain ⟨t, rfl⟩ := r
      obtain ⟨t', rfl⟩ := r'
      exact call_range_2 (range_it I1 q1 q2 q3 q4 q)
/-! ### for -/
/-- W: the invariant by the turn and a measure; N: what the body is to reach -/
def tFor (wi : TI) (g : TG) (tb : TS) : TS := fun D σ H => wi σ H fun J H1 => ∃ W : Nat → Nat → St → Hp → Prop, (∃ m, W 0 m σ H1) ∧ ∀ i m σ H, W i m σ H →
  (J.stop i H ∧ D.nx σ H) ∨ (J.go i H ∧ ∃ N : St → Hp → Prop, (∀ σ' H', N σ' H' → ∃ m', m' < m ∧ W (i + 1) m' σ' H') ∧ ∀ x H', J.yld i H x H' → g x σ H' fun σ2 H2 => tb { D with nx := N, ct := N, bk := D.nx } σ2 H2)
/-- the records at fp as they stand -/
def pinsAt (fp : List Addr) (h : Heap) : List (Addr × Obj) := fp.filterMap fun b => (h.get? b).map fun o => (b, o)
theorem mem_pinsAt {fp : List Addr} {h : Heap} {b : Addr} {o : Obj} (hb : b ∈ fp) (e : h.get? b = some o) : (b, o) ∈ pinsAt fp h := List.mem_filterMap.mpr ⟨b, hb, by rw [e]; rfl⟩
theorem of_pinsAt {fp : List Addr} {h : Heap} {p : Addr × Obj} (hp : p ∈ pinsAt fp h) : p.1 ∈ fp ∧ h.get? p.1 = some p.2 := by
  obtain ⟨b, hb, e⟩ := List.mem_filterMap.mp hp
  cases q : h.get? b with
  | none => rw [q] at e; cases e
  | some o =>
    rw [q] at e
    have e' : (b, o) = p := Option.some.inj e
    subst e'
    exact ⟨hb, q⟩
theorem Inv.pinned {pins : List (Addr × Obj)} {σ : St} {H : Hp} {s : Shared} {fp : List Addr} (I : Inv X pins σ H s) (hf : ∀ b ∈ fp, FpOk X pins H b) (ho : ∀ b ∈ fp, ∃ o, s.heap.get? b = some o ∧ ∀ v, o.data ≠ .cell v) : Inv X (pins ++ pinsAt fp s.heap) σ H s :=
  I.pins_of fun p hp => (List.mem_append.mp hp).elim (fun z => I.pin p (List.mem_append_right _ z)) fun z => by
    obtain ⟨hb, e⟩ := of_pinsAt z
    obtain ⟨f0, f1, f2, _⟩ := hf p.1 hb
    obtain ⟨o, e', d⟩ := ho p.1 hb
    rw [e] at e'; cases e'
    exact ⟨e, f0, f1, f2, d⟩
theorem Inv.unpinned {pins pl : List (Addr × Obj)} {σ : St} {H : Hp} {s : Shared} (I : Inv X (pins ++ pl) σ H s) : Inv X pins σ H s := I.pins_of fun p hp => I.pin p (List.mem_append_right _ (List.mem_append_left _ hp))
theorem ps_for {iter : Expr} {body : List Stmt} {wi : TI} {g : TG} {tb : TS} {pos : Pos} (hp : PassesOwn (model X.prog X.w) X.A X.env X.xe) (hc : X.calm = true) (hi : PI X tg iter wi) (hg : PG X tg g) (hb : PSs X body tb)
    (hs : ∀ x, foldedSetIterable iter X.env x = pure x := by intro _; rfl) : PS X (.For tg iter body [] pos) (tFor wi g tb) := by
  intro pins s σ H D I h
  refine wpAny_For (thn (hi pins s σ H _ I h) fun v s1 h1 => thn h1 fun itv s2 h2 => ?_) hs
  obtain ⟨it, fp, tn, J, H2, e, I2, T, st2, f2, W, ⟨m0, w0⟩, turn⟩ := h2
  subst e
  -- what stays true of the iterator's objects through the loop
  have stat : ∀ {H' : Hp}, (∀ b ∈ fp, H' b = none) → ∀ b ∈ fp, FpOk X pins H' b := fun hn b hb => ⟨hn b hb, (f2 b hb).2⟩
  refine codeAny_forLoop_any (fun n s' => ∃ i σ' H', Inv X pins σ' H' s' ∧ tn i s'.heap ∧ (∀ b ∈ fp, H' b = none) ∧ W i n σ' H') ?_ m0 ⟨0, σ, H2, I2, st2, fun b hb => (f2 b hb).1, w0⟩
  rintro n s3 ⟨i, σ3, H3, I3, st3, fr3, w3⟩
  rcases turn i n σ3 H3 w3 with ⟨stop, qn⟩ | ⟨go, N, hN, step⟩
  · refine wpAny_passesOwn hp (thn (T.done X rfl rfl rfl hc i pins s3 σ3 H3 X.xe I3 (stat fr3) st3 stop) fun r s4 ⟨hr, I4⟩ => ?_)
    subst hr
    exact wpAny_execs_nil ⟨σ3, H3, I4, qn⟩
  · refine wpAny_passesOwn hp (thn (T.item X rfl rfl rfl hc i pins s3 σ3 H3 X.xe I3 (stat fr3) st3 go) fun r s4 ⟨u, hr, h4⟩ => ?_)
    subst hr
    refine wpAny_passesOwn hp (thn h4 fun _ s5 ⟨x, H5, I5, r5, y5, st5, fr5⟩ => ?_)
    have I5' := I5.pinned (stat fr5) (T.obj _ _ st5)
    refine wpAny_passesOwn hp (thn (hg _ s5 σ3 H5 x u _ I5' r5 (step x H5 y5)) fun _ s6 ⟨σ6, H6, I6, q6⟩ => ?_)
    refine wpAny_passesOwn hp (thn (hb _ s6 σ6 H6 _ I6 q6) fun f s7 q7 => ?_)
    have again : ∀ {σ7 : St} {H7 : Hp}, Inv X (pins ++ pinsAt fp s5.heap) σ7 H7 s7 → N σ7 H7 → ∃ m, m < n ∧ ∃ i σ' H', Inv X pins σ' H' s7 ∧ tn i s7.heap ∧ (∀ b ∈ fp, H' b = none) ∧ W i m σ' H' := fun {σ7 H7} I7 n7 => by
      obtain ⟨m', hm, w7⟩ := hN σ7 H7 n7
      refine ⟨m', hm, i + 1, σ7, H7, I7.unpinned, T.keep _ _ _ st5 fun b hb o e => (I7.pin (b, o) (List.mem_append_right _ (List.mem_append_right _ (mem_pinsAt hb e)))).1, fun b hb => ?_, w7⟩
      obtain ⟨o, e, d⟩ := T.obj _ _ st5 b hb
      exact (I7.pin (b, o) (List.mem_append_right _ (List.mem_append_right _ (mem_pinsAt hb e)))).2.1
    cases f with
    | next => obtain ⟨σ7, H7, I7, n7⟩ := q7; exact again I7 n7
    | cont => obtain ⟨σ7, H7, I7, n7⟩ := q7; exact again I7 n7
    | brk => obtain ⟨σ7, H7, I7, q7⟩ := q7; exact ⟨σ7, H7, I7.unpinned, q7⟩
    | ret v => obtain ⟨x7, σ7, H7, I7, r7, q7⟩ := q7; exact ⟨x7, σ7, H7, I7.unpinned, r7, q7⟩
end
/-! ### the forms one uses -/
end L2
namespace L2
open PySem PySem.Spec PyProof.Rows
abbrev R2 := V → V → Hp → VK → Prop
/-- a two-place operation on values: f is binaryOp op, inplaceOp op or compareOp op -/
def OpR (X : Cx) (f : Value → Value → Sem Value) (r : R2) : Prop :=
  ∀ (pins : List (Addr × Obj)) (s : Shared) (σ : St) (H : Hp) (x y : V) (v u : Value) (Q : VK), Inv X pins σ H s → RelV x v → RelV y u → r x y H Q →
    wpAny (model X.prog X.w) X.A (f v u) (EP X pins σ Q) X.xe s
/-- a one-place operation -/
def UnR (X : Cx) (f : Value → Sem Value) (r : V → Hp → VK → Prop) : Prop :=
  ∀ (pins : List (Addr × Obj)) (s : Shared) (σ : St) (H : Hp) (x : V) (v : Value) (Q : VK), Inv X pins σ H s → RelV x v → r x H Q →
    wpAny (model X.prog X.w) X.A (f v) (EP X pins σ Q) X.xe s
/-- a call of a value that is known (a builtin, a type) with values -/
def CallR (X : Cx) (f : Value) (r : List V → Hp → VK → Prop) : Prop :=
  ∀ (pins : List (Addr × Obj)) (s : Shared) (σ : St) (H : Hp) (xs : List V) (us : List Value) (Q : VK), Inv X pins σ H s → Vals xs us → r xs H Q →
    wpAny (model X.prog X.w) X.A (call f us) (EP X pins σ Q) X.xe s
/-- a value's truth -/
def TruR (X : Cx) (r : V → Hp → (Bool → Hp → Prop) → Prop) : Prop :=
  ∀ (pins : List (Addr × Obj)) (s : Shared) (σ : St) (H : Hp) (x : V) (v : Value) (Q : Bool → Hp → Prop), Inv X pins σ H s → RelV x v → r x H Q →
    wpAny (model X.prog X.w) X.A (truthy v) (TP X pins σ Q) X.xe s
def tOp (r : R2) (ta tb : TE) : TE := fun σ H Q => ta σ H fun x H1 => tb σ H1 fun y H2 => r x y H2 Q
def tUn (r : V → Hp → VK → Prop) (ta : TE) : TE := fun σ H Q => ta σ H fun x H1 => r x H1 Q
/-- ints in, under C, and a value out -/
def rI (C : Int → Int → Prop) (g : Int → Int → V) : R2 := fun x y H Q => ∃ i j, x = .int i ∧ y = .int j ∧ C i j ∧ Q (g i j) H
def rI0 (g : Int → Int → V) : R2 := fun x y H Q => ∃ i j, x = .int i ∧ y = .int j ∧ Q (g i j) H
def rU (g : Int → V) : V → Hp → VK → Prop := fun x H Q => ∃ i, x = .int i ∧ Q (g i) H
section
variable {X : Cx} {a b c : Expr} {ta tb tc : TE} {pos : Pos}
theorem binT (ha : PE X a ta) (hb : PE X b tb) {pins : List (Addr × Obj)} {s : Shared} {σ : St} {H : Hp} {R : V → V → Hp → Prop} (I : Inv X pins σ H s)
    (h : ta σ H fun x H1 => tb σ H1 fun y H2 => R x y H2) {Q : Value → Shared → Prop} {f : Value → Value → Sem Value}
    (hf : ∀ v u s2 x y H2, Inv X pins σ H2 s2 → RelV x v → RelV y u → R x y H2 → wpAny (model X.prog X.w) X.A (f v u) Q X.xe s2) :
    wpAny (model X.prog X.w) X.A (eval a X.env) (fun v s₁ => wpAny (model X.prog X.w) X.A (eval b X.env) (fun u s₂ => wpAny (model X.prog X.w) X.A (f v u) Q X.xe s₂) X.xe s₁) X.xe s := by
  refine thn (ha pins s σ H _ I h) fun v s1 ⟨x, H1, I1, r1, q1⟩ => ?_
  refine thn (hb pins s1 σ H1 _ I1 q1) fun u s2 ⟨y, H2, I2, r2, q2⟩ => ?_
  exact hf v u s2 x y H2 I2 r1 r2 q2
theorem pe_op {op : Operator} {r : R2} (ho : OpR X (binaryOp op) r) (ha : PE X a ta) (hb : PE X b tb) : PE X (.BinOp a op b pos) (tOp r ta tb) := by
  intro pins s σ H Q I h
  exact wpAny_BinOp (binT ha hb I h fun v u s2 x y H2 I2 rx ry q => ho pins s2 σ H2 x y v u Q I2 rx ry q)
theorem pe_un {op : UnaryOp} {r : V → Hp → VK → Prop} (ho : UnR X (unaryOp op) r) (ha : PE X a ta) : PE X (.UnaryOp op a pos) (tUn r ta) := by
  intro pins s σ H Q I h
  exact UnaryOp_ (thn (ha pins s σ H _ I h) fun v s1 ⟨x, H1, I1, r1, q1⟩ => ho pins s1 σ H1 x v Q I1 r1 q1)
/-! ### ints -/
theorem opI {f : Value → Value → Sem Value} {C : Int → Int → Prop} {g : Int → Int → Int}
    (rule : ∀ (i j : Int) (t u : Tok) (s : Shared) (Q : Value → Shared → Prop) (E : Value → Shared → Prop), C i j → Q (.int (g i j) s.toks) { s with toks := s.toks + 1 } → wpAny (model X.prog X.w) X.A (f (.int i t) (.int j u)) Q E s) :
    OpR X f (rI C fun i j => .int (g i j)) := by
  intro pins s σ H x y v u Q I rx ry h
  obtain ⟨i, j, rfl, rfl, hc, q⟩ := h
  obtain ⟨t, rfl⟩ := rx
  obtain ⟨t', rfl⟩ := ry
  exact rule i j t t' s _ _ hc ⟨.int (g i j), H, I.tok _, ⟨_, rfl⟩, q⟩
theorem opI0 {f : Value → Value → Sem Value} {g : Int → Int → Int}
    (rule : ∀ (i j : Int) (t u : Tok) (s : Shared) (Q : Value → Shared → Prop) (E : Value → Shared → Prop), Q (.int (g i j) s.toks) { s with toks := s.toks + 1 } → wpAny (model X.prog X.w) X.A (f (.int i t) (.int j u)) Q E s) :
    OpR X f (rI0 fun i j => .int (g i j)) := by
  intro pins s σ H x y v u Q I rx ry h
  obtain ⟨i, j, rfl, rfl, q⟩ := h
  obtain ⟨t, rfl⟩ := rx
  obtain ⟨t', rfl⟩ := ry
  exact rule i j t t' s _ _ ⟨.int (g i j), H, I.tok _, ⟨_, rfl⟩, q⟩
theorem opB0 {f : Value → Value → Sem Value} {g : Int → Int → Bool}
    (rule : ∀ (i j : Int) (t u : Tok) (s : Shared) (Q : Value → Shared → Prop) (E : Value → Shared → Prop), Q (.bool (g i j)) s → wpAny (model X.prog X.w) X.A (f (.int i t) (.int j u)) Q E s) :
    OpR X f (rI0 fun i j => .bl (g i j)) := by
  intro pins s σ H x y v u Q I rx ry h
  obtain ⟨i, j, rfl, rfl, q⟩ := h
  obtain ⟨t, rfl⟩ := rx
  obtain ⟨t', rfl⟩ := ry
  exact rule i j t t' s _ _ ⟨.bl (g i j), H, I, rfl, q⟩
def CPow (i j : Int) : Prop := 0 ≤ j ∧ j ≤ 1000000 ∧ i.natAbs < 2 ^ 64
def CMul (i j : Int) : Prop := (-(2 ^ 64) < i ∧ i < 2 ^ 64) ∨ (-(2 ^ 64) < j ∧ j < 2 ^ 64)
theorem CMul.ok {i j : Int} (h : CMul i j) : IntMulOk i j := by
  rcases h with ⟨h1, h2⟩ | ⟨h1, h2⟩
  · exact .of_left (intBits_le_64 h1 h2)
  · exact .of_right (intBits_le_64 h1 h2)
theorem op_add : OpR X (binaryOp .Add) (rI0 fun i j => .int (i + j)) := opI0 fun _ _ _ _ _ _ _ q => add_int q
theorem op_sub : OpR X (binaryOp .Sub) (rI0 fun i j => .int (i - j)) := opI0 fun _ _ _ _ _ _ _ q => sub_int q
/-- % by a positive divisor of any size -/
theorem op_mod : OpR X (binaryOp .Mod) (rI (fun _ j => 0 < j) fun i j => .int (i % j)) := opI fun i j _ _ _ _ _ hc q => by
  have h1 : (0 : Int) < j := hc
  exact mod_int' (by omega) (by rw [Int.fmod_eq_emod_of_nonneg i (by omega)]; exact q)
theorem op_modN : OpR X (binaryOp .Mod) (rI (fun _ j => j ≠ 0) fun i j => .int (i.fmod j)) := opI fun _ _ _ _ _ _ _ hc q => mod_int' hc q
theorem op_pow : OpR X (binaryOp .Pow) (rI CPow fun i j => .int (i ^ j.toNat)) := opI fun _ _ _ _ _ _ _ hc q => pow_int_small hc.1 hc.2.1 hc.2.2 q
theorem unI {f : Value → Sem Value} {g : Int → Int}
    (rule : ∀ (i : Int) (t : Tok) (s : Shared) (Q : Value → Shared → Prop) (E : Value → Shared → Prop), Q (.int (g i) s.toks) { s with toks := s.toks + 1 } → wpAny (model X.prog X.w) X.A (f (.int i t)) Q E s) :
    UnR X f (rU fun i => .int (g i)) := by
  intro pins s σ H x v Q I rx h
  obtain ⟨i, rfl, q⟩ := h
  obtain ⟨t, rfl⟩ := rx
  exact rule i t s _ _ ⟨.int (g i), H, I.tok _, ⟨_, rfl⟩, q⟩
theorem un_neg : UnR X (unaryOp .USub) (rU fun i => .int (-i)) := unI fun _ _ _ _ _ q => neg_int q
/-! ### bools among ints: n += (a < b) -/
end
/-! ### comparisons -/
/-- the scalars that == tells apart as data does -/
def scal : V → V → Bool
  | .non, .non => true | .non, .int _ => true | .int _, .non => true | .non, .bl _ => true | .bl _, .non => true | .non, .str _ => true | .str _, .non => true
  | .int _, .int _ => true | .bl _, .bl _ => true | .str _, .str _ => true | .byt _, .byt _ => true
  | .int _, .str _ => true | .str _, .int _ => true | .bl _, .str _ => true | .str _, .bl _ => true
  | _, _ => false
def rEq : R2 := fun x y H Q => scal x y = true ∧ Q (.bl (decide (x = y))) H
def rNe : R2 := fun x y H Q => scal x y = true ∧ Q (.bl (!decide (x = y))) H
theorem dec_int {i j : Int} : decide (V.int i = V.int j) = (i == j) := by
  rw [Bool.eq_iff_iff]
  simp
theorem dec_bl {i j : Bool} : decide (V.bl i = V.bl j) = (i == j) := by
  rw [Bool.eq_iff_iff]
  simp
theorem dec_str {i j : Str} : decide (V.str i = V.str j) = (i == j) := by
  rw [Bool.eq_iff_iff]
  simp
theorem dec_byt {i j : Array UInt8} : decide (V.byt i = V.byt j) = (i.toList == j.toList) := by
  rw [Bool.eq_iff_iff]
  cases i
  cases j
  simp
section
variable {X : Cx} {a b c : Expr} {ta tb tc : TE} {pos : Pos}
theorem fin_bl {pins : List (Addr × Obj)} {σ : St} {H : Hp} {s : Shared} {Q : VK} {k k' : Bool} (I : Inv X pins σ H s) (q : Q (.bl k) H) (e : k = k') : EP X pins σ Q (.bool k') s := by
  subst e
  exact ⟨.bl k, H, I, rfl, q⟩
theorem op_eq : OpR X (compareOp .Eq) rEq := by
  intro pins s σ H x y v u Q I rx ry h
  obtain ⟨hs, q⟩ := h
  cases x with
  | non =>
    cases rx
    cases y with
    | non => cases ry; exact PySem.EqNone.eq_none_none (fin_bl I q (by simp))
    | bl j => cases ry; exact PySem.EqNone.eq_none_bool (fin_bl I q (by simp))
    | int j => obtain ⟨t', rfl⟩ := ry; exact PySem.EqNone.eq_none_int (fin_bl I q (by simp))
    | str j => obtain ⟨t', rfl⟩ := ry; exact PySem.EqNone.eq_none_str (fin_bl I q (by simp))
    | _ => exact absurd (show false = true from hs) Bool.false_ne_true
  | bl i =>
    cases rx
    cases y with
    | non => cases ry; exact PySem.EqNone.eq_bool_none (fin_bl I q (by simp))
    | bl j => cases ry; exact eq_bool (fin_bl I q dec_bl)
    | str j => obtain ⟨t', rfl⟩ := ry; exact PySem.EqMixed.eq_bool_str (fin_bl I q (by simp))
    | _ => exact absurd (show false = true from hs) Bool.false_ne_true
  | int i =>
    obtain ⟨t, rfl⟩ := rx
    cases y with
    | non => cases ry; exact PySem.EqNone.eq_int_none (fin_bl I q (by simp))
    | int j => obtain ⟨t', rfl⟩ := ry; exact eq_int (fin_bl I q dec_int)
    | str j => obtain ⟨t', rfl⟩ := ry; exact PySem.EqMixed.eq_int_str (fin_bl I q (by simp))
    | _ => exact absurd (show false = true from hs) Bool.false_ne_true
  | str i =>
    obtain ⟨t, rfl⟩ := rx
    cases y with
    | non => cases ry; exact PySem.EqNone.eq_str_none (fin_bl I q (by simp))
    | bl j => cases ry; exact PySem.EqMixed.eq_str_bool (fin_bl I q (by simp))
    | int j => obtain ⟨t', rfl⟩ := ry; exact PySem.EqMixed.eq_str_int (fin_bl I q (by simp))
    | str j => obtain ⟨t', rfl⟩ := ry; exact eq_str (fin_bl I q dec_str)
    | _ => exact absurd (show false = true from hs) Bool.false_ne_true
  | byt i =>
    obtain ⟨t, rfl⟩ := rx
    cases y with
    | byt j => obtain ⟨t', rfl⟩ := ry; exact PySem.W.eq_bytes (fin_bl I q dec_byt)
    | _ => exact absurd (show false = true from hs) Bool.false_ne_true
  | _ => cases y <;> exact absurd (show false = true from hs) Bool.false_ne_true
theorem op_ne : OpR X (compareOp .NotEq) rNe := by
  intro pins s σ H x y v u Q I rx ry h
  obtain ⟨hs, q⟩ := h
  cases x with
  | non =>
    cases rx
    cases y with
    | non => cases ry; exact PySem.EqNone.ne_none_none (fin_bl I q (by simp))
    | bl j => cases ry; exact PySem.EqNone.ne_none_bool (fin_bl I q (by simp))
    | int j => obtain ⟨t', rfl⟩ := ry; exact PySem.EqNone.ne_none_int (fin_bl I q (by simp))
    | str j => obtain ⟨t', rfl⟩ := ry; exact PySem.EqNone.ne_none_str (fin_bl I q (by simp))
    | _ => exact absurd (show false = true from hs) Bool.false_ne_true
  | bl i =>
    cases rx
    cases y with
    | non => cases ry; exact PySem.EqNone.ne_bool_none (fin_bl I q (by simp))
    | bl j => cases ry; exact ne_bool (fin_bl I q (congrArg not dec_bl))
    | str j => obtain ⟨t', rfl⟩ := ry; exact PySem.EqMixed.ne_bool_str (fin_bl I q (by simp))
    | _ => exact absurd (show false = true from hs) Bool.false_ne_true
  | int i =>
    obtain ⟨t, rfl⟩ := rx
    cases y with
    | non => cases ry; exact PySem.EqNone.ne_int_none (fin_bl I q (by simp))
    | int j => obtain ⟨t', rfl⟩ := ry; exact ne_int (fin_bl I q (congrArg not dec_int))
    | str j => obtain ⟨t', rfl⟩ := ry; exact PySem.EqMixed.ne_int_str (fin_bl I q (by simp))
    | _ => exact absurd (show false = true from hs) Bool.false_ne_true
  | str i =>
    obtain ⟨t, rfl⟩ := rx
    cases y with
    | non => cases ry; exact PySem.EqNone.ne_str_none (fin_bl I q (by simp))
    | bl j => cases ry; exact PySem.EqMixed.ne_str_bool (fin_bl I q (by simp))
    | int j => obtain ⟨t', rfl⟩ := ry; exact PySem.EqMixed.ne_str_int (fin_bl I q (by simp))
    | str j => obtain ⟨t', rfl⟩ := ry; exact ne_str (fin_bl I q (congrArg not dec_str))
    | _ => exact absurd (show false = true from hs) Bool.false_ne_true
  | byt i =>
    obtain ⟨t, rfl⟩ := rx
    cases y with
    | byt j => obtain ⟨t', rfl⟩ := ry; exact PySem.W.ne_bytes (fin_bl I q (congrArg not dec_byt))
    | _ => exact absurd (show false = true from hs) Bool.false_ne_true
  | _ => cases y <;> exact absurd (show false = true from hs) Bool.false_ne_true
theorem op_lt : OpR X (compareOp .Lt) (rI0 fun i j => .bl (decide (i < j))) := opB0 fun _ _ _ _ _ _ _ q => lt_int q
theorem op_gt : OpR X (compareOp .Gt) (rI0 fun i j => .bl (decide (j < i))) := opB0 fun _ _ _ _ _ _ _ q => gt_int q
theorem op_ge : OpR X (compareOp .GtE) (rI0 fun i j => .bl (decide (j ≤ i))) := opB0 fun _ _ _ _ _ _ _ q => ge_int q
/-- is None, is not None: the right side a value none -/
theorem op_isN : OpR X (compareOp .Is) (fun x y H Q => y = .non ∧ Q (.bl (decide (x = .non))) H) := by
  intro pins s σ H x y v u Q I rx ry h
  obtain ⟨rfl, q⟩ := h
  cases ry
  refine is_none_gen (fin_bl I q ?_)
  cases x <;> first
    | (cases rx; rfl)
    | (obtain ⟨t, rfl⟩ := rx; rfl)
/-- two rules for one operation: by cases -/
theorem OpR.or {f : Value → Value → Sem Value} {r r' : R2} (h : OpR X f r) (h' : OpR X f r') : OpR X f (fun x y H Q => r x y H Q ∨ r' x y H Q) := by
  intro pins s σ H x y v u Q I rx ry q
  rcases q with q | q
  · exact h pins s σ H x y v u Q I rx ry q
  · exact h' pins s σ H x y v u Q I rx ry q
theorem nomark (b : Expr) {op : CmpOp} (h : op ≠ .In := by decide) (h2 : op ≠ .NotIn := by decide) : behindInMarks op b = false := by
  have e1 : (op == CmpOp.In) = false := by cases op <;> first | rfl | exact absurd rfl h
  have e2 : (op == CmpOp.NotIn) = false := by cases op <;> first | rfl | exact absurd rfl h2
  cases b <;> simp [behindInMarks, e1, e2]
/-- a comparison as a value; hm: nomark b, or (for in, not in) by with_unfolding_all rfl -/
theorem pe_cmpR {op : CmpOp} {r : R2} (ho : OpR X (compareOp op) r) (ha : PE X a ta) (hb : PE X b tb) (hm : behindInMarks op b = false) : PE X (.Compare a [op] [b] pos) (tOp r ta tb) := by
  intro pins s σ H Q I h
  exact wpAny_Compare1 (binT ha hb I h fun v u s2 x y H2 I2 rx ry q => ho pins s2 σ H2 x y v u Q I2 rx ry q) hm
/-- a reading of a value as a test -/
def tTest (t : TE) : TT := fun σ H Q => t σ H fun x H' => ∃ k, x = .bl k ∧ Q k H'
theorem pt_cmpR {op : CmpOp} {r : R2} (ho : OpR X (compareOp op) r) (ha : PE X a ta) (hb : PE X b tb) (hm : behindInMarks op b = false) : PT X (.Compare a [op] [b] pos) (tTest (tOp r ta tb)) := by
  intro pins s σ H Q I h
  refine wpAny_isTrue_Compare1 (thn (ha pins s σ H _ I h) fun v s1 ⟨x, H1, I1, r1, q1⟩ => thn (hb pins s1 σ H1 _ I1 q1) fun u s2 ⟨y, H2, I2, r2, q2⟩ =>
    thn (ho pins s2 σ H2 x y v u _ I2 r1 r2 q2) fun c s3 ⟨z, H3, I3, r3, k, e, q3⟩ => ?_) hm
  subst e
  cases r3
  exact wpAny_truthy_bool ⟨H3, I3, q3⟩
/-! ### truth -/
/-- a value's truth by the abstract heap -/
def TruV (K : PySem.W.Frag) (x : V) (H : Hp) (k : Bool) : Prop :=
  match x with
  | .non => k = false
  | .bl b => k = b
  | .int i => k = (i != 0)
  | .str y => y.length ≤ sizeLine ∧ k = ((y.length : Int) != 0)
  | .byt y => y.size ≤ sizeLine ∧ k = ((y.size : Int) != 0)
  | .ref p => (∃ xs, SqL K H p xs ∧ k = !xs.isEmpty) ∨ (∃ xs, SqT K H p xs ∧ k = !xs.isEmpty) ∨ ∃ kvs, H p = some (.dK kvs) ∧ k = !kvs.isEmpty
  | _ => False
theorem isEmpty_kv {κ : Type} {kvs : List (κ × V)} {vs : List (κ × Value)} (r : KV kvs vs) : (!vs.isEmpty) = !kvs.isEmpty := by
  cases r <;> rfl
theorem isEmpty_of {xs : List V} {its : List Value} (r : Vals xs its) : (!its.toArray.isEmpty) = !xs.isEmpty := by
  cases r <;> simp
theorem line63 : (sizeLine : Nat) < 2 ^ 63 := by rw [sizeLine_eq]; decide
theorem tru_ok : TruR X (fun x H Q => ∃ k, TruV X.K x H k ∧ Q k H) := by
  intro pins s σ H x v Q I rx h
  obtain ⟨k, e, q⟩ := h
  have hl := line63
  have hs : sizeLine = 16777216 := sizeLine_eq
  cases x with
  | non =>
    cases rx
    have e' : k = false := e
    subst e'
    exact truthy_none ⟨H, I, q⟩
  | bl b =>
    cases rx
    have e' : k = b := e
    subst e'
    exact wpAny_truthy_bool ⟨H, I, q⟩
  | int i =>
    obtain ⟨t, rfl⟩ := rx
    have e' : k = (i != 0) := e
    subst e'
    exact PySem.P.truthy_int ⟨H, I, q⟩
  | str y =>
    obtain ⟨t, rfl⟩ := rx
    obtain ⟨hy, e'⟩ : y.length ≤ sizeLine ∧ k = ((y.length : Int) != 0) := e
    subst e'
    exact PySem.P.truthy_str (by omega) ⟨H, I.tok _, q⟩
  | byt y =>
    obtain ⟨t, rfl⟩ := rx
    obtain ⟨hy, e'⟩ : y.size ≤ sizeLine ∧ k = ((y.size : Int) != 0) := e
    subst e'
    exact PySem.W.truthy_bytes (by omega) ⟨H, I.tok _, q⟩
  | ref p =>
    cases rx
    have e' : (∃ xs, SqL X.K H p xs ∧ k = !xs.isEmpty) ∨ (∃ xs, SqT X.K H p xs ∧ k = !xs.isEmpty) ∨ ∃ kvs, H p = some (.dK kvs) ∧ k = !kvs.isEmpty := e
    rcases e' with ⟨xs, hx, e'⟩ | ⟨xs, hx, e'⟩ | ⟨kvs, hx, e'⟩
    · subst e'
      obtain ⟨its, r, pl, hz⟩ := I.list hx
      have hlen := r.length
      exact wpAny_truthy_list pl.isList (by simp only [List.size_toArray]; omega) ⟨H, I.tok _, by rw [isEmpty_of r]; exact q⟩
    · subst e'
      obtain ⟨its, r, pl, hz⟩ := I.tuple hx
      have hlen := r.length
      exact truthy_tuple pl (by simp only [List.size_toArray]; omega) ⟨H, I.tok _, by rw [isEmpty_of r]; exact q⟩
    · subst e'
      obtain ⟨hz, hS, vs, r, m⟩ : kvs.length ≤ sizeLine ∧ (p == sysModules) = false ∧ ∃ vs, KV kvs vs ∧ s.heap.DictOf (mixKind X.prog X.w) p vs := I.hok p _ hx
      have hlen : kvs.length = vs.length := Paired.length r
      exact wpAny_truthy_dict hS m (by omega) ⟨H, I.tok _, by rw [isEmpty_kv r]; exact q⟩
  | _ => exact (show False from e).elim
/-- any expression whose test is its value's truth (a name, a call, a subscript, a field ..: he by fun _ => rfl) -/
theorem pt_truth (ha : PE X a ta) (he : ∀ whole, isTrue a X.env whole = (do let v ← whole; standAt a.pos; holding [v] (truthy v))) :
    PT X a (fun σ H Q => ta σ H fun x H' => ∃ k, TruV X.K x H' k ∧ Q k H') := by
  intro pins s σ H Q I h
  exact isTrue_plain (thn (ha pins s σ H _ I h) fun v s1 ⟨x, H1, I1, r1, q1⟩ => tru_ok pins s1 σ H1 x v Q I1 r1 q1) (he _)
/-! ### strs and bytes -/
/-! ### scalar builtins, by CallR -/
theorem vals1 {x : V} {us : List Value} (r : Vals [x] us) : ∃ u, us = [u] ∧ RelV x u := by
  cases r with
  | cons r1 r2 => cases r2; exact ⟨_, rfl, r1⟩
theorem vals2 {x y : V} {us : List Value} (r : Vals [x, y] us) : ∃ u w', us = [u, w'] ∧ RelV x u ∧ RelV y w' := by
  cases r with
  | cons r1 r2 =>
    cases r2 with
    | cons r3 r4 => cases r4; exact ⟨_, _, rfl, r1, r3⟩
theorem call_abs : CallR X (.builtin "abs") (fun xs H Q => ∃ i, xs = [.int i] ∧ Q (.int (if i < 0 then -i else i)) H) := by
  intro pins s σ H xs us Q I r h
  obtain ⟨i, rfl, q⟩ := h
  obtain ⟨u, rfl, t, rfl⟩ := vals1 r
  exact call_abs_int fun u tk => ⟨.int (if i < 0 then -i else i), H, I.tok _, ⟨_, rfl⟩, q⟩
theorem call_min2 (hc : X.calm = true) : CallR X (.builtin "min") (fun xs H Q => ∃ i j, xs = [.int i, .int j] ∧ Q (.int (if j < i then j else i)) H) := by
  intro pins s σ H xs us Q I r h
  obtain ⟨i, j, rfl, q⟩ := h
  obtain ⟨u, w', rfl, ⟨t, rfl⟩, ⟨t', rfl⟩⟩ := vals2 r
  refine min_two_ints (I.ok.hd hc) fun h' tk k => ⟨_, H, I.kept k, ?_, q⟩
  by_cases hj : j < i
  · rw [if_pos hj, if_pos hj]; exact ⟨_, rfl⟩
  · rw [if_neg hj, if_neg hj]; exact ⟨_, rfl⟩
theorem call_int1 : CallR X (.type "int") (fun xs H Q => (∃ i, xs = [.int i] ∧ Q (.int i) H) ∨ ∃ k, xs = [.bl k] ∧ Q (.int (if k then 1 else 0)) H) := by
  intro pins s σ H xs us Q I r h
  rcases h with ⟨i, rfl, q⟩ | ⟨k, rfl, q⟩
  · obtain ⟨u, rfl, t, rfl⟩ := vals1 r
    exact call_int_int ⟨.int i, H, I, ⟨_, rfl⟩, q⟩
  · obtain ⟨u, rfl, r1⟩ := vals1 r
    cases r1
    exact call_int_bool ⟨.int (if k then 1 else 0), H, I.tok _, ⟨_, rfl⟩, q⟩
end
end L2
namespace L2
open PySem PySem.Spec PyProof.Rows
/-! ### an instance, its attributes a map -/
structure ObjM (h : Heap) (x dx C : Addr) (mA : Str → Option Value) : Prop where
  obj : h.get? x = some (PySem.W.instObj C dx)
  ns : h.Ns1 dx mA
  ne : dx ≠ x
theorem lookIn_ns {h : Heap} {dx : Addr} {mA : Str → Option Value} (n : h.Ns1 dx mA) : ∃ od, h.get? dx = some od ∧ ∀ name, PySem.W.lookIn name od = some (mA name) := by
  obtain ⟨o, es, ep, ho, hd, hk, _, hm⟩ := n
  refine ⟨o, ho, fun name => ?_⟩
  have e := hm name
  unfold nsFind findBy at e
  rw [← Array.find?_toList] at e
  unfold PySem.W.lookIn
  rw [hd]
  dsimp only
  split
  · rename_i y q
    rw [q] at e
    exact congrArg some e
  · rename_i q
    rw [q] at e
    have a : es.toList.any (·.refKey) = false := by
      rw [List.any_eq_false]
      intro y hy
      obtain ⟨z, t, hkey⟩ := hk y (Array.mem_toList_iff.mp hy)
      simp [DictEntry.refKey, hkey]
    have a' : ¬ es.toList.any (·.refKey) = true := by rw [a]; exact Bool.false_ne_true
    rw [if_neg a']
    exact congrArg some e
theorem ObjM.look {h : Heap} {x dx C : Addr} {mA : Str → Option Value} (I : ObjM h x dx C mA) : ∃ od, PySem.W.InstAt h x (PySem.W.instObj C dx) C (some od) ∧ ∀ name, PySem.W.lookIn name od = some (mA name) :=
  let ⟨od, ho, hl⟩ := lookIn_ns I.ns
  ⟨od, ⟨I.obj, rfl, rfl, ho⟩, hl⟩
section
variable {prog : Program} {w : World} {A : Around} {E : Value → Shared → Prop} {s : Shared} {K : PySem.W.Frag} {x dx C f : Addr} {mA : Str → Option Value} {name : Str} {v : Value}
theorem get_map {expr : Bool} {Q : Value → Shared → Prop} (X : K.In s.heap) (I : ObjM s.heap x dx C mA) (hg : PySem.W.plainGet K C name = true) (hh : PySem.W.hasDictIn K C = true)
    (ha : PySem.W.findIn K (.ref C) name = some none) (hv : mA name = some v) (hv' : PySem.W.handedIn v = true) (h : Q v { s with toks := s.toks + 1 }) :
    wpAny (model prog w) A (getAttr (.ref x) name expr) Q E s := by
  obtain ⟨od, J, hl⟩ := I.look
  exact PySem.W.get_value X J (PySem.W.plainGet_of hg).1 (PySem.W.findObj_own hh ha rfl (by rw [hl, hv])) hv' h
end
/-! ### the attributes as a list of pairs -/
theorem RelO.none_of {o : Option Value} (r : RelO none o) : o = none := by
  cases o with
  | none => rfl
  | some u => exact (show False from r).elim
section
variable {P : Program} {w : World} {H H' : Hp} {h h' : Heap} {a C dx : Addr} {fs fs' : List (Str × V)}
end
/-! ### what of the text a class must have -/
structure Cls (K : PySem.W.Frag) (C : Addr) : Prop where
  pg : PySem.W.plainGet K C Str.empty = true
  hd : PySem.W.hasDictIn K C = true
  po : PySem.W.plainOver K C = true
  sa : PySem.W.findIn K (.ref C) "__setattr__" = some (some (.builtin "object.__setattr__"))
theorem Cls.get {K : PySem.W.Frag} {C : Addr} (c : Cls K C) (f : Str) : PySem.W.plainGet K C f = true := c.pg
/-- a constant of the class -/
structure Con (K : PySem.W.Frag) (C : Addr) (f : Str) (v : V) (u : Value) : Prop where
  at_ : PySem.W.findIn K (.ref C) f = some (some u)
  rel : RelV v u
  get : PySem.W.specialIn K u "__get__" = some none
  cp : PySem.W.copiedNames.contains f = false
/-- a method: a plain def of the class or of one above it -/
structure Meth (K : PySem.W.Frag) (C : Addr) (m : Str) (f : Addr) : Prop where
  at_ : PySem.W.findIn K (.ref C) m = some (some (.ref f))
  fn : PySem.W.isFn K (.ref f) = true
  kp : PySem.W.keepIn K (.ref f) = true
section
variable {X : Cx} {pins : List (Addr × Obj)} {σ : St} {H : Hp} {s : Shared} {a C dx : Addr} {fs : List (Str × V)} {f : Str} {v : V} {A : Around} {E : Value → Shared → Prop}
/-- a new instance, tracked, without attributes -/
theorem Inv.made (I : Inv X pins σ H s) : Inv X pins σ (upd (upd H s.heap.objs.size (.own (s.heap.objs.size + 1))) (s.heap.objs.size + 1) (.ins C s.heap.objs.size []))
    { s with heap := (s.heap.push PySem.W.emptyDict).push (PySem.W.instObj C s.heap.objs.size) } := by
  have e1 : (s.heap.push PySem.W.emptyDict).get? s.heap.objs.size = some PySem.W.emptyDict := Heap.get?_push_size s.heap rfl
  have e2 : ((s.heap.push PySem.W.emptyDict).push (PySem.W.instObj C s.heap.objs.size)).get? (s.heap.objs.size + 1) = some (PySem.W.instObj C s.heap.objs.size) := by
    have := Heap.get?_push_size (s.heap.push PySem.W.emptyDict) (o := PySem.W.instObj C s.heap.objs.size) rfl
    rwa [Heap.size_push] at this
  have e3 : (s.heap.push PySem.W.emptyDict).Ns s.heap.objs.size (fun _ => none) := ⟨PySem.W.emptyDict, #[], _, e1, rfl, (fun e he => absurd he (by simp)), fun _ => rfl⟩
  have I1 := I.laid (a := s.heap.objs.size) (o := .own (s.heap.objs.size + 1)) (h' := s.heap.push PySem.W.emptyDict) (t' := s.toks) (fun b u q => Heap.get?_push_of_some _ q) (Nat.le_refl _) ⟨_, e1⟩
  refine I1.laid (a := s.heap.objs.size + 1) (o := .ins C s.heap.objs.size []) (t' := s.toks) (fun b u q => Heap.get?_push_of_some _ q) (Nat.le_of_eq (Heap.size_push _ _)) ?_
  have ne : s.heap.objs.size ≠ s.heap.objs.size + 1 := Nat.ne_of_lt (Nat.lt_succ_self _)
  refine ⟨by rw [upd_ne ne, upd_same], Nat.zero_le _, ne, e2, fun _ => none, (Heap.Ns1.of_empty e3).at fun o q => Heap.get?_push_of_some _ q, fun _ => True.intro, fun y hy => absurd rfl hy⟩
end
/-! ### readings and rules -/
section
variable {X : Cx} {o e value : Expr} {f : Str} {pos pos' tpos : Pos} {ta tv : TE}
end
/-! ### isinstance -/
section
variable {X : Cx} {pins : List (Addr × Obj)} {σ : St} {H : Hp} {s : Shared} {A : Around} {E : Value → Shared → Prop} {Q : Value → Shared → Prop} {c : Value} {b : Bool}
/-- the type of a value, as the fragment's deciders take it; for an instance its class -/
inductive TyOf (K : PySem.W.Frag) (H : Hp) : V → Value → Prop where
  | non : TyOf K H .non (.type "NoneType")
  | bl (x : Bool) : TyOf K H (.bl x) (.type "bool")
  | int (i : Int) : TyOf K H (.int i) (.type "int")
  | str (x : Str) : TyOf K H (.str x) (.type "str")
  | flt (x : UInt64) : TyOf K H (.flt x) (.type "float")
  | lst {a : Addr} {xs : List V} (e : H a = some (.lst xs)) : TyOf K H (.ref a) (.type "list")
  | frz {a : Addr} {o : Obj} {xs : List V} (e : H a = some (.frz o (.lst xs))) : TyOf K H (.ref a) (.type "list")
  | tup {a : Addr} {xs : List V} (e : H a = some (.tup xs)) : TyOf K H (.ref a) (.type "tuple")
  | dK {a : Addr} {kvs : List (Key × V)} (e : H a = some (.dK kvs)) : TyOf K H (.ref a) (.type "dict")
  | dT {a : Addr} {kvs : List (List Key × V)} (e : H a = some (.dT kvs)) : TyOf K H (.ref a) (.type "dict")
  | ins {a C dx : Addr} {fs : List (Str × V)} (e : H a = some (.ins C dx fs)) (cl : Cls K C) (ha : PySem.W.findIn K (.ref C) "__class__" = some (some (.builtin "object.__class__")))
      (hn : PySem.W.specialIn K (.builtin "object.__class__") "__get__" = some (some (.builtin "getset_descriptor.__get__"))) (htk : PySem.W.takesIn K (.builtin "object.__class__") = some true)
      (hm : PySem.W.mroIn K C (.type "object") = some true) : TyOf K H (.ref a) (.ref C)
end
end L2
namespace L2
open PySem PySem.Spec PyProof.Rows
/-! ### room -/
structure Room (k : Nat) (A : Around) : Prop where
  hd : A.handled = none
  dp : A.depth + 3 * k + 5 < recursionLimit
  un : A.units + 16 * k + 200 < cLine
  gd : A.guards = some []
theorem Room.mono {j k : Nat} {A : Around} (r : Room k A) (h : j ≤ k) : Room j A := ⟨r.hd, by have := r.dp; omega, by have := r.un; omega, r.gd⟩
theorem Room.deeper {k : Nat} {A : Around} (r : Room (k + 1) A) (env : Env) : Room k (A.deeper env) :=
  ⟨r.hd, by have := r.dp; show A.depth + 1 + 3 * k + 5 < _; omega, by have := r.un; show A.units + 3 + 16 * k + 200 < _; omega, r.gd⟩
theorem Room.in1 {k : Nat} {A : Around} (r : Room (k + 1) A) : Room k A.in1 :=
  ⟨r.hd, by have := r.dp; show A.depth + 3 * k + 5 < _; omega, by have := r.un; show A.units + 1 + 16 * k + 200 < _; omega, r.gd⟩
theorem make_depth {A : Around} {C : Addr} {us : List Value} {kw : List (Str × Value)} : (A.under (.builtin "type.__call__" ⟨.ref C :: us, kw⟩)).depth = A.depth + 1 := by
  first | rfl | simp [Around.under, Code.weight, Code.isCreation, Code.isGuard, Code.isCaller, Code.frames, Code.isFrame, guardIds]
theorem make_units {A : Around} {C : Addr} {us : List Value} {kw : List (Str × Value)} : (A.under (.builtin "type.__call__" ⟨.ref C :: us, kw⟩)).units = A.units + 1 := by
  first | rfl | simp [Around.under, Code.cUnits, Code.frames, Code.isFrame]
theorem Room.make {k : Nat} {A : Around} (r : Room (k + 1) A) (C : Addr) (us : List Value) (kw : List (Str × Value)) : Room k (A.under (.builtin "type.__call__" ⟨.ref C :: us, kw⟩)) :=
  ⟨r.hd, by have := r.dp; rw [make_depth]; omega, by have := r.un; rw [make_units]; omega, by first | exact r.gd | simpa [Around.under, pushGuards, Code.guards, Code.isGuard, guardIds] using r.gd⟩
theorem Room.depth {k : Nat} {A : Around} (r : Room k A) : A.depth < recursionLimit := by have := r.dp; omega
theorem Room.units {k : Nat} {A : Around} (r : Room k A) : A.units + 64 < cLine := by have := r.un; omega
/-! ### argument lists and displays -/
def tNil : TA := fun _ H Q => Q [] H
def tCons (ta : TE) (tr : TA) : TA := fun σ H Q => ta σ H fun x H1 => tr σ H1 fun xs H2 => Q (x :: xs) H2
section
variable {X : Cx} {e : Expr} {es : List Expr} {te : TE} {t : TA} {pos : Pos}
theorem pa_nil : PA X [] tNil := fun _ _ _ _ H Q I h => Calls.spliced_nil ⟨[], H, I, .nil, h⟩
theorem pa_cons (ha : PE X e te) (hr : PA X es t) (hs : starEach (e :: es) X.env = (false, eval e X.env) :: starEach es X.env := by rfl) : PA X (e :: es) (tCons te t) := by
  intro pos pins s σ H Q I h
  rw [hs]
  show wpAny _ _ (spliced ((false, eval e X.env) :: backTo pos (starEach es X.env))) _ _ s
  refine Calls.spliced_cons (thn (ha pins s σ H _ I h) fun u s1 ⟨x, H1, I1, r1, q1⟩ => ?_)
  exact thn (hr pos pins s1 σ H1 _ I1 q1) fun us s2 ⟨xs, H2, I2, r2, q2⟩ => ⟨x :: xs, H2, I2, .cons r1 r2, q2⟩
/-- a tuple, a list of written items -/
def tTup (t : TA) : TE := fun σ H Q => t σ H fun xs H1 => xs.length ≤ sizeLine ∧ ∀ p, H1 p = none → Q (.ref p) (upd H1 p (.tup xs))
def tLst (t : TA) : TE := fun σ H Q => t σ H fun xs H1 => xs.length ≤ sizeLine ∧ ∀ p, H1 p = none → Q (.ref p) (upd H1 p (.lst xs))
theorem pe_tup {x1} (h : PA X es t) : PE X (.Tuple es x1 pos) (tTup t) := by
  intro pins s σ H Q I hq
  refine wpAny_Tuple_spliced (thn (h pos pins s σ H _ I hq) fun us s1 ⟨xs, H1, I1, r, z, q⟩ => ⟨by rw [← r.length]; exact z, ?_⟩)
  have hf : H1 s1.heap.objs.size = none := I1.hok.fresh (Nat.le_refl _)
  refine ⟨.ref s1.heap.objs.size, upd H1 s1.heap.objs.size (.tup xs), I1.laid (t' := s1.toks) (fun b u e => Heap.get?_push_of_some _ e) (Nat.le_refl _) ?_, rfl, q _ hf⟩
  exact ⟨z, us, r, ⟨_, Heap.get?_push_size _ rfl, rfl, _, rfl⟩⟩
theorem pe_lst (h : PA X es t) : PE X (.List es pos) (tLst t) := by
  intro pins s σ H Q I hq
  refine wpAny_List_spliced (thn (h pos pins s σ H _ I hq) fun us s1 ⟨xs, H1, I1, r, z, q⟩ => ⟨by rw [← r.length]; exact z, ?_⟩)
  have hf : H1 s1.heap.objs.size = none := I1.hok.fresh (Nat.le_refl _)
  refine ⟨.ref s1.heap.objs.size, upd H1 s1.heap.objs.size (.lst xs), I1.laid (t' := s1.toks) (fun b u e => Heap.get?_push_of_some _ e) (Nat.le_refl _) ?_, rfl, q _ hf⟩
  exact ⟨z, us, 0, r, Heap.get?_push_size _ rfl⟩
end
/-! ### what a def promises -/
/-- a def's promise: the bound arguments in the parameters' order, the heap, the wanted end, the wanted exception -/
abbrev Sp := List V → Hp → VK → XK → Prop
/-- how an exception lies behind a call (file 08 gives it): the callers' frames, abstract heap and state ahead of the call, the wish, the exception, the state -/
abbrev CXT := List Env → Hp → Shared → XK → Value → Shared → Prop
/-- the state at a call -/
structure Env0 (P : Program) (w : World) (K : PySem.W.Frag) (mg : Str → Option Value) (base : Heap) (A : Around) (outer : List Env) (s : Shared) (H : Hp) : Prop where
  frames : A.frames = some outer
  mod : Mod K mg base
  bs : ∀ b o, base.get? b = some o → s.heap.get? b = some o ∧ H b = none
  bsz : base.objs.size ≤ s.heap.objs.size
  funs : s.heap.FunFrames base outer
  frf : ∀ b ∈ frs outer, H b = none
  hok : HOk P w H s.heap
  bare : AllBare s.gens
/-- a call's end -/
def CE (outer : List Env) (P : Program) (w : World) (H : Hp) (s : Shared) (Q : VK) (u : Value) (s' : Shared) : Prop :=
  ∃ v H', s'.os = s.os ∧ AllBare s'.gens ∧ Un (frs outer) [] H H' s.heap s'.heap ∧ HOk P w H' s'.heap ∧ RelV v u ∧ Q v H'
def CR (CX : CXT) (outer : List Env) (P : Program) (w : World) (H : Hp) (s : Shared) (Q : VK) (E : XK) (r : Result) (s' : Shared) : Prop :=
  match r with
  | .ok (.ret u) => CE outer P w H s Q u s'
  | .ok _ => False
  | .error e => CX outer H s E e s'
structure FnOk (P : Program) (w : World) (K : PySem.W.Frag) (mg : Str → Option Value) (base : Heap) (CX : CXT) (k : Nat) (f : Addr) (fd : FuncData) (ps : List Str) (sp : Sp) : Prop where
  len : ∀ vs H Q E, sp vs H Q E → vs.length = ps.length
  run : ∀ (A : Around) (outer : List Env) (s : Shared) (H : Hp) (args : Args) (us : List Value) (vs : List V) (Q : VK) (E : XK), Room k A → Env0 P w K mg base A outer s H → BindsTo s fd args (ps.zip us) → Vals vs us → sp vs H Q E →
    codeAny (model P w) A (.call (.ref f) args) (CR CX outer P w H s Q E) s
theorem FnOk.mono {P : Program} {w : World} {K : PySem.W.Frag} {mg : Str → Option Value} {base : Heap} {CX : CXT} {j k : Nat} {f : Addr} {fd : FuncData} {ps : List Str} {sp : Sp} (F : FnOk P w K mg base CX j f fd ps sp) (h : j ≤ k) :
    FnOk P w K mg base CX k f fd ps sp := ⟨F.len, fun A outer s H args us vs Q E hr => F.run A outer s H args us vs Q E (hr.mono h)⟩
/-- a weaker promise -/
theorem FnOk.imp {P : Program} {w : World} {K : PySem.W.Frag} {mg : Str → Option Value} {base : Heap} {CX : CXT} {k : Nat} {f : Addr} {fd : FuncData} {ps : List Str} {sp sp' : Sp} (F : FnOk P w K mg base CX k f fd ps sp)
    (h : ∀ vs H Q E, sp' vs H Q E → sp vs H Q E) : FnOk P w K mg base CX k f fd ps sp' :=
  ⟨fun vs H Q E q => F.len vs H Q E (h _ _ _ _ q), fun A outer s H args us vs Q E hr he hb hv hs => F.run A outer s H args us vs Q E hr he hb hv (h _ _ _ _ hs)⟩
theorem Env0.make {P : Program} {w : World} {K : PySem.W.Frag} {mg : Str → Option Value} {base : Heap} {A : Around} {outer : List Env} {s : Shared} {H : Hp} (e : Env0 P w K mg base A outer s H) (C : Addr) (us : List Value) (kw : List (Str × Value)) :
    Env0 P w K mg base (A.under (.builtin "type.__call__" ⟨.ref C :: us, kw⟩)) outer s H := ⟨by first | exact e.frames | (simpa [Around.under, Code.envs, Code.isFrame, pushEnvs] using e.frames), e.mod, e.bs, e.bsz, e.funs, e.frf, e.hok, e.bare⟩
theorem Env0.in1 {P : Program} {w : World} {K : PySem.W.Frag} {mg : Str → Option Value} {base : Heap} {A : Around} {outer : List Env} {s : Shared} {H : Hp} (e : Env0 P w K mg base A outer s H) :
    Env0 P w K mg base A.in1 outer s H := ⟨e.frames, e.mod, e.bs, e.bsz, e.funs, e.frf, e.hok, e.bare⟩
section
variable {X : Cx} {pins : List (Addr × Obj)} {σ : St} {H : Hp} {s s' : Shared}
/-- from a body: what a callee wants -/
theorem Inv.env0 (I : Inv X pins σ H s) : Env0 X.prog X.w X.K X.mg X.base X.A X.stack s H :=
  ⟨I.ok.frames, I.ok.mod, I.bs, Nat.le_trans I.ok.bsz I.sz, I.stack, I.stkFree, I.hok, I.bare⟩
/-- behind a call -/
theorem Inv.after {Q : VK} {u : Value} (I : Inv X pins σ H s) (h : CE X.stack X.prog X.w H s Q u s') : EP X pins σ Q u s' := by
  obtain ⟨v, H', os, bare, un, hok, r, q⟩ := h
  obtain ⟨hh, g, d, t, os'⟩ := s'
  obtain rfl : os' = s.os := os
  exact ⟨v, H', I.call (h' := hh) (g' := g) (d' := d) (t' := t) (ch := []) un hok bare (fun b z => absurd z (by simp)), r, q⟩
end
/-! ### calls -/
/-- f(..): the written arguments, then the defaults dvs; E: what is wanted of an exception -/
def tCall (sp : Sp) (dvs : List V) (E : XK) (t : TA) : TE := fun σ H Q => t σ H fun vs H1 => sp (vs ++ dvs) H1 Q E
/-- how the parameters are bound: us the positional arguments, kw the keywords' values by name, ds the defaults that fill up -/
def Binds (K : PySem.W.Frag) (fd : FuncData) (ps : List Str) (ds : List Value) : Prop :=
  ∀ (s : Shared) (us : List Value), K.In s.heap → (us ++ ds).length = ps.length → BindsTo s fd ⟨us, []⟩ (ps.zip (us ++ ds))
/-- every parameter is given -/
theorem Binds.all {K : PySem.W.Frag} {fd : FuncData} {ps : List Str} (h : ∀ us : List Value, us.length = ps.length → bindArgs fd ⟨us, []⟩ = pure (ps.zip us)) : Binds K fd ps [] := fun s us _ hl => by
  rw [List.append_nil] at hl ⊢
  exact .of_eq (h us hl)
/-- an exception of a callee reaches what this body wants of exceptions -/
def Passes (CX : CXT) (X : Cx) (E : XK) : Prop := ∀ (pins : List (Addr × Obj)) (σ : St) (H : Hp) (s : Shared) (e : Value) (s' : Shared), Inv X pins σ H s → CX X.stack H s E e s' → X.xe e s'
section
variable {X : Cx} {CX : CXT} {k : Nat} {f C : Addr} {fd : FuncData} {ps : List Str} {sp : Sp} {dvs : List V} {ds : List Value} {E : XK} {x m : Str} {p pos apos : Pos} {e o : Expr} {es : List Expr} {ta : TE} {t : TA}
/-- the callee runs -/
theorem run_fn {pins : List (Addr × Obj)} {σ : St} {H : Hp} {s : Shared} {Q : VK} {us : List Value} {vs : List V} (F : FnOk X.prog X.w X.K X.mg X.base CX k f fd ps sp) (hr : Room k X.A) (hb : Binds X.K fd ps ds) (hd : Vals dvs ds) (hx : Passes CX X E)
    (I : Inv X pins σ H s) (r : Vals vs us) (h : sp (vs ++ dvs) H Q E) : wpAny (model X.prog X.w) X.A (call (.ref f) us) (EP X pins σ Q) X.xe s := by
  have r2 : Vals (vs ++ dvs) (us ++ ds) := r.append hd
  have hl : (us ++ ds).length = ps.length := by rw [← r2.length]; exact F.len _ _ _ _ h
  refine wpAny_call (codeAny_mono (F.run X.A X.stack s H ⟨us, []⟩ (us ++ ds) (vs ++ dvs) Q E hr I.env0 (hb s us I.kIn hl) r2 h) fun r s' hq => ?_)
  cases r with
  | error e => exact hx pins σ H s e s' I hq
  | ok fl =>
    cases fl with
    | ret u => exact I.after hq
    | next => exact False.elim hq
    | brk => exact False.elim hq
    | cont => exact False.elim hq
theorem pe_call (F : FnOk X.prog X.w X.K X.mg X.base CX k f fd ps sp) (hr : Room k X.A) (hg : Gl X x) (hm : X.mg x = some (.ref f)) (hk : PySem.W.keepIn X.K (.ref f) = true) (hb : Binds X.K fd ps ds) (hd : Vals dvs ds) (hx : Passes CX X E)
    (ha : PA X (e :: es) t) (hdb : (x == ("__debug__" : Str)) = false := by decide) (he : starEach (e :: es) X.env = (false, eval e X.env) :: starEach es X.env := by rfl) (hpl : (backTo pos (starEach es X.env)).any (·.1) = false := by rfl) :
    PE X (.Call (.Name x p) (e :: es) [] pos) (tCall sp dvs E t) := by
  intro pins s σ H Q I h
  refine wpAny_Call_Name_kw (ld_glob I hg hm ?_ hdb)
  refine PySem.W.callWith_K (h₀ := X.base) I.ok.mod.kin hk (thn (ha pos pins s σ H _ I h) fun us s1 ⟨vs, H1, I1, r, q⟩ => ⟨I1.kIn, ?_⟩) he hpl
  exact run_fn F hr hb hd hx I1 r q
/-- what a class must have to be made -/
structure Mk (K : PySem.W.Frag) (C f : Addr) : Prop where
  makes : PySem.W.makesIn K C = true
  init : PySem.W.findIn K (.ref C) "__init__" = some (some (.ref f))
  fn : PySem.W.isFn K (.ref f) = true
  kp : PySem.W.keepIn K (.ref C) = true
end
/-! ### keywords -/
section
variable {X : Cx} {CX : CXT} {k : Nat} {f C : Addr} {fd : FuncData} {ps ks : List Str} {sp : Sp} {E : XK} {x m : Str} {p pos apos kpos : Pos} {e o : Expr} {es : List Expr} {kws : List Keyword} {te ta : TE} {t tk : TA} {nm : Option Str}
/-- how a call with keywords binds: g puts the positional values us and the keywords' values ws (names ks) in the parameters' order, defaults among them -/
structure KBinds (K : PySem.W.Frag) (fd : FuncData) (ps ks : List Str) (g : List Value → List Value → List Value) (gV : List V → List V → List V) : Prop where
  to : ∀ (s : Shared) (us ws : List Value), K.In s.heap → (g us ws).length = ps.length → BindsTo s fd ⟨us, ks.zip ws⟩ (ps.zip (g us ws))
  rel : ∀ {vs : List V} {us : List Value} {zs : List V} {ws : List Value}, Vals vs us → Vals zs ws → Vals (gV vs zs) (g us ws)
variable {g : List Value → List Value → List Value} {gV : List V → List V → List V}
end
/-! ### a def's body keeps its promise -/
/-- names: the parameters first -/
structure FnScope (N P : List Str) (sc : Scope) : Prop where
  kind : sc.kind = .function
  co : sc.isCoroutine = false
  gen : sc.isGenerator = false
  nd : N.Nodup
  pre : N.take P.length = P
  par : ∀ x ∈ P, sc.names.lookup x = some .local ∨ sc.names.lookup x = some .cell
  nofree : ∀ y ∈ sc.names, y.2 ≠ .free
theorem bindL_out {kindOf : Str → Option NameKind} {x : Str} : ∀ {binds : List (Str × Value)} {m : Str → Option Value}, (∀ v, (x, v) ∉ binds) → bindL kindOf binds m x = m x
  | [], _, _ => rfl
  | (n, v) :: r, m, h => by
    unfold bindL
    rw [bindL_out fun w hw => h w (List.mem_cons_of_mem _ hw)]
    split
    · have : x ≠ n := by rintro rfl; exact h v List.mem_cons_self
      simp [this]
    · rfl
theorem bindC_out {kindOf : Str → Option NameKind} {x : Str} : ∀ {binds : List (Str × Value)} {m : Str → Option Value}, (∀ v, (x, v) ∉ binds) → bindC kindOf binds m x = m x
  | [], _, _ => rfl
  | (n, v) :: r, m, h => by
    unfold bindC
    rw [bindC_out fun w hw => h w (List.mem_cons_of_mem _ hw)]
    split
    · rfl
    · have : x ≠ n := by rintro rfl; exact h v List.mem_cons_self
      simp [this]
theorem bindL_get {kindOf : Str → Option NameKind} {x : Str} {v : Value} : ∀ {P : List Str} {vs : List Value} {i : Nat} {m : Str → Option Value}, P.Nodup → P[i]? = some x → vs[i]? = some v → kindOf x = some .local →
    bindL kindOf (P.zip vs) m x = some v
  | [], _, _, _, _, h, _, _ => by simp at h
  | _ :: _, [], _, _, _, _, h, _ => by simp at h
  | p :: P, w :: vs, 0, m, nd, h1, h2, hk => by
    simp at h1 h2; subst h1; subst h2
    show bindL kindOf ((p, w) :: P.zip vs) m p = _
    unfold bindL
    rw [bindL_out fun v hv => (List.nodup_cons.mp nd).1 (List.of_mem_zip hv).1, if_pos hk]
    simp
  | p :: P, w :: vs, i + 1, m, nd, h1, h2, hk => by
    show bindL kindOf ((p, w) :: P.zip vs) m x = _
    unfold bindL
    exact bindL_get (i := i) (List.nodup_cons.mp nd).2 (by simpa using h1) (by simpa using h2) hk
theorem bindC_get {kindOf : Str → Option NameKind} {x : Str} {v : Value} : ∀ {P : List Str} {vs : List Value} {i : Nat} {m : Str → Option Value}, P.Nodup → P[i]? = some x → vs[i]? = some v → kindOf x ≠ some .local →
    bindC kindOf (P.zip vs) m x = some v
  | [], _, _, _, _, h, _, _ => by simp at h
  | _ :: _, [], _, _, _, _, h, _ => by simp at h
  | p :: P, w :: vs, 0, m, nd, h1, h2, hk => by
    simp at h1 h2; subst h1; subst h2
    show bindC kindOf ((p, w) :: P.zip vs) m p = _
    unfold bindC
    rw [bindC_out fun v hv => (List.nodup_cons.mp nd).1 (List.of_mem_zip hv).1, if_neg hk]
    simp
  | p :: P, w :: vs, i + 1, m, nd, h1, h2, hk => by
    show bindC kindOf ((p, w) :: P.zip vs) m x = _
    unfold bindC
    exact bindC_get (i := i) (List.nodup_cons.mp nd).2 (by simpa using h1) (by simpa using h2) hk
/-- the names' values at the entry -/
def start (N : List Str) (vs : List V) : St := vs.map some ++ List.replicate (N.length - vs.length) none
/-- the context of a def's body, at its entry; an exception leaves the frame, then lies as CX says -/
def cxOf (CX : CXT) (P : Program) (w : World) (K : PySem.W.Frag) (mg : Str → Option Value) (base : Heap) (N : List Str) (qual : Str) (scope : Scope) (f : Addr) (cd : Value) (A : Around) (outer : List Env) (s : Shared) (H : Hp) (E : XK) : Cx where
  prog := P
  w := w
  K := K
  mg := mg
  base := base
  A := A.deeper (envOfC qual scope s.heap.objs.size f cd)
  N := N
  s₀ := s
  H₀ := H
  env := envOfC qual scope s.heap.objs.size f cd
  outer := outer
  stack := envOfC qual scope s.heap.objs.size f cd :: outer
  ex := []
  calm := true
  fn := fun _ => true
  pn := []
  xe := fun e s' => wpAny (model P w) (A.deeper (envOfC qual scope s.heap.objs.size f cd)) (leaving (envOfC qual scope s.heap.objs.size f cd) e) (fun _ s'' => CX outer H s E e s'') (fun e' s'' => CX outer H s E e' s'') s'
theorem cell_has {sc : Scope} {n : Nat} {x : Str} (h : sc.names.lookup x = some .cell) : ∃ c, (cellsFrom n sc.names []).lookup x = some c := by
  have q := PySem.W.cellsFrom_some sc.names n [] (.inl h)
  exact Option.isSome_iff_exists.mp q
theorem inv_start {CX : CXT} {P : Program} {w : World} {K : PySem.W.Frag} {mg : Str → Option Value} {base : Heap} {N ps : List Str} {qual : Str} {scope : Scope} {f : Addr} {cd : Value} {A : Around} {outer : List Env} {s s1 : Shared} {H : Hp} {E : XK} {us : List Value} {vs : List V}
    (S : FnScope N ps scope) (hd : A.handled = none) (e0 : Env0 P w K mg base A outer s H) (hl : vs.length = ps.length) (r : Vals vs us)
    (x : InCallC s s.heap.objs.size (bindL (envOfC qual scope s.heap.objs.size f cd).kindOf (ps.zip us) fun _ => none) (cellsFrom (s.heap.objs.size + 1) scope.names []) (bindC (envOfC qual scope s.heap.objs.size f cd).kindOf (ps.zip us) fun _ => none) s1) :
    Inv (cxOf CX P w K mg base N qual scope f cd A outer s H E) [] (start N vs) H s1 := by
  have hpl : ps.length ≤ N.length := by have := congrArg List.length S.pre; rw [List.length_take] at this; omega
  obtain ⟨h1, tk, rfl, hk⟩ := x.done
  have noA : ∀ b : Addr, b ∉ (cxOf CX P w K mg base N qual scope f cd A outer s H E).ex := fun b z => absurd (show b ∈ ([] : List Addr) from z) (by simp)
  refine ⟨⟨e0.mod, S.kind, rfl, rfl, Nat.le_refl _, fun y z c h1 h2 => ?_, fun y hy => ?_, fun y c _ h => ?_, fun _ => hd, Around.frames_deeper e0.frames, .inr ⟨rfl, rfl⟩, fun b z => absurd z (noA b), e0.bs, e0.bsz, fun b _ _ => noA b, fun b z => absurd z (noA b), e0.funs, e0.frf⟩,
    rfl, e0.bare, Un.kept hk, ⟨_, x.toInCall.ns, fun i y v h1 h2 h3 => ?_⟩, fun y c h => ⟨_, x.cell y c h⟩, e0.hok.fresh (Nat.le_refl _), fun y c h => ?_, fun p hp => absurd (show p ∈ ([] : List (Addr × Obj)) from hp) (by simp), e0.hok.kept hk, ?_⟩
  · exact name_of_addr x.apart (PySem.mem_of_lookup h1) (PySem.mem_of_lookup h2)
  · have hy : scope.names.lookup y = some .cell ∨ scope.names.lookup y = some .free := hy
    rcases hy with hy | hy
    · exact cell_has hy
    · exact absurd rfl (S.nofree _ (PySem.mem_of_lookup hy))
  · exact Nat.le_of_lt (x.above y c (PySem.mem_of_lookup h))
  · have hi : i < vs.length := by
      unfold start at h2
      by_cases hi : i < vs.length
      · exact hi
      · rw [List.getElem?_append_right (by simpa using hi)] at h2
        rw [List.getElem?_replicate] at h2
        split at h2 <;> cases h2
    have ha : vs[i]? = some v := by
      unfold start at h2
      rw [List.getElem?_append_left (by simpa using hi), List.getElem?_map] at h2
      cases e : vs[i]? with
      | none => rw [e] at h2; cases h2
      | some a => rw [e] at h2; cases h2; rfl
    obtain ⟨u, hu, rv⟩ := r.get ha
    have hp : ps[i]? = some y := by
      rw [← S.pre, List.getElem?_take_of_lt (by omega)]; exact h1
    have ndP : ps.Nodup := by rw [← S.pre]; exact S.nd.sublist (List.take_sublist _ _)
    refine ⟨u, rv, ?_⟩
    rcases S.par y (List.mem_of_getElem? hp) with k | k
    · exact .inl ⟨k, bindL_get ndP hp hu k⟩
    · obtain ⟨c, e⟩ := cell_has (n := s.heap.objs.size + 1) k
      refine .inr ⟨.inl k, c, e, ?_⟩
      have q := x.cell y c e
      rw [bindC_get ndP hp hu (by show scope.names.lookup y ≠ _; rw [k]; decide)] at q
      exact q
  · exact e0.hok.fresh (Nat.le_of_lt (x.above y c (PySem.mem_of_lookup h)))
  · unfold start
    show _ = N.length
    rw [List.length_append, List.length_map, List.length_replicate]
    omega
/-- THE RULE: a def (or a method) of the text, by its body. The body's reading t is chosen for each entry; it is run at the parameters' values -/
theorem fn_of {CX : CXT} {P : Program} {w : World} {K : PySem.W.Frag} {mg : Str → Option Value} {base : Heap} {k : Nat} {f : Addr} {name qual : Str} {params : Arguments} {body : List Stmt} {scope : Scope} {dV kV doc pm cdv ct oc : Value} {an od : Option Addr}
    {osl : Array (Option Value)} {N ps : List Str} {sp : Sp} (lk : K.lookup f = some ⟨oc, od, .func (PySem.W.fnOf name qual params body scope dV kV doc pm an cdv ct), osl⟩) (hcd : PySem.W.codeIn K cdv qual = true) (S : FnScope N ps scope)
    (len : ∀ vs H Q E, sp vs H Q E → vs.length = ps.length)
    (hbody : ∀ (A : Around) (outer : List Env) (s : Shared) (H : Hp) (vs : List V) (Q : VK) (E : XK), Room k (A.deeper (envOfC qual scope s.heap.objs.size f cdv)) → sp vs H Q E →
      ∃ t, PSs (cxOf CX P w K mg base N qual scope f cdv A outer s H E) body t ∧ t { nx := fun _ H' => Q .non H', rt := Q } (start N vs) H) :
    FnOk P w K mg base CX (k + 1) f (PySem.W.fnOf name qual params body scope dV kV doc pm an cdv ct) ps sp := by
  refine ⟨len, fun A outer s H args us vs Q E hr e0 hb r hsp => ?_⟩
  have hl := len _ _ _ _ hsp
  have KX : K.In s.heap := e0.mod.kin.keeps fun b o e => (e0.bs b o e).1
  have lim : s.heap.NoLimit := e0.mod.nolimit.keeps fun b o e => (e0.bs b o e).1
  have hkind : ∀ y ∈ ps.zip us, scope.names.lookup y.1 = some .local ∨ (scope.names.lookup y.1 = some .cell ∧ ((cellsFrom (s.heap.objs.size + 1) scope.names []).lookup y.1).isSome = true) := fun ⟨n, v⟩ hy => by
    rcases S.par n (List.of_mem_zip hy).1 with q | q
    · exact .inl q
    · exact .inr ⟨q, PySem.W.cellsFrom_some _ _ _ (.inl q)⟩
  refine codeAny_call_function hr.depth (KX _ _ lk) rfl S.co S.gen rfl (PySem.W.codeRec_of KX hcd) (hb _ _ _ _ ?_)
  refine wpAny_newFunctionEnv_cells S.kind hkind fun env he s1 x => ?_
  subst he
  refine ⟨lim.keeps x.toInCall.keep, codeAny_func ?_⟩
  obtain ⟨t, ht, hq⟩ := hbody A outer s H vs Q E (hr.deeper _) hsp
  have I : Inv (cxOf CX P w K mg base N qual scope f cdv A outer s H E) [] (start N vs) H s1 := inv_start S hr.hd e0 hl r x
  refine wpAny_mono (ht [] s1 (start N vs) H _ I hq) (fun fl s' hs => ?_) fun e s' hs => hs
  have fin : ∀ {σ' : St} {H' : Hp} {v : V} {u : Value}, Inv (cxOf CX P w K mg base N qual scope f cdv A outer s H E) [] σ' H' s' → RelV v u → Q v H' → CE outer P w H s Q u s' :=
    fun {σ' H' v u} J rv q => ⟨v, H', J.os, J.bare, J.base, J.hok, rv, q⟩
  cases fl with
  | ret u =>
    obtain ⟨v, σ', H', J, rv, q⟩ := hs
    exact fin J rv q
  | next =>
    obtain ⟨σ', H', J, q⟩ := hs
    exact fin (v := V.non) (u := Value.none) J rfl q
  | brk =>
    obtain ⟨_, _, _, q⟩ := hs
    exact False.elim q
  | cont =>
    obtain ⟨_, _, _, q⟩ := hs
    exact False.elim q
end L2
namespace L2
open PySem PySem.Spec PyProof.Rows
section
variable {X : Cx} {x : Str} {p pos : Pos} {e : Expr} {es : List Expr} {t : TA} {id T : String} {r : List V → Hp → VK → Prop}
def tCB (r : List V → Hp → VK → Prop) (t : TA) : TE := fun σ H Q => t σ H fun vs H1 => r vs H1 Q
/-- f(e, ..), f a built-in function -/
theorem pe_callB (hc : CallR X (.builtin id) r) (hg : Gl X x) (hm : X.mg x = none) (hv : bootBuiltins x = some (.builtin id)) (ha : PA X (e :: es) t) (hn : x ≠ "__name__" := by decide) (hdb : (x == ("__debug__" : Str)) = false := by decide)
    (he : starEach (e :: es) X.env = (false, eval e X.env) :: starEach es X.env := by rfl) (hpl : (backTo pos (starEach es X.env)).any (·.1) = false := by rfl) : PE X (.Call (.Name x p) (e :: es) [] pos) (tCB r t) := by
  intro pins s σ H Q I h
  refine wpAny_Call_Name_kw (ld_blt I hg hm hv ?_ hn hdb)
  exact PyProof.Rows.callWith_builtin1 (thn (ha pos pins s σ H _ I h) fun us s1 ⟨vs, H1, I1, r1, q1⟩ => hc pins s1 σ H1 vs us Q I1 r1 q1) he hpl
/-- T(e, ..), T a built-in type -/
theorem pe_callTy (hc : CallR X (.type T) r) (hg : Gl X x) (hm : X.mg x = none) (hv : bootBuiltins x = some (.type T)) (ha : PA X (e :: es) t) (hn : x ≠ "__name__" := by decide) (hdb : (x == ("__debug__" : Str)) = false := by decide)
    (he : starEach (e :: es) X.env = (false, eval e X.env) :: starEach es X.env := by rfl) (hpl : (backTo pos (starEach es X.env)).any (·.1) = false := by rfl) : PE X (.Call (.Name x p) (e :: es) [] pos) (tCB r t) := by
  intro pins s σ H Q I h
  refine wpAny_Call_Name_kw (ld_blt I hg hm hv ?_ hn hdb)
  exact PyProof.Rows.callWith_type1 (thn (ha pos pins s σ H _ I h) fun us s1 ⟨vs, H1, I1, r1, q1⟩ => hc pins s1 σ H1 vs us Q I1 r1 q1) he hpl
end
end L2
namespace HT
open PySem PyProof.Rows
section
open PySem.SeqAt
open PySem.AutoSeq1 (wpAny_loadPart')
open PySem.MeetsSeq PySem.MeetsSeq2 PySem.MeetsSeq3
end
section
variable {prog : Program} {w : World} {A : Around} {E : Value → Shared → Prop} {s : Shared}
/-- t + u, t not empty -/
theorem cat_tup {t b : Addr} {vs ws : List Value} {Q : Value → Shared → Prop} (ht : IsTup s.heap t vs.toArray) (hb : IsTup s.heap b ws.toArray) (hv : vs ≠ [])
    (h1 : ws = [] → Q (.ref t) s) (h2 : ws ≠ [] → Q (.ref s.heap.objs.size) { s with heap := s.heap.push { cls := .type "tuple", data := .seq (vs ++ ws).toArray } })
    (hsz : vs.length + ws.length ≤ sizeLine) : wpAny (model prog w) A (binaryOp .Add (.ref t) (.ref b)) Q E s := by
  obtain ⟨⟨cls, dd, data, sl⟩, ho, hc, n, hd⟩ := id ht
  obtain ⟨⟨cls2, dd2, data2, sl2⟩, ho2, hc2, n2, hd2⟩ := id hb
  simp only at hc hd hc2 hd2
  subst hc hd hc2 hd2
  have e : vs.toArray ++ ws.toArray = (vs ++ ws).toArray := by simp
  by_cases hw : ws = []
  · exact concat_meets ⟨_, ho, rfl⟩ ⟨_, ho2, rfl⟩ noFill_tuple_add seq_tuple_add PySem.F.slot_tuple_add PySem.F.entry_tuple_add (PySem.F.args_tuple_add_2 _ _)
      (tuple_addW1 t b vs.toArray ws.toArray n n2 dd dd2 sl sl2 (by simpa using hv) (by simp [hw])) ⟨ho, ho2, h1 hw⟩
  · refine concat_meets ⟨_, ho, rfl⟩ ⟨_, ho2, rfl⟩ noFill_tuple_add seq_tuple_add PySem.F.slot_tuple_add PySem.F.entry_tuple_add (PySem.F.args_tuple_add_2 _ _)
      (tuple_addW2 t b vs.toArray ws.toArray n n2 dd dd2 sl sl2 (by simpa using hv) (by simpa using hw) (by rw [List.size_toArray, List.size_toArray]; exact hsz)) ⟨ho, ho2, ?_⟩
    rw [e]
    exact h2 hw
/-! ### t[a:b], not the whole -/
/-- a slice's bound as a place among n (d where it is left out) -/
def sIx (n d : Nat) : Option Int → Nat
  | none => d
  | some v => if v < 0 then (v + (n : Int)).toNat else min v.toNat n
theorem sIx_none (n d : Nat) : sIx n d none = d := rfl
theorem sIx_nat (n d k : Nat) : sIx n d (some (k : Int)) = min k n := by
  show (if (k : Int) < 0 then ((k : Int) + (n : Int)).toNat else min (k : Int).toNat n) = min k n
  rw [if_neg (by omega), Int.toNat_natCast]
theorem sIx_le (n d : Nat) (hd : d ≤ n) (o : Option Int) : sIx n d o ≤ n := by
  cases o with
  | none => exact hd
  | some v =>
    show (if v < 0 then (v + (n : Int)).toNat else min v.toNat n) ≤ n
    by_cases hv : v < 0
    · rw [if_pos hv]; omega
    · rw [if_neg hv]; exact Nat.min_le_right _ _
theorem clip_eq (v : Int) (n d : Nat) : (if v < 0 then max (v + (n : Int)) 0 else min v (n : Int)) = ((sIx n d (some v) : Nat) : Int) := by
  show (if v < 0 then max (v + (n : Int)) 0 else min v (n : Int)) = (((if v < 0 then (v + (n : Int)).toNat else min v.toNat n) : Nat) : Int)
  by_cases hv : v < 0
  · simp only [if_pos hv]; omega
  · simp only [if_neg hv]; omega
theorem adjust_gen (lo hi : Option Int) (n : Nat) : Builtin.Slice.sliceAdjust lo hi 1 (n : Int) = (((sIx n 0 lo : Nat) : Int), ((sIx n n hi : Nat) : Int)) := by
  have h1 : ¬ ((1 : Int) < 0) := by omega
  unfold Builtin.Slice.sliceAdjust
  simp only [h1, if_false]
  refine Prod.ext ?_ ?_
  · cases lo with
    | none => rfl
    | some v => exact clip_eq v n 0
  · cases hi with
    | none => rfl
    | some v => exact clip_eq v n n
theorem places_gen (i j : Nat) : Builtin.Slice.slicePlaces (i : Int) (j : Int) 1 = j - i := by
  unfold Builtin.Slice.slicePlaces
  have h1 : (1 : Int) > 0 := by omega
  simp only [h1, if_true, Int.ediv_one]
  split <;> omega
theorem slicePart_ {v : Value} {o : Option Int} {Q : Option Int → Shared → Prop} (p : IsPart v o) (h : Q o s) : wpAny (model prog w) A (Builtin.Slice.slicePartIndex v) Q E s := by
  cases p with
  | none => exact slicePart_none h
  | int i t => exact slicePart_int h
theorem sliceApplied_gen {sl : Addr} {vl vu : Value} {lo hi : Option Int} {n : Nat} {Q : Int × Int × Nat → Shared → Prop} (hs : s.heap.IsSliceOf sl vl vu .none) (pl : IsPart vl lo) (pu : IsPart vu hi)
    (h : Q (((sIx n 0 lo : Nat) : Int), 1, sIx n n hi - sIx n 0 lo) s) : wpAny (model prog w) A (Builtin.Slice.sliceApplied (.ref sl) (pure (n : Int))) Q E s := by
  obtain ⟨os, hos, hcs, hds⟩ := id hs
  unfold Builtin.Slice.sliceApplied Builtin.Slice.sliceFields
  refine wpAny_bind (wpAny_bind (wpAny_field hos hds (x := vl) rfl (wpAny_bind (wpAny_field hos hds (x := vu) rfl (wpAny_bind (wpAny_field hos hds (x := .none) rfl (wpAny_pure ?_)))))))
  refine wpAny_bind (slicePart_none ?_)
  show wpAny _ _ (if ((1 : Int) == 0) = true then _ else _) _ _ s
  rw [if_neg (by decide)]
  refine wpAny_bind (slicePart_ pl (wpAny_bind (slicePart_ pu (wpAny_bind (wpAny_pure ?_)))))
  show wpAny _ _ (match Builtin.Slice.sliceAdjust lo hi 1 (n : Int) with | (lo, hi) => pure (lo, (1 : Int), Builtin.Slice.slicePlaces lo hi 1)) _ _ s
  rw [adjust_gen lo hi n]
  show wpAny _ _ (pure (((sIx n 0 lo : Nat) : Int), (1 : Int), Builtin.Slice.slicePlaces ((sIx n 0 lo : Nat) : Int) ((sIx n n hi : Nat) : Int) 1)) _ _ s
  rw [places_gen]
  exact wpAny_pure h
theorem pick_gen (xs : Array Value) (i k : Nat) : ((List.range k).filterMap fun (m : Nat) => xs[((i : Int) + (m : Int) * 1).toNat]?).toArray = ((xs.toList.drop i).take k).toArray := by
  have e : (fun (m : Nat) => xs[((i : Int) + (m : Int) * 1).toNat]?) = fun m => xs[i + m]? := by
    funext m
    have : ((i : Int) + (m : Int) * 1).toNat = i + m := by omega
    rw [this]
  rw [e]
  have := pick_run xs i k
  rw [List.filterMap_map] at this
  have e2 : ((fun x => xs[x]?) ∘ fun x => i + x) = fun m => xs[i + m]? := rfl
  rw [e2] at this
  rw [this]
theorem getItem_tuple_cut {t sl : Addr} {items : Array Value} {vl vu : Value} {lo hi : Option Int} {Q : Value → Shared → Prop} (ht : IsTup s.heap t items) (hs : s.heap.IsSliceOf sl vl vu .none) (pl : IsPart vl lo) (pu : IsPart vu hi)
    (hw : ¬ (sIx items.size 0 lo = 0 ∧ sIx items.size items.size hi = items.size))
    (h : Q (.ref s.heap.objs.size) { s with heap := s.heap.push { cls := .type "tuple", data := .seq ((items.toList.drop (sIx items.size 0 lo)).take (sIx items.size items.size hi - sIx items.size 0 lo)).toArray } })
    (hsz : items.size ≤ sizeLine) : wpAny (model prog w) A (getItem (.ref t) (.ref sl)) Q E s := by
  have htake : sizeOk (.seq ((items.toList.drop (sIx items.size 0 lo)).take (sIx items.size items.size hi - sIx items.size 0 lo)).toArray) := by
    show ((items.toList.drop (sIx items.size 0 lo)).take (sIx items.size items.size hi - sIx items.size 0 lo)).toArray.size ≤ sizeLine
    rw [List.size_toArray, List.length_take, List.length_drop, Array.length_toList]
    omega
  have hj : sIx items.size items.size hi ≤ items.size := sIx_le _ _ (Nat.le_refl _) hi
  obtain ⟨os, hos, hcs, hds⟩ := id hs
  have hTs : s.TypeIs (.ref sl) "slice" := ⟨os, hos, hcs⟩
  unfold getItem
  try with_reducible refine wpAny_holding ?_
  first | refine wpAny_bind (wpAny_pure ?_) | skip
  refine wpAny_bind (wpAny_sequenceKey ht.typeIs (by decide) ?_)
  refine wpAny_bind (wpAny_callSpecial?_slot (name := Str.ofString "__getitem__") ht.typeIs PyProof.Rows.slot_tuple_getitem
    (wpAny_call_entry PyProof.Rows.slot_tuple_getitem ht.typeIs entry_tuple_getitem ?_ (args_tuple_getitem _ _)))
  show wpAny _ _ (Builtin.Tuple.tupleItemsOf (.ref t) >>= _) _ _ s
  refine wpAny_bind (tupleItemsOf_ ht ?_)
  refine wpAny_bind (wpAny_typeOf hTs ?_)
  rw [if_pos (by decide)]
  refine wpAny_bind (sliceApplied_gen hs pl pu ?_)
  have hno : ¬ ((((sIx items.size 0 lo : Nat) : Int) == 0 && (1 : Int) == 1 && (sIx items.size items.size hi - sIx items.size 0 lo) == items.size) = true) := by
    intro q
    rw [Bool.and_eq_true, Bool.and_eq_true] at q
    have q1 : ((sIx items.size 0 lo : Nat) : Int) = 0 := eq_of_beq q.1.1
    have q2 : sIx items.size items.size hi - sIx items.size 0 lo = items.size := eq_of_beq q.2
    exact hw ⟨by omega, by omega⟩
  show wpAny _ _ (if (((sIx items.size 0 lo : Nat) : Int) == 0 && (1 : Int) == 1 && (sIx items.size items.size hi - sIx items.size 0 lo) == items.size) = true then _ else _) _ _ s
  rw [if_neg hno, pick_gen]
  first
    | exact wpAny_bind (m := Builtin.Tuple.tupleExact _) (wpAny_newObj_type (wpAny_pure ⟨_, rfl, wpAny_pure h⟩) htake)
    | exact wpAny_bind (m := Builtin.Tuple.tupleExact _) (wpAny_newObj_type (wpAny_bind (wpAny_pure (wpAny_pure ⟨_, rfl, wpAny_pure h⟩))) htake)
    | exact wpAny_bind (wpAny_bind (m := Builtin.Tuple.tupleExact _) (wpAny_newObj_type (wpAny_pure (wpAny_pure ⟨_, rfl, wpAny_pure h⟩)) htake))
    | exact wpAny_bind (wpAny_bind (m := Builtin.Tuple.tupleExact _) (wpAny_newObj_type (wpAny_pure ⟨_, rfl, wpAny_pure h⟩) htake))
end
end HT
namespace L2
open PySem PySem.Spec PyProof.Rows
/-! ### the parts of a slice -/
abbrev TO := St → Hp → (Option Int → Hp → Prop) → Prop
/-- a slice's part (left out, or an int) -/
def PO (X : Cx) (e : Option Expr) (t : TO) : Prop :=
  ∀ (pins : List (Addr × Obj)) (s : Shared) (σ : St) (H : Hp) (Q : Option Int → Hp → Prop), Inv X pins σ H s → t σ H Q →
    wpAny (model X.prog X.w) X.A (evalPart e X.env) (fun u s' => ∃ o H', Inv X pins σ H' s' ∧ IsPart u o ∧ Q o H') X.xe s
def tNoPart : TO := fun _ H Q => Q none H
def tPart (t : TE) : TO := fun σ H Q => t σ H fun x H1 => ∃ i, x = .int i ∧ Q (some i) H1
section
variable {X : Cx} {e : Expr} {te : TE} {lo hi : Option Expr} {tl th : TO} {pos p2 : Pos}
theorem po_none : PO X none tNoPart := by
  intro pins s σ H Q I h
  rw [evalPart_none]
  exact wpAny_pure ⟨none, H, I, .none, h⟩
theorem po_some (h : PE X e te) : PO X (some e) (tPart te) := by
  intro pins s σ H Q I hw
  rw [evalPart_some]
  refine thn (h pins s σ H _ I hw) fun u s1 ⟨x, H1, I1, r1, q1⟩ => ?_
  obtain ⟨i, rfl, q⟩ := q1
  obtain ⟨t, rfl⟩ := r1
  exact ⟨some i, H1, I1, .int i t, q⟩
/-- what a slice of a value is, by values: the slice object stands at sl -/
def SlR (X : Cx) (r : V → Option Int → Option Int → Hp → VK → Prop) : Prop :=
  ∀ (pins : List (Addr × Obj)) (s : Shared) (σ : St) (H : Hp) (x : V) (v vl vu : Value) (lo hi : Option Int) (sl : Addr) (Q : VK), Inv X pins σ H s → RelV x v → s.heap.IsSliceOf sl vl vu .none → IsPart vl lo → IsPart vu hi → r x lo hi H Q →
    ∃ T id, typeLookup (.type T) "__getitem__" = pure (some (.builtin id)) ∧ s.TypeIs v T ∧ wpAny (model X.prog X.w) X.A (getItem v (.ref sl)) (EP X pins σ Q) X.xe s
theorem SlR.or {r r' : V → Option Int → Option Int → Hp → VK → Prop} (h : SlR X r) (h' : SlR X r') : SlR X (fun x lo hi H Q => r x lo hi H Q ∨ r' x lo hi H Q) := by
  intro pins s σ H x v vl vu lo hi sl Q I rx hs pl pu q
  rcases q with q | q
  · exact h pins s σ H x v vl vu lo hi sl Q I rx hs pl pu q
  · exact h' pins s σ H x v vl vu lo hi sl Q I rx hs pl pu q
def tSl (r : V → Option Int → Option Int → Hp → VK → Prop) (te : TE) (tl th : TO) : TE := fun σ H Q => te σ H fun x H1 => tl σ H1 fun l H2 => th σ H2 fun u H3 => r x l u H3 Q
/-- a[lo:hi], any a -/
theorem pe_slice {r : V → Option Int → Option Int → Hp → VK → Prop} (hr : SlR X r) (he : PE X e te) (hl : PO X lo tl) (hu : PO X hi th) : PE X (.Subscript e (.Slice lo hi none p2) pos) (tSl r te tl th) := by
  intro pins s σ H Q I h
  refine Subscript_ (thn (he pins s σ H _ I h) fun v s1 ⟨x, H1, I1, r1, q1⟩ => ?_)
  refine wpAny_Slice (thn (hl pins s1 σ H1 _ I1 q1) fun vl s2 ⟨l, H2, I2, pl, q2⟩ => thn (hu pins s2 σ H2 _ I2 q2) fun vu s3 ⟨u, H3, I3, pu, q3⟩ => ?_)
  rw [evalPart_none]
  refine wpAny_pure ?_
  have I4 : Inv X pins σ H3 { s3 with heap := s3.heap.push { cls := .type "slice", data := .fields #[vl, vu, .none] } } := I3.kept (t' := s3.toks) fun b ob q => Heap.get?_push_of_some _ q
  obtain ⟨T, id, hT, ht, hg⟩ := hr pins { s3 with heap := s3.heap.push { cls := .type "slice", data := .fields #[vl, vu, .none] } } σ H3 x v vl vu l u s3.heap.objs.size Q I4 r1 (Heap.IsSliceOf.new ..) pl pu q3
  show wpAny (model X.prog X.w) X.A (subscriptTail e (.Slice lo hi none p2) v (.ref s3.heap.objs.size)) (EP X pins σ Q) X.xe { s3 with heap := s3.heap.push { cls := .type "slice", data := .fields #[vl, vu, .none] } }
  exact tail_any (ops := [.ref s3.heap.objs.size, v]) ht hT hg (by with_unfolding_all rfl)
/-- the items of xs[lo:hi] -/
def cutV (xs : List V) (lo hi : Option Int) : List V := (xs.drop (HT.sIx xs.length 0 lo)).take (HT.sIx xs.length xs.length hi - HT.sIx xs.length 0 lo)
theorem cutV_length (xs : List V) (lo hi : Option Int) : (cutV xs lo hi).length ≤ xs.length := by
  unfold cutV
  rw [List.length_take, List.length_drop]
  omega
/-- t[lo:hi], not the whole of it (the whole would be t itself) -/
def rSlT (K : PySem.W.Frag) : V → Option Int → Option Int → Hp → VK → Prop := fun x lo hi H Q => ∃ a xs, x = .ref a ∧ SqT K H a xs ∧
  ¬ (HT.sIx xs.length 0 lo = 0 ∧ HT.sIx xs.length xs.length hi = xs.length) ∧ ∀ p, H p = none → Q (.ref p) (upd H p (.tup (cutV xs lo hi)))
theorem sl_tup : SlR X (rSlT X.K) := by
  intro pins s σ H x v vl vu lo hi sl Q I rx hs pl pu h
  obtain ⟨a, xs, rfl, hx, hw, q⟩ := h
  cases rx
  obtain ⟨its, r, ht, hz⟩ := I.tuple hx
  have hlen : its.toArray.size = xs.length := by rw [List.size_toArray]; exact r.length.symm
  refine ⟨"tuple", _, PyProof.Rows.slot_tuple_getitem.lookup, ht.typeIs, ?_⟩
  refine HT.getItem_tuple_cut ht hs pl pu (by rw [hlen]; exact hw) ?_ (by rw [hlen]; exact hz)
  rw [hlen]
  refine ⟨.ref s.heap.objs.size, _, I.laid (t' := s.toks) (o := .tup (cutV xs lo hi)) (fun b ob q => Heap.get?_push_of_some _ q) (Nat.le_refl _) ?_, rfl, q _ (I.hok.fresh (Nat.le_refl _))⟩
  exact ⟨Nat.le_trans (cutV_length xs lo hi) hz, _, (r.drop (HT.sIx xs.length 0 lo)).take (HT.sIx xs.length xs.length hi - HT.sIx xs.length 0 lo), IsTup.new _ _⟩
/-! ### t < u, t + u -/
/-- t + u, t not empty: u empty gives t itself -/
def rCatT (K : PySem.W.Frag) : R2 := fun x y H Q => ∃ a b xs ys, x = .ref a ∧ y = .ref b ∧ SqT K H a xs ∧ SqT K H b ys ∧ xs ≠ [] ∧ xs.length + ys.length ≤ sizeLine ∧
  (ys = [] → Q (.ref a) H) ∧ (ys ≠ [] → ∀ p, H p = none → Q (.ref p) (upd H p (.tup (xs ++ ys))))
theorem Vals.nil_iff {xs : List V} {us : List Value} (r : Vals xs us) : us = [] ↔ xs = [] := by
  cases r with
  | nil => simp
  | cons _ _ => simp
theorem op_catT : OpR X (binaryOp .Add) (rCatT X.K) := by
  intro pins s σ H x y v u Q I rx ry h
  obtain ⟨a, b, xs, ys, rfl, rfl, ha, hb, hx, hz, q1, q2⟩ := h
  cases rx
  cases ry
  obtain ⟨its, r1, p1, _⟩ := I.tuple ha
  obtain ⟨its2, r2, p2, _⟩ := I.tuple hb
  refine HT.cat_tup p1 p2 (fun z => hx (r1.nil_iff.mp z)) (fun z => ⟨.ref a, H, I, rfl, q1 (r2.nil_iff.mp z)⟩) (fun z => ?_) (by rw [← r1.length, ← r2.length]; exact hz)
  refine ⟨.ref s.heap.objs.size, _, I.laid (t' := s.toks) (o := .tup (xs ++ ys)) (fun b ob q => Heap.get?_push_of_some _ q) (Nat.le_refl _) ?_, rfl, q2 (fun w => z (r2.nil_iff.mpr w)) _ (I.hok.fresh (Nat.le_refl _))⟩
  exact ⟨by rw [List.length_append]; exact hz, _, r1.append r2, IsTup.new _ _⟩
end
end L2
namespace L2
open PySem PySem.Spec PyProof.Rows
/-! ### places -/
/-- the place that an index of any sign means -/
def ixN (n : Nat) (i : Int) : Option Nat := if 0 ≤ i then (if i < n then some i.toNat else none) else if -(n : Int) ≤ i then some (i + n).toNat else none
def atI {α : Type} (xs : List α) (i : Int) : Option α := (ixN xs.length i).bind fun j => xs[j]?
theorem ixN_seq {n : Nat} {i : Int} {j : Nat} (h : ixN n i = some j) : seqIndex? i n = some j ∧ j < n ∧ -(n : Int) ≤ i ∧ i < n := by
  unfold ixN at h
  by_cases h0 : 0 ≤ i
  · rw [if_pos h0] at h
    by_cases h1 : i < n
    · rw [if_pos h1] at h
      have e : i.toNat = j := Option.some.inj h
      exact ⟨by rw [seqIndex_of h0 h1, e], by omega, by omega, h1⟩
    · rw [if_neg h1] at h; cases h
  · rw [if_neg h0] at h
    by_cases h1 : -(n : Int) ≤ i
    · rw [if_pos h1] at h
      have e : (i + n).toNat = j := Option.some.inj h
      exact ⟨by rw [seqIndex_neg (by omega) h1, e], by omega, h1, by omega⟩
    · rw [if_neg h1] at h; cases h
theorem atI_get {α : Type} {xs : List α} {i : Int} {v : α} (h : atI xs i = some v) : ∃ j, seqIndex? i xs.length = some j ∧ xs[j]? = some v ∧ j < xs.length ∧ -(xs.length : Int) ≤ i ∧ i < xs.length := by
  unfold atI at h
  cases e : ixN xs.length i with
  | none => rw [e] at h; cases h
  | some j =>
    rw [e] at h
    obtain ⟨h1, h2, h3, h4⟩ := ixN_seq e
    exact ⟨j, h1, h, h2, h3, h4⟩
theorem atI_nat {α : Type} {xs : List α} {j : Nat} {v : α} (h : xs[j]? = some v) : atI xs (j : Int) = some v := by
  have hj : j < xs.length := (List.getElem?_eq_some_iff.mp h).1
  have e : ixN xs.length (j : Int) = some j := by
    unfold ixN
    rw [if_pos (by omega), if_pos (by omega)]; simp
  unfold atI; rw [e]; exact h
/-! ### what may be subscripted -/
/-- what stands as an index of a plain subscript -/
def PlainIx (b : Expr) : Prop := ∀ o i, subscripted b false o i = operate [o, i] (getItem o i)
/-- a subscript by values -/
def IxR (X : Cx) (r : R2) : Prop :=
  ∀ (value slice : Expr) (pins : List (Addr × Obj)) (s : Shared) (σ : St) (H : Hp) (x y : V) (v u : Value) (Q : VK), Inv X pins σ H s → RelV x v → RelV y u → r x y H Q →
    subscripted slice false v u = operate [v, u] (getItem v u) → wpAny (model X.prog X.w) X.A (subscriptTail value slice v u) (EP X pins σ Q) X.xe s
/-- a call of a builtin's method by values: the receiver, the arguments -/
def MtR (X : Cx) (id : String) (r : V → List V → Hp → VK → Prop) : Prop :=
  ∀ (pins : List (Addr × Obj)) (s : Shared) (σ : St) (H : Hp) (x : V) (xs : List V) (v : Value) (us : List Value) (Q : VK), Inv X pins σ H s → RelV x v → Vals xs us → r x xs H Q →
    wpAny (model X.prog X.w) X.A (call (.builtin id) (v :: us)) (EP X pins σ Q) X.xe s
section
variable {X : Cx} {a b : Expr} {ta tb : TE} {pos : Pos}
theorem IxR.or {r r' : R2} (h : IxR X r) (h' : IxR X r') : IxR X (fun x y H Q => r x y H Q ∨ r' x y H Q) := by
  intro value slice pins s σ H x y v u Q I rx ry q hs
  rcases q with q | q
  · exact h value slice pins s σ H x y v u Q I rx ry q hs
  · exact h' value slice pins s σ H x y v u Q I rx ry q hs
theorem MtR.or {id : String} {r r' : V → List V → Hp → VK → Prop} (h : MtR X id r) (h' : MtR X id r') : MtR X id (fun x xs H Q => r x xs H Q ∨ r' x xs H Q) := by
  intro pins s σ H x xs v us Q I rx rs q
  rcases q with q | q
  · exact h pins s σ H x xs v us Q I rx rs q
  · exact h' pins s σ H x xs v us Q I rx rs q
/-- a[b] -/
theorem pe_ix {r : R2} (hr : IxR X r) (ha : PE X a ta) (hb : PE X b tb) (hs : PlainIx b) : PE X (.Subscript a b pos) (tOp r ta tb) := by
  intro pins s σ H Q I h
  exact Subscript_ (binT ha hb I h fun v u s2 x y H2 I2 rx ry q => hr a b pins s2 σ H2 x y v u Q I2 rx ry q (hs _ _))
def rIxL (K : PySem.W.Frag) : R2 := fun x y H Q => ∃ p xs i v, x = .ref p ∧ y = .int i ∧ SqL K H p xs ∧ atI xs i = some v ∧ Q v H
def rIxT (K : PySem.W.Frag) : R2 := fun x y H Q => ∃ p xs i v, x = .ref p ∧ y = .int i ∧ SqT K H p xs ∧ atI xs i = some v ∧ Q v H
theorem ix_list : IxR X (rIxL X.K) := by
  intro value slice pins s σ H x y v u Q I rx ry h hs
  obtain ⟨p, xs, i, z, rfl, rfl, hq, he, q⟩ := h
  cases rx
  obtain ⟨t, rfl⟩ := ry
  obtain ⟨its, r, pl, hz⟩ := I.list hq
  obtain ⟨j, h1, h2, h3, h4, h5⟩ := atI_get he
  obtain ⟨w, ew, rw'⟩ := r.get h2
  have hl := r.length
  have hn := line63
  have fin : EP X pins σ Q w s := ⟨z, H, I, rw', q⟩
  by_cases h0 : 0 ≤ i
  · have hj : i.toNat = j := by
      rw [seqIndex_of h0 h5] at h1
      exact Option.some.inj h1
    exact item_listR pl.isList h0 (by omega) (by rw [hj]; simpa using ew) fin hs
  · have hj : (i + (its.toArray.size : Int)).toNat = j := by
      rw [seqIndex_neg (by omega) h4] at h1
      rw [List.size_toArray, ← hl]
      exact Option.some.inj h1
    exact subscriptTail_builtinR (x := w) pl.isList.typeIs slot_list_getitem.lookup
      (wpAny_getItem_list_neg (Q := fun r s' => r = w ∧ EP X pins σ Q r s') pl.isList (by omega) (by rw [List.size_toArray] <;> omega) (by omega) (by rw [hj]; simpa using ew) ⟨rfl, fin⟩) hs
theorem ix_tup : IxR X (rIxT X.K) := by
  intro value slice pins s σ H x y v u Q I rx ry h hs
  obtain ⟨p, xs, i, z, rfl, rfl, hq, he, q⟩ := h
  cases rx
  obtain ⟨t, rfl⟩ := ry
  obtain ⟨its, r, pl, hz⟩ := I.tuple hq
  obtain ⟨j, h1, h2, h3, h4, h5⟩ := atI_get he
  obtain ⟨w, ew, rw'⟩ := r.get h2
  have hl := r.length
  have hn := line63
  have fin : EP X pins σ Q w s := ⟨z, H, I, rw', q⟩
  exact subscriptTail_builtinR (x := w) pl.typeIs slot_tuple_getitem.lookup
    (getItem_tuple (j := j) (Q := fun r s' => r = w ∧ EP X pins σ Q r s') pl (by omega) (by omega) (by rw [List.size_toArray, ← hl]; exact h1) (by simpa using ew) ⟨rfl, fin⟩) hs
/-! ### xs[i] = v, any sign -/
/-- the list's object behind a store -/
theorem mapSeq_set (its : List Value) (n j : Nat) (u : Value) : Obj.mapSeq (·.setIfInBounds j u) { cls := .type "list", data := .seq its.toArray n } = { cls := .type "list", data := .seq (its.set j u).toArray n } := by
  simp [Obj.mapSeq]
theorem Inv.lst {pins : List (Addr × Obj)} {σ : St} {H : Hp} {s : Shared} {p : Addr} {xs : List V} (I : Inv X pins σ H s) (h : H p = some (.lst xs)) :
    ∃ (its : List Value) (n : Nat), Vals xs its ∧ s.heap.get? p = some { cls := .type "list", data := .seq its.toArray n } ∧ xs.length ≤ sizeLine := by
  obtain ⟨z, its, n, r, e⟩ := I.hok p _ h
  exact ⟨its, n, r, e, z⟩
/-- the list at p is written by an update of its object -/
theorem Inv.lstUpd {pins : List (Addr × Obj)} {σ : St} {H : Hp} {s : Shared} {p : Addr} {xs ys : List V} {its its' : List Value} {n n' : Nat} {f : Obj → Obj} (I : Inv X pins σ H s) (h : H p = some (.lst xs))
    (ho : s.heap.get? p = some { cls := .type "list", data := .seq its.toArray n }) (hf : f { cls := .type "list", data := .seq its.toArray n } = { cls := .type "list", data := .seq its'.toArray n' }) (r : Vals ys its') (hz : ys.length ≤ sizeLine) (t : Nat) :
    Inv X pins σ (upd H p (.lst ys)) { s with heap := s.heap.update p f, toks := t } := by
  have e : (s.heap.update p f).get? p = some { cls := .type "list", data := .seq its'.toArray n' } := by
    rw [Heap.get?_update_self f ho (by rw [hf] <;> rfl), hf]
  refine I.write (x := p) (e := p) (by rw [h]; trivial) (.inl rfl) (fun b u hb q => (Heap.get?_update_other _ _ (Ne.symm hb)).trans q) ⟨_, e⟩ ?_
  exact ⟨hz, its', n', r, e⟩
def rSetL : V → V → V → Hp → (Hp → Prop) → Prop := fun o i v H Q => ∃ p xs k j, o = .ref p ∧ i = .int k ∧ H p = some (.lst xs) ∧ ixN xs.length k = some j ∧ Q (upd H p (.lst (xs.set j v)))
theorem set_list : PSet X rSetL := by
  intro pins s σ H o i v ov iv u Q I ro ri rv h
  obtain ⟨p, xs, k, j, rfl, rfl, hp, hj, q⟩ := h
  cases ro
  obtain ⟨t, rfl⟩ := ri
  obtain ⟨its, n, r, ho, hz⟩ := I.lst hp
  obtain ⟨h1, h2, h3, h4⟩ := ixN_seq hj
  have hl := r.length
  have hn := line63
  have I' : Inv X pins σ (upd H p (.lst (xs.set j v))) { s with heap := s.heap.update p (Obj.mapSeq (·.setIfInBounds j u)) } :=
    I.lstUpd hp ho (mapSeq_set its n j u) (r.set rv j) (by rw [List.length_set]; exact hz) s.toks
  by_cases h0 : 0 ≤ k
  · have hk : k.toNat = j := by
      rw [seqIndex_of h0 h4] at h1
      exact Option.some.inj h1
    exact PySem.W.ki_setAt ho h0 (by omega) (by rw [List.size_toArray, ← hl]; exact h4) (by rw [hk]; exact ⟨_, I', q⟩)
  · have hk : (k + (its.toArray.size : Int)).toNat = j := by
      rw [seqIndex_neg (by omega) h3] at h1
      rw [List.size_toArray, ← hl]
      exact Option.some.inj h1
    exact PySem.W.ki_setBack ho (by omega) (by rw [List.size_toArray, ← hl]; exact h3) (by omega) (by rw [hk]; exact ⟨_, I', q⟩)
/-! ### slices -/
theorem slice_bounds (lo hi : Option Int) (n : Nat) : (sliceBounds lo hi none n).1 = ((HT.sIx n 0 lo : Nat) : Int) ∧ (sliceBounds lo hi none n).2.1 = ((HT.sIx n n hi : Nat) : Int) ∧ (sliceBounds lo hi none n).2.2 = 1 := by
  refine ⟨?_, ?_, rfl⟩
  · cases lo with
    | none => simp [sliceBounds, HT.sIx]
    | some i =>
      simp only [sliceBounds, HT.sIx, Option.getD_none, show (1 : Int) > 0 by decide, if_true]
      by_cases h : i < 0
      · simp only [h, if_true] <;> omega
      · simp only [h, if_false] <;> omega
  · cases hi with
    | none => simp [sliceBounds, HT.sIx]
    | some i =>
      simp only [sliceBounds, HT.sIx, Option.getD_none, show (1 : Int) > 0 by decide, if_true]
      by_cases h : i < 0
      · simp only [h, if_true] <;> omega
      · simp only [h, if_false] <;> omega
theorem slicePick_cut (its : List Value) (lo hi : Option Int) : slicePick its.toArray lo hi none = ((its.drop (HT.sIx its.length 0 lo)).take (HT.sIx its.length its.length hi - HT.sIx its.length 0 lo)).toArray := by
  obtain ⟨h1, h2, h3⟩ := slice_bounds lo hi its.toArray.size
  unfold slicePick
  rw [h1, h2, h3]
  simp only [sliceRange_one, pick_run, List.size_toArray] <;> rfl
/-- xs[lo:hi] of a list: a new list -/
def rSlL (K : PySem.W.Frag) : V → Option Int → Option Int → Hp → VK → Prop := fun x lo hi H Q => ∃ a xs, x = .ref a ∧ SqL K H a xs ∧ ∀ p, H p = none → Q (.ref p) (upd H p (.lst (cutV xs lo hi)))
theorem sl_list : SlR X (rSlL X.K) := by
  intro pins s σ H x v vl vu lo hi sl Q I rx hs pl pu h
  obtain ⟨a, xs, rfl, hx, q⟩ := h
  cases rx
  obtain ⟨its, r, ht, hz⟩ := I.list hx
  have hlen := r.length
  refine ⟨"list", _, slot_list_getitem.lookup, ht.isList.typeIs, ?_⟩
  refine wpAny_getItem_list_slice ht.isList hs pl pu .none (by simp) ?_ (by rw [List.size_toArray] <;> omega)
  rw [slicePick_cut, ← hlen]
  refine ⟨.ref s.heap.objs.size, _, I.laid (t' := s.toks) (o := .lst (cutV xs lo hi)) (fun b ob q => Heap.get?_push_of_some _ q) (Nat.le_refl _) ?_, rfl, q _ (I.hok.fresh (Nat.le_refl _))⟩
  exact ⟨Nat.le_trans (cutV_length xs lo hi) hz, _, 0, (r.drop (HT.sIx xs.length 0 lo)).take (HT.sIx xs.length xs.length hi - HT.sIx xs.length 0 lo), Heap.get?_push_size _ rfl⟩
/-! ### in, not in: flat items -/
/-! ### len, list(x), tuple(x) of any list or tuple that is read -/
theorem call_len_seq : CallR X (.builtin "len") (fun xs H Q => ∃ p ys, xs = [.ref p] ∧ (SqL X.K H p ys ∨ SqT X.K H p ys) ∧ Q (.int ys.length) H) := by
  intro pins s σ H xs us Q I r h
  obtain ⟨p, ys, rfl, hq, q⟩ := h
  obtain ⟨u, rfl, rx⟩ := vals1 r
  cases rx
  have hn := line63
  rcases hq with hq | hq
  · obtain ⟨its, r', pl, hz⟩ := I.list hq
    have hlen := r'.length
    exact Calls.call_len_list pl.isList (by simp only [List.size_toArray] <;> omega) ⟨.int ys.length, H, I.tok _, ⟨s.toks + 1, by rw [List.size_toArray, hlen]⟩, q⟩
  · obtain ⟨its, r', pl, hz⟩ := I.tuple hq
    have hlen := r'.length
    exact len_tuple pl (by simp only [List.size_toArray] <;> omega) ⟨.int ys.length, H, I.tok _, ⟨s.toks + 1, by rw [List.size_toArray, hlen]⟩, q⟩
theorem CallR.or {f : Value} {r r' : List V → Hp → VK → Prop} (h : CallR X f r) (h' : CallR X f r') : CallR X f (fun xs H Q => r xs H Q ∨ r' xs H Q) := by
  intro pins s σ H xs us Q I rs q
  rcases q with q | q
  · exact h pins s σ H xs us Q I rs q
  · exact h' pins s σ H xs us Q I rs q
theorem call_tuple_of : CallR X (.type "tuple") (fun xs H Q => ∃ p ys, xs = [.ref p] ∧ ((SqL X.K H p ys ∧ ∀ l, H l = none → Q (.ref l) (upd H l (.tup ys))) ∨ (SqT X.K H p ys ∧ Q (.ref p) H))) := by
  intro pins s σ H xs us Q I r h
  obtain ⟨p, ys, rfl, h⟩ := h
  obtain ⟨u, rfl, rx⟩ := vals1 r
  cases rx
  rcases h with ⟨hq, q⟩ | ⟨hq, q⟩
  · obtain ⟨its, r', pl, hz⟩ := I.list hq
    have hlen := r'.length
    refine call_tuple_list pl.isList (fun h' kp => ?_) (by simp only [List.size_toArray] <;> omega)
    have I1 : Inv X pins σ H { s with heap := h' } := I.kept (t' := s.toks) kp
    have I2 : Inv X pins σ (upd H h'.objs.size (.tup ys)) { s with heap := h'.push { cls := .type "tuple", data := .seq its.toArray } } :=
      I1.laid (t' := s.toks) (fun b o e => Heap.get?_push_of_some _ e) (Nat.le_refl _) (show ObjOk X.prog X.w _ _ _ (.tup ys) from ⟨hz, its, r', IsTup.new _ _⟩)
    exact ⟨.ref h'.objs.size, _, I2, rfl, q _ (I1.hok.fresh (Nat.le_refl _))⟩
  · obtain ⟨its, r', pl, hz⟩ := I.tuple hq
    exact call_tuple_same pl ⟨.ref p, H, I, rfl, q⟩
/-! ### the call of a builtin's method: o.m(..) -/
/-- the value is of that builtin type -/
def tyV (K : PySem.W.Frag) (T : String) (x : V) (H : Hp) : Prop := match x with
  | .str _ => T = "str"
  | .int _ => T = "int"
  | .ref p => (T = "list" ∧ ∃ xs, SqL K H p xs) ∨ (T = "tuple" ∧ ∃ o, K.lookup p = some o ∧ o.cls = .type "tuple" ∧ o.dict = none) ∨
      (T = "dict" ∧ ((∃ kvs, H p = some (.dK kvs)) ∨ ∃ kvs, H p = some (.dT kvs))) ∨ (T = "set" ∧ ∃ S n, H p = some (.set S n))
  | _ => False
theorem tyV_is {pins : List (Addr × Obj)} {σ : St} {H : Hp} {s : Shared} {T : String} {x : V} {v : Value} (I : Inv X pins σ H s) (r : RelV x v) (ty : tyV X.K T x H) :
    s.TypeIs v T ∧ ∀ a, v = .ref a → ∃ ob, s.heap.get? a = some ob ∧ ob.dict = none := by
  cases x with
  | str z =>
    obtain ⟨t, rfl⟩ := r
    cases (show T = "str" from ty)
    exact ⟨typeIs_str s z t, fun _ e => nomatch e⟩
  | int i =>
    obtain ⟨t, rfl⟩ := r
    cases (show T = "int" from ty)
    exact ⟨typeIs_int s i t, fun _ e => nomatch e⟩
  | ref p =>
    cases r
    rcases ty with ⟨rfl, xs, hq⟩ | ⟨rfl, o, hk, hc, hd⟩ | ⟨rfl, hk⟩ | ⟨rfl, S, n, hk⟩
    · obtain ⟨its, _, pl, _⟩ := I.list hq
      refine ⟨pl.isList.typeIs, fun a e => ?_⟩
      cases e
      obtain ⟨o, n, e, c, hd, _⟩ := pl
      exact ⟨o, e, hd⟩
    · refine ⟨⟨o, I.kIn p o hk, hc⟩, fun a e => ?_⟩
      cases e
      exact ⟨o, I.kIn _ o hk, hd⟩
    · have z : ∃ o, s.heap.get? p = some o ∧ o.ExactDict := by
        rcases hk with ⟨kvs, hk⟩ | ⟨kvs, hk⟩
        · obtain ⟨_, _, _, _, o, _, _, e, ex, _⟩ := I.hok p _ hk
          exact ⟨o, e, ex⟩
        · obtain ⟨_, _, _, _, o, _, _, e, ex, _⟩ := I.hok p _ hk
          exact ⟨o, e, ex⟩
      obtain ⟨o, e, ex⟩ := z
      refine ⟨⟨o, e, ex.1⟩, fun a e2 => ?_⟩
      cases e2
      exact ⟨o, e, ex.2.1⟩
    · obtain ⟨o, _, _, _, e, ex, _⟩ := I.hok p _ hk
      refine ⟨⟨o, e, ex.1⟩, fun a e2 => ?_⟩
      cases e2
      exact ⟨o, e, ex.2.1⟩
  | _ => exact False.elim ty
def tBM (K : PySem.W.Frag) (T : String) (r : V → List V → Hp → VK → Prop) (to : TE) (t : TA) : TE := fun σ H Q => to σ H fun x H1 => tyV K T x H1 ∧ t σ H1 fun xs H2 => r x xs H2 Q
variable {o e : Expr} {es : List Expr} {to : TE} {t : TA} {name : Str} {apos cpos : Pos} {T id : String} {r : V → List V → Hp → VK → Prop}
theorem pe_bm (pa : PlainAttrs T) (slot : Slot T name id) (hty : typeOf (.builtin id) = pure (.type "method_descriptor")) (hm : MtR X id r) (ho : PE X o to) (ha : PA X (e :: es) t)
    (hbase : attributeBase o name X.env (eval o X.env) = eval o X.env := by rfl)
    (hfew : ((backTo cpos (starEach (e :: es) X.env)).all (fun x => !x.1) && (backToKw cpos (keywordEach [] X.env)).all (fun x => x.1.isSome)
      && decide ((e :: es).length + ([] : List Keyword).length + (if ([] : List Keyword).isEmpty then 0 else 1) < 30)) = true := by rfl)
    (hline : (apos.endLine == cpos.line) = true := by rfl) (hs : starEach (e :: es) X.env = (false, eval e X.env) :: starEach es X.env := by rfl) (hplain : (backTo cpos (starEach es X.env)).any (·.1) = false := by rfl) :
    PE X (.Call (.Attribute o name apos) (e :: es) [] cpos) (tBM X.K T r to t) := by
  intro pins s σ H Q I h
  refine wpAny_Call_method_late hbase hfew hline rfl (thn (ho pins s σ H _ I h) fun v s1 ⟨x, H1, I1, r1, ty, q1⟩ => ?_)
  obtain ⟨h1, h2⟩ := tyV_is I1 r1 ty
  refine ⟨T, id, pa, slot, hty, h1, h2, ?_⟩
  have hA := ha cpos pins s1 σ H1 _ I1 q1
  rw [hs] at hA ⊢
  refine Calls.callWith_builtin (by show (false || (backTo cpos (starEach es X.env)).any (·.1)) = false; rw [hplain] <;> rfl) (Calls.evalArgs_plain ?_)
  exact thn hA fun us s2 ⟨vs, H2, I2, r2, q2⟩ => hm pins s2 σ H2 x vs v us Q I2 r1 r2 q2
/- xs.append(e), list.index on a module's tuple .. are MtR facts of 06m -/
end
end L2
namespace L2
open PySem PySem.Spec PyProof.Rows
def MtM (X : Cx) (id : String) (r : V → List V → Hp → VK → Prop) : Prop :=
  ∀ (pins : List (Addr × Obj)) (s : Shared) (σ : St) (H : Hp) (x : V) (xs : List V) (v : Value) (us : List Value) (Q : VK), Inv X pins σ H s → RelV x v → Vals xs us → r x xs H Q →
    wpAny (model X.prog X.w) X.A (call (.builtin id) (v :: us)) (EP X pins σ Q) X.xe s
/-! ### lists of values -/
theorem Vals.one : ∀ {x : V} {us : List Value}, Vals [x] us → ∃ u, us = [u] ∧ RelV x u
  | _, _, .cons r .nil => ⟨_, rfl, r⟩
theorem Vals.two : ∀ {x y : V} {us : List Value}, Vals [x, y] us → ∃ u v, us = [u, v] ∧ RelV x u ∧ RelV y v
  | _, _, _, .cons r (.cons q .nil) => ⟨_, _, rfl, r, q⟩
theorem Vals.zero : ∀ {us : List Value}, Vals [] us → us = []
  | _, .nil => rfl
theorem Vals.reverse {xs : List V} {us : List Value} (h : Vals xs us) : Vals xs.reverse us.reverse := by
  induction h with
  | nil => exact .nil
  | cons r t ih => rw [List.reverse_cons, List.reverse_cons]; exact Vals.append ih (.cons r .nil)
section
variable {X : Cx} {pins : List (Addr × Obj)} {σ : St} {H : Hp} {s : Shared} {l b : Addr} {xs ys zs : List V}
/-! ### the two steps: a tracked list is rewritten, a new list is laid -/
theorem Inv.lset {its its' : List Value} {n : Nat} {f : Array Value → Array Value} {t' : Nat} (I : Inv X pins σ H s) (hH : H l = some (.lst xs))
    (e : s.heap.get? l = some { cls := .type "list", data := .seq its.toArray n }) (hf : f its.toArray = its'.toArray) (hv : Vals ys its') (hz : ys.length ≤ sizeLine) :
    Inv X pins σ (upd H l (.lst ys)) { s with heap := s.heap.update l (Obj.mapSeq f), toks := t' } := by
  have q := PySem.IsL.update e f
  rw [hf] at q
  refine I.write (x := l) (e := l) (by rw [hH]; exact trivial) (.inl rfl) (fun b' u hb hu => (Heap.get?_update_other s.heap (Obj.mapSeq f) (Ne.symm hb)).trans hu) ⟨_, q⟩ ?_
  exact ⟨hz, its', _, hv, q⟩
theorem Inv.lnew {its : List Value} {t' : Nat} (I : Inv X pins σ H s) (hv : Vals ys its) (hz : ys.length ≤ sizeLine) :
    Inv X pins σ (upd H s.heap.objs.size (.lst ys)) { s with heap := s.heap.push { cls := .type "list", data := .seq its.toArray }, toks := t' } :=
  I.laid (fun _ _ q => Heap.get?_push_of_some _ q) (Nat.le_refl _) ⟨hz, its, 0, hv, Heap.get?_push_size _ rfl⟩
theorem Inv.fresh (I : Inv X pins σ H s) : H s.heap.objs.size = none := I.hok.fresh (Nat.le_refl _)
theorem Inv.lstM (I : Inv X pins σ H s) (hH : H l = some (.lst xs)) : xs.length ≤ sizeLine ∧ ∃ (its : List Value) (n : Nat), Vals xs its ∧ xs.length = its.length ∧ s.heap.get? l = some { cls := .type "list", data := .seq its.toArray n } := by
  obtain ⟨z, its, n, r, e⟩ := I.hok l _ hH
  exact ⟨z, its, n, r, r.length, e⟩
end
section
variable {X : Cx}
/-! ### methods -/
def rAppend : V → List V → Hp → VK → Prop := fun x vs H Q => ∃ l xs y, x = .ref l ∧ vs = [y] ∧ H l = some (.lst xs) ∧ xs.length < sizeLine ∧ Q .non (upd H l (.lst (xs ++ [y])))
theorem mt_append : MtM X "list.append" rAppend := by
  intro pins s σ H x vs v us Q I rx rv h
  obtain ⟨l, xs, y, rfl, rfl, hH, hz, q⟩ := h
  cases rx
  obtain ⟨u, rfl, ru⟩ := rv.one
  obtain ⟨z, its, n, r, hl, e⟩ := I.lstM hH
  refine call_meets F.slot_list_append ⟨_, e, rfl⟩ F.entry_list_append (F.args_list_append_2 _ _) (PySem.list_append l its.toArray n u (by rw [List.size_toArray]; omega)) ⟨e, ?_⟩
  refine ⟨.non, _, I.lset (its' := its ++ [u]) hH e (by simp) (r.append (.cons ru .nil)) ?_, rfl, q⟩
  rw [List.length_append, List.length_singleton]
  omega
/-! ### list + list, list += list, list * int -/
def rCat : R2 := fun x y H Q => ∃ l b xs zs, x = .ref l ∧ y = .ref b ∧ H l = some (.lst xs) ∧ H b = some (.lst zs) ∧ xs.length + zs.length ≤ sizeLine ∧ ∀ p, H p = none → Q (.ref p) (upd H p (.lst (xs ++ zs)))
theorem op_cat : OpR X (binaryOp .Add) rCat := by
  intro pins s σ H x y v u Q I rx ry h
  obtain ⟨l, b, xs, zs, rfl, rfl, hH, hB, hz, q⟩ := h
  cases rx
  cases ry
  obtain ⟨z, its, n, r, hl, e⟩ := I.lstM hH
  obtain ⟨z2, its2, n2, r2, hl2, e2⟩ := I.lstM hB
  refine PySem.P.add_list e e2 ?_ (by rw [List.size_toArray, List.size_toArray]; omega)
  have ea : its.toArray ++ its2.toArray = (its ++ its2).toArray := by simp
  rw [ea]
  exact ⟨.ref _, _, I.lnew (t' := s.toks) (r.append r2) (by rw [List.length_append]; omega), rfl, q _ I.fresh⟩
/-! ### del xs[i] -/
end
/-! ### xs[a:b] = ys -/
section
variable {prog : Program} {w : World} {A : Around} {E : Value → Shared → Prop} {s : Shared}
set_option maxRecDepth 100000 in
end
section
variable {X : Cx}
end
end L2
namespace Att
open PySem PySem.W PySem.Calls PyProof.Rows
/-! ### the script -/
theorem ints_of_wellAll {P : Params} {h : Heap} : ∀ (ns : List Int) (vs : List Value), WellAll P h vs (ns.map WData.int) → IntsAre vs ns := by
  intro ns
  induction ns with
  | nil =>
    intro vs w
    rw [List.map_nil] at w
    cases w
    exact .nil
  | cons n ns ih =>
    intro vs w
    rw [List.map_cons] at w
    cases w with
    | cons a b =>
      cases a
      exact .cons _ _ (ih _ b)
theorem script_of {l : OpenLaw} {n : Nat} (hn : l.most = some n) {P : Params} {h : Heap} {args : List WData} {vals : List Value}
    (hpre : l.row.toRowW.claim.pre args = true) (hwl : WellAll P h vals args) :
    ∃ a vs ns, vals = [Value.ref a] ∧ args = [WData.list (ns.map WData.int)] ∧ h.get? a = some { cls := .type "list", data := .seq vs.toArray } ∧ IntsAre vs ns ∧ ns.length ≤ n := by
  have hsh : WShape.hasAll [] args [.list .int] = true := (pre_splitW hpre).1
  have hc : l.pre.holds [] { args := args } = true := (pre_splitW hpre).2
  obtain ⟨d, r, rfl, h1, h2⟩ := hasAllW_cons hsh
  obtain rfl := hasAllW_nil h2
  obtain ⟨xs, rfl, h3⟩ := hasW_list h1
  obtain ⟨ns, rfl⟩ := items_int h3
  have hlen : ns.length ≤ n := by
    unfold OpenLaw.pre at hc
    have h4 : (WTm.not (.lt (.lit (.int (n : Int))) (.len (.arg 0)))).holds [] { args := [.list (ns.map .int)] } = true := by
      have h4 := (holds_andW hc).1
      rw [hn] at h4
      exact h4
    have h5 := condW_of h4 (w_not (w_lt w_lit (w_len_list (w_arg rfl))))
    rw [List.length_map] at h5
    refine Nat.le_of_not_lt fun q => ?_
    have q' : (n : Int) < ((ns.length : Nat) : Int) := by omega
    first
      | (rw [decide_eq_true q'] at h5; exact absurd h5 (by decide))
      | (simp at h5; omega)
  cases hwl with
  | cons w1 w2 =>
    cases w2
    cases w1 with
    | list ho hall => exact ⟨_, _, ns, rfl, rfl, ho, ints_of_wellAll ns _ hall, hlen⟩
theorem post_true (l : OpenLaw) (args : List WData) : l.row.toRowW.claim.post args (.bool true) args = true :=
  postW_of (r := l.row.toRowW) (X := (true == true))
    (show WShape.has [] (.bool true) .bool = true by first | rfl | decide | simp [WShape.has, WShape.arms, WShape.armsAll])
    (show (WTm.eq .res (.lit (.bool true))).value [] { args := args, res := some (.bool true), after := args } = some (.bool (true == true)) from w_eq_bool (w_res rfl) w_lit) rfl
/-! ### the attachment: holds_open's last premise (the goal 'hc' behind k_head) from a wpAny of the law's body -/
/-- the same from a codeAny of the CALL (for a layer whose function contracts speak of calls) -/
theorem attach_call {l : OpenLaw} {n : Nat} {q : Program} {loose : List Str} {XP : (Str → Option Value) → Heap → Prop} {YP : World → Heap → Prop} {d : DefRec}
    (hn : l.most = some n) (hdf : d.params.defaults = [])
    (call : ∀ (w : World) (s₀ s₁ : Shared) (mg mb : Str → Option Value) (fa : Addr) (o : Obj) (pm cd doc : Value) (a : Addr) (vs : List Value) (ns : List Int),
      Ground q loose [] XP w s₀ mg mb s₁.heap → YP w s₁.heap →
      s₁.heap.get? fa = some o → o.data = .func (docDef d.name d.params d.body d.scope pm cd doc) → s₁.heap.CodeRec cd d.name → mg d.name = some (.ref fa) →
      s₁.heap.get? a = some { cls := .type "list", data := .seq vs.toArray } → IntsAre vs ns → ns.length ≤ n → s₁.gens = #[] →
      codeAny (model l.prog w) callerA (.call (.ref fa) ⟨[.ref a], []⟩) (fun r s' => r = .ok (.ret (.bool true)) ∧ OldK s₁.heap s'.heap ∧ s'.os = s₁.os ∧ AllBare s'.gens) s₁) :
    WalkO q loose XP YP l.row.toRowW d [] (fun f vs => PySem.call f vs) := by
  intro w s₀ s₁ mg mb G Y fa o pm cd doc dV kV ho hd hcd hD hmg hg args vals as hpre hlay hrd hwl hlo
  obtain rfl : dV = .none := Dflts.none hD hdf
  obtain rfl : kV = .none := Dflts.noKw hD
  obtain ⟨a, vs, ns, rfl, rfl, hobj, hints, hlen⟩ := script_of hn hpre hwl
  refine enter_call (codeAny_mono (call w s₀ s₁ mg mb fa o pm cd doc a vs ns G Y ho (fd_plain hd) hcd hmg hobj hints hlen hg) fun r s' hq => ?_)
  obtain ⟨rfl, h2, h3, h4⟩ := hq
  exact ⟨.inl ⟨.bool true, .bool true, [], rfl, fun _ => rfl, .bool true, post_true l _, fun _ => ⟨List.Pairwise.nil, fun _ hm => (nomatch hm)⟩⟩, h2, h3, h4⟩
/-! ### rules over ANY heap (no ledger) from facts about the written part K: the library's own take a ledger (News) for what they write -/
section
variable {prog : Program} {w : World} {A : Around} {E : Value → Shared → Prop} {s : Shared} {K : Frag}
/-! the whole heap as the ledger: makes every rule that writes through a ledger a rule over any heap -/
def ledger (h : Heap) (L d : Addr) : List (Addr × Obj) := (List.range h.objs.size).filterMap fun a => if a = L ∨ a = d then none else (h.get? a).map fun o => (a, o)
end
end Att
namespace L2
open PySem PySem.Spec PyProof.Rows
theorem vals_ints : ∀ {vs : List Value} {ns : List Int}, IntsAre vs ns → Vals (ns.map V.int) vs
  | _, _, .nil => .nil
  | _, _, .cons n t h => .cons ⟨t, rfl⟩ (vals_ints h)
/-- nothing is tracked but the script, known to the object (or it is an object of the module) -/
def Only (H : Hp) : Prop := ∀ b, H b = none ∨ ∃ o xs, H b = some (.frz o (.lst xs))
/-- THE HEAD: the law's promise, at the heap behind the top. F, the promise of the law's def, may use that base is part of the heap (so K.In base, base.Ns mainGlobals mg stand in Mod) -/
theorem law_call {P : Program} {w : World} {K : PySem.W.Frag} {mg mb : Str → Option Value} {CX : CXT} {k : Nat} {fa a : Addr} {fd : FuncData} {x : Str} {sp : Sp} {s₁ : Shared} {vs : List Value} {ns : List Int}
    (KX : K.In s₁.heap) (hns : s₁.heap.Ns mainGlobals mg) (hb : s₁.heap.Ns builtinsNs mb) (hbb : ∀ x : Str, x ≠ "__name__" → mb x = bootBuiltins x) (hlim : s₁.heap.NoLimit) (hg : s₁.gens = #[])
    (ha : s₁.heap.get? a = some { cls := .type "list", data := .seq vs.toArray }) (hi : IntsAre vs ns) (hl : ns.length ≤ sizeLine) (hr : Room k callerA)
    (F : ∀ base : Heap, K.In base → base.Ns mainGlobals mg → FnOk P w K mg base CX k fa fd [x] sp) (hbind : ∀ (s : Shared) (u : Value), BindsTo s fd ⟨[u], []⟩ [(x, u)])
    (hsp : ∀ H : Hp, Only H → SqL K H a (ns.map V.int) → sp [.ref a] H (fun v _ => v = .bl true) fun _ _ _ => False)
    (hCX : ∀ H e s', CX [] H s₁ (fun _ _ _ => False) e s' → False) :
    codeAny (model P w) callerA (.call (.ref fa) ⟨[.ref a], []⟩) (fun r s' => r = .ok (.ret (.bool true)) ∧ OldK s₁.heap s'.heap ∧ s'.os = s₁.os ∧ AllBare s'.gens) s₁ := by
  have rv := vals_ints hi
  have lenV := hi.length
  -- from an abstract heap in which nothing but the script may be tracked
  have core : ∀ H : Hp, Only H → SqL K H a (ns.map V.int) → HOk P w H s₁.heap → (∀ b, H b ≠ none → b = a) → (H a ≠ none → K.lookup a = none) →
      codeAny (model P w) callerA (.call (.ref fa) ⟨[.ref a], []⟩) (fun r s' => r = .ok (.ret (.bool true)) ∧ OldK s₁.heap s'.heap ∧ s'.os = s₁.os ∧ AllBare s'.gens) s₁ := by
    intro H hO hS hok hA hK
    have base_of : ∀ {b : Addr} {o : Obj}, s₁.heap.get? b = some o → H b = none → (hidT s₁.heap H).get? b = some o := fun e n => hidT_get e n
    have noA : ∀ {b : Addr} {o : Obj} {es : Array DictEntry} {ep : Nat}, s₁.heap.get? b = some o → o.data = .dict es ep → H b = none := fun {b o es ep} e d => by
      cases q : H b with
      | none => rfl
      | some u =>
        have e' : b = a := hA b (by rw [q]; simp)
        subst e'
        rw [ha] at e; cases e
        have d' : Data.seq vs.toArray _ = Data.dict es ep := d
        cases d'
    have nsK : ∀ {b : Addr} {m : Str → Option Value}, s₁.heap.Ns b m → (hidT s₁.heap H).Ns b m := fun {b m} ⟨o, es, ep, e, d, r⟩ => ⟨o, es, ep, base_of e (noA e d), d, r⟩
    have hKb : K.In (hidT s₁.heap H) := fun b o e => base_of (KX b o e) (by
      cases q : H b with
      | none => rfl
      | some u =>
        have e' : b = a := hA b (by rw [q]; simp)
        subst e'
        rw [hK (by rw [q]; simp)] at e; cases e)
    have hM : Mod K mg (hidT s₁.heap H) := ⟨hKb, nsK hns, ⟨mb, nsK hb, hbb⟩, let ⟨mc, h1, h2⟩ := hlim; ⟨mc, nsK h1, h2⟩⟩
    have e0 : Env0 P w K mg (hidT s₁.heap H) callerA [] s₁ H := ⟨rfl, hM, fun b o e => of_hidT e, Nat.le_of_eq (hidT_size _ _), trivial, fun b hb => absurd (show b ∈ ([] : List Addr) from hb) (by simp), hok, .of_eq hg⟩
    refine codeAny_mono ((F _ hKb (nsK hns)).run callerA [] s₁ H ⟨[.ref a], []⟩ [.ref a] [.ref a] _ _ hr e0 (hbind s₁ (.ref a)) (.cons rfl .nil) (hsp H hO hS)) fun r s' h => ?_
    cases r with
    | error e => exact (hCX H e s' h).elim
    | ok fl =>
      cases fl with
      | next => exact False.elim h
      | brk => exact False.elim h
      | cont => exact False.elim h
      | ret u =>
        obtain ⟨v, H', os, bare, un, hok', r', q⟩ := h
        have q' : v = .bl true := q
        subst q'
        obtain rfl : u = Value.bool true := r'
        refine ⟨rfl, OldK.of_keep fun b o e => ?_, os, bare⟩
        cases q : H b with
        | none => exact un.keep b o e q (by intro z; exact absurd (show b ∈ ([] : List Addr) from z) (by simp)) (by simp)
        | some u =>
          rcases hO b with z | ⟨ob, xs, z⟩
          · rw [q] at z; cases z
          · have z2 := un.frzs b ob _ z
            obtain ⟨e1, _⟩ := hok b _ z
            obtain ⟨e2, _⟩ := hok' b _ z2
            rw [e] at e1; cases e1
            exact e2
  cases hk : K.lookup a with
  | some o =>
    -- the script is one of the module's own objects
    have e := KX a o hk
    rw [ha] at e
    cases e
    refine core (fun _ => none) (fun _ => .inl rfl) (.inr ⟨_, vs.toArray, _, hk, rfl, rfl, rfl, by rw [List.size_toArray, lenV]; exact hl, by simpa using rv⟩) (fun b u z => by have z' : (none : Option HO) = some u := z; cases z') (fun b z => absurd rfl z) fun z => absurd rfl z
  | none =>
    refine core (fun b => if b = a then some (.frz { cls := .type "list", data := .seq vs.toArray } (.lst (ns.map V.int))) else none) (fun b => ?_) (.inl (.inr ⟨{ cls := .type "list", data := .seq vs.toArray }, if_pos rfl⟩)) (fun b u z => ?_) (fun b z => ?_) fun _ => hk
    · by_cases hb : b = a
      · exact .inr ⟨_, _, if_pos hb⟩
      · exact .inl (if_neg hb)
    · by_cases hb : b = a
      · have z' := (if_pos hb).symm.trans z
        cases z'
        subst hb
        exact ⟨ha, by rw [List.length_map]; exact hl, vs, _, rv, ha⟩
      · have z' := (if_neg hb).symm.trans z
        cases z'
    · by_cases hb : b = a
      · exact hb
      · exact absurd (if_neg hb) z
end L2
namespace L2
open PySem PySem.Spec PyProof.Rows
abbrev KOf {K : PySem.W.Frag} {h : Heap} (_ : K.In h) : PySem.W.Frag := K
/-- the goal that k_head leaves (case hc), from the law's promise. F gives the function object fd (K's own) once, then the promise over every base -/
theorem walk_of {l : PySem.W.OpenLaw} {n k : Nat} {q : Program} {loose : List Str} {XP : (Str → Option Value) → Heap → Prop} {YP : World → Heap → Prop} {d : DefRec} {K : Params → PySem.W.Frag} {CX : World → CXT} {sp : World → Sp} {x : Str}
    (hn : l.most = some n) (hn2 : n ≤ sizeLine) (hdf : d.params.defaults = []) (hr : Room k callerA)
    (hY : ∀ (w : World) (h : Heap), YP w h → (K w.params).In h)
    (F : ∀ (w : World) (mg : Str → Option Value) (fa : Addr) (h : Heap), (K w.params).In h → h.Ns mainGlobals mg → mg d.name = some (.ref fa) →
      ∃ fd : FuncData, (∀ (s : Shared) (u : Value), BindsTo s fd ⟨[u], []⟩ [(x, u)]) ∧
        ∀ base : Heap, (K w.params).In base → base.Ns mainGlobals mg → FnOk l.prog w (K w.params) mg base (CX w) k fa fd [x] (sp w))
    (hsp : ∀ (w : World) (H : Hp) (a : Addr) (ns : List Int), ns.length ≤ n → Only H → SqL (K w.params) H a (ns.map V.int) → sp w [.ref a] H (fun v _ => v = .bl true) fun _ _ _ => False)
    (hCX : ∀ (w : World) (H : Hp) (s : Shared) (e : Value) (s' : Shared), CX w [] H s (fun _ _ _ => False) e s' → False) :
    PySem.W.WalkO q loose XP YP l.row.toRowW d [] (fun f vs => PySem.call f vs) := by
  refine Att.attach_call hn hdf fun w s₀ s₁ mg mb fa o pm cd doc a vs ns G Y ho hd hcd hmg hobj hints hlen hg => ?_
  have KX := hY w _ Y
  obtain ⟨fd, hb, hF⟩ := F w mg fa _ KX G.T.g hmg
  exact law_call KX G.T.g G.T.b G.T.builtins G.T.nolimit hg hobj hints (Nat.le_trans hlen hn2) hr hF hb (fun H hO hS => hsp w H a ns hlen hO hS) fun H e s' => hCX w H s₁ e s'
end L2
/- THE LAST THEOREM (shape; LID, My.* are yours):
   My.Adr: a structure of the addresses that your layer names (classes, functions); My.Txt K t: a structure (Prop) of the equations over K;
   My.txt_mk : {K} {implicit addresses ..} (e1 : nsIn K mainGlobals "law" = some (some (.ref f))) (e2 : K.lookup f = some ⟨oc, od, .func (fnOf "law" "law" params body scope dV kV doc pm an cdv ct), sl⟩) (e3 : codeIn K cdv "law" = true) .. : ∃ t, My.Txt K t
set_option maxRecDepth 100000 in
set_option maxHeartbeats 0 in
theorem PySem.Challenge.cw_LID_holds : PySem.Challenge.rw_LID.Holds := by
  w_on; o_law; k_head; (case hw => w_witness2)
  k_fill
  refine L2.walk_of (l := PySem.Challenge.rw_LID) (n := 63) (k := 40) (x := "script") (CX := fun w => ..) (sp := fun _ => My.sp_law) rfl (by decide) rfl ⟨rfl, by decide, by decide⟩ (fun w h Y => PySem.W.kIn_of Y) ?F ?S ?C
  case F =>
    intro w mg fa h KX G hmg
    have T : ∃ t, My.Txt (L2.KOf KX) t := by
      dsimp only [L2.KOf]                          -- K must stand as «<heap const> w.params» for k_is
      refine' My.txt_mk ?e1 ?e2 ?e3 ..
      (case e1 => PySem.W.k_is)                    -- in the order: a name -> its address -> its object -> its parts
      (case e2 => PySem.W.k_is)
      ..
    obtain ⟨t, T⟩ := T
    have e0 := hmg.symm.trans (PySem.W.mg_of KX G T.law)
    cases e0                                       -- fa is the law's own address
    exact ⟨_, fun s u => .of_eq rfl, fun base kb nb => My.law_fn T kb nb⟩     -- if «.of_eq rfl» comes too early: refine' ⟨_, ?b, fun base kb nb => My.law_fn T kb nb⟩; exact fun s u => .of_eq rfl
  case S => exact fun w H a ns hl hO hS => ..
  case C => exact ..
(the tactic k_is has no namespace: write k_is) -/
/-! SHORT WORDS over the layer: a def of the text, its body, what a loop and a test want. -/
namespace L2
open PySem PySem.Spec PyProof.Rows
/-! ### the text by places -/
def defArgs (s : Stmt) : Arguments := match s with
  | .FunctionDef _ a _ _ _ _ _ _ _ _ => a
  | _ => { posonlyargs := [], args := [], vararg := none, kwonlyargs := [], kw_defaults := [], kwarg := none, defaults := [] }
def defBody (s : Stmt) : List Stmt := match s with
  | .FunctionDef _ _ b _ _ _ _ _ _ _ => b
  | _ => []
def defScope (s : Stmt) : Scope := match s with
  | .FunctionDef _ _ _ _ _ _ sc _ _ _ => sc
  | _ => { kind := .function, names := [], isGenerator := false, isCoroutine := false }
/-! ### no exception leaves a def -/
abbrev CX0 : CXT := fun _ _ _ _ _ _ => False
abbrev E0 : XK := fun _ _ _ => False
theorem pass0 {X : Cx} : Passes CX0 X E0 := fun _ _ _ _ _ _ _ h => h.elim
/-! ### a def (or method) of the text as it stands behind the top -/
structure Fun (K : PySem.W.Frag) (x qual : Str) (st : Stmt) (f : Addr) (fd : FuncData) : Prop where
  ex : ∃ (oc : Value) (od : Option Addr) (kV doc pm : Value) (an : Option Addr) (cdv ct : Value) (osl : Array (Option Value)),
    fd = PySem.W.fnOf x qual (defArgs st) (defBody st) (defScope st) .none kV doc pm an cdv ct ∧ K.lookup f = some ⟨oc, od, .func fd, osl⟩ ∧ PySem.W.codeIn K cdv qual = true
  kp : PySem.W.keepIn K (.ref f) = true
section
variable {P : Program} {w : World} {K : PySem.W.Frag} {mg : Str → Option Value} {base : Heap}
/-- THE RULE for a def: its body as a term of rules, and the reading of that term -/
theorem Fun.ok {x qual : Str} {st : Stmt} {f : Addr} {fd : FuncData} {N ps : List Str} {k : Nat} {sp : Sp} (F : Fun K x qual st f fd) (S : FnScope N ps (defScope st)) (len : ∀ vs H Q E, sp vs H Q E → vs.length = ps.length)
    (hbody : ∀ (cdv : Value) (A : Around) (outer : List Env) (s : Shared) (H : Hp) (vs : List V) (Q : VK) (E : XK), Room k (A.deeper (envOfC qual (defScope st) s.heap.objs.size f cdv)) → sp vs H Q E →
      ∃ t, PSs (cxOf CX0 P w K mg base N qual (defScope st) f cdv A outer s H E).nox (defBody st) t ∧ t { nx := fun _ H' => Q .non H', rt := Q } (start N vs) H) : FnOk P w K mg base CX0 (k + 1) f fd ps sp := by
  obtain ⟨oc, od, kV, doc, pm, an, cdv, ct, osl, rfl, lk, hcd⟩ := F.ex
  refine fn_of lk hcd S len fun A outer s H vs Q E hr hsp => ?_
  obtain ⟨t, h, q⟩ := hbody cdv A outer s H vs Q E hr hsp
  exact ⟨t, h.nox, q⟩
/-- how its arguments bind (no defaults): h is «fun _ _ _ _ _ _ us hl => match us, hl with | [_, _], _ => rfl», one _ a parameter -/
theorem Fun.binds {x qual : Str} {st : Stmt} {f : Addr} {fd : FuncData} {ps : List Str} (F : Fun K x qual st f fd)
    (h : ∀ (kV doc pm : Value) (an : Option Addr) (cdv ct : Value) (us : List Value), us.length = ps.length → bindArgs (PySem.W.fnOf x qual (defArgs st) (defBody st) (defScope st) .none kV doc pm an cdv ct) ⟨us, []⟩ = pure (ps.zip us)) : Binds K fd ps [] := by
  obtain ⟨oc, od, kV, doc, pm, an, cdv, ct, osl, rfl, lk, hcd⟩ := F.ex
  exact .all (h kV doc pm an cdv ct)
theorem fun_mk {x qual : Str} {st : Stmt} {f : Addr} {oc : Value} {od an : Option Addr} {osl : Array (Option Value)} {kV doc pm cdv ct : Value} (l : K.lookup f = some ⟨oc, od, .func (PySem.W.fnOf x qual (defArgs st) (defBody st) (defScope st) .none kV doc pm an cdv ct), osl⟩)
    (c : PySem.W.codeIn K cdv qual = true) (k : PySem.W.keepIn K (.ref f) = true) : Fun K x qual st f (PySem.W.fnOf x qual (defArgs st) (defBody st) (defScope st) .none kV doc pm an cdv ct) := ⟨⟨oc, od, kV, doc, pm, an, cdv, ct, osl, rfl, l, c⟩, k⟩
end
/-! ### expressions in short: the name that stands in the i-th slot -/
section
variable {X : Cx}
theorem pv (i : Nat) {x : Str} {pos : Pos} (hN : X.N[i]? = some x := by rfl) (hv : Vis X.env.scope x := by first | exact Or.inl rfl | exact Or.inr (Or.inl rfl) | exact Or.inr (Or.inr rfl)) (hd : (x == ("__debug__" : Str)) = false := by decide)
    (hcd : (x == ("__classdict__" : Str)) = false := by decide) : PE X (.Name x pos) (tVar i) := pe_var hN hv hd hcd
end
/-! ### tests -/
theorem ite2 {c A B : Prop} [Decidable c] (h1 : c → A) (h2 : ¬ c → B) : if c then A else B := by
  by_cases h : c
  · rw [if_pos h]
    exact h1 h
  · rw [if_neg h]
    exact h2 h
/-! ### heaps -/
/-- all that was tracked is as it was -/
def Same (H H' : Hp) : Prop := ∀ b o, H b = some o → H' b = some o
theorem Same.refl (H : Hp) : Same H H := fun _ _ h => h
theorem Same.trans {H H1 H2 : Hp} (a : Same H H1) (b : Same H1 H2) : Same H H2 := fun c o h => b c o (a c o h)
theorem Same.free {H H' : Hp} (e : Same H H') {l : Addr} (h : H' l = Option.none) : H l = Option.none := by
  cases q : H l with
  | none => rfl
  | some o =>
    rw [e l o q] at h
    cases h
theorem Same.seq {K : PySem.W.Frag} {H H' : Hp} {a : Addr} {xs : List V} (e : Same H H') (h : SqL K H a xs) : SqL K H' a xs := by
  rcases h with (h | ⟨o, h⟩) | h
  · exact .inl (.inl (e _ _ h))
  · exact .inl (.inr ⟨o, e _ _ h⟩)
  · exact .inr h
end L2
section
set_option Elab.async false
set_option linter.all false
set_option maxRecDepth 100000
namespace L2
open PySem PySem.Spec PyProof.Rows
/-! ### lists of pairs as tables -/
section
variable {κ : Type} [DecidableEq κ]
def valV (kvs : List (κ × V)) (k : κ) : Option V := (kvs.find? fun kv => decide (kv.1 = k)).map (·.2)
/-- in its place, or at the end -/
def putK (kvs : List (κ × V)) (k : κ) (v : V) : List (κ × V) :=
  if (kvs.any fun kv => decide (kv.1 = k)) = true then kvs.map (fun kv => if kv.1 = k then (kv.1, v) else kv) else kvs ++ [(k, v)]
def dropK (kvs : List (κ × V)) (k : κ) : List (κ × V) := kvs.filter fun kv => decide (kv.1 ≠ k)
theorem valV_pos {p : κ × V} {r : List (κ × V)} {k : κ} (e : p.1 = k) : valV (p :: r) k = some p.2 := by simp [valV, List.find?_cons, e]
theorem valV_neg {p : κ × V} {r : List (κ × V)} {k : κ} (e : ¬ p.1 = k) : valV (p :: r) k = valV r k := by simp [valV, List.find?_cons, e]
theorem RelO.getD {o : Option V} {u : Option Value} {d : V} {d' : Value} (r : RelO o u) (rd : RelV d d') : RelV (o.getD d) (u.getD d') := by
  cases o with
  | none => cases u with
    | none => exact rd
    | some _ => exact (show False from r).elim
  | some _ => cases u with
    | none => exact (show False from r).elim
    | some _ => exact r
/-- raw tables of the same keys -/
theorem KV.val {kvs : List (κ × V)} {vs : List (κ × Value)} (r : KV kvs vs) (k : κ) : RelO (valV kvs k) (valueAt vs k) := by
  unfold KV at r
  induction r with
  | nil => exact True.intro
  | @cons p q ps qs h t ih =>
    obtain ⟨h1, h2⟩ := h
    by_cases e : p.1 = k
    · have e' : q.1 = k := h1.symm.trans e
      have b : valueAt (q :: qs) k = some q.2 := by simp [valueAt, List.find?_cons, e']
      rw [valV_pos e, b]; exact h2
    · have e' : ¬ q.1 = k := fun z => e (h1.trans z)
      have b : valueAt (q :: qs) k = valueAt qs k := by simp [valueAt, List.find?_cons, e']
      rw [valV_neg e, b]; exact ih
theorem KV.any {kvs : List (κ × V)} {vs : List (κ × Value)} (r : KV kvs vs) (k : κ) : (kvs.any fun kv => decide (kv.1 = k)) = vs.any fun kv => decide (kv.1 = k) := by
  unfold KV at r
  induction r with
  | nil => rfl
  | cons h t ih => rw [List.any_cons, List.any_cons, ih, h.1]
theorem KV.drop {kvs : List (κ × V)} {vs : List (κ × Value)} (r : KV kvs vs) (k : κ) : KV (dropK kvs k) (without vs k) := by
  unfold KV at r ⊢
  unfold dropK without
  induction r with
  | nil => exact .nil
  | @cons p q ps qs h t ih =>
    obtain ⟨h1, h2⟩ := h
    rw [List.filter_cons, List.filter_cons]
    by_cases e : p.1 = k
    · have a : ¬ decide (p.1 ≠ k) = true := by simp [e]
      have b : ¬ decide (q.1 ≠ k) = true := by simp [h1.symm.trans e]
      rw [if_neg a, if_neg b]; exact ih
    · have e' : ¬ q.1 = k := fun z => e (h1.trans z)
      have a : decide (p.1 ≠ k) = true := by simp [e]
      have b : decide (q.1 ≠ k) = true := by simp [e']
      rw [if_pos a, if_pos b]; exact .cons ⟨h1, h2⟩ ih
theorem KV.keys {kvs : List (κ × V)} {vs : List (κ × Value)} (r : KV kvs vs) : kvs.map (·.1) = vs.map (·.1) := by
  unfold KV at r
  induction r with
  | nil => rfl
  | cons h t ih => rw [List.map_cons, List.map_cons, ih, h.1]
theorem KV.length {kvs : List (κ × V)} {vs : List (κ × Value)} (r : KV kvs vs) : kvs.length = vs.length := Paired.length r
end
/-! ### a tracked dict, its keys ints and texts or tuples of these -/
/-- raw entries of a dict with tuple keys -/
abbrev KT (H : Hp) : List (List Key × V) → List (List Key × Addr × Value) → Prop := Paired fun p q => p.1 = q.1 ∧ H q.2.1 = some (.tup (p.1.map kV)) ∧ RelV p.2 q.2.2
theorem KT.val {H : Hp} {kvs : List (List Key × V)} {xs : List (List Key × Addr × Value)} (r : KT H kvs xs) (k : List Key) : RelO (valV kvs k) ((atKey xs k).map (·.2)) := by
  induction r with
  | nil => exact True.intro
  | @cons p q ps qs h t ih =>
    obtain ⟨h1, _, h2⟩ := h
    by_cases e : p.1 = k
    · have e' : q.1 = k := h1.symm.trans e
      have b : atKey (q :: qs) k = some q.2 := by simp [atKey, List.find?_cons, e']
      rw [valV_pos e, b]; exact h2
    · have e' : ¬ q.1 = k := fun z => e (h1.trans z)
      have b : atKey (q :: qs) k = atKey qs k := by simp [atKey, List.find?_cons, e']
      rw [valV_neg e, b]; exact ih
theorem KT.keeps {H H' : Hp} {kvs : List (List Key × V)} {xs : List (List Key × Addr × Value)} (r : KT H kvs xs) (ht : ∀ b ys, H b = some (.tup ys) → H' b = some (.tup ys)) : KT H' kvs xs :=
  Paired.mapP r fun _ _ z => ⟨z.1, ht _ _ z.2.1, z.2.2⟩
section
variable {P : Program} {w : World} {H : Hp} {h : Heap} {a : Addr}
end
/-- what the dict at a holds at the key y -/
def DGet (H : Hp) (a : Addr) (y : V) (r : Option V) : Prop :=
  (∃ kvs k, Rd H a (.dK kvs) ∧ y = kV k ∧ r = valV kvs k) ∨ ∃ kvs k b, Rd H a (.dT kvs) ∧ y = .ref b ∧ H b = some (.tup (k.map kV)) ∧ r = valV kvs k
/-- the heap behind a[y] = v -/
def DPut (H : Hp) (a : Addr) (y v : V) (H' : Hp) : Prop :=
  (∃ kvs k, H a = some (.dK kvs) ∧ y = kV k ∧ kvs.length < sizeLine ∧ H' = upd H a (.dK (putK kvs k v))) ∨
  ∃ kvs k b, H a = some (.dT kvs) ∧ y = .ref b ∧ H b = some (.tup (k.map kV)) ∧ kvs.length < sizeLine ∧ H' = upd H a (.dT (putK kvs k v))
theorem DGet.k {H : Hp} {a : Addr} {kvs : List (Key × V)} {k : Key} (e : H a = some (.dK kvs)) : DGet H a (kV k) (valV kvs k) := .inl ⟨kvs, k, .inl e, rfl, rfl⟩
theorem DGet.t {H : Hp} {a b : Addr} {kvs : List (List Key × V)} {k : List Key} (e : H a = some (.dT kvs)) (eb : H b = some (.tup (k.map kV))) : DGet H a (.ref b) (valV kvs k) := .inr ⟨kvs, k, b, .inl e, rfl, eb, rfl⟩
theorem DPut.k {H : Hp} {a : Addr} {kvs : List (Key × V)} {k : Key} {v : V} (e : H a = some (.dK kvs)) (hl : kvs.length < sizeLine) : DPut H a (kV k) v (upd H a (.dK (putK kvs k v))) := .inl ⟨kvs, k, e, rfl, hl, rfl⟩
theorem DPut.t {H : Hp} {a b : Addr} {kvs : List (List Key × V)} {k : List Key} {v : V} (e : H a = some (.dT kvs)) (eb : H b = some (.tup (k.map kV))) (hl : kvs.length < sizeLine) :
    DPut H a (.ref b) v (upd H a (.dT (putK kvs k v))) := .inr ⟨kvs, k, b, e, rfl, eb, hl, rfl⟩
section
variable {X : Cx} {pins : List (Addr × Obj)} {σ : St} {H : Hp} {s : Shared} {a : Addr} {y v : V} {u r : Value} {o : Option V} {A : Around} {E : Value → Shared → Prop}
end
section
variable {X : Cx} {pins : List (Addr × Obj)} {σ : St} {H : Hp} {s : Shared} {a : Addr} {kvs : List (Key × V)} {k : Key} {u : Value} {A : Around} {E : Value → Shared → Prop}
end
/-! ### readings and rules -/
section
variable {X : Cx} {o i e value : Expr} {pos pos' tpos : Pos} {td ty tv : TE}
end
/-! ### displays -/
section
variable {X : Cx} {pos : Pos}
end
/-! ### methods -/
/-- a method call o.m(e) of a built-in, with one argument: what must be seen of the text -/
structure M1 (X : Cx) (o : Expr) (m : Str) (apos : Pos) (e : Expr) (cpos : Pos) : Prop where
  base : attributeBase o m X.env (eval o X.env) = eval o X.env
  few : ((backTo cpos (starEach [e] X.env)).all (fun x => !x.1) && (backToKw cpos (keywordEach [] X.env)).all (fun x => x.1.isSome)
    && decide (([e] : List Expr).length + ([] : List Keyword).length + (if ([] : List Keyword).isEmpty then 0 else 1) < 30)) = true
  line : (apos.endLine == cpos.line) = true
  trees : backTo cpos (starEach [e] X.env) = [(false, eval e X.env)]
structure M2 (X : Cx) (o : Expr) (m : Str) (apos : Pos) (e f : Expr) (cpos : Pos) : Prop where
  base : attributeBase o m X.env (eval o X.env) = eval o X.env
  few : ((backTo cpos (starEach [e, f] X.env)).all (fun x => !x.1) && (backToKw cpos (keywordEach [] X.env)).all (fun x => x.1.isSome)
    && decide (([e, f] : List Expr).length + ([] : List Keyword).length + (if ([] : List Keyword).isEmpty then 0 else 1) < 30)) = true
  line : (apos.endLine == cpos.line) = true
  trees : backTo cpos (starEach [e, f] X.env) = [(false, eval e X.env), (false, eval f X.env)]
section
variable {X : Cx} {pins : List (Addr × Obj)} {σ : St} {H : Hp} {s : Shared} {a : Addr} {y d : V} {u r : Value} {o : Option V} {A : Around} {E : Value → Shared → Prop}
end
section
variable {X : Cx} {o e f : Expr} {apos cpos : Pos} {td ty tx : TE}
end
/-! ### dict(d): a copy -/
section
variable {X : Cx} {pins : List (Addr × Obj)} {σ : St} {H : Hp} {s : Shared} {a : Addr} {kvs : List (Key × V)} {A : Around} {E : Value → Shared → Prop}
end
section
variable {X : Cx} {pins : List (Addr × Obj)} {σ : St} {H : Hp} {s : Shared} {a : Addr} {y : V} {u : Value} {A : Around} {E : Value → Shared → Prop}
end
end L2
end
section
set_option Elab.async false
set_option linter.all false
set_option maxRecDepth 100000
set_option maxHeartbeats 4000000
/-! A list comprehension (one clause, any target, tests) as a rule over the hand layer. -/
namespace L2
open PySem PySem.Spec PyProof.Rows
/-! ### the closure of the block -/
theorem lk_mem {κ α : Type} [BEq κ] [LawfulBEq κ] {k : κ} {a : α} : ∀ {l : List (κ × α)}, l.lookup k = some a → (k, a) ∈ l
  | [], h => by simp at h
  | (n, b) :: r, h => by
    rw [List.lookup_cons] at h
    cases e : k == n with
    | true =>
      rw [e] at h
      have e' : k = n := by simpa using e
      have hb : b = a := by simpa using h
      subst e' hb
      exact List.mem_cons_self
    | false =>
      rw [e] at h
      exact List.mem_cons_of_mem _ (lk_mem h)
theorem lk_of_mem {κ α : Type} [BEq κ] [LawfulBEq κ] {k : κ} {a : α} : ∀ {l : List (κ × α)}, (k, a) ∈ l → ∃ b, l.lookup k = some b
  | [], h => nomatch h
  | (n, b) :: r, h => by
    rw [List.lookup_cons]
    cases e : k == n with
    | true => exact ⟨b, rfl⟩
    | false =>
      rcases List.mem_cons.mp h with z | z
      · have : k = n := congrArg Prod.fst z
        rw [this] at e
        simp at e
      · exact lk_of_mem z
theorem closure_run {env : Env} {F : Str × NameKind → List (Str × Addr) → Sem (ForInStep (List (Str × Addr)))}
    (h1 : ∀ n r c, env.cells.lookup n = some c → F (n, .free) r = pure (.yield ((n, c) :: r)))
    (h2 : ∀ n k r, k ≠ NameKind.free → F (n, k) r = pure (.yield r)) :
    ∀ (names : List (Str × NameKind)) (acc : List (Str × Addr)), (∀ x ∈ names, x.2 = .free → ∃ c, env.cells.lookup x.1 = some c) →
      ∃ cl, (forIn names acc F : Sem _) = pure cl ∧ (∀ p ∈ cl, p ∈ acc ∨ env.cells.lookup p.1 = some p.2) ∧ (∀ p ∈ acc, p ∈ cl) ∧ ∀ x ∈ names, x.2 = .free → ∃ c, (x.1, c) ∈ cl
  | [], acc, _ => ⟨acc, rfl, fun p hp => .inl hp, fun p hp => hp, fun x hx => nomatch hx⟩
  | (n, k) :: r, acc, h => by
    by_cases hk : k = .free
    · subst hk
      obtain ⟨c, hc⟩ := h (n, .free) List.mem_cons_self rfl
      obtain ⟨cl, e, a, b, d⟩ := closure_run h1 h2 r ((n, c) :: acc) (fun x hx => h x (List.mem_cons_of_mem _ hx))
      refine ⟨cl, ?_, fun p hp => ?_, fun p hp => b p (List.mem_cons_of_mem _ hp), fun x hx hf => ?_⟩
      · rw [List.forIn_cons, h1 n acc c hc]
        exact e
      · rcases a p hp with z | z
        · rcases List.mem_cons.mp z with z | z
          · subst z
            exact .inr hc
          · exact .inl z
        · exact .inr z
      · rcases List.mem_cons.mp hx with z | z
        · subst z
          exact ⟨c, b _ List.mem_cons_self⟩
        · exact d x z hf
    · obtain ⟨cl, e, a, b, d⟩ := closure_run h1 h2 r acc (fun x hx => h x (List.mem_cons_of_mem _ hx))
      refine ⟨cl, ?_, a, b, fun x hx hf => ?_⟩
      · rw [List.forIn_cons, h2 n k acc hk]
        exact e
      · rcases List.mem_cons.mp hx with z | z
        · subst z
          exact absurd hf hk
        · exact d x z hf
theorem closure_of {env : Env} {scope : Scope} (h : ∀ x ∈ scope.names, x.2 = .free → ∃ c, env.cells.lookup x.1 = some c) :
    ∃ cl, closureFor scope env = pure cl ∧ (∀ y c, cl.lookup y = some c → env.cells.lookup y = some c) ∧ ∀ y, (y, NameKind.free) ∈ scope.names → ∃ c, cl.lookup y = some c := by
  obtain ⟨cl, e, a, _, d⟩ := closure_run (env := env) (F := fun x cs => match x with | (name, kind) => if (kind == NameKind.free) = true then do let a ← cellOf env name; pure (ForInStep.yield ((name, a) :: cs)) else pure (ForInStep.yield cs))
    (fun n r c hc => by
      show (do let a ← cellOf env n; pure (ForInStep.yield ((n, a) :: r)) : Sem _) = _
      unfold cellOf
      rw [hc]
      rfl)
    (fun n k r hk => by
      have : (k == NameKind.free) = false := by simpa using hk
      simp [this]) scope.names [] h
  refine ⟨cl, ?_, fun y c q => ?_, fun y hy => ?_⟩
  · unfold closureFor
    have e2 : (forIn scope.names ([] : List (Str × Addr)) fun x cs => match x with | (name, kind) => if (kind == NameKind.free) = true then do let a ← cellOf env name; pure (ForInStep.yield ((name, a) :: cs)) else pure (ForInStep.yield cs) : Sem _) >>= (fun r => pure r) = pure cl := by
      rw [e]; rfl
    exact e2
  · rcases a _ (lk_mem q) with z | z
    · exact nomatch z
    · exact z
  · obtain ⟨c, hc⟩ := d (y, .free) hy rfl
    exact lk_of_mem hc
/-! ### the block's context -/
def blkEnv (env : Env) (sc : Scope) (cl : List (Str × Addr)) (C : Addr) : Env :=
  { scope := sc, locals := C, globals := env.globals, cells := cl, qual := env.qual, func := none, code := env.code, frame := env.frame, builtins := env.builtins }
def blk (X : Cx) (sc : Scope) (N : List Str) (cl : List (Str × Addr)) (C : Addr) (s : Shared) (H : Hp) (ex : List Addr) (pn : List (Addr × Obj)) : Cx where
  prog := X.prog
  w := X.w
  K := X.K
  mg := X.mg
  base := X.base
  A := X.A
  N := N
  s₀ := s
  H₀ := H
  env := blkEnv X.env sc cl C
  outer := X.stack
  stack := X.stack
  ex := ex
  fn := fun _ => false
  calm := X.calm
  pn := pn
  xe := fun _ _ => False
section
variable {X : Cx} {pins : List (Addr × Obj)} {σ : St} {H : Hp} {s : Shared} {fp : List Addr} {sc : Scope} {N : List Str} {cl : List (Str × Addr)}
theorem Inv.notStk (I : Inv X pins σ H s) {b : Addr} (h1 : b ≠ X.env.locals) (h2 : b ∉ X.fs) : b ∉ frs X.stack := fun z => by
  rcases List.mem_cons.mp (I.stkSub b z) with e | e
  · exact h1 e
  · exact h2 e
theorem Inv.szLt (I : Inv X pins σ H s) {x : Str} {c : Addr} (e : X.env.cells.lookup x = some c) : c < s.heap.objs.size := by
  obtain ⟨v, q⟩ := I.cell x c e
  exact q.lt
theorem blk_ok (I : Inv X pins σ H s) (hf : ∀ b ∈ fp, FpOk X pins H b) (hlt : ∀ b ∈ fp, b < s.heap.objs.size) (hk : sc.kind = .function)
    (h1 : ∀ y c, cl.lookup y = some c → X.env.cells.lookup y = some c) (h2 : ∀ y, (sc.names.lookup y = some .cell ∨ sc.names.lookup y = some .free) → ∃ c, cl.lookup y = some c) :
    (blk X sc N cl s.heap.objs.size s H fp (X.pn ++ pins)).Ok where
  mod := I.ok.mod
  kind := hk
  glob := I.ok.glob
  blt := I.ok.blt
  above := Nat.le_refl _
  inj := fun x y c a b => I.ok.inj x y c (h1 x c a) (h1 y c b)
  has := fun x hx => h2 x hx
  cab := fun x c z => nomatch z
  hd := I.ok.hd
  frames := I.ok.frames
  stk := .inl rfl
  exf := fun b hb => ⟨Nat.ne_of_lt (hlt b hb), fun x c e => (hf b hb).2.2.2.2.1 x c (h1 x c e)⟩
  bs := I.bs
  bsz := Nat.le_trans I.ok.bsz I.sz
  noex := fun b o e hb => by
    rcases (hf b hb).2.2.2.1 with z | z
    · exact I.ok.noex b o e z
    · exact absurd (Nat.lt_of_lt_of_le (Heap.lt_size (I.ok.bs b o e).1) z) (Nat.lt_irrefl _)
  exfs := fun b hb => I.notStk (hf b hb).2.1 (hf b hb).2.2.1
  funs := I.stack
  frf := I.stkFree
/-- the block's first state: own names not bound, those from outside as they are -/
def blkSt (own : Nat) (ix : List Nat) (σ : St) : St := List.replicate own none ++ ix.map fun i => (σ[i]?).getD none
theorem blkSt_len {own : Nat} {ix : List Nat} {σ : St} : (blkSt own ix σ).length = own + ix.length := by simp [blkSt]
theorem blkSt_some {own : Nat} {ix : List Nat} {σ : St} {j : Nat} {v : V} (h : (blkSt own ix σ)[j]? = some (some v)) : own ≤ j ∧ ∃ i, ix[j - own]? = some i ∧ σ[i]? = some (some v) := by
  unfold blkSt at h
  by_cases hj : j < own
  · rw [List.getElem?_append_left (by simpa using hj), List.getElem?_replicate] at h
    simp [hj] at h
  · have hle : own ≤ j := by omega
    rw [List.getElem?_append_right (by simpa using hle), List.length_replicate, List.getElem?_map] at h
    refine ⟨hle, ?_⟩
    cases e : ix[j - own]? with
    | none => rw [e] at h; simp at h
    | some i =>
      rw [e] at h
      refine ⟨i, rfl, ?_⟩
      have h' : (σ[i]?).getD none = some v := by simpa using h
      cases e2 : σ[i]? with
      | none => rw [e2] at h'; simp at h'
      | some o =>
        rw [e2] at h'
        have : o = some v := by simpa using h'
        rw [this]
/-- what the block's names are: N is own names, then the names from outside with their places there -/
structure Frees (X : Cx) (sc : Scope) (own : Nat) (ix : List Nat) (N : List Str) : Prop where
  len : N.length = own + ix.length
  out : ∀ j i, ix[j]? = some i → ∃ x, N[own + j]? = some x ∧ X.N[i]? = some x ∧ X.env.scope.names.lookup x = some .cell ∧ sc.names.lookup x = some .cell
theorem blk_in {own : Nat} {ix : List Nat} {h' : Heap} {m : Str → Option Value} {t' : Nat} (I : Inv X pins σ H s) (hf : ∀ b ∈ fp, FpOk X pins H b) (hlt : ∀ b ∈ fp, b < s.heap.objs.size) (hk : sc.kind = .function)
    (h1 : ∀ y c, cl.lookup y = some c → X.env.cells.lookup y = some c) (h2 : ∀ y, (sc.names.lookup y = some .cell ∨ sc.names.lookup y = some .free) → ∃ c, cl.lookup y = some c) (F : Frees X sc own ix N)
    (hn : h'.Ns s.heap.objs.size m) (k : ∀ b o, s.heap.get? b = some o → h'.get? b = some o) :
    Inv (blk X sc N cl s.heap.objs.size s H fp (X.pn ++ pins)) [] (blkSt own ix σ) H { s with heap := h', toks := t' } where
  ok := blk_ok I hf hlt hk h1 h2
  os := rfl
  bare := I.bare
  base := Un.kept k
  loc := by
    refine ⟨m, hn, fun i x v e1 e2 e3 => ?_⟩
    obtain ⟨hle, io, ei, es⟩ := blkSt_some e2
    obtain ⟨y, ny, ey, oy, sy⟩ := F.out _ _ ei
    have exy : x = y := by
      have e1' : N[i]? = some x := e1
      rw [show own + (i - own) = i by omega, e1'] at ny
      exact Option.some.inj ny
    subst exy
    obtain ⟨m0, hn0, hl0⟩ := I.loc
    obtain ⟨u, r, l⟩ := hl0 io x v ey es (.inr (.inl oy))
    refine ⟨u, r, ?_⟩
    rcases l with ⟨z, _⟩ | ⟨_, c, ec, z⟩
    · have z' : X.env.scope.names.lookup x = some .local := z
      rw [oy] at z'
      cases z'
    · obtain ⟨c', ec'⟩ := h2 x (.inl sy)
      have := h1 x c' ec'
      rw [ec] at this
      cases this
      obtain ⟨o, ho, hd⟩ := z
      exact .inr ⟨.inl sy, c, ec', o, k c o ho, hd⟩
  cell := fun x c e => by
    obtain ⟨v, o, ho, hd⟩ := I.cell x c (h1 x c e)
    exact ⟨v, o, k c o ho, hd⟩
  free := I.hok.fresh (Nat.le_refl _)
  freeC := fun x c e => I.freeC x c (h1 x c e)
  pin := fun p hp => by
    have hp' : p ∈ X.pn ++ pins := by simpa [blk] using hp
    obtain ⟨a, b, c, d, e⟩ := I.pin p hp'
    exact ⟨k _ _ a, b, Nat.ne_of_lt (Heap.lt_size a), I.notStk c d, e⟩
  hok := I.hok.kept k
  len := by rw [blkSt_len]; exact F.len.symm
/-- behind the block -/
theorem blk_out {own : Nat} {ix : List Nat} {σ' : St} {H' : Hp} {s' : Shared} {pins' : List (Addr × Obj)} (I : Inv X pins σ H s) (hf : ∀ b ∈ fp, FpOk X pins H b) (hlt : ∀ b ∈ fp, b < s.heap.objs.size)
    (B : Inv (blk X sc N cl s.heap.objs.size s H fp (X.pn ++ pins)) pins' σ' H' s') : Inv X pins σ H' s' :=
  I.call' (ch := fp) B.os B.base B.hok B.bare fun b hb => ⟨(hf b hb).2.2.2.1, (hf b hb).2.1, (hf b hb).2.2.2.2.1, (hf b hb).2.2.2.2.2⟩
/-- .. and its names let go -/
theorem blk_gone {H' : Hp} {σ' : St} {s' : Shared} {C : Addr} {h' : Heap} (I : Inv X pins σ H s) (hC : C = s.heap.objs.size) (I' : Inv X pins σ' H' s') (hn : H' C = none) (hs : Heap.SameBut C s'.heap h') : Inv X pins σ' H' { s' with heap := h' } := by
  subst hC
  refine I'.turned (t' := s'.toks) (it := s.heap.objs.size) (fun b o hb e => (hs.2 b hb).trans e) hn (Nat.ne_of_gt I.lt) (.inr I.sz) (fun x c e => Nat.ne_of_lt (I.szLt e)) fun p hp => Nat.ne_of_lt (Heap.lt_size (I.pin p hp).1)
end
/-! ### tests of a comprehension -/
def PIf (X : Cx) (ifs : List Expr) (t : TT) : Prop :=
  ∀ (pins : List (Addr × Obj)) (s : Shared) (σ : St) (H : Hp) (Q : Bool → Hp → Prop), Inv X pins σ H s → t σ H Q →
    wpAny (model X.prog X.w) X.A (forIn ifs true fun c r => if r = true then do let ok ← isTrue c X.env (eval c X.env); pure (ForInStep.yield ok) else pure (ForInStep.yield r)) (TP X pins σ Q) X.xe s
def tYes : TT := fun _ H Q => Q true H
theorem pif_nil {X : Cx} : PIf X [] tYes := fun _ _ _ H _ I h => wpAny_tests_nil ⟨H, I, h⟩
theorem pif_one {X : Cx} {c : Expr} {t : TT} (hc : PT X c t) : PIf X [c] t := fun pins s σ H Q I h => wpAny_tests_one (hc pins s σ H Q I h)
/-! ### targets that keep the names from outside -/
def GKeep (own : Nat) (g : TG) : Prop := ∀ v σ H Q, g v σ H Q → g v σ H fun σ2 H2 => Q σ2 H2 ∧ σ2.length = σ.length ∧ ∀ j, own ≤ j → σ2[j]? = σ[j]?
def GsKeep (own : Nat) (g : TGs) : Prop := ∀ vs σ H Q, g vs σ H Q → g vs σ H fun σ2 H2 => Q σ2 H2 ∧ σ2.length = σ.length ∧ ∀ j, own ≤ j → σ2[j]? = σ[j]?
theorem gk_name {own i : Nat} (h : i < own) : GKeep own (gName i) := fun v σ H Q q => ⟨q, by simp, fun j hj => List.getElem?_set_ne (by omega)⟩
theorem gks_nil {own : Nat} : GsKeep own gNil := fun vs σ H Q q => ⟨q.1, q.2, rfl, fun _ _ => rfl⟩
theorem gks_cons {own : Nat} {t : TG} {u : TGs} (h1 : GKeep own t) (m1 : ∀ v σ H Q Q', (∀ σ2 H2, Q σ2 H2 → Q' σ2 H2) → t v σ H Q → t v σ H Q') (h2 : GsKeep own u) (m2 : ∀ v σ H Q Q', (∀ σ2 H2, Q σ2 H2 → Q' σ2 H2) → u v σ H Q → u v σ H Q') : GsKeep own (gCons t u) := by
  intro vs σ H Q q
  obtain ⟨v, r, e, q⟩ := q
  refine ⟨v, r, e, m1 _ _ _ _ _ (fun σ2 H2 z => ?_) (h1 _ _ _ _ q)⟩
  obtain ⟨z, l, kk⟩ := z
  refine m2 _ _ _ _ _ (fun σ3 H3 z3 => ?_) (h2 _ _ _ _ z)
  obtain ⟨z3, l3, k3⟩ := z3
  exact ⟨z3, l3.trans l, fun j hj => (k3 j hj).trans (kk j hj)⟩
theorem gm_name {i : Nat} : ∀ v σ H Q Q', (∀ σ2 H2, Q σ2 H2 → Q' σ2 H2) → gName i v σ H Q → gName i v σ H Q' := fun _ _ _ _ _ m q => m _ _ q
theorem gms_nil : ∀ v σ H Q Q', (∀ σ2 H2, Q σ2 H2 → Q' σ2 H2) → gNil v σ H Q → gNil v σ H Q' := fun _ _ _ _ _ m q => ⟨q.1, m _ _ q.2⟩
theorem gms_cons {t : TG} {u : TGs} (m1 : ∀ v σ H Q Q', (∀ σ2 H2, Q σ2 H2 → Q' σ2 H2) → t v σ H Q → t v σ H Q') (m2 : ∀ v σ H Q Q', (∀ σ2 H2, Q σ2 H2 → Q' σ2 H2) → u v σ H Q → u v σ H Q') :
    ∀ v σ H Q Q', (∀ σ2 H2, Q σ2 H2 → Q' σ2 H2) → gCons t u v σ H Q → gCons t u v σ H Q' := fun _ _ _ _ _ m ⟨v, r, e, q⟩ => ⟨v, r, e, m1 _ _ _ _ _ (fun _ _ z => m2 _ _ _ _ _ m z) q⟩
/-! ### the rule -/
/-- W: what holds at turn i with a measure; D: where the new list stands -/
def cTurns (J : It) (D : Addr) (σ0 : St) (g : TG) (tt : TT) (te : TE) (Q : Hp → Prop) (W : Nat → Nat → Hp → Prop) : Prop :=
  ∀ i m H, W i m H → (J.stop i H ∧ Q H) ∨ (J.go i H ∧ ∀ x H', J.yld i H x H' → g x σ0 H' fun σ2 H2 => tt σ2 H2 fun ok H3 =>
    if ok = true then te σ2 H3 fun y H4 => ∃ ys, H4 D = some (.lst ys) ∧ ys.length < sizeLine ∧ ∃ m', m' < m ∧ W (i + 1) m' (upd H4 D (.lst (ys ++ [y]))) else ∃ m', m' < m ∧ W (i + 1) m' H3)
def tComp (wi : TI) (own : Nat) (ix : List Nat) (g : TG) (tt : TT) (te : TE) : TE := fun σ H Q => wi σ H fun J H1 => ∀ D, H1 D = none →
  ∃ W : Nat → Nat → Hp → Prop, (∃ m, W 0 m (upd H1 D (.lst []))) ∧ cTurns J D (blkSt own ix σ) g tt te (Q (.ref D)) W
section
variable {X : Cx} {tg elt iter : Expr} {ifs : List Expr} {scope : Scope} {pos : Pos} {wi : TI} {own : Nat} {ix : List Nat} {N : List Str} {g : TG} {tt : TT} {te : TE}
/-- all that a comprehension is, but what becomes of it -/
structure CompOk (X : Cx) (tg elt : Expr) (ifs : List Expr) (scope : Scope) (own : Nat) (ix : List Nat) (N : List Str) (g : TG) (tt : TT) (te : TE) : Prop where
  kind : scope.kind = .function
  nocell : ∀ y ∈ scope.names, y.2 ≠ .cell
  names : ∀ y ∈ scope.names, y.2 = .local → scope.names.lookup y.1 = some .local
  frees : ∀ y ∈ scope.names, y.2 = .free → X.env.scope.names.lookup y.1 = some .cell
  ins : Frees X (relabel scope X.env) own ix N
  keep : GKeep own g
  tgt : ∀ cl C s H ex pn, PG (blk X (relabel scope X.env) N cl C s H ex pn) tg g
  tst : ∀ cl C s H ex pn, PIf (blk X (relabel scope X.env) N cl C s H ex pn) ifs tt
  val : ∀ cl C s H ex pn, PE (blk X (relabel scope X.env) N cl C s H ex pn) elt te
theorem relabel_mem {env : Env} {y : Str} {k : NameKind} (hno : ∀ y ∈ scope.names, y.2 ≠ .cell) (h : (y, k) ∈ (relabel scope env).names) (hk : k = .cell ∨ k = .free) : (y, NameKind.free) ∈ scope.names := by
  obtain ⟨⟨n, k'⟩, hm, e⟩ := List.mem_map.mp (show (y, k) ∈ scope.names.map _ from h)
  dsimp only at e
  split at e
  · rename_i hc
    cases e
    have : k' = .free := by
      cases k' <;> simp_all
    subst this
    exact hm
  · cases e
    rcases hk with z | z
    · subst z
      exact absurd rfl (hno _ hm)
    · subst z
      exact hm
/-- the loop, in the block -/
theorem comp_loop {pins : List (Addr × Obj)} {σ : St} {H : Hp} {s : Shared} {fp : List Addr} {cl : List (Str × Addr)} {it : Addr} {tn : Nat → Heap → Prop} {J : It} {D : Addr} {R : Result → Shared → Prop} {Qh : Hp → Prop} {W : Nat → Nat → Hp → Prop}
    (hc : X.calm = true) (O : CompOk X tg elt ifs scope own ix N g tt te) (T : Turn X.prog X.w X.K tg J fp it tn) (I : Inv X pins σ H s) (hf : ∀ b ∈ fp, FpOk X pins H b) (hlt : ∀ b ∈ fp, b < s.heap.objs.size)
    (hW : cTurns J D (blkSt own ix σ) g tt te Qh W)
    (hR : ∀ σ' H' s', Inv (blk X (relabel scope X.env) N cl s.heap.objs.size s H fp (X.pn ++ pins)) [] σ' H' s' → Qh H' → R (.ok .next) s')
    (n : Nat) (s0 : Shared) (h0 : ∃ i H', Inv (blk X (relabel scope X.env) N cl s.heap.objs.size s H fp (X.pn ++ pins)) [] (blkSt own ix σ) H' s0 ∧ tn i s0.heap ∧ (∀ b ∈ fp, H' b = none) ∧ W i n H') :
    codeAny (model X.prog X.w) X.A (.compLoop (.ListComp elt [⟨tg, iter, ifs, 0⟩] scope pos) 0 (.ref it) (.ref D) (blkEnv X.env (relabel scope X.env) cl s.heap.objs.size)) R s0 := by
  refine codeAny_loop rfl (fun n s' => ∃ i H', Inv (blk X (relabel scope X.env) N cl s.heap.objs.size s H fp (X.pn ++ pins)) [] (blkSt own ix σ) H' s' ∧ tn i s'.heap ∧ (∀ b ∈ fp, H' b = none) ∧ W i n H') (fun n s1 h1 => ?_) n h0
  obtain ⟨i, H1, B1, st1, fr1, w1⟩ := h1
  generalize hY : blk X (relabel scope X.env) N cl s.heap.objs.size s H fp (X.pn ++ pins) = Y at *
  have eA : Y.A = X.A := by rw [← hY]; rfl
  have eP : Y.prog = X.prog := by rw [← hY]; rfl
  have eW : Y.w = X.w := by rw [← hY]; rfl
  have eK : Y.K = X.K := by rw [← hY]; rfl
  have eE : blkEnv X.env (relabel scope X.env) cl s.heap.objs.size = Y.env := by rw [← hY]; rfl
  have eX : Y.xe = fun _ _ => False := by rw [← hY]; rfl
  have eC : Y.calm = true := by rw [← hY]; exact hc
  have hg : PG Y tg g := by rw [← hY]; exact O.tgt _ _ _ _ _ _
  have ht : PIf Y ifs tt := by rw [← hY]; exact O.tst _ _ _ _ _ _
  have hv : PE Y elt te := by rw [← hY]; exact O.val _ _ _ _ _ _
  have stat : ∀ {H' : Hp}, (∀ b ∈ fp, H' b = none) → ∀ b ∈ fp, FpOk Y [] H' b := fun {H'} hn b hb => by
    obtain ⟨_, a1, a2, a3, a4, a5⟩ := hf b hb
    refine ⟨hn b hb, ?_, ?_, ?_, ?_, ?_⟩
    · rw [← hY]; exact Nat.ne_of_lt (hlt b hb)
    · rw [← hY]; exact I.notStk a1 a2
    · rw [← hY]; exact .inl hb
    · intro x c e
      exact (B1.ok.exf b (by rw [← hY]; exact hb)).2 x c e
    · intro p hp
      have : p ∈ X.pn ++ pins := by rw [← hY] at hp; simpa [blk] using hp
      exact a5 p this
  rw [eE, ← eA, ← eP, ← eW]
  show wpAny _ _ ((compTurn (.ListComp elt [⟨tg, iter, ifs, 0⟩] scope pos) 0 (.ref it) (.ref D) Y.env).onRaise (fun x => do noteFrame x Y.env; theTreesLotGoes x)) _ _ s1
  refine wpAny_noted ?_
  rw [compTurn_list]
  have ff : ∀ {α : Type} {t : Sem α} {Q : α → Shared → Prop} {E : Value → Shared → Prop} {s : Shared}, wpAny (model Y.prog Y.w) Y.A t Q Y.xe s → wpAny (model Y.prog Y.w) Y.A t Q E s := fun h => wpAny_mono h (fun _ _ q => q) fun _ _ z => by rw [eX] at z; exact z.elim
  refine wpAny_bind (wpAny_standAt (wpAny_bind ?_))
  rcases hW i n H1 w1 with ⟨stop, qn⟩ | ⟨go, step⟩
  · have zd := fun E => T.done Y eP eW eK eC i [] s1 _ H1 E B1 (stat fr1) st1 stop
    rw [← eP, ← eW] at zd
    refine thn (zd _) fun r s4 ⟨hr, I4⟩ => ?_
    subst hr
    exact wpAny_pure (hR _ _ _ I4 qn)
  · have zi := fun E => T.item Y eP eW eK eC i [] s1 _ H1 E B1 (stat fr1) st1 go
    rw [← eP, ← eW] at zi
    refine thn (zi _) fun r s4 ⟨u, hr, h4⟩ => ?_
    subst hr
    refine wpAny_bind (thn h4 fun _ s5 ⟨x, H5, I5, r5, y5, st5, fr5⟩ => ?_)
    have I5' := I5.pinned (stat fr5) (T.obj _ _ st5)
    refine wpAny_bind (thn (ff (hg _ s5 _ H5 x u _ I5' r5 (O.keep _ _ _ _ (step x H5 y5)))) fun _ s6 ⟨σ6, H6, I6, q6, l6, k6⟩ => ?_)
    refine wpAny_bind (thn (ff (ht _ s6 σ6 H6 _ I6 q6)) fun ok s7 ⟨H7, I7, q7⟩ => ?_)
    have back : ∀ {H8 : Hp} {s8 : Shared} {m' : Nat}, Inv Y ([] ++ pinsAt fp s5.heap) σ6 H8 s8 → m' < n → W (i + 1) m' H8 →
        ∃ m, m < n ∧ ∃ i H', Inv Y [] (blkSt own ix σ) H' s8 ∧ tn i s8.heap ∧ (∀ b ∈ fp, H' b = none) ∧ W i m H' := fun {H8 s8 m'} I8 hm w8 => by
      refine ⟨m', hm, i + 1, H8, I8.unpinned.weak l6.symm (fun j v hj => ?_), T.keep _ _ _ st5 fun b hb o e => (I8.pin (b, o) (List.mem_append_right _ (List.mem_append_right _ (mem_pinsAt hb e)))).1, fun b hb => ?_, w8⟩
      · rw [k6 j (blkSt_some hj).1]
        exact hj
      · obtain ⟨o, e, d⟩ := T.obj _ _ st5 b hb
        exact (I8.pin (b, o) (List.mem_append_right _ (List.mem_append_right _ (mem_pinsAt hb e)))).2.1
    cases ok with
    | false =>
      obtain ⟨m', hm, w8⟩ := q7
      exact wpAny_pure ⟨rfl, back I7 hm w8⟩
    | true =>
      refine wpAny_bind (wpAny_bind (thn (ff (hv _ s7 σ6 H7 _ I7 q7)) fun yv s8 ⟨y, H8, I8, r8, ys, hD, hz, m', hm, w8⟩ => ?_))
      refine wpAny_bind (thn (ff (mt_append _ s8 σ6 H8 (.ref D) [y] (.ref D) [yv] (fun _ H9 => H9 = upd H8 D (.lst (ys ++ [y]))) I8 rfl (.cons r8 .nil) ⟨D, ys, y, rfl, rfl, hD, hz, rfl⟩)) fun _ s9 ⟨_, H9, I9, _, e9⟩ => ?_)
      subst e9
      exact wpAny_pure (wpAny_pure ⟨rfl, back I9 hm w8⟩)
/-- the two halves ahead of the loop -/
theorem comp_run {pins : List (Addr × Obj)} {σ : St} {H : Hp} {s : Shared} {use : Option (Value → Sem Unit)} {Q : Value → Shared → Prop} {it : Addr} {fp : List Addr} {cl : List (Str × Addr)} {tn : Nat → Heap → Prop} {J : It} {Qd : Addr → Hp → Prop}
    (hc : X.calm = true) (O : CompOk X tg elt ifs scope own ix N g tt te) (T : Turn X.prog X.w X.K tg J fp it tn) (I : Inv X pins σ H s) (hf : ∀ b ∈ fp, FpOk X pins H b) (st : tn 0 s.heap)
    (h1 : ∀ y c, cl.lookup y = some c → X.env.cells.lookup y = some c) (h2 : ∀ y, (y, NameKind.free) ∈ scope.names → ∃ c, cl.lookup y = some c)
    (hq : ∀ D, H D = none → ∃ W : Nat → Nat → Hp → Prop, (∃ m, W 0 m (upd H D (.lst []))) ∧ cTurns J D (blkSt own ix σ) g tt te (Qd D) W)
    (hR : ∀ D C H' s', (∃ m, s'.heap.Ns C m) → Inv X pins σ H' s' → (∀ σ2 s2, Inv X pins σ2 H' s2 → ∀ h', Heap.SameBut C s2.heap h' → Inv X pins σ2 H' { s2 with heap := h' }) → C ≠ X.env.locals → (∀ x c, X.env.cells.lookup x = some c → C ≠ c) → Qd D H' →
      compPost (model X.prog X.w) X.A X.xe use Q (.ref D) C (.ok .next) s') :
    wpAny (model X.prog X.w) X.A (newList []) (fun acc s₃ => wpAny (model X.prog X.w) X.A (newFunctionEnv scope X.env.globals cl [] X.env.qual none .none (some X.env)) (fun cenv s₄ =>
      codeAny (model X.prog X.w) X.A (.compStart (.ListComp elt [⟨tg, iter, ifs, 0⟩] scope pos) 0 (.ref it) acc { cenv with scope := relabel scope X.env }) (compPost (model X.prog X.w) X.A X.xe use Q acc cenv.locals) s₄) X.xe s₃) X.xe s := by
  refine wpAny_newObj_type ?_ (by simp [sizeOk])
  have I3 : Inv X pins σ (upd H s.heap.objs.size (.lst [])) { s with heap := s.heap.push { cls := .type "list", data := .seq ([] : List Value).toArray } } := I.lnew (t' := s.toks) .nil (Nat.zero_le _)
  have hfr := I.fresh
  obtain ⟨W, ⟨m0, w0⟩, hW⟩ := hq _ hfr
  have hlt0 : ∀ b ∈ fp, b < s.heap.objs.size := fun b hb => by
    obtain ⟨o, e, _⟩ := T.obj _ _ st b hb
    exact Heap.lt_size e
  have hf3 : ∀ b ∈ fp, FpOk X pins (upd H s.heap.objs.size (.lst [])) b := fun b hb => by
    obtain ⟨a0, ar⟩ := hf b hb
    exact ⟨by rw [upd_ne (Nat.ne_of_lt (hlt0 b hb))]; exact a0, ar⟩
  generalize hs3 : ({ s with heap := s.heap.push { cls := .type "list", data := .seq ([] : List Value).toArray } } : Shared) = s3 at I3
  have st3 : tn 0 s3.heap := T.keep _ _ _ st fun b hb o e => by rw [← hs3]; exact Heap.get?_push_of_some _ e
  have hlt : ∀ b ∈ fp, b < s3.heap.objs.size := fun b hb => by
    obtain ⟨o, e, _⟩ := T.obj _ _ st3 b hb
    exact Heap.lt_size e
  refine wpAny_newFunctionEnv O.nocell (by intro y hy; simp at hy) (fun h₁ hns hsb => ?_) O.kind
  have kp : ∀ b o, s3.heap.get? b = some o → h₁.get? b = some o := fun b o e => hsb.extBut b o (Nat.ne_of_lt (Heap.lt_size e)) (Heap.get?_push_of_some _ e)
  have hh2 : ∀ y, ((relabel scope X.env).names.lookup y = some .cell ∨ (relabel scope X.env).names.lookup y = some .free) → ∃ c, cl.lookup y = some c := fun y hy => by
    rcases hy with z | z
    · exact h2 y (relabel_mem O.nocell (lk_mem z) (.inl rfl))
    · exact h2 y (relabel_mem O.nocell (lk_mem z) (.inr rfl))
  have B := blk_in (N := N) (t' := s3.toks + ([] : List (Str × Value)).length) I3 hf3 hlt (sc := relabel scope X.env) O.kind h1 hh2 O.ins hns kp
  have st4 : tn 0 h₁ := T.keep _ _ _ st3 fun b hb o e => kp b o e
  have loop : ∀ s4 : Shared, s4 = { s3 with heap := h₁, toks := s3.toks + ([] : List (Str × Value)).length } →
      codeAny (model X.prog X.w) X.A (.compLoop (.ListComp elt [⟨tg, iter, ifs, 0⟩] scope pos) 0 (.ref it) (.ref s.heap.objs.size) (blkEnv X.env (relabel scope X.env) cl s3.heap.objs.size)) (compPost (model X.prog X.w) X.A X.xe use Q (.ref s.heap.objs.size) s3.heap.objs.size) s4 := by
    rintro s4 rfl
    refine comp_loop (cl := cl) (Qh := Qd s.heap.objs.size) hc O T I3 hf3 hlt hW (fun σ' H' s' B' q' => ?_) m0 _ ⟨0, _, B, st4, fun b hb => (hf3 b hb).1, w0⟩
    refine hR _ _ H' s' (let ⟨m, hm, _⟩ := B'.loc; ⟨m, hm⟩) (blk_out (own := own) (ix := ix) I3 hf3 hlt B') (fun σ2 s2 I2 h' hs => blk_gone I3 rfl I2 B'.free hs) (Nat.ne_of_gt I3.lt) (fun x c e => Nat.ne_of_gt (I3.szLt e)) q'
  exact codeAny_compStart_list (loop _ rfl) (T.self _ 0 _ _ _ st4 (loop _ rfl))
theorem pe_comp (hc : X.calm = true) (hi : PI X tg iter wi) (O : CompOk X tg elt ifs scope own ix N g tt te) (hs : ∀ x, foldedSetIterable iter X.env x = pure x := by intro _; rfl) :
    PE X (.ListComp elt [⟨tg, iter, ifs, 0⟩] scope pos) (tComp wi own ix g tt te) := by
  intro pins s σ H Q I h
  obtain ⟨cl, hclos, h1, h2⟩ := closure_of (env := X.env) (scope := scope) fun y hy e => I.ok.has y.1 (.inl (O.frees y hy e))
  rw [eval_ListComp]
  refine wpAny_comprehension_free (use := none) rfl hs hclos O.kind O.names (thn (hi pins s σ H _ I h) fun v s1 hv => thn hv fun itv s2 hv2 => ?_)
  obtain ⟨it, fp, tn, J, H2, rfl, I2, T, st2, f2, q⟩ := hv2
  exact comp_run (Qd := fun D H' => Q (.ref D) H') hc O T I2 f2 st2 h1 h2 q fun D C H' s' hn I' gone nl nc q' => by
    obtain ⟨m, hm⟩ := hn
    exact ⟨m, hm, fun h' hs => ⟨.ref D, H', gone σ s' I' h' hs, rfl, q'⟩⟩
/-- name = [..], where the compiler stores ahead of letting the block's names go -/
theorem ps_comp {i : Nat} {x : Str} {pos' spos : Pos} (hc : X.calm = true) (hN : X.N.Nodup) (hi' : X.N[i]? = some x) (hx : Loc X.env.scope x) (hi : PI X tg iter wi) (O : CompOk X tg elt ifs scope own ix N g tt te)
    (hsw : swapsWith (.ListComp elt [⟨tg, iter, ifs, 0⟩] scope pos) (some (.Name x pos')) spos.line X.env = pure true := by rfl) (hs : ∀ x, foldedSetIterable iter X.env x = pure x := by intro _; rfl)
    (hf : X.fn x = true ∨ X.env.scope.names.lookup x = some .local := by first | exact .inl rfl | exact .inr rfl | assumption) :
    PS X (.Assign [.Name x pos'] (.ListComp elt [⟨tg, iter, ifs, 0⟩] scope pos) spos) (tAsg (tComp wi own ix g tt te) (gName i)) := by
  intro pins s σ H D I h
  obtain ⟨cl, hclos, h1, h2⟩ := closure_of (env := X.env) (scope := scope) fun y hy e => I.ok.has y.1 (.inl (O.frees y hy e))
  rw [exec_Assign_Name_used _ _ _ _ hsw]
  refine wpAny_bind (wpAny_standAt (wpAny_bind ?_))
  show wpAny _ _ (do let _ ← comprehension (.ListComp elt [⟨tg, iter, ifs, 0⟩] scope pos) scope X.env _ (newList []) false (eval iter X.env) (some (assign (.Name x pos') X.env))) _ _ s
  refine wpAny_bind (thn (wpAny_comprehension_free (use := some (assign (.Name x pos') X.env)) (Q := fun _ s' => SP X pins D .next s') rfl hs hclos O.kind O.names (thn (hi pins s σ H _ I h) fun v s1 hv => thn hv fun itv s2 hv2 => ?_)) fun _ s' hq => wpAny_pure (wpAny_pure hq))
  obtain ⟨it, fp, tn, J, H2, rfl, I2, T, st2, f2, q⟩ := hv2
  refine comp_run (Qd := fun D' H' => gName i (.ref D') σ H' D.nx) hc O T I2 f2 st2 h1 h2 q fun D' C H' s' hn I' gone nl nc q' => ?_
  obtain ⟨m, hm⟩ := hn
  show wpAny _ _ (assign (.Name x pos') X.env (.ref D')) _ _ s'
  refine wpAny_assign_Name (store_ok2 (v := .ref D') I' hN hi' hx rfl (fun s4 I4 ⟨a, sb, ha⟩ => ?_) hf)
  have hCa : C ≠ a := by
    rcases ha with z | z
    · rw [z]; exact nl
    · exact nc x a z
  exact ⟨m, hm.sameBut sb hCa, fun h' hs => ⟨_, H', gone _ s4 I4 h' hs, q'⟩⟩
end
end L2
end
section
set_option Elab.async false
set_option linter.all false
set_option maxRecDepth 100000
set_option maxHeartbeats 4000000
/-! More rules over the hand layer: greater products and quotients, isinstance, all, any, insert. -/
namespace L2
open PySem PySem.Spec PyProof.Rows
theorem log2_lt' {n k : Nat} (h : n < 2 ^ k) (hk : 0 < k) : n.log2 < k := by
  by_cases e : n = 0
  · subst e
    simpa using hk
  · exact (Nat.log2_lt e).mpr h
theorem bits_le {i : Int} {k : Nat} (h : i.natAbs < 2 ^ k) : Builtin.Int.intBits i ≤ k := by
  unfold Builtin.Int.intBits
  by_cases e : i = 0
  · subst e; simp
  · have e2 : (i == 0) = false := by simpa using e
    rw [e2]
    simp only [Bool.false_eq_true, if_false]
    have e3 : i.natAbs ≠ 0 := by omega
    have := (Nat.log2_lt e3).mpr h
    omega
section
variable {X : Cx}
/-- both below 2 ^ 8000 -/
def CBig (i j : Int) : Prop := i.natAbs < 2 ^ 8000 ∧ j.natAbs < 2 ^ 8000
def CMulG (i j : Int) : Prop := CMul i j ∨ CBig i j
theorem op_mulG : OpR X (binaryOp .Mult) (rI CMulG fun i j => .int (i * j)) := opI fun _ _ _ _ _ _ _ hc q => mul_int q (by
  rcases hc with z | z
  · exact z.ok
  · exact .of_le (bits_le z.1) (bits_le z.2) (by decide))
def CDivG (_ j : Int) : Prop := 0 < j ∧ j.natAbs < 2 ^ 8000
theorem op_fdivG : OpR X (binaryOp .FloorDiv) (rI CDivG fun i j => .int (i / j)) := opI fun i j _ _ _ _ _ hc q => by
  have h1 : (0 : Int) < j := hc.1
  refine floordiv_int (by omega) ?_ (.inl (PyProof.noPylong_of_log2 (Nat.lt_trans (log2_lt' hc.2 (by decide)) (by decide))))
  rw [Int.fdiv_eq_ediv_of_nonneg _ (Int.le_of_lt h1)]
  exact q
/-! ### isinstance -/
inductive Kd where
  | int | bl | non | str | lst | tup
  deriving DecidableEq
def KdV (K : PySem.W.Frag) (x : V) (H : Hp) : Kd → Prop
  | .int => ∃ i, x = .int i
  | .bl => ∃ b, x = .bl b
  | .non => x = .non
  | .str => ∃ z, x = .str z
  | .lst => ∃ a ys, x = .ref a ∧ SqL K H a ys
  | .tup => ∃ a ys, x = .ref a ∧ SqT K H a ys
def isiB : Kd → String → Bool
  | .int, T => T == "int"
  | .bl, T => T == "bool" || T == "int"
  | .non, _ => false
  | .str, _ => false
  | .lst, T => T == "list"
  | .tup, T => T == "tuple"
def isTyp (T : String) : Prop := T = "int" ∨ T = "bool" ∨ T = "tuple" ∨ T = "list"
def rIsi (K : PySem.W.Frag) : List V → Hp → VK → Prop := fun xs H Q => ∃ x T k, xs = [x, .ty T] ∧ isTyp T ∧ KdV K x H k ∧ Q (.bl (isiB k T)) H
theorem call_isi : CallR X (.builtin "isinstance") (rIsi X.K) := by
  intro pins s σ H xs us Q I r h
  obtain ⟨x, T, k, rfl, hT, hk, q⟩ := h
  cases r with
  | cons rx rr =>
  cases rr with
  | cons rt rr =>
  cases rr
  cases rt
  have yes : Q (.bl true) H → EP X pins σ Q (.bool true) s := fun z => ⟨.bl true, H, I, rfl, z⟩
  have no : Q (.bl false) H → EP X pins σ Q (.bool false) { s with toks := s.toks + 1 } := fun z => ⟨.bl false, H, I.tok _, rfl, z⟩
  cases k with
  | int =>
    obtain ⟨i, rfl⟩ := hk
    obtain ⟨t, rfl⟩ := rx
    rcases hT with rfl | rfl | rfl | rfl
    · exact IsiPair.int_int (yes q)
    · exact IsiPair.int_bool (no q)
    · exact IsiPair.int_tuple (no q)
    · exact IsiPair.int_list (no q)
  | bl =>
    obtain ⟨i, rfl⟩ := hk
    cases rx
    rcases hT with rfl | rfl | rfl | rfl
    · exact IsiPair.bool_int (yes q)
    · exact IsiPair.bool_bool (yes q)
    · exact IsiPair.bool_tuple (no q)
    · exact IsiPair.bool_list (no q)
  | non =>
    have e : x = .non := hk
    subst e
    cases rx
    rcases hT with rfl | rfl | rfl | rfl
    · exact IsiPair.NoneType_int (no q)
    · exact IsiPair.NoneType_bool (no q)
    · exact IsiPair.NoneType_tuple (no q)
    · exact IsiPair.NoneType_list (no q)
  | str =>
    obtain ⟨i, rfl⟩ := hk
    obtain ⟨t, rfl⟩ := rx
    rcases hT with rfl | rfl | rfl | rfl
    · exact IsiPair.str_int (no q)
    · exact IsiPair.str_bool (no q)
    · exact IsiPair.str_tuple (no q)
    · exact IsiPair.str_list (no q)
  | lst =>
    obtain ⟨a, ys, rfl, hq⟩ := hk
    cases rx
    obtain ⟨its, r', pl, hz⟩ := I.list hq
    rcases hT with rfl | rfl | rfl | rfl
    · exact IsiPair.isList_int pl.isList (fun _ _ e => e) (no q)
    · exact IsiPair.isList_bool pl.isList (fun _ _ e => e) (no q)
    · exact IsiPair.isList_tuple pl.isList (fun _ _ e => e) (no q)
    · exact IsiPair.isList_list pl.isList (fun _ _ e => e) (yes q)
  | tup =>
    obtain ⟨a, ys, rfl, hq⟩ := hk
    cases rx
    obtain ⟨its, r', pl, hz⟩ := I.tuple hq
    have pl' : s.heap.IsTuple a its.toArray := pl
    rcases hT with rfl | rfl | rfl | rfl
    · exact IsiPair.isTuple_int pl' (fun _ _ e => e) (no q)
    · exact IsiPair.isTuple_bool pl' (fun _ _ e => e) (no q)
    · exact IsiPair.isTuple_tuple pl' (fun _ _ e => e) (yes q)
    · exact IsiPair.isTuple_list pl' (fun _ _ e => e) (no q)
/-! ### all, any of a list of truths -/
theorem range_all (bs : List Bool) : (List.range bs.length).all (fun i => bs.getD i true) = bs.all id := by
  rw [Bool.eq_iff_iff, List.all_eq_true, List.all_eq_true]
  constructor
  · intro h b hb
    obtain ⟨i, hi, e⟩ := List.mem_iff_getElem.mp hb
    have := h i (List.mem_range.mpr hi)
    rw [List.getD_eq_getElem?_getD, List.getElem?_eq_getElem hi] at this
    subst e
    simpa using this
  · intro h i hi
    have hi' := List.mem_range.mp hi
    rw [List.getD_eq_getElem?_getD, List.getElem?_eq_getElem hi']
    simpa using h _ (List.getElem_mem hi')
/-- behind a walk over one new iterator -/
theorem Inv.walked {pins : List (Addr × Obj)} {σ : St} {H : Hp} {s s' : Shared} {o : Obj} (I : Inv X pins σ H s) (m : Moved [s.heap.objs.size] (fun a b => b = a) { s with heap := s.heap.push o } s') : Inv X pins σ H s' := by
  obtain ⟨h', g', d', t', o'⟩ := s'
  obtain ⟨hk, hg, hd, ho, _⟩ := m
  have hk2 : ∀ b u, s.heap.get? b = some u → h'.get? b = some u := fun b u e => hk b u (by
    intro z
    have z' : b = s.heap.objs.size := by simpa using z
    exact absurd (Heap.lt_size e) (by rw [z']; exact Nat.lt_irrefl _)) (Heap.get?_push_of_some _ e)
  have hg : g' = s.gens := hg
  have hd : d' = s.drawn := hd
  have ho : o' = s.os := ho
  subst hg hd ho
  exact I.kept (t' := t') hk2
theorem truth_bl {bs : List Bool} {its : List Value} {A : Around} (r : Vals (bs.map V.bl) its) : TruthOf X.prog X.w A (fun i v => its.toArray[i]? = some v) (fun i => bs.getD i true) := by
  intro i v s Q E hv hQ
  have hv' : its[i]? = some v := by simpa using hv
  cases e : (bs.map V.bl)[i]? with
  | none => rw [r.none_of e] at hv'; cases hv'
  | some x =>
    obtain ⟨u, hu, ru⟩ := r.get e
    rw [hv'] at hu
    cases hu
    rw [List.getElem?_map] at e
    cases e2 : bs[i]? with
    | none => rw [e2] at e; cases e
    | some b =>
      rw [e2] at e
      cases e
      cases ru
      replace hQ : Q (bs.getD i true) s := hQ
      rw [List.getD_eq_getElem?_getD, e2] at hQ
      unfold truthy
      exact wpAny_pure hQ
def rAll (K : PySem.W.Frag) (f : List Bool → Bool) : List V → Hp → VK → Prop := fun xs H Q => ∃ p bs, xs = [.ref p] ∧ SqL K H p (bs.map V.bl) ∧ Q (.bl (f bs)) H
theorem call_allB (hc : X.calm = true) : CallR X (.builtin "all") (rAll X.K fun bs => bs.all id) := by
  intro pins s σ H xs us Q I r h
  obtain ⟨p, bs, rfl, hq, q⟩ := h
  obtain ⟨u, rfl, rx⟩ := vals1 r
  cases rx
  obtain ⟨its, r', pl, hz⟩ := I.list hq
  obtain ⟨ol, hol, hol'⟩ := id pl.isList
  have hne : p ≠ s.heap.objs.size := Nat.ne_of_lt (Heap.lt_size hol)
  have hlen : its.toArray.size = bs.length := by
    have := r'.length
    simp at this
    simp [this]
  refine call_all_walkS (wpAny_pyIter_list pl.isList ?_)
  refine ⟨_, _, _, _, _, _, _, fun i => bs.getD i true, rfl, (Walks.list (A := X.A.in1) (show X.A.in1.handled = none from I.ok.hd hc) s.heap.objs.size p hne its.toArray).toS, ⟨⟨_, Heap.get?_push_size _ rfl, rfl, rfl⟩, ⟨ol, Heap.get?_push_of_some _ hol, hol'⟩⟩, truth_bl r', fun s' m => ?_⟩
  rw [hlen, range_all]
  exact ⟨.bl (bs.all id), H, I.walked m, rfl, q⟩
/-! ### insert -/
def insV (xs : List V) (k : Nat) (y : V) : List V := xs.take k ++ y :: xs.drop k
theorem Vals.ins {xs : List V} {us : List Value} {y : V} {u : Value} (r : Vals xs us) (ry : RelV y u) (k : Nat) : Vals (insV xs k y) (us.take k ++ u :: us.drop k) := Vals.append (r.take k) (.cons ry (r.drop k))
def rInsert : V → List V → Hp → VK → Prop := fun x vs H Q => ∃ l xs i y, x = .ref l ∧ vs = [.int i, y] ∧ H l = some (.lst xs) ∧ 0 ≤ i ∧ i ≤ (xs.length : Int) ∧ xs.length < sizeLine ∧ Q .non (upd H l (.lst (insV xs i.toNat y)))
theorem mt_insert : MtM X "list.insert" rInsert := by
  intro pins s σ H x vs v us Q I rx rv h
  obtain ⟨l, xs, i, y, rfl, rfl, hH, h0, h1, hz, q⟩ := h
  cases rx
  cases rv with
  | cons ri rr =>
  cases rr with
  | cons ry rr =>
  cases rr
  rename_i uy
  obtain ⟨t, rfl⟩ := ri
  obtain ⟨z, its, n, r, hl, e⟩ := I.lstM hH
  have hline := line63
  have hfit : ¬ (!Builtin.List.listFitsIndex i) = true := by
    have := fitsIndex_both (k := i) (by omega) (by omega)
    simp [this]
  refine call_meets F.slot_list_insert ⟨_, e, rfl⟩ F.entry_list_insert (F.args_list_insert_3 _ _ _) (AutoSeq1.list_insert_list_int_val_1 l its.toArray n i t uy hfit (by rw [List.size_toArray]; omega)) ⟨e, ?_⟩
  refine ⟨.non, _, I.lset (ys := insV xs i.toNat y) (its' := its.take i.toNat ++ uy :: its.drop i.toNat) hH e ?_ (r.ins ry _) ?_, rfl, q⟩
  · dsimp only
    rw [if_neg (by omega), List.size_toArray, Nat.min_eq_left (by omega)]
    apply Array.toList_inj.mp
    simp
    exact List.take_of_length_le (by simp)
  · unfold insV
    simp
    omega
end
end L2
end
section
set_option Elab.async false
set_option linter.all false
set_option maxRecDepth 100000
set_option maxHeartbeats 4000000
/-! zip of two sequences, each a list or a tuple, as what a loop or a comprehension walks. -/
namespace L2
open PySem PySem.Spec PyProof.Rows
/-- a sequence's iterator: of a list (true) or a tuple -/
def SIt : Bool → Heap → Addr → Addr → Nat → Prop
  | true, h, q, l, k => h.IsListIter q l k
  | false, h, q, l, k => h.IsTupleIter q l k
def SSq : Bool → Heap → Addr → Array Value → Prop
  | true, h, l, xs => h.IsList l xs
  | false, h, l, xs => h.IsTuple l xs
theorem SIt.mv {b : Bool} {h h' : Heap} {q l : Addr} {k : Nat} (x : SIt b h q l k) (e : ∀ o, h.get? q = some o → h'.get? q = some o) : SIt b h' q l k := by
  cases b with
  | true => obtain ⟨o, a, r⟩ := x; exact ⟨o, e o a, r⟩
  | false => obtain ⟨o, a, r⟩ := x; exact ⟨o, e o a, r⟩
theorem SIt.obj {b : Bool} {h : Heap} {q l : Addr} {k : Nat} (x : SIt b h q l k) : ∃ o, h.get? q = some o ∧ ∀ v, o.data ≠ .cell v := by
  cases b with
  | true =>
    obtain ⟨o, a, _, d⟩ := x
    exact ⟨o, a, fun v z => by rw [d] at z; cases z⟩
  | false =>
    obtain ⟨o, a, _, d⟩ := x
    exact ⟨o, a, fun v z => by rw [d] at z; cases z⟩
theorem SSq.mv {b : Bool} {h h' : Heap} {l : Addr} {xs : Array Value} (x : SSq b h l xs) (e : ∀ o, h.get? l = some o → h'.get? l = some o) : SSq b h' l xs := by
  cases b with
  | true => obtain ⟨o, a, r⟩ := x; exact ⟨o, e o a, r⟩
  | false => obtain ⟨o, a, r⟩ := x; exact ⟨o, e o a, r⟩
section
variable {prog : Program} {w : World} {A : Around} {E : Value → Shared → Prop} {s : Shared}
theorem draw_one {b : Bool} {q l : Addr} {k : Nat} {xs : Array Value} {x : Value} {Q : Value → Shared → Prop} (hq : SIt b s.heap q l k) (hl : SSq b s.heap l xs) (hx : xs[k]? = some x)
    (hQ : ∀ h', SIt b h' q l (k + 1) → Heap.SameBut q s.heap h' → Q x { s with heap := h' }) : wpAny (model prog w) A (Builtin.SmallTypes.nextOf (.ref q)) Q E s := by
  cases b with
  | true => exact wpAny_nextOf_list_item hq hl hx hQ
  | false =>
    have hq0 : s.heap.IsTupleIter q l k := hq
    obtain ⟨oq, gq, cq, dq⟩ := id hq0
    obtain ⟨ol, gl, _, nl, dl⟩ := hl
    unfold Builtin.SmallTypes.nextOf
    refine wpAny_bind (wpAny_callSpecial?_slot (name := Str.ofString "__next__") hq0.typeIs F.slot_tuple_iterator_next (wpAny_call_entry F.slot_tuple_iterator_next hq0.typeIs F.entry_tuple_iterator_next ?_ (F.args_tuple_iterator_next_1 _)))
    show wpAny _ _ (field (.ref q) 0 >>= _) _ _ _
    refine wpAny_bind (wpAny_field gq dq (x := .ref l) rfl ?_)
    show wpAny _ _ (if (Value.ref l == Value.none) = true then _ else _) _ _ _
    rw [if_neg (by intro z; cases z)]
    show wpAny _ _ (field (.ref q) 1 >>= _) _ _ _
    refine wpAny_bind (wpAny_field gq dq (x := .int k 0) rfl ?_)
    show wpAny _ _ (seqItems? (.ref l) >>= _) _ _ _
    refine wpAny_bind (wpAny_seqItems gl dl ?_)
    simp only [Int.toNat_natCast, hx]
    refine wpAny_bind (wpAny_setField gq dq (by simp) (wpAny_pure ⟨x, rfl, wpAny_pure (hQ _ ?_ (Heap.SameBut.update ..))⟩))
    refine ⟨_, Heap.get?_update_self _ gq (Obj.isFreed_of_fields (Obj.data_mapFields dq _)), (Obj.cls_mapFields ..).trans cq, ?_⟩
    rw [Obj.data_mapFields dq]
    simp [rawInt]
theorem draw_none {b : Bool} {q l : Addr} {k : Nat} {xs : Array Value} {Q : Value → Shared → Prop} (hh : A.handled = none) (hq : SIt b s.heap q l k) (hl : SSq b s.heap l xs) (hx : xs[k]? = none)
    (hE : ∀ h' e, Heap.ExtBut q s.heap h' → (∃ o, h'.get? e = some o ∧ o.cls = .type "StopIteration") → E (.ref e) { s with heap := h' }) : wpAny (model prog w) A (Builtin.SmallTypes.nextOf (.ref q)) Q E s := by
  cases b with
  | true => exact wpAny_nextOf_list_end hh hq hl hx hE
  | false =>
    have hq0 : s.heap.IsTupleIter q l k := hq
    obtain ⟨oq, gq, cq, dq⟩ := id hq0
    obtain ⟨ol, gl, _, nl, dl⟩ := hl
    unfold Builtin.SmallTypes.nextOf
    refine wpAny_bind (wpAny_callSpecial?_slot (name := Str.ofString "__next__") hq0.typeIs F.slot_tuple_iterator_next (wpAny_call_entry F.slot_tuple_iterator_next hq0.typeIs F.entry_tuple_iterator_next ?_ (F.args_tuple_iterator_next_1 _)))
    show wpAny _ _ (field (.ref q) 0 >>= _) _ _ _
    refine wpAny_bind (wpAny_field gq dq (x := .ref l) rfl ?_)
    show wpAny _ _ (if (Value.ref l == Value.none) = true then _ else _) _ _ _
    rw [if_neg (by intro z; cases z)]
    show wpAny _ _ (field (.ref q) 1 >>= _) _ _ _
    refine wpAny_bind (wpAny_field gq dq (x := .int k 0) rfl ?_)
    show wpAny _ _ (seqItems? (.ref l) >>= _) _ _ _
    refine wpAny_bind (wpAny_seqItems gl dl ?_)
    simp only [Int.toNat_natCast, hx]
    refine wpAny_bind (wpAny_rule (wpAny_bind (wpAny_setField gq dq (by simp) ?_)))
    refine wpAny_bind (m := newExc (.type "StopIteration") []) ?_
    simp only [newExc, newTuple]
    refine wpAny_bind (wpAny_newObj_type ?_ (by size_fits))
    refine wpAny_bind (m := firstArgMember _ _) (wpAny_of_eq (a := Value.none) (by first | rfl | (simp only [firstArgMember]; rfl)) (wpAny_newObj_type ?_ (by size_fits)))
    simp only [raiseNew]
    refine wpAny_bind (wpAny_handled ?_)
    first | rw [show A.in1.handled = none from hh] | rw [hh]
    exact wpAny_bind (wpAny_pure (wpAny_throw (hE _ _ (((Heap.SameBut.update ..).extBut.push _).push _) ⟨_, Heap.get?_push_size _ rfl, rfl⟩)))
/-- the zip's records as they stand ahead of turn k -/
structure ZAt (b c : Bool) (z TI TO i j l m : Addr) (k : Nat) (f : Value) (h : Heap) : Prop where
  zip : IsZip h z TI TO f
  its : IsPair h TI (.ref i) (.ref j)
  own : ∃ x y, IsPair h TO x y
  one : SIt b h i l k
  two : SIt c h j m k
theorem ZAt.mv {b c : Bool} {z TI TO i j l m : Addr} {k : Nat} {f : Value} {h h' : Heap} (Z : ZAt b c z TI TO i j l m k f h) (e : ∀ p ∈ [z, TI, TO, i, j], ∀ o, h.get? p = some o → h'.get? p = some o) : ZAt b c z TI TO i j l m k f h' := by
  obtain ⟨a1, a2, ⟨x, y, a3⟩, a4, a5⟩ := Z
  exact ⟨e z (by simp) _ a1, e TI (by simp) _ a2, ⟨x, y, e TO (by simp) _ a3⟩, a4.mv (e i (by simp)), a5.mv (e j (by simp))⟩
variable {b c : Bool} {z TI TO i j l m : Addr} {k : Nat} {xs ys : Array Value}
theorem zNext {x y : Value} {Q : Value → Shared → Prop} (D : ZipApart z TI TO i j l m) (Z : ZAt b c z TI TO i j l m k .none s.heap) (hl : SSq b s.heap l xs) (hm : SSq c s.heap m ys) (hx : xs[k]? = some x) (hy : ys[k]? = some y)
    (hQ : ∀ h', IsZip h' z TI TO (rawInt s.heap.objs.size) → IsPair h' TI (.ref i) (.ref j) → IsPair h' TO x y → SIt b h' i l (k + 1) → SIt c h' j m (k + 1) → IsPair h' s.heap.objs.size x y →
      (∀ p o, p ≠ z → p ≠ TO → p ≠ i → p ≠ j → s.heap.get? p = some o → h'.get? p = some o) → Q (.ref s.heap.objs.size) { s with heap := h' }) :
    wpAny (model prog w) A (Builtin.«zip.__next__» ⟨[.ref z], []⟩) (fun fin s' => ∃ v, fin = .done (.ret v) ∧ Q v s') E s := by
  obtain ⟨zz, zi, ⟨x0, y0, zo⟩, z1, z2⟩ := Z
  show wpAny _ _ (field (.ref z) 2 >>= _) _ _ _
  refine wpAny_bind (wpAny_field zz rfl (x := .bool false) rfl ?_)
  show wpAny _ _ (field (.ref z) 3 >>= _) _ _ _
  refine wpAny_bind (wpAny_field zz rfl (x := .ref TI) rfl (wpAny_bind (wpAny_seqItems zi rfl ?_)))
  refine wpAny_bind (m := Builtin.SmallTypes.ownedTupleIsFree (.ref z)) ?_
  unfold Builtin.SmallTypes.ownedTupleIsFree
  refine wpAny_bind (wpAny_field zz rfl (x := .none) rfl (wpAny_pure ?_))
  simp only [if_true]
  refine wpAny_bind (wpAny_rule (wpAny_bind (wpAny_field zz rfl (x := .ref TO) rfl (wpAny_bind (wpAny_setField_rec zz (by simp) fun g1 e1 b1 => ?_)))))
  have e1 : IsZip g1 z TI TO .ellipsis := e1
  refine wpAny_bind ?_
  simp only [List.zipIdx_cons, List.zipIdx_nil, List.forIn_cons, List.forIn_nil]
  refine wpAny_bind (wpAny_bind (wpAny_onRaise ?_))
  refine wpAny_bind (m := Builtin.SmallTypes.nextOf (.ref i)) (draw_one (z1.mv fun o => b1.extBut _ o D.i1z) (hl.mv fun o => b1.extBut _ o D.l1z) hx fun g2 e2 b2 => wpAny_pure ?_)
  have o2 : IsPair g2 TO x0 y0 := b2.extBut _ _ D.TOi1 (b1.extBut _ _ D.TOz zo)
  refine wpAny_bind (wpAny_seqItems o2 rfl (wpAny_bind (wpAny_updateSeq_pair o2 fun g3 o3 b3 => wpAny_bind (wpAny_letGo (wpAny_pure ?_)))))
  have o3 : IsPair g3 TO x y0 := o3
  refine wpAny_bind (wpAny_bind (wpAny_onRaise ?_))
  refine wpAny_bind (m := Builtin.SmallTypes.nextOf (.ref j)) (draw_one (((z2.mv fun o => b1.extBut _ o D.i2z).mv fun o => b2.extBut _ o D.i12.symm).mv fun o => b3.extBut _ o D.TOi2.symm)
    (((hm.mv fun o => b1.extBut _ o D.l2z).mv fun o => b2.extBut _ o D.l2i1).mv fun o => b3.extBut _ o D.l2TO) hy fun g4 e4 b4 => wpAny_pure ?_)
  have o4 : IsPair g4 TO x y0 := b4.extBut _ _ D.TOi2 o3
  refine wpAny_bind (wpAny_seqItems o4 rfl (wpAny_bind (wpAny_updateSeq_pair o4 fun g5 o5 b5 => wpAny_bind (wpAny_letGo (wpAny_pure (wpAny_pure ?_))))))
  have o5 : IsPair g5 TO x y := o5
  refine wpAny_bind (wpAny_seqItems o5 rfl (wpAny_bind (wpAny_newTuple ?_)))
  have sz : g5.objs.size = s.heap.objs.size := by rw [b5.1, b4.1, b3.1, b2.1, b1.1]
  have k5 : IsZip g5 z TI TO .ellipsis := b5.extBut _ _ D.TOz.symm (b4.extBut _ _ D.i2z.symm (b3.extBut _ _ D.TOz.symm (b2.extBut _ _ D.i1z.symm e1)))
  have all5 : ∀ p o, p ≠ z → p ≠ TO → p ≠ i → p ≠ j → s.heap.get? p = some o → g5.get? p = some o := fun p o q1 q2 q3 q4 e =>
    b5.extBut _ _ q2 (b4.extBut _ _ q4 (b3.extBut _ _ q2 (b2.extBut _ _ q3 (b1.extBut _ _ q1 e))))
  have one5 : SIt b g5 i l (k + 1) := ((e2.mv fun o => b3.extBut _ o D.TOi1.symm).mv fun o => b4.extBut _ o D.i12).mv fun o => b5.extBut _ o D.TOi1.symm
  have two5 : SIt c g5 j m (k + 1) := e4.mv fun o => b5.extBut _ o D.TOi2.symm
  have zlt : z < g5.objs.size := Heap.lt_size k5
  refine wpAny_bind (m := Builtin.SmallTypes.ownedTupleHandOut (.ref z) (.ref g5.objs.size)) ?_
  unfold Builtin.SmallTypes.ownedTupleHandOut
  have k6 : IsZip (g5.push { cls := .type "tuple", data := .seq #[x, y] }) z TI TO .ellipsis := Heap.get?_push_of_some _ k5
  refine wpAny_bind (wpAny_setField_rec k6 (by simp) fun g7 k7 b7 => ?_)
  have k7 : IsZip g7 z TI TO (rawInt g5.objs.size) := k7
  refine wpAny_setField_rec k7 (by simp) fun g8 k8 b8 => ?_
  have k8 : IsZip g8 z TI TO (rawInt g5.objs.size) := k8
  have up : ∀ p o, p ≠ z → g5.get? p = some o → g8.get? p = some o := fun p o q e => b8.extBut _ _ q (b7.extBut _ _ q (Heap.get?_push_of_some _ e))
  have new8 : IsPair g8 g5.objs.size x y := b8.extBut _ _ (Nat.ne_of_gt zlt) (b7.extBut _ _ (Nat.ne_of_gt zlt) (Heap.get?_push_size _ rfl))
  rw [sz] at k8 new8
  refine wpAny_pure ⟨_, rfl, ?_⟩
  show Q (.ref g5.objs.size) _
  rw [sz]
  exact hQ g8 k8 (up _ _ D.TIz (all5 _ _ D.TIz D.TITO D.TIi1 D.TIi2 zi)) (up _ _ D.TOz o5) (one5.mv fun o => up _ o D.i1z) (two5.mv fun o => up _ o D.i2z) new8 fun p o q1 q2 q3 q4 e => up p o q1 (all5 p o q1 q2 q3 q4 e)
theorem zEnd {Q : Fin → Shared → Prop} (hh : A.handled = none) (D : ZipApart z TI TO i j l m) (Z : ZAt b c z TI TO i j l m k .none s.heap) (hl : SSq b s.heap l xs) (hm : SSq c s.heap m ys) (hend : xs[k]? = none ∨ ys[k]? = none)
    (hE : ∀ h' e, (∀ p o, p ≠ z → p ≠ TO → p ≠ i → p ≠ j → s.heap.get? p = some o → h'.get? p = some o) → (∃ o, h'.get? e = some o ∧ o.cls = .type "StopIteration") → E (.ref e) { s with heap := h' }) :
    wpAny (model prog w) A (Builtin.«zip.__next__» ⟨[.ref z], []⟩) Q E s := by
  obtain ⟨zz, zi, ⟨x0, y0, zo⟩, z1, z2⟩ := Z
  show wpAny _ _ (field (.ref z) 2 >>= _) _ _ _
  refine wpAny_bind (wpAny_field zz rfl (x := .bool false) rfl ?_)
  show wpAny _ _ (field (.ref z) 3 >>= _) _ _ _
  refine wpAny_bind (wpAny_field zz rfl (x := .ref TI) rfl (wpAny_bind (wpAny_seqItems zi rfl ?_)))
  refine wpAny_bind (m := Builtin.SmallTypes.ownedTupleIsFree (.ref z)) ?_
  unfold Builtin.SmallTypes.ownedTupleIsFree
  refine wpAny_bind (wpAny_field zz rfl (x := .none) rfl (wpAny_pure ?_))
  simp only [if_true]
  refine wpAny_bind (wpAny_rule (wpAny_bind (wpAny_field zz rfl (x := .ref TO) rfl (wpAny_bind (wpAny_setField_rec zz (by simp) fun g1 e1 b1 => ?_)))))
  have e1 : IsZip g1 z TI TO .ellipsis := e1
  refine wpAny_bind ?_
  simp only [List.zipIdx_cons, List.zipIdx_nil, List.forIn_cons, List.forIn_nil]
  refine wpAny_bind (wpAny_bind (wpAny_onRaise ?_))
  cases hx : xs[k]? with
  | none =>
    refine wpAny_bind (m := Builtin.SmallTypes.nextOf (.ref i)) (draw_none hh (z1.mv fun o => b1.extBut _ o D.i1z) (hl.mv fun o => b1.extBut _ o D.l1z) hx fun g2 e b2 he => ?_)
    obtain ⟨oe, ge, ce⟩ := he
    have k2 : IsZip g2 z TI TO .ellipsis := b2 _ _ D.i1z.symm e1
    have ez : e ≠ z := fun q => by subst q; rw [k2] at ge; cases ge; simp at ce
    refine wpAny_setField_rec k2 (by simp) fun g3 _ b3 => hE g3 e (fun p o q1 _ q3 _ q => b3.extBut _ _ q1 (b2 _ _ q3 (b1.extBut _ _ q1 q))) ⟨oe, b3.extBut _ _ ez ge, ce⟩
  | some x =>
    have hy : ys[k]? = none := by
      rcases hend with q | q
      · rw [hx] at q; cases q
      · exact q
    refine wpAny_bind (m := Builtin.SmallTypes.nextOf (.ref i)) (draw_one (z1.mv fun o => b1.extBut _ o D.i1z) (hl.mv fun o => b1.extBut _ o D.l1z) hx fun g2 e2 b2 => wpAny_pure ?_)
    have o2 : IsPair g2 TO x0 y0 := b2.extBut _ _ D.TOi1 (b1.extBut _ _ D.TOz zo)
    refine wpAny_bind (wpAny_seqItems o2 rfl (wpAny_bind (wpAny_updateSeq_pair o2 fun g3 o3 b3 => wpAny_bind (wpAny_letGo (wpAny_pure ?_)))))
    refine wpAny_bind (wpAny_bind (wpAny_onRaise ?_))
    refine wpAny_bind (m := Builtin.SmallTypes.nextOf (.ref j)) (draw_none hh (((z2.mv fun o => b1.extBut _ o D.i2z).mv fun o => b2.extBut _ o D.i12.symm).mv fun o => b3.extBut _ o D.TOi2.symm)
      (((hm.mv fun o => b1.extBut _ o D.l2z).mv fun o => b2.extBut _ o D.l2i1).mv fun o => b3.extBut _ o D.l2TO) hy fun g4 e b4 he => ?_)
    obtain ⟨oe, ge, ce⟩ := he
    have k4 : IsZip g4 z TI TO .ellipsis := b4 _ _ D.i2z.symm (b3.extBut _ _ D.TOz.symm (b2.extBut _ _ D.i1z.symm e1))
    have ez : e ≠ z := fun q => by subst q; rw [k4] at ge; cases ge; simp at ce
    refine wpAny_setField_rec k4 (by simp) fun g5 _ b5 => hE g5 e (fun p o q1 q2 q3 q4 q => b5.extBut _ _ q1 (b4 _ _ q4 (b3.extBut _ _ q2 (b2.extBut _ _ q3 (b1.extBut _ _ q1 q))))) ⟨oe, b5.extBut _ _ ez ge, ce⟩
end
/-- a fresh iterator -/
def itO (b : Bool) (l : Addr) : Obj := { cls := .type (match b with | true => "list_iterator" | false => "tuple_iterator"), data := .fields #[.ref l, .int 0 0] }
abbrev zA (b : Bool) (h : Heap) (l : Addr) : Heap := h.push (itO b l)
abbrev zB (b c : Bool) (h : Heap) (l m : Addr) : Heap := (zA b h l).push (itO c m)
abbrev zC (b c : Bool) (h : Heap) (l m : Addr) : Heap := (zB b c h l m).push { cls := .type "tuple", data := .seq #[.ref h.objs.size, .ref (zA b h l).objs.size] }
abbrev zD (b c : Bool) (h : Heap) (l m : Addr) : Heap := (zC b c h l m).push { cls := .type "tuple", data := .seq #[.none, .none] }
abbrev zF (b c : Bool) (h : Heap) (l m : Addr) : Heap := (zD b c h l m).push { cls := .type "zip", data := .fields #[.none, .bool false, .bool false, .ref (zB b c h l m).objs.size, .ref (zC b c h l m).objs.size] }
theorem it_new {prog : Program} {w : World} {A : Around} {E : Value → Shared → Prop} {h : Heap} {g : Array GenState} {d : Drawn} {tk : Nat} {os : OsState} {b : Bool} {l : Addr} {xs : Array Value} {Q : Value → Shared → Prop} (hl : SSq b h l xs)
    (q : Q (.ref h.objs.size) ⟨h.push (itO b l), g, d, tk, os⟩) : wpAny (model prog w) A (pyIter (.ref l)) Q E ⟨h, g, d, tk, os⟩ := by
  cases b with
  | true => exact wpAny_pyIter_list (s := ⟨h, g, d, tk, os⟩) hl q
  | false => exact wpAny_pyIter_tuple (s := ⟨h, g, d, tk, os⟩) hl q
theorem zip_meets (b c : Bool) (l m : Addr) (xs ys : Array Value) : Meets (Builtin.«zip.__new__» ⟨[.type "zip", .ref l, .ref m], []⟩) (fun _ R s => SSq b s.heap l xs ∧ SSq c s.heap m ys ∧ R (.ok (.ret (.ref (zD b c s.heap l m).objs.size))) { s with heap := zF b c s.heap l m }) :=
  .of_wp fun prog w A R s h => by
    obtain ⟨hp, g, d, tk, os⟩ := s
    obtain ⟨hl, hm, h⟩ := h
    have hsub := sub_zip
    have hl1 : SSq b hp l xs := hl
    have hm1 : SSq c (hp.push (itO b l)) m ys := hm.mv fun o e => Heap.get?_push_of_some _ e
    wp_walk using it_new hl1, it_new hm1
    exact ⟨_, rfl, h⟩
section
variable {prog : Program} {w : World} {A : Around} {E : Value → Shared → Prop} {s : Shared} {b c : Bool} {l m : Addr} {xs ys : Array Value}
theorem it_is {h : Heap} {q : Addr} (e : h.get? q = some (itO b l)) : SIt b h q l 0 := by
  cases b with
  | true => exact ⟨_, e, rfl, rfl⟩
  | false => exact ⟨_, e, rfl, rfl⟩
theorem zipNew (hl : SSq b s.heap l xs) (hm : SSq c s.heap m ys) {Q : Value → Shared → Prop}
    (h : ∀ h', ZAt b c (s.heap.objs.size + 4) (s.heap.objs.size + 2) (s.heap.objs.size + 3) s.heap.objs.size (s.heap.objs.size + 1) l m 0 .none h' → (∀ p o, s.heap.get? p = some o → h'.get? p = some o) → Q (.ref (s.heap.objs.size + 4)) { s with heap := h' }) :
    wpAny (model prog w) A (call (.type "zip") [.ref l, .ref m]) Q E s := by
  refine callType_new F.called_zip (by decide) (F.typeCall_zip_2 _ _) (F.newCall_zip_2 _ _) (fun obj => F.args_object_init_3 obj _ _) F.entry_zip_new (zip_meets b c l m xs ys) ⟨hl, hm, ?_⟩
  have n1 : (zA b s.heap l).objs.size = s.heap.objs.size + 1 := Heap.size_push ..
  have n2 : (zB b c s.heap l m).objs.size = s.heap.objs.size + 2 := by rw [Heap.size_push, n1]
  have n3 : (zC b c s.heap l m).objs.size = s.heap.objs.size + 3 := by rw [Heap.size_push, n2]
  have n4 : (zD b c s.heap l m).objs.size = s.heap.objs.size + 4 := by rw [Heap.size_push, n3]
  have p5 : (zF b c s.heap l m).get? (zD b c s.heap l m).objs.size = some _ := Heap.get?_push_size _ rfl
  have p4 : (zF b c s.heap l m).get? (zC b c s.heap l m).objs.size = some _ := Heap.get?_push_of_some _ (Heap.get?_push_size _ rfl)
  have p3 : (zF b c s.heap l m).get? (zB b c s.heap l m).objs.size = some _ := Heap.get?_push_of_some _ (Heap.get?_push_of_some _ (Heap.get?_push_size _ rfl))
  have p2 : (zF b c s.heap l m).get? (zA b s.heap l).objs.size = some (itO c m) := Heap.get?_push_of_some _ (Heap.get?_push_of_some _ (Heap.get?_push_of_some _ (Heap.get?_push_size _ rfl)))
  have p1 : (zF b c s.heap l m).get? s.heap.objs.size = some (itO b l) := Heap.get?_push_of_some _ (Heap.get?_push_of_some _ (Heap.get?_push_of_some _ (Heap.get?_push_of_some _ (Heap.get?_push_size _ rfl))))
  rw [n2, n3, n4] at p5
  rw [n1, n2] at p3
  rw [n3] at p4
  rw [n1] at p2
  show _ ∧ _
  rw [n4]
  exact ⟨⟨_, p5, rfl⟩, h _ ⟨p5, p3, ⟨_, _, p4⟩, it_is p1, it_is p2⟩ fun p o e => Heap.get?_push_of_some _ (Heap.get?_push_of_some _ (Heap.get?_push_of_some _ (Heap.get?_push_of_some _ (Heap.get?_push_of_some _ e))))⟩
end
/-! ### as an iterator of the layer -/
/-- a sequence that is read: a list (true) or a tuple -/
def Sq (K : PySem.W.Frag) : Bool → Hp → Addr → List V → Prop
  | true, H, a, xs => SqL K H a xs
  | false, H, a, xs => SqT K H a xs
section
variable {X : Cx} {pins : List (Addr × Obj)} {σ : St} {H : Hp} {s : Shared} {a : Addr} {ys xs : List V} {b : Bool} {h' : Heap}
theorem Inv.sq (I : Inv X pins σ H s) (h : Sq X.K b H a xs) : ∃ its : List Value, Vals xs its ∧ SSq b s.heap a its.toArray ∧ xs.length ≤ sizeLine := by
  cases b with
  | true =>
    obtain ⟨its, r, p, z⟩ := I.list h
    exact ⟨its, r, p.isList, z⟩
  | false =>
    obtain ⟨its, r, p, z⟩ := I.tuple h
    exact ⟨its, r, p, z⟩
theorem Inv.sq_inj (I : Inv X pins σ H s) (h : Sq X.K b H a xs) (h2 : Sq X.K b H a ys) : xs = ys := by
  cases b with
  | true => exact I.list_inj h h2
  | false => exact I.tuple_inj h h2
/-- the records at ch have turned, all else is kept -/
theorem Inv.turnedL {ch : List Addr} {t' : Nat} (I : Inv X pins σ H s) (hch : ∀ p ∈ ch, FpOk X pins H p) (k : ∀ p o, p ∉ ch → s.heap.get? p = some o → h'.get? p = some o) : Inv X pins σ H { s with heap := h', toks := t' } := by
  have nit : ∀ p u, H p = some u → p ∉ ch := fun p u e z => by rw [(hch p z).1] at e; cases e
  refine I.step (g' := s.gens) (d' := s.drawn) (ch := ch) (fun p hp => ⟨(hch p hp).2.2.2.1, (hch p hp).2.1, (hch p hp).2.2.2.2.1, (hch p hp).2.2.2.2.2⟩) (fun p o _ _ hc e _ => k p o hc e) (fun p o _ _ hc e _ => ⟨o.slots, k p o hc e⟩)
    (fun _ _ _ _ n => n) (fun p o hc e => ⟨o, k p o hc e⟩) (fun _ _ e => e) (fun _ _ _ e => e) (fun p ps e => ⟨#[], by rw [e]; simp⟩) (fun m hm => ?_) (fun p u e => ?_) I.bare
  · obtain ⟨o, es, ep, ho, r⟩ := hm
    exact ⟨o, es, ep, k _ o (fun z => (hch _ z).2.1 rfl) ho, r⟩
  · refine (I.hok p u e).stay (fun q v hq e2 => k q v ?_ e2) (fun _ q => q) fun _ _ q => q
    rcases hq with z | z
    · rw [z]; exact nit p u e
    · exact nit q _ z
/-- .. and a new object has come -/
theorem Inv.turnedN {ch : List Addr} {t' : Nat} {n : Addr} {o : HO} (I : Inv X pins σ H s) (hch : ∀ p ∈ ch, FpOk X pins H p) (hlt : ∀ p ∈ ch, p < s.heap.objs.size) (k : ∀ p o, p ∉ ch → s.heap.get? p = some o → h'.get? p = some o) (hn : s.heap.objs.size ≤ n)
    (new : ObjOk X.prog X.w (upd H n o) h' n o) : Inv X pins σ (upd H n o) { s with heap := h', toks := t' } := by
  have I1 : Inv X pins σ H { s with heap := h', toks := t' } := I.turnedL hch k
  have hfr : H n = none := I.hok.fresh hn
  have hx : ∀ p u, s.heap.get? p = some u → p ≠ n := fun p u e => Nat.ne_of_lt (Nat.lt_of_lt_of_le (Heap.lt_size e) hn)
  refine I.step (g' := s.gens) (d' := s.drawn) (ch := ch) (fun p hp => ⟨(hch p hp).2.2.2.1, (hch p hp).2.1, (hch p hp).2.2.2.2.1, (hch p hp).2.2.2.2.2⟩) (fun p o _ _ hc e _ => k p o hc e) (fun p o _ _ hc e _ => ⟨o.slots, k p o hc e⟩)
    (fun p u _ e z => by rw [upd_ne (hx p u e)]; exact z) (fun p o hc e => ⟨o, k p o hc e⟩) (fun p xs e => by rw [upd_ne (ne_of_none e hfr)]; exact e) (fun p o xs e => by rw [upd_ne (ne_of_none e hfr)]; exact e)
    (fun p ps e => ⟨#[], by rw [upd_ne (ne_of_none e hfr), e]; simp⟩) (fun m hm => ?_) (fun p u e => ?_) I.bare
  · obtain ⟨o, es, ep, ho, r⟩ := hm
    exact ⟨o, es, ep, k _ o (fun z => (hch _ z).2.1 rfl) ho, r⟩
  · by_cases hp : p = n
    · subst hp
      rw [upd_same] at e
      cases e
      exact new
    · rw [upd_ne hp] at e
      exact (I1.hok p u e).stay (fun _ _ _ q => q) (fun q hq => by rw [upd_ne (ne_of_none hq hfr)]; exact hq) fun q xs hq => by rw [upd_ne (ne_of_none hq hfr)]; exact hq
end
/-- the pairs of two sequences, each pair a new tuple -/
def Itz (K : PySem.W.Frag) (b c : Bool) (l m : Addr) : It :=
  ⟨fun i H => ∃ xs ys x y, Sq K b H l xs ∧ Sq K c H m ys ∧ xs[i]? = some x ∧ ys[i]? = some y,
   fun i H v H' => ∃ T x y, v = .ref T ∧ H T = none ∧ H' = upd H T (.tup [x, y]) ∧ (∀ xs, Sq K b H l xs → xs[i]? = some x) ∧ ∀ ys, Sq K c H m ys → ys[i]? = some y,
   fun i H => ∃ xs ys, Sq K b H l xs ∧ Sq K c H m ys ∧ (xs.length ≤ i ∨ ys.length ≤ i)⟩
theorem turn_zip {P : Program} {w : World} {K : PySem.W.Frag} {es : List Expr} {x1 : Nat} {pos : Pos} {b c : Bool} {z TI TO i j l m : Addr} (D : ZipApart z TI TO i j l m) :
    Turn P w K (.Tuple es x1 pos) (Itz K b c l m) [z, TI, TO, i, j] z (fun k h => ZAt b c z TI TO i j l m k .none h) where
  mem := by simp
  obj := fun k h Z p hp => by
    have hp' : p = z ∨ p = TI ∨ p = TO ∨ p = i ∨ p = j := by simpa using hp
    rcases hp' with e | e | e | e | e
    · subst e; exact ⟨_, Z.zip, fun v q => nomatch q⟩
    · subst e; exact ⟨_, Z.its, fun v q => nomatch q⟩
    · subst e; obtain ⟨x, y, q⟩ := Z.own; exact ⟨_, q, fun v q => nomatch q⟩
    · subst e; exact Z.one.obj
    · subst e; exact Z.two.obj
  keep := fun k h h' Z e => Z.mv e
  item := by
    intro X hP hw hK hc k pins s σ H E I hf Z hg
    subst hP hw hK
    obtain ⟨xs, ys, x, y, hl, hm, hx, hy⟩ := hg
    obtain ⟨us, ru, su, _⟩ := I.sq hl
    obtain ⟨vs, rv, sv, _⟩ := I.sq hm
    obtain ⟨u, hu, rx⟩ := ru.get hx
    obtain ⟨v, hv, ry⟩ := rv.get hy
    have hT : s.TypeIs (.ref z) "zip" := ⟨_, Z.zip, rfl⟩
    unfold pyNext
    refine wpAny_bind (wpAny_attempt (wpAny_callSpecial?_slot (name := Str.ofString "__next__") hT F.slot_zip_next (wpAny_call_entry F.slot_zip_next hT F.entry_zip_next
      (zNext D Z su sv (x := u) (y := v) (by simpa using hu) (by simpa using hv) fun h1 a1 a2 a3 a4 a5 a6 a7 => wpAny_pure ?_) (F.args_zip_next_1 _))))
    refine ⟨_, rfl, wpAny_letOwnedTupleGo_zip (s := { s with heap := h1 }) a1 fun h2 c1 c2 => ?_⟩
    have nT : ∀ p ∈ [z, TI, TO, i, j], p < s.heap.objs.size := fun p hp => by
      have hp' : p = z ∨ p = TI ∨ p = TO ∨ p = i ∨ p = j := by simpa using hp
      rcases hp' with e | e | e | e | e
      · subst e; exact Heap.lt_size Z.zip
      · subst e; exact Heap.lt_size Z.its
      · subst e; obtain ⟨x, y, q⟩ := Z.own; exact Heap.lt_size q
      · subst e; obtain ⟨o, q, _⟩ := Z.one.obj; exact Heap.lt_size q
      · subst e; obtain ⟨o, q, _⟩ := Z.two.obj; exact Heap.lt_size q
    have c2' : ∀ p o, p ≠ z → h1.get? p = some o → h2.get? p = some o := fun p o q e => c2.extBut _ _ q e
    have kp : ∀ p o, p ∉ [z, TI, TO, i, j] → s.heap.get? p = some o → h2.get? p = some o := fun p o hp e => by
      have hp' : p ≠ z ∧ p ≠ TI ∧ p ≠ TO ∧ p ≠ i ∧ p ≠ j := by simpa using hp
      exact c2' p o hp'.1 (a7 p o hp'.1 hp'.2.2.1 hp'.2.2.2.1 hp'.2.2.2.2 e)
    have hzT : s.heap.objs.size ≠ z := Nat.ne_of_gt (nT z (by simp))
    have I2 : Inv X pins σ (upd H s.heap.objs.size (.tup [x, y])) { s with heap := h2, toks := s.toks } := I.turnedN hf nT kp (Nat.le_refl _)
      ⟨(by show 2 ≤ sizeLine; decide), [u, v], .cons rx (.cons ry .nil), ⟨_, c2' _ _ hzT a6, rfl, _, rfl⟩⟩
    have hfr : H s.heap.objs.size = none := I.fresh
    refine ⟨.ref s.heap.objs.size, upd H s.heap.objs.size (.tup [x, y]), I2, rfl, ⟨_, x, y, rfl, hfr, rfl, fun xs' h' => ?_, fun ys' h' => ?_⟩, ?_, fun p hp => ?_⟩
    · rw [I.sq_inj h' hl]; exact hx
    · rw [I.sq_inj h' hm]; exact hy
    · exact ⟨c1, c2' _ _ D.TIz a2, ⟨_, _, c2' _ _ D.TOz a3⟩, a4.mv fun o => c2' _ o D.i1z, a5.mv fun o => c2' _ o D.i2z⟩
    · rw [upd_ne (Nat.ne_of_lt (nT p hp))]
      exact (hf p hp).1
  done := by
    intro X hP hw hK hc k pins s σ H E I hf Z hg
    subst hP hw hK
    obtain ⟨xs, ys, hl, hm, he⟩ := hg
    obtain ⟨us, ru, su, _⟩ := I.sq hl
    obtain ⟨vs, rv, sv, _⟩ := I.sq hm
    have e1 := ru.length
    have e2 := rv.length
    have hend : us.toArray[k]? = none ∨ vs.toArray[k]? = none := by
      rcases he with q | q
      · exact .inl (by simp; omega)
      · exact .inr (by simp; omega)
    have hT : s.TypeIs (.ref z) "zip" := ⟨_, Z.zip, rfl⟩
    unfold pyNext
    refine wpAny_bind (wpAny_attempt (wpAny_callSpecial?_slot (name := Str.ofString "__next__") hT F.slot_zip_next (wpAny_call_entry F.slot_zip_next hT F.entry_zip_next
      (zEnd (I.ok.hd hc) D Z su sv hend fun h1 e hk he => ?_) (F.args_zip_next_1 _))))
    obtain ⟨o, ho, hcl⟩ := he
    refine wpAny_bind (wpAny_isInstance (T := "StopIteration") (b := true) ⟨o, ho, hcl⟩ isSubtype_stop (wpAny_pure ⟨rfl, ?_⟩))
    exact I.turnedL (t' := s.toks) hf fun p o hp e => by
      have hp' : p ≠ z ∧ p ≠ TI ∧ p ≠ TO ∧ p ≠ i ∧ p ≠ j := by simpa using hp
      exact hk p o hp'.1 hp'.2.2.1 hp'.2.2.2.1 hp'.2.2.2.2 e
  self := fun _ _ _ _ _ Z h => wpAny_pyIter_zip Z.zip h
section
variable {X : Cx}
end
end L2
end
section
set_option Elab.async false
set_option linter.all false
set_option maxRecDepth 100000
set_option maxHeartbeats 4000000
/-! A def by its name, with its promise; a comprehension's side conditions by computation; heaps that keep. -/
namespace L2
open PySem PySem.Spec PyProof.Rows
/-- the def called x keeps the promise sp, at depth k -/
structure Has (P : Program) (w : World) (K : PySem.W.Frag) (mg : Str → Option Value) (base : Heap) (k : Nat) (x : Str) (ps : List Str) (sp : Sp) : Prop where
  ex : ∃ f fd, mg x = some (.ref f) ∧ PySem.W.keepIn K (.ref f) = true ∧ Binds K fd ps [] ∧ FnOk P w K mg base CX0 k f fd ps sp
theorem Has.mono {P : Program} {w : World} {K : PySem.W.Frag} {mg : Str → Option Value} {base : Heap} {j k : Nat} {x : Str} {ps : List Str} {sp : Sp} (h : Has P w K mg base j x ps sp) (hk : j ≤ k) : Has P w K mg base k x ps sp := by
  obtain ⟨f, fd, a, b, c, d⟩ := h.ex
  exact ⟨f, fd, a, b, c, d.mono hk⟩
section
variable {X : Cx} {x : Str} {p pos : Pos} {e : Expr} {es : List Expr} {t : TA} {k : Nat} {ps : List Str} {sp : Sp}
theorem pe_has (D : Has X.prog X.w X.K X.mg X.base k x ps sp) (hr : Room k X.A) (hg : Gl X x) (ha : PA X (e :: es) t)
    (hs : starEach (e :: es) X.env = (false, eval e X.env) :: starEach es X.env := by rfl) (hpl : (backTo pos (starEach es X.env)).any (·.1) = false := by rfl) (hd : (x == ("__debug__" : Str)) = false := by decide) :
    PE X (.Call (.Name x p) (e :: es) [] pos) (tCall sp [] E0 t) := by
  obtain ⟨f, fd, mG, kG, bG, G⟩ := D.ex
  exact pe_call G hr hg mG kG bG .nil pass0 ha (hdb := hd) (he := hs) (hpl := hpl)
end
section
variable {X : Cx} {tg elt : Expr} {ifs : List Expr} {scope : Scope} {own : Nat} {ix : List Nat} {N : List Str} {g : TG} {tt : TT} {te : TE}
def freesB (X : Cx) (sc : Scope) (own : Nat) (ix : List Nat) (N : List Str) : Bool :=
  (List.range ix.length).all fun j => match ix[j]? with
    | none => false
    | some i => match N[own + j]?, X.N[i]? with
      | some x, some y => decide (x = y) && decide (X.env.scope.names.lookup x = some .cell) && decide (sc.names.lookup x = some .cell)
      | _, _ => false
theorem frees_of {sc : Scope} (h1 : N.length = own + ix.length) (h2 : freesB X sc own ix N = true) : Frees X sc own ix N := by
  refine ⟨h1, fun j i hj => ?_⟩
  have hlt : j < ix.length := (List.getElem?_eq_some_iff.mp hj).1
  have h := List.all_eq_true.mp h2 j (List.mem_range.mpr hlt)
  rw [hj] at h
  dsimp only at h
  cases e1 : N[own + j]? with
  | none => rw [e1] at h; simp at h
  | some x =>
    cases e2 : X.N[i]? with
    | none => rw [e1, e2] at h; simp at h
    | some y =>
      rw [e1, e2] at h
      simp only [Bool.and_eq_true, decide_eq_true_eq] at h
      obtain ⟨⟨h3, h4⟩, h5⟩ := h
      subst h3
      exact ⟨x, rfl, rfl, h4, h5⟩
theorem comp_ok (h1 : scope.kind = .function) (h2 : (scope.names.all fun y => !decide (y.2 = .cell)) = true) (h3 : (scope.names.all fun y => !decide (y.2 = .local) || decide (scope.names.lookup y.1 = some .local)) = true)
    (h4 : (scope.names.all fun y => !decide (y.2 = .free) || decide (X.env.scope.names.lookup y.1 = some .cell)) = true) (h5 : N.length = own + ix.length) (h6 : freesB X (relabel scope X.env) own ix N = true) (hk : GKeep own g)
    (tgt : ∀ cl C s H ex pn, PG (blk X (relabel scope X.env) N cl C s H ex pn) tg g)
    (tst : ∀ cl C s H ex pn, PIf (blk X (relabel scope X.env) N cl C s H ex pn) ifs tt)
    (val : ∀ cl C s H ex pn, PE (blk X (relabel scope X.env) N cl C s H ex pn) elt te) : CompOk X tg elt ifs scope own ix N g tt te := by
  refine ⟨h1, fun y hy e => ?_, fun y hy e => ?_, fun y hy e => ?_, frees_of h5 h6, hk, tgt, tst, val⟩
  · have := List.all_eq_true.mp h2 y hy
    simp [e] at this
  · have := List.all_eq_true.mp h3 y hy
    simpa [e] using this
  · have := List.all_eq_true.mp h4 y hy
    simpa [e] using this
end
/-! ### heaps that keep -/
theorem Same.new {H : Hp} {p : Addr} {o : HO} (h : H p = none) : Same H (upd H p o) := fun b u q => by rw [upd_ne (ne_of_none q h)]; exact q
/-- all but p is as it was -/
def But (p : Addr) (H H' : Hp) : Prop := ∀ b o, b ≠ p → H b = some o → H' b = some o
theorem But.refl {p : Addr} {H : Hp} : But p H H := fun _ _ _ h => h
theorem But.trans {p : Addr} {H H1 H2 : Hp} (a : But p H H1) (b : But p H1 H2) : But p H H2 := fun c o n h => b c o n (a c o n h)
theorem Same.but {p : Addr} {H H1 : Hp} (a : Same H H1) : But p H H1 := fun c o _ h => a c o h
theorem But.upd {p : Addr} {H : Hp} {o : HO} : But p H (upd H p o) := fun b u n q => by rw [upd_ne n]; exact q
/-! ### a comprehension over a list, a range, two sequences that stay -/
end L2
end
section
set_option Elab.async false
set_option linter.all false
set_option maxRecDepth 100000
set_option maxHeartbeats 4000000
/-! Values without a heap, and how they stand in one: frozen data, tapes that are drawn from, lists that one name owns. -/
namespace PL
open PySem PySem.Spec PyProof.Rows L2
inductive PV where
  | non | bl (b : Bool) | int (i : Int) | str (x : Str) | ty (n : String)
  | tup (xs : List PV) | lst (xs : List PV) | tape | scr (ns : List Int) | dct (kvs : List (FK × Int))
def TapeAt (H : Hp) (p : Addr) : Prop := ∃ d x : Int, H p = some (.lst [.int d, .int x]) ∧ 0 ≤ d ∧ 0 ≤ x ∧ x < 2147483647
/-- an object that is neither a tuple nor a known thing -/
def MutH (o : HO) : Prop := (∀ vs, o ≠ .tup vs) ∧ ∀ q u, o ≠ .frz q u
theorem MutH.lst {xs : List V} : MutH (.lst xs) := ⟨(fun _ e => nomatch e), (fun _ _ e => nomatch e)⟩
theorem TapeAt.mut {H : Hp} {p : Addr} (h : TapeAt H p) : ∃ o, H p = some o ∧ MutH o := by
  obtain ⟨d, x, e, _⟩ := h
  exact ⟨_, e, MutH.lst⟩
/-- a tuple that is read: tracked, or the module's -/
def SqU (K : PySem.W.Frag) (H : Hp) (a : Addr) (xs : List V) : Prop := H a = some (.tup xs) ∨ ∃ (o : Obj) (its : Array Value) (n : Nat), K.lookup a = some o ∧ o.cls = .type "tuple" ∧ o.data = .seq its n ∧ its.size ≤ sizeLine ∧ Vals xs its.toList
theorem SqU.sq {K : PySem.W.Frag} {H : Hp} {a : Addr} {xs : List V} (h : SqU K H a xs) : SqT K H a xs := h.elim (fun z => .inl (.inl z)) .inr
def intKV (kvs : List (FK × Int)) : List (FK × V) := kvs.map fun p => (p.1, V.int p.2)
mutual
inductive Rep (K : PySem.W.Frag) (T M : Addr → Prop) (H : Hp) : V → PV → Prop where
  | non : Rep K T M H .non .non
  | bl (b : Bool) : Rep K T M H (.bl b) (.bl b)
  | int (i : Int) : Rep K T M H (.int i) (.int i)
  | str (x : Str) : Rep K T M H (.str x) (.str x)
  | ty (n : String) : Rep K T M H (.ty n) (.ty n)
  | tup {a : Addr} {vs : List V} {xs : List PV} (h : SqU K H a vs) (r : Reps K T M H vs xs) : Rep K T M H (.ref a) (.tup xs)
  | lst {a : Addr} {vs : List V} {xs : List PV} (h : H a = some (.lst vs)) (t : ¬ T a) (m : ¬ M a) (r : Reps K T M H vs xs) : Rep K T M H (.ref a) (.lst xs)
  | tape {a : Addr} (t : T a) : Rep K T M H (.ref a) .tape
  | dct {a : Addr} {kvs : List (FK × Int)} (h : H a = some (.dN K (intKV kvs))) (t : ¬ T a) (m : ¬ M a) : Rep K T M H (.ref a) (.dct kvs)
  | scr {a : Addr} {ns : List Int} (h : (Rd H a (.lst (ns.map V.int)) ∧ ¬ T a ∧ ¬ M a) ∨ ∀ H, SqL K H a (ns.map V.int)) : Rep K T M H (.ref a) (.scr ns)
inductive Reps (K : PySem.W.Frag) (T M : Addr → Prop) (H : Hp) : List V → List PV → Prop where
  | nil : Reps K T M H [] []
  | cons {v : V} {x : PV} {vs : List V} {xs : List PV} (h : Rep K T M H v x) (t : Reps K T M H vs xs) : Reps K T M H (v :: vs) (x :: xs)
end
/-- the mutable things are lists of the heap -/
structure Val (T M : Addr → Prop) (H : Hp) : Prop where
  tp : ∀ a, T a → TapeAt H a
  mu : ∀ a, M a → ∃ o, H a = some o ∧ MutH o
theorem Val.noTup {T M : Addr → Prop} {H : Hp} (v : Val T M H) {a : Addr} {vs : List V} (r : Rd H a (.tup vs)) : ¬ T a ∧ ¬ M a := by
  have go : ∀ o, H a = some o → MutH o → False := fun o e m => by
    rcases r with r | ⟨q, r⟩
    · rw [e] at r; cases r; exact m.1 _ rfl
    · rw [e] at r; cases r; exact m.2 _ _ rfl
  exact ⟨fun t => let ⟨o, e, m⟩ := (v.tp a t).mut; go o e m, fun t => let ⟨o, e, m⟩ := v.mu a t; go o e m⟩
/-- how what is read goes over into another heap -/
structure Mv (K : PySem.W.Frag) (T M : Addr → Prop) (H : Hp) (T' M' : Addr → Prop) (H' : Hp) : Prop where
  va : Val T M H
  keep : ∀ b o, ¬ T b → ¬ M b → H b = some o → H' b = some o
  sub : ∀ b, T b → T' b
  tn : ∀ b, H b ≠ none → T' b → T b
  mn : ∀ b, H b ≠ none → M' b → M b
theorem rd_some {H : Hp} {a : Addr} {u : HO} (r : Rd H a u) : H a ≠ none := by
  rcases r with r | ⟨o, r⟩ <;> rw [r] <;> exact fun e => nomatch e
theorem rd_mv {H H' : Hp} {a : Addr} {u : HO} (r : Rd H a u) (k : ∀ o, H a = some o → H' a = some o) : Rd H' a u := by
  rcases r with r | ⟨o, r⟩
  · exact .inl (k _ r)
  · exact .inr ⟨o, k _ r⟩
section
variable {K : PySem.W.Frag} {T M T' M' : Addr → Prop} {H H' : Hp}
mutual
theorem Rep.mv (m : Mv K T M H T' M' H') : ∀ {v : V} {x : PV}, Rep K T M H v x → Rep K T' M' H' v x
  | _, _, .non => .non
  | _, _, .bl b => .bl b
  | _, _, .int i => .int i
  | _, _, .str x => .str x
  | _, _, .ty n => .ty n
  | _, _, .tup (a := a) (vs := vs) h r => by
    refine .tup (vs := vs) ?_ (Reps.mv m r)
    rcases h with h | h
    · obtain ⟨t, u⟩ := m.va.noTup (.inl h)
      exact .inl (m.keep _ _ t u h)
    · exact .inr h
  | _, _, .lst (a := a) h t u r => .lst (m.keep _ _ t u h) (fun z => t (m.tn a (by rw [h]; exact fun e => nomatch e) z)) (fun z => u (m.mn a (by rw [h]; exact fun e => nomatch e) z)) (Reps.mv m r)
  | _, _, .tape t => .tape (m.sub _ t)
  | _, _, .dct (a := a) h t u => .dct (m.keep _ _ t u h) (fun z => t (m.tn a (by rw [h]; exact fun e => nomatch e) z)) (fun z => u (m.mn a (by rw [h]; exact fun e => nomatch e) z))
  | _, _, .scr (a := a) (.inl ⟨h, t, u⟩) => .scr (.inl ⟨rd_mv h fun o e => m.keep _ o t u e, fun z => t (m.tn a (rd_some h) z), fun z => u (m.mn a (rd_some h) z)⟩)
  | _, _, .scr (.inr h) => .scr (.inr h)
theorem Reps.mv (m : Mv K T M H T' M' H') : ∀ {vs : List V} {xs : List PV}, Reps K T M H vs xs → Reps K T' M' H' vs xs
  | _, _, .nil => .nil
  | _, _, .cons h t => .cons (Rep.mv m h) (Reps.mv m t)
end
end
theorem Reps.length {K : PySem.W.Frag} {T M : Addr → Prop} {H : Hp} : ∀ {vs : List V} {xs : List PV}, Reps K T M H vs xs → vs.length = xs.length
  | _, _, .nil => rfl
  | _, _, .cons _ t => by simp [t.length]
theorem Reps.get {K : PySem.W.Frag} {T M : Addr → Prop} {H : Hp} : ∀ {vs : List V} {xs : List PV} {i : Nat} {x : PV}, Reps K T M H vs xs → xs[i]? = some x → ∃ v, vs[i]? = some v ∧ Rep K T M H v x
  | _, _, _, _, .nil, e => by simp at e
  | _, _, 0, _, .cons h _, e => by simp at e; subst e; exact ⟨_, rfl, h⟩
  | _, _, i + 1, x, .cons _ t, e => by
    obtain ⟨u, h1, h2⟩ := Reps.get (i := i) (x := x) t (by simpa using e)
    exact ⟨u, by simpa using h1, h2⟩
theorem Reps.get' {K : PySem.W.Frag} {T M : Addr → Prop} {H : Hp} {vs : List V} {xs : List PV} {i : Nat} {v : V} (h : Reps K T M H vs xs) (e : vs[i]? = some v) : ∃ x, xs[i]? = some x ∧ Rep K T M H v x := by
  have hl := h.length
  have hi : i < vs.length := (List.getElem?_eq_some_iff.mp e).1
  obtain ⟨w, e2, r⟩ := h.get (i := i) (x := xs[i]'(by omega)) (List.getElem?_eq_getElem (by omega))
  rw [e] at e2; cases e2
  exact ⟨_, List.getElem?_eq_getElem (by omega), r⟩
theorem Reps.append {K : PySem.W.Frag} {T M : Addr → Prop} {H : Hp} : ∀ {vs ws : List V} {xs ys : List PV}, Reps K T M H vs xs → Reps K T M H ws ys → Reps K T M H (vs ++ ws) (xs ++ ys)
  | _, _, _, _, .nil, s => s
  | _, _, _, _, .cons h t, s => .cons h (t.append s)
theorem Reps.take {K : PySem.W.Frag} {T M : Addr → Prop} {H : Hp} : ∀ {vs : List V} {xs : List PV} (n : Nat), Reps K T M H vs xs → Reps K T M H (vs.take n) (xs.take n)
  | _, _, 0, _ => .nil
  | _, _, _ + 1, .nil => .nil
  | _, _, n + 1, .cons r t => .cons r (t.take n)
theorem Reps.drop {K : PySem.W.Frag} {T M : Addr → Prop} {H : Hp} : ∀ {vs : List V} {xs : List PV} (n : Nat), Reps K T M H vs xs → Reps K T M H (vs.drop n) (xs.drop n)
  | _, _, 0, r => r
  | _, _, _ + 1, .nil => .nil
  | _, _, n + 1, .cons _ t => t.drop n
theorem Reps.set {K : PySem.W.Frag} {T M : Addr → Prop} {H : Hp} {v : V} {x : PV} (r : Rep K T M H v x) : ∀ {vs : List V} {xs : List PV} (i : Nat), Reps K T M H vs xs → Reps K T M H (vs.set i v) (xs.set i x)
  | _, _, _, .nil => .nil
  | _, _, 0, .cons _ t => .cons r t
  | _, _, i + 1, .cons q t => .cons q (Reps.set r i t)
theorem Reps.nil_iff {K : PySem.W.Frag} {T M : Addr → Prop} {H : Hp} {vs : List V} {xs : List PV} (h : Reps K T M H vs xs) : vs = [] ↔ xs = [] := by
  cases h <;> simp
theorem Reps.reverse {K : PySem.W.Frag} {T M : Addr → Prop} {H : Hp} {vs : List V} {xs : List PV} (h : Reps K T M H vs xs) : Reps K T M H vs.reverse xs.reverse := by
  induction vs generalizing xs with
  | nil => cases h; exact .nil
  | cons v vs ih =>
    cases h with
    | cons h t => rw [List.reverse_cons, List.reverse_cons]; exact (ih t).append (.cons h .nil)
/-! ### steps -/
/-- an expression's step: the tapes turn, new things are laid -/
structure Stp (T : Addr → Prop) (H : Hp) (T' : Addr → Prop) (H' : Hp) : Prop where
  keep : ∀ b o, ¬ T b → H b = some o → H' b = some o
  sub : ∀ b, T b → T' b
  new : ∀ b, T' b → T b ∨ H b = none
  tp : ∀ a, T' a → TapeAt H' a
theorem Stp.refl {T : Addr → Prop} {H : Hp} (h : ∀ a, T a → TapeAt H a) : Stp T H T H := ⟨fun _ _ _ e => e, fun _ e => e, fun _ e => .inl e, h⟩
theorem Stp.some {T T' : Addr → Prop} {H H' : Hp} (s : Stp T H T' H') {b : Addr} (h : H b ≠ none) : H' b ≠ none := by
  by_cases t : T b
  · obtain ⟨o, e, _⟩ := (s.tp b (s.sub b t)).mut
    rw [e]; exact fun e => nomatch e
  · cases e : H b with
    | none => exact absurd e h
    | some o => rw [s.keep b o t e]; exact fun e => nomatch e
theorem Stp.none {T T' : Addr → Prop} {H H' : Hp} (s : Stp T H T' H') {b : Addr} (h : H' b = none) : H b = none := by
  cases e : H b with
  | none => rfl
  | some o => exact absurd h (s.some (by rw [e]; exact fun e => nomatch e))
theorem Stp.trans {T T1 T2 : Addr → Prop} {H H1 H2 : Hp} (a : Stp T H T1 H1) (b : Stp T1 H1 T2 H2) : Stp T H T2 H2 where
  keep := fun c o t e => b.keep c o (fun z => (a.new c z).elim t fun n => by rw [n] at e; cases e) (a.keep c o t e)
  sub := fun c t => b.sub c (a.sub c t)
  new := fun c t => (b.new c t).elim (fun z => a.new c z) fun z => .inr (a.none z)
  tp := b.tp
/-- what is laid new -/
theorem Stp.lay {T : Addr → Prop} {H : Hp} {p : Addr} {o : HO} (h : ∀ a, T a → TapeAt H a) (hp : H p = Option.none) : Stp T H T (upd H p o) where
  keep := fun b u _ e => by rw [upd_ne (ne_of_none e hp)]; exact e
  sub := fun _ t => t
  new := fun _ t => .inl t
  tp := fun a t => by
    obtain ⟨d, x, e, z⟩ := h a t
    exact ⟨d, x, by rw [upd_ne (ne_of_none e hp)]; exact e, z⟩
theorem Stp.mv {K : PySem.W.Frag} {T T' M : Addr → Prop} {H H' : Hp} (s : Stp T H T' H') (v : Val T M H) : Mv K T M H T' M H' where
  va := v
  keep := fun b o t _ e => s.keep b o t e
  sub := s.sub
  tn := fun b n t => (s.new b t).elim id fun z => absurd z n
  mn := fun _ _ z => z
theorem Val.stp {T T' M : Addr → Prop} {H H' : Hp} (v : Val T M H) (s : Stp T H T' H') (d : ∀ a, M a → ¬ T a) : Val T' M H' :=
  ⟨s.tp, fun a m => let ⟨o, e, q⟩ := v.mu a m; ⟨o, s.keep a o (d a m) e, q⟩⟩
theorem Rep.stp {K : PySem.W.Frag} {T T' M : Addr → Prop} {H H' : Hp} {v : V} {x : PV} (r : Rep K T M H v x) (s : Stp T H T' H') (va : Val T M H) : Rep K T' M H' v x := r.mv (s.mv va)
theorem Reps.stp {K : PySem.W.Frag} {T T' M : Addr → Prop} {H H' : Hp} {v : List V} {x : List PV} (r : Reps K T M H v x) (s : Stp T H T' H') (va : Val T M H) : Reps K T' M H' v x := r.mv (s.mv va)
/-- fewer mutable things -/
theorem Mv.anti {K : PySem.W.Frag} {T M M' : Addr → Prop} {H : Hp} (v : Val T M H) (h : ∀ a, M' a → M a) : Mv K T M H T M' H := ⟨v, fun _ _ _ _ e => e, fun _ t => t, fun _ _ t => t, fun b _ t => h b t⟩
/-! ### the state of a def's body -/
inductive AV where
  | val (x : PV)
  | own (xs : List PV)
abbrev ASt := List (Option AV)
structure Base where
  T : Addr → Prop
  H : Hp
  M : Addr → Prop
def Base.add (B : Base) (p : Addr) : Base := ⟨B.T, B.H, fun a => B.M a ∨ a = p⟩
def ownA (σ : L2.St) (τ : ASt) (p : Addr) : Prop := ∃ (i : Nat) (xs : List PV), τ[i]? = some (some (.own xs)) ∧ σ[i]? = some (some (.ref p))
def mt (B : Base) (σ : L2.St) (τ : ASt) (p : Addr) : Prop := B.M p ∨ ownA σ τ p
structure SR (K : PySem.W.Frag) (B : Base) (T : Addr → Prop) (H : Hp) (σ : L2.St) (τ : ASt) : Prop where
  len : σ.length = τ.length
  val : ∀ (i : Nat) (x : PV), τ[i]? = some (some (.val x)) → ∃ v, σ[i]? = some (some v) ∧ Rep K T (mt B σ τ) H v x
  own : ∀ (i : Nat) (xs : List PV), τ[i]? = some (some (.own xs)) → ∃ p vs, σ[i]? = some (some (.ref p)) ∧ H p = some (.lst vs) ∧ Reps K T (mt B σ τ) H vs xs ∧ B.H p = none ∧ ¬ T p ∧ ¬ B.M p
  dist : ∀ (i j : Nat) (xs ys : List PV) (p : Addr), τ[i]? = some (some (.own xs)) → τ[j]? = some (some (.own ys)) → σ[i]? = some (some (.ref p)) → σ[j]? = some (some (.ref p)) → i = j
  tp : ∀ a, T a → TapeAt H a
  bm : ∀ a, B.M a → ∃ o, H a = some o ∧ MutH o
  bt : ∀ a, B.M a → ¬ T a
  st : Stp B.T B.H T H
section
variable {K : PySem.W.Frag} {B : Base} {T T' : Addr → Prop} {H H' : Hp} {σ : L2.St} {τ : ASt}
theorem SR.ownH (s : SR K B T H σ τ) {p : Addr} (o : ownA σ τ p) : ∃ vs, H p = some (.lst vs) ∧ B.H p = none ∧ ¬ T p ∧ ¬ B.M p := by
  obtain ⟨i, xs, h1, h2⟩ := o
  obtain ⟨q, vs, e, h, _, b, t, m⟩ := s.own i xs h1
  rw [h2] at e; cases e
  exact ⟨vs, h, b, t, m⟩
theorem SR.va (s : SR K B T H σ τ) : Val T (mt B σ τ) H := ⟨s.tp, fun a m => m.elim (s.bm a) fun o => let ⟨vs, h, _⟩ := s.ownH o; ⟨_, h, MutH.lst⟩⟩
theorem SR.nt (s : SR K B T H σ τ) {a : Addr} (m : mt B σ τ a) : ¬ T a := m.elim (s.bt a) fun o => let ⟨_, _, _, t, _⟩ := s.ownH o; t
theorem SR.stp (s : SR K B T H σ τ) (p : Stp T H T' H') : SR K B T' H' σ τ where
  len := s.len
  val := fun i x e => let ⟨v, h, r⟩ := s.val i x e; ⟨v, h, r.stp p s.va⟩
  own := fun i xs e => by
    obtain ⟨q, vs, e1, h, r, b, t, m⟩ := s.own i xs e
    exact ⟨q, vs, e1, p.keep _ _ t h, r.stp p s.va, b, (fun z => (p.new q z).elim t fun n => by rw [n] at h; cases h), m⟩
  dist := s.dist
  tp := p.tp
  bm := fun a m => let ⟨o, e, q⟩ := s.bm a m; ⟨o, p.keep a o (s.bt a m) e, q⟩
  bt := fun a m z => by
    obtain ⟨o, e, _⟩ := s.bm a m
    exact (p.new a z).elim (s.bt a m) fun n => by rw [n] at e; cases e
  st := s.st.trans p
/-- one more mutable thing, that nothing reads -/
theorem SR.add {p : Addr} {o : HO} (s : SR K B T H σ τ) (q : Stp T H T' H') (hn : H p = none) (ho : H' p = some o) (hm : MutH o) (ht : ¬ T' p) : SR K (B.add p) T' H' σ τ := by
  have s' := s.stp q
  have mv : Mv K T (mt B σ τ) H T' (mt (B.add p) σ τ) H' := ⟨s.va, fun b o t _ e => q.keep b o t e, q.sub, fun b n t => (q.new b t).elim id fun z => absurd z n, fun b n z => by
    rcases z with (z | z) | z
    · exact .inl z
    · subst z; exact absurd hn n
    · exact .inr z⟩
  refine ⟨s.len, fun i x e => ?_, fun i xs e => ?_, s.dist, s'.tp, fun a m => ?_, fun a m => ?_, s'.st⟩
  · obtain ⟨v, h, r⟩ := s.val i x e
    exact ⟨v, h, r.mv mv⟩
  · obtain ⟨a, vs, e1, h, r, b, t, m⟩ := s.own i xs e
    obtain ⟨a', vs', e1', h', _, b', t', m'⟩ := s'.own i xs e
    rw [e1] at e1'; cases e1'
    rw [q.keep _ _ t h] at h'; cases h'
    refine ⟨a, vs, e1, q.keep _ _ t h, r.mv mv, b, t', fun z => ?_⟩
    rcases z with z | z
    · exact m z
    · subst z; rw [hn] at h; cases h
  · rcases m with m | m
    · exact s'.bm a m
    · subst m; exact ⟨o, ho, hm⟩
  · rcases m with m | m
    · exact s'.bt a m
    · subst m; exact ht
/-- and away again -/
theorem SR.drop {p : Addr} (s : SR K (B.add p) T H σ τ) : SR K B T H σ τ := by
  have mv : Mv K T (mt (B.add p) σ τ) H T (mt B σ τ) H := .anti s.va fun a m => m.elim (fun z => .inl (.inl z)) .inr
  refine ⟨s.len, fun i x e => let ⟨v, h, r⟩ := s.val i x e; ⟨v, h, r.mv mv⟩, fun i xs e => ?_, s.dist, s.tp, fun a m => s.bm a (.inl m), fun a m => s.bt a (.inl m), s.st⟩
  obtain ⟨a, vs, e1, h, r, b, t, m⟩ := s.own i xs e
  exact ⟨a, vs, e1, h, r.mv mv, b, t, fun z => m (.inl z)⟩
end
/-! ### freezing what is owned -/
def frzV : Option AV → Option AV
  | some (.own xs) => some (.val (.lst xs))
  | o => o
def frz (τ : ASt) : ASt := τ.map frzV
theorem frz_get {τ : ASt} {i : Nat} : (frz τ)[i]? = (τ[i]?).map frzV := by simp [frz]
theorem frz_val {τ : ASt} {i : Nat} {x : PV} (h : (frz τ)[i]? = some (some (.val x))) : τ[i]? = some (some (.val x)) ∨ ∃ xs, x = .lst xs ∧ τ[i]? = some (some (.own xs)) := by
  rw [frz_get] at h
  cases e : τ[i]? with
  | none => rw [e] at h; cases h
  | some o =>
    rw [e] at h
    cases o with
    | none => cases h
    | some a =>
      cases a with
      | val y => cases h; exact .inl rfl
      | own xs => cases h; exact .inr ⟨xs, rfl, rfl⟩
theorem frz_own {τ : ASt} {i : Nat} {xs : List PV} : (frz τ)[i]? ≠ some (some (.own xs)) := by
  rw [frz_get]
  cases e : τ[i]? with
  | none => exact fun z => nomatch z
  | some o =>
    cases o with
    | none => exact fun z => nomatch z
    | some a => cases a <;> exact fun z => nomatch z
theorem ownA_frz {σ : L2.St} {τ : ASt} {p : Addr} : ¬ ownA σ (frz τ) p := fun ⟨_, _, h, _⟩ => frz_own h
section
variable {K : PySem.W.Frag} {B : Base} {T T' : Addr → Prop} {H H' : Hp} {σ : L2.St} {τ : ASt}
theorem SR.frz (s : SR K B T H σ τ) : SR K B T H σ (frz τ) := by
  have mv : Mv K T (mt B σ τ) H T (mt B σ (PL.frz τ)) H := .anti s.va fun a m => m.elim .inl fun z => absurd z ownA_frz
  refine ⟨by simp [PL.frz, s.len], fun i x e => ?_, fun i xs e => absurd e frz_own, fun i j xs ys p e => absurd e frz_own, s.tp, s.bm, s.bt, s.st⟩
  rcases frz_val e with e' | ⟨xs, e0, e'⟩
  · obtain ⟨v, h, r⟩ := s.val i x e'
    exact ⟨v, h, r.mv mv⟩
  · subst e0
    obtain ⟨p, vs, e1, h, r, b, t, m⟩ := s.own i xs e'
    exact ⟨.ref p, e1, .lst h t (fun z => z.elim m ownA_frz) (r.mv mv)⟩
end
mutual
def noL : PV → Bool
  | .lst _ => false
  | .tape => false
  | .scr _ => false
  | .dct _ => false
  | .tup xs => noLs xs
  | _ => true
def noLs : List PV → Bool
  | [] => true
  | x :: xs => noL x && noLs xs
end
section
variable {K : PySem.W.Frag} {T M M' : Addr → Prop} {H : Hp}
mutual
theorem Rep.free : ∀ {v : V} {x : PV}, noL x = true → Rep K T M H v x → Rep K T M' H v x
  | _, _, _, .non => .non
  | _, _, _, .bl b => .bl b
  | _, _, _, .int i => .int i
  | _, _, _, .str x => .str x
  | _, _, _, .ty n => .ty n
  | _, _, n, .tup h r => .tup h (Reps.free (by rw [noL] at n; exact n) r)
  | _, _, n, .lst _ _ _ _ => by rw [noL] at n; cases n
  | _, _, n, .tape _ => by rw [noL] at n; cases n
  | _, _, n, .scr _ => by rw [noL] at n; cases n
  | _, _, n, .dct _ _ _ => by rw [noL] at n; cases n
theorem Reps.free : ∀ {vs : List V} {xs : List PV}, noLs xs = true → Reps K T M H vs xs → Reps K T M' H vs xs
  | _, _, _, .nil => .nil
  | _, _, n, .cons h t => by
    rw [noLs, Bool.and_eq_true] at n
    exact .cons (Rep.free n.1 h) (Reps.free n.2 t)
end
end
end PL
end
section
set_option Elab.async false
set_option linter.all false
set_option maxRecDepth 100000
set_option maxHeartbeats 4000000
/-! What a construct does to values without a heap, and that it is so. Expressions. -/
namespace PL
open PySem PySem.Spec PyProof.Rows L2
abbrev AE := ASt → (PV → Prop) → Prop
abbrev AT := ASt → (Bool → Prop) → Prop
abbrev AA := ASt → (List PV → Prop) → Prop
abbrev AF := List PV → (PV → Prop) → Prop
def nth : ASt → Nat → Option AV
  | [], _ => none
  | x :: _, 0 => x
  | _ :: r, n + 1 => nth r n
theorem nth_eq : ∀ {τ : ASt} {i : Nat} {a : AV}, nth τ i = some a → τ[i]? = some (some a)
  | [], _, _, h => by simp [nth] at h
  | x :: _, 0, _, h => by simpa [nth] using h
  | _ :: r, n + 1, a, h => by
    have := nth_eq (τ := r) (i := n) (a := a) (by simpa [nth] using h)
    simpa using this
/-! ### what is asked of a value -/
def onI (x : PV) (R : Int → Prop) : Prop := match x with | .int i => R i | _ => False
def onI2 (x y : PV) (R : Int → Int → Prop) : Prop := match x, y with | .int i, .int j => R i j | _, _ => False
def onB (x : PV) (R : Bool → Prop) : Prop := match x with | .bl b => R b | _ => False
def onO (o : Option PV) (R : PV → Prop) : Prop := match o with | some z => R z | none => False
theorem onO_of {o : Option PV} {R : PV → Prop} (h : onO o R) : ∃ z, o = some z ∧ R z := by
  cases o <;> first | exact ⟨_, rfl, h⟩ | exact h.elim
def onQ (x : PV) (R : List PV → Prop) : Prop := match x with | .tup xs => R xs | .lst xs => R xs | _ => False
theorem onI_of {x : PV} {R : Int → Prop} (h : onI x R) : ∃ i, x = .int i ∧ R i := by
  cases x <;> first | exact ⟨_, rfl, h⟩ | exact h.elim
theorem onI2_of {x y : PV} {R : Int → Int → Prop} (h : onI2 x y R) : ∃ i j, x = .int i ∧ y = .int j ∧ R i j := by
  cases x <;> cases y <;> first | exact ⟨_, _, rfl, rfl, h⟩ | exact h.elim
theorem onB_of {x : PV} {R : Bool → Prop} (h : onB x R) : ∃ b, x = .bl b ∧ R b := by
  cases x <;> first | exact ⟨_, rfl, h⟩ | exact h.elim
theorem onQ_of {x : PV} {R : List PV → Prop} (h : onQ x R) : ∃ xs, (x = .tup xs ∨ x = .lst xs) ∧ R xs := by
  cases x <;> first | exact ⟨_, .inl rfl, h⟩ | exact ⟨_, .inr rfl, h⟩ | exact h.elim
theorem Rep.toI {K : PySem.W.Frag} {T M : Addr → Prop} {H : Hp} {v : V} {i : Int} (r : Rep K T M H v (.int i)) : v = .int i := by cases r; rfl
theorem Rep.toB {K : PySem.W.Frag} {T M : Addr → Prop} {H : Hp} {v : V} {i : Bool} (r : Rep K T M H v (.bl i)) : v = .bl i := by cases r; rfl
/-! ### simulations -/
def SimE (K : PySem.W.Frag) (t : TE) (a : AE) : Prop := ∀ (B : Base) (T : Addr → Prop) (σ : L2.St) (τ : ASt) (H : Hp) (Q : VK) (AQ : PV → Prop), SR K B T H σ τ → a τ AQ →
  (∀ v x T' H', Stp T H T' H' → Rep K T' (mt B σ τ) H' v x → AQ x → Q v H') → t σ H Q
def SimT (K : PySem.W.Frag) (t : TT) (a : AT) : Prop := ∀ (B : Base) (T : Addr → Prop) (σ : L2.St) (τ : ASt) (H : Hp) (Q : Bool → Hp → Prop) (AQ : Bool → Prop), SR K B T H σ τ → a τ AQ →
  (∀ b T' H', Stp T H T' H' → AQ b → Q b H') → t σ H Q
def SimA (K : PySem.W.Frag) (t : TA) (a : AA) : Prop := ∀ (B : Base) (T : Addr → Prop) (σ : L2.St) (τ : ASt) (H : Hp) (Q : List V → Hp → Prop) (AQ : List PV → Prop), SR K B T H σ τ → a τ AQ →
  (∀ vs xs T' H', Stp T H T' H' → Reps K T' (mt B σ τ) H' vs xs → AQ xs → Q vs H') → t σ H Q
/-- a new list -/
def SimF (K : PySem.W.Frag) (t : TE) (a : AA) : Prop := ∀ (B : Base) (T : Addr → Prop) (σ : L2.St) (τ : ASt) (H : Hp) (Q : VK) (AQ : List PV → Prop), SR K B T H σ τ → a τ AQ →
  (∀ p vs xs T' H', Stp T H T' H' → SR K (B.add p) T' H' σ τ → H p = none → H' p = some (.lst vs) → ¬ T' p → Reps K T' (mt (B.add p) σ τ) H' vs xs → AQ xs → Q (.ref p) H') → t σ H Q
def SE (X : Cx) (e : Expr) (a : AE) : Prop := ∃ t, PE X e t ∧ SimE X.K t a
def ST' (X : Cx) (e : Expr) (a : AT) : Prop := ∃ t, PT X e t ∧ SimT X.K t a
def SW (X : Cx) (e : Expr) (a : AT) : Prop := ∃ t, PW X e t ∧ SimT X.K t a
def SA (X : Cx) (es : List Expr) (a : AA) : Prop := ∃ t, PA X es t ∧ SimA X.K t a
def SF (X : Cx) (e : Expr) (a : AA) : Prop := ∃ t, PE X e t ∧ SimF X.K t a
abbrev Op2 := PV → PV → (PV → Prop) → Prop
def SimR2 (K : PySem.W.Frag) (r : R2) (f : Op2) : Prop := ∀ (T M : Addr → Prop) (H : Hp) (u v : V) (x y : PV) (Q : VK) (AQ : PV → Prop), Val T M H → Rep K T M H u x → Rep K T M H v y → f x y AQ →
  (∀ w z T' H', Stp T H T' H' → Rep K T' M H' w z → AQ z → Q w H') → r u v H Q
def SimRL (K : PySem.W.Frag) (r : List V → Hp → VK → Prop) (f : AF) : Prop := ∀ (T M : Addr → Prop) (H : Hp) (us : List V) (xs : List PV) (Q : VK) (AQ : PV → Prop), Val T M H → Reps K T M H us xs → f xs AQ →
  (∀ w z T' H', Stp T H T' H' → Rep K T' M H' w z → AQ z → Q w H') → r us H Q
section
variable {X : Cx} {a b c : Expr} {es : List Expr} {pos : Pos} {ta tb : AE} {tA tB' : AT}
/-! ### names, constants -/
def aV (i : Nat) : AE := fun τ Q => match nth τ i with | some (.val x) => Q x | _ => False
theorem aV_of {i : Nat} {τ : ASt} {Q : PV → Prop} (h : aV i τ Q) : ∃ x, τ[i]? = some (some (.val x)) ∧ Q x := by
  unfold aV at h
  cases e : nth τ i with
  | none => rw [e] at h; exact h.elim
  | some z =>
    rw [e] at h
    cases z with
    | own xs => exact h.elim
    | val x => exact ⟨x, nth_eq e, h⟩
theorem se_v (i : Nat) {x : Str} {pos : Pos} (hN : X.N[i]? = some x := by rfl) (hv : Vis X.env.scope x := by first | exact Or.inl rfl | exact Or.inr (Or.inl rfl) | exact Or.inr (Or.inr rfl)) (hd : (x == ("__debug__" : Str)) = false := by decide)
    (hcd : (x == ("__classdict__" : Str)) = false := by decide) : SE X (.Name x pos) (aV i) := by
  refine ⟨_, pe_var hN hv hd hcd, fun B T σ τ H Q AQ s h k => ?_⟩
  obtain ⟨x, e, q⟩ := aV_of h
  obtain ⟨v, e1, r⟩ := s.val i x e
  exact ⟨v, e1, k v x T H (.refl s.tp) r q⟩
def aC (x : PV) : AE := fun _ Q => Q x
theorem sim_c {v : V} {x : PV} (h : ∀ T M H, Rep X.K T M H v x) : SimE X.K (tC v) (aC x) := fun B T σ τ H Q AQ s h' k => k v x T H (.refl s.tp) (h _ _ _) h'
theorem se_int {i : Int} {j pos} : SE X (.Constant (.int i) j pos) (aC (.int i)) := ⟨_, pe_int, sim_c fun _ _ _ => .int i⟩
theorem se_bl {i : Bool} {j pos} : SE X (.Constant (.bool i) j pos) (aC (.bl i)) := ⟨_, pe_bl, sim_c fun _ _ _ => .bl i⟩
theorem se_non {j pos} : SE X (.Constant .none j pos) (aC .non) := ⟨_, pe_non, sim_c fun _ _ _ => .non⟩
theorem se_ty {x : Str} {n : String} {u : Value} {pos : Pos} (hg : Gl X x) (hm : X.mg x = none) (hv : bootBuiltins x = some u) (r : RelV (.ty n) u) (hn : x ≠ "__name__" := by decide) (hd : (x == ("__debug__" : Str)) = false := by decide) : SE X (.Name x pos) (aC (.ty n)) :=
  ⟨_, pe_bltn (v := .ty n) hg hm hv r hn hd, sim_c fun _ _ _ => .ty n⟩
/-! ### two values -/
def aOp (f : Op2) (ta tb : AE) : AE := fun τ Q => ta τ fun x => tb τ fun y => f x y Q
theorem sim_op {r : R2} {f : Op2} {t u : TE} (hr : SimR2 X.K r f) (ha : SimE X.K t ta) (hb : SimE X.K u tb) : SimE X.K (tOp r t u) (aOp f ta tb) := by
  intro B T σ τ H Q AQ s h k
  refine ha B T σ τ H _ _ s h fun v x T1 H1 s1 r1 h1 => ?_
  refine hb B T1 σ τ H1 _ _ (s.stp s1) h1 fun w y T2 H2 s2 r2 h2 => ?_
  have s' := (s.stp s1).stp s2
  exact hr T2 _ H2 v w x y Q AQ s'.va (r1.stp s2 (s.stp s1).va) r2 h2 fun w z T3 H3 s3 r3 q => k w z T3 H3 ((s1.trans s2).trans s3) r3 q
theorem se_op {op : Operator} {r : R2} {f : Op2} (ho : OpR X (binaryOp op) r ∧ SimR2 X.K r f) (ha : SE X a ta) (hb : SE X b tb) : SE X (.BinOp a op b pos) (aOp f ta tb) :=
  let ⟨_, p, s⟩ := ha; let ⟨_, p', s'⟩ := hb; ⟨_, pe_op ho.1 p p', sim_op ho.2 s s'⟩
theorem se_cmp {op : CmpOp} {r : R2} {f : Op2} (ho : OpR X (compareOp op) r ∧ SimR2 X.K r f) (ha : SE X a ta) (hb : SE X b tb) (hm : behindInMarks op b = false) : SE X (.Compare a [op] [b] pos) (aOp f ta tb) :=
  let ⟨_, p, s⟩ := ha; let ⟨_, p', s'⟩ := hb; ⟨_, pe_cmpR ho.1 p p' hm, sim_op ho.2 s s'⟩
theorem se_ix {r : R2} {f : Op2} (ho : IxR X r ∧ SimR2 X.K r f) (ha : SE X a ta) (hb : SE X b tb) (hs : PlainIx b) : SE X (.Subscript a b pos) (aOp f ta tb) :=
  let ⟨_, p, s⟩ := ha; let ⟨_, p', s'⟩ := hb; ⟨_, pe_ix ho.1 p p' hs, sim_op ho.2 s s'⟩
/-! ints -/
def fI (g : Int → Int → PV) : Op2 := fun x y Q => onI2 x y fun i j => Q (g i j)
def fIC (C : Int → Int → Prop) (g : Int → Int → PV) : Op2 := fun x y Q => onI2 x y fun i j => C i j ∧ Q (g i j)
theorem sim_I {g : Int → Int → V} {g' : Int → Int → PV} (hg : ∀ i j T M H, Rep X.K T M H (g i j) (g' i j)) : SimR2 X.K (rI0 g) (fI g') := by
  intro T M H u v x y Q AQ va ru rv h k
  obtain ⟨i, j, rfl, rfl, q⟩ := onI2_of h
  exact ⟨i, j, ru.toI, rv.toI, k _ _ T H (.refl va.tp) (hg i j T M H) q⟩
theorem sim_IC {C : Int → Int → Prop} {g : Int → Int → V} {g' : Int → Int → PV} (hg : ∀ i j T M H, Rep X.K T M H (g i j) (g' i j)) : SimR2 X.K (rI C g) (fIC C g') := by
  intro T M H u v x y Q AQ va ru rv h k
  obtain ⟨i, j, rfl, rfl, c, q⟩ := onI2_of h
  exact ⟨i, j, ru.toI, rv.toI, c, k _ _ T H (.refl va.tp) (hg i j T M H) q⟩
abbrev fSub : Op2 := fI fun i j => .int (i - j)
abbrev fLt : Op2 := fI fun i j => .bl (decide (i < j))
abbrev fGt : Op2 := fI fun i j => .bl (decide (j < i))
theorem so_sub : OpR X (binaryOp .Sub) (rI0 fun i j => .int (i - j)) ∧ SimR2 X.K (rI0 fun i j => .int (i - j)) fSub := ⟨op_sub, sim_I fun i j _ _ _ => .int _⟩
theorem so_lt : OpR X (compareOp .Lt) (rI0 fun i j => .bl (decide (i < j))) ∧ SimR2 X.K (rI0 fun i j => .bl (decide (i < j))) fLt := ⟨op_lt, sim_I fun i j _ _ _ => .bl _⟩
theorem so_gt : OpR X (compareOp .Gt) (rI0 fun i j => .bl (decide (j < i))) ∧ SimR2 X.K (rI0 fun i j => .bl (decide (j < i))) fGt := ⟨op_gt, sim_I fun i j _ _ _ => .bl _⟩
/-- a product: both below 2 ^ 1000000 -/
structure MulOk (i j : Int) : Prop where
  l : i.natAbs < 2 ^ 1000000
  r : j.natAbs < 2 ^ 1000000
theorem op_mulH : OpR X (binaryOp .Mult) (rI MulOk fun i j => .int (i * j)) := opI fun _ _ _ _ _ _ _ hc q => mul_int q (.of_le (bits_le hc.l) (bits_le hc.r) (by decide))
abbrev fMul : Op2 := fIC MulOk fun i j => .int (i * j)
theorem so_mul : OpR X (binaryOp .Mult) (rI MulOk fun i j => .int (i * j)) ∧ SimR2 X.K (rI MulOk fun i j => .int (i * j)) fMul := ⟨op_mulH, sim_IC fun i j _ _ _ => .int _⟩
/-- a quotient, a rest: the divisor above or below nought, below 2 ^ 8900 -/
structure DivOk (i j : Int) : Prop where
  ne : j ≠ 0
  lt : j.natAbs < 2 ^ 8900
theorem op_fdivH : OpR X (binaryOp .FloorDiv) (rI DivOk fun i j => .int (i.fdiv j)) := opI fun i j _ _ _ _ _ hc q =>
  floordiv_int hc.ne q (.inl (PyProof.noPylong_of_log2 (Nat.lt_trans (log2_lt' hc.lt (by decide)) (by decide))))
abbrev fDiv : Op2 := fIC DivOk fun i j => .int (i.fdiv j)
theorem so_fdiv : OpR X (binaryOp .FloorDiv) (rI DivOk fun i j => .int (i.fdiv j)) ∧ SimR2 X.K (rI DivOk fun i j => .int (i.fdiv j)) fDiv := ⟨op_fdivH, sim_IC fun i j _ _ _ => .int _⟩
abbrev fMod : Op2 := fIC (fun _ j => j ≠ 0) fun i j => .int (i.fmod j)
theorem so_mod : OpR X (binaryOp .Mod) (rI (fun _ j => j ≠ 0) fun i j => .int (i.fmod j)) ∧ SimR2 X.K (rI (fun _ j => j ≠ 0) fun i j => .int (i.fmod j)) fMod := ⟨op_modN, sim_IC fun i j _ _ _ => .int _⟩
abbrev fPow : Op2 := fIC CPow fun i j => .int (i ^ j.toNat)
theorem so_pow : OpR X (binaryOp .Pow) (rI CPow fun i j => .int (i ^ j.toNat)) ∧ SimR2 X.K (rI CPow fun i j => .int (i ^ j.toNat)) fPow := ⟨op_pow, sim_IC fun i j _ _ _ => .int _⟩
/-! is None -/
def isN : PV → Bool | .non => true | _ => false
def fIsN : Op2 := fun x y Q => match y with | .non => Q (.bl (isN x)) | _ => False
theorem isN_rep {K : PySem.W.Frag} {T M : Addr → Prop} {H : Hp} {v : V} {x : PV} (r : Rep K T M H v x) : decide (v = .non) = isN x := by cases r <;> simp [isN]
theorem so_isN : OpR X (compareOp .Is) (fun x y H Q => y = .non ∧ Q (.bl (decide (x = .non))) H) ∧ SimR2 X.K (fun x y H Q => y = .non ∧ Q (.bl (decide (x = .non))) H) fIsN := by
  refine ⟨op_isN, fun T M H u v x y Q AQ va ru rv h k => ?_⟩
  cases y <;> first | exact h.elim | skip
  cases rv
  refine ⟨rfl, ?_⟩
  rw [isN_rep ru]
  exact k _ _ T H (.refl va.tp) (.bl _) h
/-! items -/
def fIx : Op2 := fun x y Q => onQ x fun xs => onI y fun i => onO (atI xs i) Q
theorem atI_rep {K : PySem.W.Frag} {T M : Addr → Prop} {H : Hp} {vs : List V} {xs : List PV} {i : Int} {z : PV} (r : Reps K T M H vs xs) (h : atI xs i = some z) : ∃ v, atI vs i = some v ∧ Rep K T M H v z := by
  unfold atI at h ⊢
  rw [r.length]
  cases e : ixN xs.length i with
  | none => rw [e] at h; cases h
  | some j =>
    rw [e] at h
    exact r.get h
def rIxQ (K : PySem.W.Frag) : R2 := fun x y H Q => rIxL K x y H Q ∨ rIxT K x y H Q
theorem so_ix : IxR X (rIxQ X.K) ∧ SimR2 X.K (rIxQ X.K) fIx := by
  refine ⟨ix_list.or ix_tup, fun T M H u v x y Q AQ va ru rv h k => ?_⟩
  obtain ⟨xs, hx, h1⟩ := onQ_of h
  obtain ⟨i, rfl, h2⟩ := onI_of h1
  cases rv.toI
  obtain ⟨z, e, q⟩ := onO_of h2
  rcases hx with rfl | rfl
  · cases ru with
    | tup hq r =>
      obtain ⟨w, ew, rw'⟩ := atI_rep r e
      exact .inr ⟨_, _, i, w, rfl, rfl, hq.sq, ew, k w z T H (.refl va.tp) rw' q⟩
  · cases ru with
    | lst hq t m r =>
      obtain ⟨w, ew, rw'⟩ := atI_rep r e
      exact .inl ⟨_, _, i, w, rfl, rfl, .inl (.inl hq), ew, k w z T H (.refl va.tp) rw' q⟩
/-! ### one value -/
def aUn (f : PV → (PV → Prop) → Prop) (ta : AE) : AE := fun τ Q => ta τ fun x => f x Q
def fNeg (x : PV) (Q : PV → Prop) : Prop := onI x fun i => Q (.int (-i))
theorem se_neg (ha : SE X a ta) : SE X (.UnaryOp .USub a pos) (aUn fNeg ta) := by
  obtain ⟨t, p, s⟩ := ha
  refine ⟨_, pe_un un_neg p, fun B T σ τ H Q AQ sr h k => s B T σ τ H _ _ sr h fun v x T1 H1 s1 r1 h1 => ?_⟩
  obtain ⟨i, rfl, q⟩ := onI_of h1
  exact ⟨i, r1.toI, k _ _ T1 H1 s1 (.int _) q⟩
def fNot (x : PV) (Q : PV → Prop) : Prop := onB x fun i => Q (.bl (!i))
theorem se_not (ha : SE X a ta) : SE X (.UnaryOp .Not a pos) (aUn fNot ta) := by
  obtain ⟨t, p, s⟩ := ha
  refine ⟨_, pe_not p, fun B T σ τ H Q AQ sr h k => s B T σ τ H _ _ sr h fun v x T1 H1 s1 r1 h1 => ?_⟩
  obtain ⟨i, rfl, q⟩ := onB_of h1
  exact ⟨i, r1.toB, k _ _ T1 H1 s1 (.bl _) q⟩
/-! ### and, or -/
def aAnd (ta tb : AE) : AE := fun τ Q => ta τ fun x => onB x fun c => if c = true then tb τ Q else Q (.bl false)
theorem se_one {op} (h : SE X a ta) : SE X (.BoolOp op [a] pos) ta := let ⟨_, p, s⟩ := h; ⟨_, pe_one p, s⟩
theorem se_and {rest : List Expr} (ha : SE X a ta) (hb : SE X (.BoolOp .And (b :: rest) pos) tb) : SE X (.BoolOp .And (a :: b :: rest) pos) (aAnd ta tb) := by
  obtain ⟨t, p, s⟩ := ha
  obtain ⟨t', p', s'⟩ := hb
  refine ⟨_, pe_and p p', fun B T σ τ H Q AQ sr h k => s B T σ τ H _ _ sr h fun v x T1 H1 s1 r1 h1 => ?_⟩
  obtain ⟨i, rfl, q⟩ := onB_of h1
  refine ⟨i, r1.toB, ?_⟩
  cases i with
  | true => rw [if_pos rfl] at q ⊢; exact s' B T1 σ τ H1 _ _ (sr.stp s1) q fun w y T2 H2 s2 r2 h2 => k w y T2 H2 (s1.trans s2) r2 h2
  | false => rw [if_neg Bool.false_ne_true] at q ⊢; exact k _ _ T1 H1 s1 (.bl _) q
/-! ### tests -/
def aTst (ta : AE) : AT := fun τ Q => ta τ fun x => onB x Q
theorem sim_tst {t : TE} (s : SimE X.K t ta) : SimT X.K (tTest t) (aTst ta) := fun B T σ τ H Q AQ sr h k => s B T σ τ H _ _ sr h fun v x T1 H1 s1 r1 h1 => by
  obtain ⟨i, rfl, q⟩ := onB_of h1
  exact ⟨i, r1.toB, k _ T1 H1 s1 q⟩
theorem st_cmp {op : CmpOp} {r : R2} {f : Op2} (ho : OpR X (compareOp op) r ∧ SimR2 X.K r f) (ha : SE X a ta) (hb : SE X b tb) (hm : behindInMarks op b = false) : ST' X (.Compare a [op] [b] pos) (aTst (aOp f ta tb)) :=
  let ⟨_, p, s⟩ := ha; let ⟨_, p', s'⟩ := hb; ⟨_, pt_cmpR ho.1 p p' hm, sim_tst (sim_op ho.2 s s')⟩
theorem st_val {e : Expr} (h : SE X e ta) (he : ∀ whole, isTrue e X.env whole = (do let v ← whole; standAt e.pos; holding [v] (truthy v)) := by intro _; rfl) : ST' X e (aTst ta) :=
  let ⟨_, p, s⟩ := h; ⟨_, pt_val p he, sim_tst s⟩
def aNotT (t : AT) : AT := fun τ Q => t τ fun c => Q (!c)
def aAndT (t u : AT) : AT := fun τ Q => t τ fun c => if c = true then u τ Q else Q false
def aOrT (t u : AT) : AT := fun τ Q => t τ fun c => if c = true then Q true else u τ Q
theorem st_not (ha : ST' X a tA) : ST' X (.UnaryOp .Not a pos) (aNotT tA) := by
  obtain ⟨t, p, s⟩ := ha
  exact ⟨_, pt_not p, fun B T σ τ H Q AQ sr h k => s B T σ τ H _ _ sr h fun v T1 H1 s1 h1 => k _ T1 H1 s1 h1⟩
theorem sw_and1 (ha : ST' X a tA) : SW X (.BoolOp .And [a] pos) tA := let ⟨_, p, s⟩ := ha; ⟨_, pw_and1 p, s⟩
theorem sw_or1 (ha : ST' X a tA) : SW X (.BoolOp .Or [a] pos) tA := let ⟨_, p, s⟩ := ha; ⟨_, pw_or1 p, s⟩
theorem sw_and {rest : List Expr} (ha : ST' X a tA) (hb : SW X (.BoolOp .And (b :: rest) pos) tB') : SW X (.BoolOp .And (a :: b :: rest) pos) (aAndT tA tB') := by
  obtain ⟨t, p, s⟩ := ha
  obtain ⟨t', p', s'⟩ := hb
  refine ⟨_, pw_and p p', fun B T σ τ H Q AQ sr h k => s B T σ τ H _ _ sr h fun i T1 H1 s1 q => ?_⟩
  cases i with
  | true => rw [if_pos rfl] at q ⊢; exact s' B T1 σ τ H1 _ _ (sr.stp s1) q fun b T2 H2 s2 h2 => k b T2 H2 (s1.trans s2) h2
  | false => rw [if_neg Bool.false_ne_true] at q ⊢; exact k _ T1 H1 s1 q
theorem sw_or {rest : List Expr} (ha : ST' X a tA) (hb : SW X (.BoolOp .Or (b :: rest) pos) tB') : SW X (.BoolOp .Or (a :: b :: rest) pos) (aOrT tA tB') := by
  obtain ⟨t, p, s⟩ := ha
  obtain ⟨t', p', s'⟩ := hb
  refine ⟨_, pw_or p p', fun B T σ τ H Q AQ sr h k => s B T σ τ H _ _ sr h fun i T1 H1 s1 q => ?_⟩
  cases i with
  | false => rw [if_neg Bool.false_ne_true] at q ⊢; exact s' B T1 σ τ H1 _ _ (sr.stp s1) q fun b T2 H2 s2 h2 => k b T2 H2 (s1.trans s2) h2
  | true => rw [if_pos rfl] at q ⊢; exact k _ T1 H1 s1 q
theorem st_w (h : SW X a tA) : ST' X a tA := let ⟨_, p, s⟩ := h; ⟨_, p.pt, s⟩
def aIf (t : AT) (ta tb : AE) : AE := fun τ Q => t τ fun c => if c = true then ta τ Q else tb τ Q
theorem se_if (hc : ST' X c tA) (ha : SE X a ta) (hb : SE X b tb) : SE X (.IfExp c a b pos) (aIf tA ta tb) := by
  obtain ⟨t, p, s⟩ := hc
  obtain ⟨t1, p1, s1'⟩ := ha
  obtain ⟨t2, p2, s2'⟩ := hb
  refine ⟨_, pe_ifExp p p1 p2, fun B T σ τ H Q AQ sr h k => s B T σ τ H _ _ sr h fun i T1 H1 s1 q => ?_⟩
  cases i with
  | true => rw [if_pos rfl] at q ⊢; exact s1' B T1 σ τ H1 _ _ (sr.stp s1) q fun w y T2 H2 s2 r2 h2 => k w y T2 H2 (s1.trans s2) r2 h2
  | false => rw [if_neg Bool.false_ne_true] at q ⊢; exact s2' B T1 σ τ H1 _ _ (sr.stp s1) q fun w y T2 H2 s2 r2 h2 => k w y T2 H2 (s1.trans s2) r2 h2
/-! ### lists of arguments, tuples, lists -/
def aNil : AA := fun _ Q => Q []
def aCons (ta : AE) (r : AA) : AA := fun τ Q => ta τ fun x => r τ fun xs => Q (x :: xs)
theorem sa_nil : SA X [] aNil := ⟨_, pa_nil, fun B T σ τ H Q AQ sr h k => k [] [] T H (.refl sr.tp) .nil h⟩
theorem sa_cons {e : Expr} {r : AA} (ha : SE X e ta) (hr : SA X es r) (hs : starEach (e :: es) X.env = (false, eval e X.env) :: starEach es X.env := by rfl) : SA X (e :: es) (aCons ta r) := by
  obtain ⟨t, p, s⟩ := ha
  obtain ⟨t', p', s'⟩ := hr
  refine ⟨_, pa_cons p p' hs, fun B T σ τ H Q AQ sr h k => s B T σ τ H _ _ sr h fun v x T1 H1 s1 r1 h1 => ?_⟩
  exact s' B T1 σ τ H1 _ _ (sr.stp s1) h1 fun vs xs T2 H2 s2 r2 h2 => k _ _ T2 H2 (s1.trans s2) (.cons (r1.stp s2 (sr.stp s1).va) r2) h2
def aTup (r : AA) : AE := fun τ Q => r τ fun xs => xs.length ≤ sizeLine ∧ Q (.tup xs)
theorem se_tup {x1} {r : AA} (h : SA X es r) : SE X (.Tuple es x1 pos) (aTup r) := by
  obtain ⟨t, p, s⟩ := h
  refine ⟨_, pe_tup p, fun B T σ τ H Q AQ sr h k => s B T σ τ H _ _ sr h fun vs xs T1 H1 s1 r1 h1 => ⟨by rw [r1.length]; exact h1.1, fun q hq => ?_⟩⟩
  have l := Stp.lay (o := .tup vs) (sr.stp s1).tp hq
  exact k _ _ T1 _ (s1.trans l) (.tup (.inl upd_same) (r1.stp l (sr.stp s1).va)) h1.2
def aLst (r : AA) : AA := fun τ Q => r τ fun xs => xs.length ≤ sizeLine ∧ Q xs
/-- a list laid new over a state -/
theorem lay_new {K : PySem.W.Frag} {B : Base} {T : Addr → Prop} {H : Hp} {σ : L2.St} {τ : ASt} {p : Addr} {vs : List V} {xs : List PV} (sr : SR K B T H σ τ) (hq : H p = none) (r : Reps K T (mt B σ τ) H vs xs) :
    Stp T H T (upd H p (.lst vs)) ∧ SR K (B.add p) T (upd H p (.lst vs)) σ τ ∧ ¬ T p ∧ Reps K T (mt (B.add p) σ τ) (upd H p (.lst vs)) vs xs := by
  have l := Stp.lay (o := .lst vs) sr.tp hq
  have nt : ¬ T p := fun z => by obtain ⟨o, e, _⟩ := (sr.tp p z).mut; rw [hq] at e; cases e
  refine ⟨l, sr.add l hq upd_same MutH.lst nt, nt, r.mv ⟨sr.va, fun b o t _ e => l.keep b o t e, l.sub, fun b n t => t, fun b n z => ?_⟩⟩
  rcases z with (z | z) | z
  · exact .inl z
  · subst z; exact absurd hq n
  · exact .inr z
theorem sf_lst {r : AA} (h : SA X es r) : SF X (.List es pos) (aLst r) := by
  obtain ⟨t, p, s⟩ := h
  refine ⟨_, pe_lst p, fun B T σ τ H Q AQ sr h k => s B T σ τ H _ _ sr h fun vs xs T1 H1 s1 r1 h1 => ⟨by rw [r1.length]; exact h1.1, fun q hq => ?_⟩⟩
  obtain ⟨l, sr2, nt, r2⟩ := lay_new (sr.stp s1) hq r1
  exact k q vs xs T1 _ (s1.trans l) sr2 (s1.none hq) upd_same nt r2 h1.2
/-- a new list as a value -/
def aFr (r : AA) : AE := fun τ Q => r τ fun xs => Q (.lst xs)
theorem sim_fr {t : TE} {r : AA} (s : SimF X.K t r) : SimE X.K t (aFr r) := fun B T σ τ H Q AQ sr h k => s B T σ τ H _ _ sr h fun p vs xs T1 H1 s1 sr1 hn hp nt r1 h1 => by
  have ho : ¬ ownA σ τ p := fun o => by obtain ⟨_, e, _⟩ := sr.ownH o; rw [hn] at e; cases e
  have hb : ¬ B.M p := fun o => by obtain ⟨_, e, _⟩ := sr.bm p o; rw [hn] at e; cases e
  exact k _ _ T1 H1 s1 (.lst hp nt (fun z => z.elim hb ho) (r1.mv (.anti sr1.va fun a m => m.elim (fun z => .inl (.inl z)) .inr))) h1
theorem se_f {r : AA} (h : SF X a r) : SE X a (aFr r) := let ⟨_, p, s⟩ := h; ⟨_, p, sim_fr s⟩
/-! ### calls of defs -/
def spA (K : PySem.W.Frag) (n : Nat) (F : AF) : Sp := fun vs H Q _ => ∃ (T M : Addr → Prop) (xs : List PV) (AQ : PV → Prop), Val T M H ∧ (∀ a, M a → ¬ T a) ∧ Reps K T M H vs xs ∧ xs.length = n ∧ F xs AQ ∧
  ∀ v x T' H', Stp T H T' H' → Rep K T' M H' v x → AQ x → Q v H'
def aCall (n : Nat) (F : AF) (r : AA) : AE := fun τ Q => r τ fun xs => xs.length = n ∧ F xs Q
theorem se_call {x : Str} {p : Pos} {e : Expr} {k n : Nat} {ps : List Str} {F : AF} {r : AA} (D : Has X.prog X.w X.K X.mg X.base k x ps (spA X.K n F)) (hr : Room k X.A) (hg : Gl X x) (ha : SA X (e :: es) r)
    (hs : starEach (e :: es) X.env = (false, eval e X.env) :: starEach es X.env := by rfl) (hpl : (backTo pos (starEach es X.env)).any (·.1) = false := by rfl) (hd : (x == ("__debug__" : Str)) = false := by decide) :
    SE X (.Call (.Name x p) (e :: es) [] pos) (aCall n F r) := by
  obtain ⟨t, pa, s⟩ := ha
  refine ⟨_, pe_has D hr hg pa hs hpl hd, fun B T σ τ H Q AQ sr h k => s B T σ τ H _ _ sr h fun vs xs T1 H1 s1 r1 h1 => ?_⟩
  rw [List.append_nil]
  exact ⟨T1, _, xs, AQ, (sr.stp s1).va, fun a m => (sr.stp s1).nt m, r1, h1.1, h1.2, fun v x T2 H2 s2 r2 q => k v x T2 H2 (s1.trans s2) r2 q⟩
/-! ### calls of built-in things -/
def aCB (f : AF) (r : AA) : AE := fun τ Q => r τ fun xs => f xs Q
theorem sim_cb {rr : List V → Hp → VK → Prop} {f : AF} {t : TA} {r : AA} (hr : SimRL X.K rr f) (s : SimA X.K t r) : SimE X.K (tCB rr t) (aCB f r) := fun B T σ τ H Q AQ sr h k => s B T σ τ H _ _ sr h fun vs xs T1 H1 s1 r1 h1 =>
  hr T1 _ H1 vs xs Q AQ (sr.stp s1).va r1 h1 fun w z T2 H2 s2 r2 q => k w z T2 H2 (s1.trans s2) r2 q
theorem se_callB {id : String} {x : Str} {p : Pos} {e : Expr} {rr : List V → Hp → VK → Prop} {f : AF} {r : AA} (hc : CallR X (.builtin id) rr ∧ SimRL X.K rr f) (hg : Gl X x) (hm : X.mg x = none) (hv : bootBuiltins x = some (.builtin id)) (ha : SA X (e :: es) r)
    (hn : x ≠ "__name__" := by decide) (hdb : (x == ("__debug__" : Str)) = false := by decide) (he : starEach (e :: es) X.env = (false, eval e X.env) :: starEach es X.env := by rfl) (hpl : (backTo pos (starEach es X.env)).any (·.1) = false := by rfl) :
    SE X (.Call (.Name x p) (e :: es) [] pos) (aCB f r) := by
  obtain ⟨t, pa, s⟩ := ha
  exact ⟨_, pe_callB hc.1 hg hm hv pa hn hdb he hpl, sim_cb hc.2 s⟩
theorem se_callTy {T : String} {x : Str} {p : Pos} {e : Expr} {rr : List V → Hp → VK → Prop} {f : AF} {r : AA} (hc : CallR X (.type T) rr ∧ SimRL X.K rr f) (hg : Gl X x) (hm : X.mg x = none) (hv : bootBuiltins x = some (.type T)) (ha : SA X (e :: es) r)
    (hn : x ≠ "__name__" := by decide) (hdb : (x == ("__debug__" : Str)) = false := by decide) (he : starEach (e :: es) X.env = (false, eval e X.env) :: starEach es X.env := by rfl) (hpl : (backTo pos (starEach es X.env)).any (·.1) = false := by rfl) :
    SE X (.Call (.Name x p) (e :: es) [] pos) (aCB f r) := by
  obtain ⟨t, pa, s⟩ := ha
  exact ⟨_, pe_callTy hc.1 hg hm hv pa hn hdb he hpl, sim_cb hc.2 s⟩
end
end PL
end
section
set_option Elab.async false
set_option linter.all false
set_option maxRecDepth 100000
set_option maxHeartbeats 4000000
/-! What a construct does to values without a heap, and that it is so. Built-in things, statements, loops, comprehensions, defs. -/
namespace PL
open PySem PySem.Spec PyProof.Rows L2
section
variable {X : Cx}
/-! ### built-in things -/
theorem sqT_or {K : PySem.W.Frag} {T M : Addr → Prop} {H : Hp} {v : V} {xs : List PV} (r : Rep K T M H v (.tup xs)) : ∃ a vs, v = .ref a ∧ SqT K H a vs ∧ Reps K T M H vs xs := by
  cases r with
  | tup h r => exact ⟨_, _, rfl, h.sq, r⟩
theorem sqU_or {K : PySem.W.Frag} {T M : Addr → Prop} {H : Hp} {v : V} {xs : List PV} (r : Rep K T M H v (.tup xs)) : ∃ a vs, v = .ref a ∧ SqU K H a vs ∧ Reps K T M H vs xs := by
  cases r with
  | tup h r => exact ⟨_, _, rfl, h, r⟩
theorem sqL_or {K : PySem.W.Frag} {T M : Addr → Prop} {H : Hp} {v : V} {xs : List PV} (r : Rep K T M H v (.lst xs)) : ∃ a vs, v = .ref a ∧ H a = some (.lst vs) ∧ ¬ T a ∧ ¬ M a ∧ Reps K T M H vs xs := by
  cases r with
  | lst h t m r => exact ⟨_, _, rfl, h, t, m, r⟩
theorem scr_or {K : PySem.W.Frag} {T M : Addr → Prop} {H : Hp} {v : V} {ns : List Int} (r : Rep K T M H v (.scr ns)) : ∃ a, v = .ref a ∧ SqL K H a (ns.map V.int) := by
  cases r with
  | scr h =>
    rcases h with ⟨h, _, _⟩ | h
    · exact ⟨_, rfl, .inl h⟩
    · exact ⟨_, rfl, h H⟩
def gLen : AF := fun xs Q => match xs with | [.tup ys] => Q (.int ys.length) | [.lst ys] => Q (.int ys.length) | [.scr ns] => Q (.int ns.length) | _ => False
def rLen (K : PySem.W.Frag) : List V → Hp → VK → Prop := fun xs H Q => ∃ p ys, xs = [.ref p] ∧ (SqL K H p ys ∨ SqT K H p ys) ∧ Q (.int ys.length) H
theorem sb_len : CallR X (.builtin "len") (rLen X.K) ∧ SimRL X.K (rLen X.K) gLen := by
  refine ⟨call_len_seq, fun T M H us xs Q AQ va r h k => ?_⟩
  unfold gLen at h
  split at h <;> first | exact h.elim | skip
  · rename_i ys
    cases r with | cons r t => cases t; obtain ⟨a, vs, rfl, hq, r⟩ := sqT_or r; refine ⟨a, vs, rfl, .inr hq, ?_⟩; rw [r.length]; exact k _ _ T H (.refl va.tp) (.int _) h
  · rename_i ys
    cases r with | cons r t => cases t; obtain ⟨a, vs, rfl, hq, _, _, r⟩ := sqL_or r; refine ⟨a, vs, rfl, .inl (.inl (.inl hq)), ?_⟩; rw [r.length]; exact k _ _ T H (.refl va.tp) (.int _) h
  · rename_i ns
    cases r with | cons r t => cases t; obtain ⟨a, rfl, hq⟩ := scr_or r; refine ⟨a, _, rfl, .inl hq, ?_⟩; rw [List.length_map]; exact k _ _ T H (.refl va.tp) (.int _) h
def gAbs : AF := fun xs Q => match xs with | [.int i] => Q (.int i.natAbs) | _ => False
theorem sb_abs : CallR X (.builtin "abs") (fun xs H Q => ∃ i, xs = [.int i] ∧ Q (.int (if i < 0 then -i else i)) H) ∧ SimRL X.K (fun xs H Q => ∃ i, xs = [.int i] ∧ Q (.int (if i < 0 then -i else i)) H) gAbs := by
  refine ⟨call_abs, fun T M H us xs Q AQ va r h k => ?_⟩
  unfold gAbs at h
  split at h <;> first | exact h.elim | skip
  rename_i i
  cases r with
  | cons r t =>
    cases t
    cases r
    refine ⟨i, rfl, ?_⟩
    rw [show (if i < 0 then -i else i) = (i.natAbs : Int) by split <;> omega]
    exact k _ _ T H (.refl va.tp) (.int _) h
def gI2 (g : Int → Int → Int) : AF := fun xs Q => match xs with | [.int i, .int j] => Q (.int (g i j)) | _ => False
theorem sim_I2 {g g' : Int → Int → Int} (hg : ∀ i j, g i j = g' i j) : SimRL X.K (fun xs H Q => ∃ i j, xs = [.int i, .int j] ∧ Q (.int (g i j)) H) (gI2 g') := by
  intro T M H us xs Q AQ va r h k
  unfold gI2 at h
  split at h <;> first | exact h.elim | skip
  rename_i i j
  cases r with
  | cons r t =>
    cases t with
    | cons r2 t =>
      cases t; cases r; cases r2
      refine ⟨i, j, rfl, ?_⟩
      rw [hg]
      exact k _ _ T H (.refl va.tp) (.int _) h
theorem sb_min (hc : X.calm = true) : CallR X (.builtin "min") (fun xs H Q => ∃ i j, xs = [.int i, .int j] ∧ Q (.int (if j < i then j else i)) H) ∧ SimRL X.K (fun xs H Q => ∃ i j, xs = [.int i, .int j] ∧ Q (.int (if j < i then j else i)) H) (gI2 min) :=
  ⟨call_min2 hc, sim_I2 fun i j => by split <;> omega⟩
def gInt : AF := fun xs Q => match xs with | [.int i] => Q (.int i) | [.bl k] => Q (.int (if k then 1 else 0)) | _ => False
theorem sb_int : CallR X (.type "int") (fun xs H Q => (∃ i, xs = [.int i] ∧ Q (.int i) H) ∨ ∃ k, xs = [.bl k] ∧ Q (.int (if k then 1 else 0)) H) ∧ SimRL X.K (fun xs H Q => (∃ i, xs = [.int i] ∧ Q (.int i) H) ∨ ∃ k, xs = [.bl k] ∧ Q (.int (if k then 1 else 0)) H) gInt := by
  refine ⟨call_int1, fun T M H us xs Q AQ va r h k => ?_⟩
  unfold gInt at h
  split at h <;> first | exact h.elim | skip
  · cases r with | cons r t => cases t; cases r; exact .inl ⟨_, rfl, k _ _ T H (.refl va.tp) (.int _) h⟩
  · cases r with | cons r t => cases t; cases r; exact .inr ⟨_, rfl, k _ _ T H (.refl va.tp) (.int _) h⟩
def gTuple : AF := fun xs Q => match xs with | [.tup ys] => Q (.tup ys) | [.lst ys] => Q (.tup ys) | _ => False
def rTuple (K : PySem.W.Frag) : List V → Hp → VK → Prop := fun xs H Q => ∃ p ys, xs = [.ref p] ∧ ((SqL K H p ys ∧ ∀ l, H l = none → Q (.ref l) (upd H l (.tup ys))) ∨ (SqT K H p ys ∧ Q (.ref p) H))
theorem sb_tuple : CallR X (.type "tuple") (rTuple X.K) ∧ SimRL X.K (rTuple X.K) gTuple := by
  refine ⟨call_tuple_of, fun T M H us xs Q AQ va r h k => ?_⟩
  unfold gTuple at h
  split at h <;> first | exact h.elim | skip
  · cases r with | cons r t => cases t; obtain ⟨a, vs, rfl, hq, r'⟩ := sqU_or r; exact ⟨a, vs, rfl, .inr ⟨hq.sq, k _ _ T H (.refl va.tp) (.tup hq r') h⟩⟩
  · cases r with
    | cons r t =>
      cases t
      obtain ⟨a, vs, rfl, hq, _, _, r'⟩ := sqL_or r
      refine ⟨a, vs, rfl, .inl ⟨.inl (.inl hq), fun l hl => ?_⟩⟩
      have s := Stp.lay (o := .tup vs) va.tp hl
      exact k _ _ T _ s (.tup (.inl upd_same) (r'.stp s va)) h
/-! isinstance -/
def kdOf : PV → Option Kd
  | .non => some .non | .bl _ => some .bl | .int _ => some .int | .str _ => some .str | .tup _ => some .tup | .lst _ => some .lst | .tape => none | .scr _ => none | .ty _ => none | .dct _ => none
def gIsi : AF := fun xs Q => match xs with | [x, .ty T] => isTyp T ∧ (match kdOf x with | some k => Q (.bl (isiB k T)) | none => False) | _ => False
theorem sb_isi : CallR X (.builtin "isinstance") (rIsi X.K) ∧ SimRL X.K (rIsi X.K) gIsi := by
  refine ⟨call_isi, fun T M H us xs Q AQ va r h k => ?_⟩
  unfold gIsi at h
  split at h <;> first | exact h.elim | skip
  rename_i x ty
  obtain ⟨ht, h⟩ := h
  cases r with
  | cons r t =>
    cases t with
    | cons r2 t =>
      cases t; cases r2
      cases r with
      | non => exact ⟨_, _, .non, rfl, ht, rfl, k _ _ T H (.refl va.tp) (.bl _) h⟩
      | bl b => exact ⟨_, _, .bl, rfl, ht, ⟨_, rfl⟩, k _ _ T H (.refl va.tp) (.bl _) h⟩
      | int b => exact ⟨_, _, .int, rfl, ht, ⟨_, rfl⟩, k _ _ T H (.refl va.tp) (.bl _) h⟩
      | str b => exact ⟨_, _, .str, rfl, ht, ⟨_, rfl⟩, k _ _ T H (.refl va.tp) (.bl _) h⟩
      | ty b => exact h.elim
      | tup hq _ => exact ⟨_, _, .tup, rfl, ht, ⟨_, _, rfl, hq.sq⟩, k _ _ T H (.refl va.tp) (.bl _) h⟩
      | lst hq _ _ _ => exact ⟨_, _, .lst, rfl, ht, ⟨_, _, rfl, .inl (.inl hq)⟩, k _ _ T H (.refl va.tp) (.bl _) h⟩
      | tape _ => exact h.elim
      | scr _ => exact h.elim
      | dct _ _ _ => exact h.elim
/-! all, any -/
def blsOf : List PV → Option (List Bool)
  | [] => some []
  | .bl b :: r => (blsOf r).map (b :: ·)
  | _ => none
theorem bls_rep {K : PySem.W.Frag} {T M : Addr → Prop} {H : Hp} : ∀ {vs : List V} {xs : List PV} {bs : List Bool}, Reps K T M H vs xs → blsOf xs = some bs → vs = bs.map V.bl
  | _, _, _, .nil, e => by simp [blsOf] at e; subst e; rfl
  | _, _, bs, .cons h t, e => by
    cases h <;> simp [blsOf] at e
    obtain ⟨c, e1, e2⟩ := e
    subst e2
    simp [bls_rep t e1]
def gAll (g : List Bool → Bool) : AF := fun xs Q => match xs with | [.lst ys] => (match blsOf ys with | some bs => Q (.bl (g bs)) | none => False) | _ => False
theorem sim_all {g : List Bool → Bool} : SimRL X.K (rAll X.K g) (gAll g) := by
  intro T M H us xs Q AQ va r h k
  unfold gAll at h
  split at h <;> first | exact h.elim | skip
  split at h <;> first | exact h.elim | skip
  rename_i bs e
  cases r with
  | cons r t =>
    cases t
    obtain ⟨a, ws, rfl, hq, _, _, r'⟩ := sqL_or r
    have := bls_rep r' e
    subst this
    exact ⟨a, bs, rfl, .inl (.inl hq), k _ _ T H (.refl va.tp) (.bl _) h⟩
theorem sb_all (hc : X.calm = true) : CallR X (.builtin "all") (rAll X.K fun bs => bs.all id) ∧ SimRL X.K (rAll X.K fun bs => bs.all id) (gAll fun bs => bs.all id) := ⟨call_allB hc, sim_all⟩
/-! equality of plain values: not of tuples, lists (yet) -/
def scalP : PV → PV → Option Bool
  | .non, .non => some true | .non, .int _ => some false | .int _, .non => some false | .non, .bl _ => some false | .bl _, .non => some false | .non, .str _ => some false | .str _, .non => some false
  | .int i, .int j => some (decide (i = j)) | .bl i, .bl j => some (decide (i = j)) | .str i, .str j => some (decide (i = j))
  | .int _, .str _ => some false | .str _, .int _ => some false | .bl _, .str _ => some false | .str _, .bl _ => some false
  | _, _ => none
theorem scal_rep {K : PySem.W.Frag} {T M : Addr → Prop} {H : Hp} {u v : V} {x y : PV} {b : Bool} (r : Rep K T M H u x) (r2 : Rep K T M H v y) (e : scalP x y = some b) : scal u v = true ∧ decide (u = v) = b := by
  cases r <;> cases r2 <;> simp [scalP] at e <;> subst e <;> simp [scal]
/-! truth of a list, a tuple, a number -/
def truP : PV → Option Bool
  | .non => some false | .bl b => some b | .int i => some (i != 0) | .tup xs => some (!xs.isEmpty) | .lst xs => some (!xs.isEmpty) | _ => none
def aTru (ta : AE) : AT := fun τ Q => ta τ fun x => match truP x with | some b => Q b | none => False
theorem isEmpty_reps {K : PySem.W.Frag} {T M : Addr → Prop} {H : Hp} {vs : List V} {xs : List PV} (r : Reps K T M H vs xs) : vs.isEmpty = xs.isEmpty := by cases r <;> rfl
theorem st_tru {a : Expr} {ta : AE} (ha : SE X a ta) (he : ∀ whole, isTrue a X.env whole = (do let v ← whole; standAt a.pos; holding [v] (truthy v)) := by intro _; rfl) : ST' X a (aTru ta) := by
  obtain ⟨t, p, s⟩ := ha
  refine ⟨_, pt_truth p he, fun B T σ τ H Q AQ sr h k => s B T σ τ H _ _ sr h fun v x T1 H1 s1 r1 h1 => ?_⟩
  cases e : truP x with
  | none => rw [e] at h1; exact h1.elim
  | some b =>
    rw [e] at h1
    refine ⟨b, ?_, k b T1 H1 s1 h1⟩
    cases r1 <;> simp [truP] at e
    · exact e
    · exact e.symm
    · exact e.symm
    · rename_i hq rr; exact .inr (.inl ⟨_, hq.sq, by rw [isEmpty_reps rr, e]; simp⟩)
    · rename_i hq _ _ rr; exact .inl ⟨_, .inl (.inl hq), by rw [isEmpty_reps rr, e]; simp⟩
end
end PL
end
section
set_option Elab.async false
set_option linter.all false
set_option maxRecDepth 100000
set_option maxHeartbeats 4000000
/-! Statements, targets, loops, comprehensions, defs over values without a heap. -/
namespace PL
open PySem PySem.Spec PyProof.Rows L2
structure AEnds where
  nx : ASt → Prop
  rt : PV → Prop
  bk : ASt → Prop
  ct : ASt → Prop
abbrev AS := AEnds → ASt → Prop
/-- a statement's step -/
structure Prog (T : Addr → Prop) (H : Hp) (σ : L2.St) (τ : ASt) (T' : Addr → Prop) (H' : Hp) (σ' : L2.St) (τ' : ASt) : Prop where
  keep : ∀ b o, ¬ T b → ¬ ownA σ τ b → H b = some o → H' b = some o
  sub : ∀ b, T b → T' b
  new : ∀ b, T' b → T b ∨ H b = none
  own : ∀ b, ownA σ' τ' b → ownA σ τ b ∨ H b = none
  some : ∀ b, H b ≠ none → H' b ≠ none
section
variable {K : PySem.W.Frag} {B : Base} {T T' T1 T2 : Addr → Prop} {H H' H1 H2 : Hp} {σ σ' σ1 σ2 : L2.St} {τ τ' τ1 τ2 : ASt}
theorem Prog.refl : Prog T H σ τ T H σ τ := ⟨fun _ _ _ _ e => e, fun _ t => t, fun _ t => .inl t, fun _ o => .inl o, fun _ h => h⟩
theorem Prog.trans (a : Prog T H σ τ T1 H1 σ1 τ1) (b : Prog T1 H1 σ1 τ1 T2 H2 σ2 τ2) : Prog T H σ τ T2 H2 σ2 τ2 where
  keep := fun c o t w e => b.keep c o (fun z => (a.new c z).elim t fun n => by rw [n] at e; cases e) (fun z => (a.own c z).elim w fun n => by rw [n] at e; cases e) (a.keep c o t w e)
  sub := fun c t => b.sub c (a.sub c t)
  new := fun c t => (b.new c t).elim (fun z => a.new c z) fun z => .inr (by
    cases e : H c with
    | none => rfl
    | some o => exact absurd z (a.some c (by rw [e]; exact fun e => nomatch e)))
  own := fun c t => (b.own c t).elim (fun z => a.own c z) fun z => .inr (by
    cases e : H c with
    | none => rfl
    | some o => exact absurd z (a.some c (by rw [e]; exact fun e => nomatch e)))
  some := fun c h => b.some c (a.some c h)
theorem Stp.prog (s : Stp T H T' H') : Prog T H σ τ T' H' σ τ := ⟨fun b o t _ e => s.keep b o t e, s.sub, s.new, fun _ o => .inl o, fun _ h => s.some h⟩
/-- fewer are owned -/
theorem Prog.less (h : ∀ b, ownA σ' τ' b → ownA σ τ b) : Prog T H σ τ T H σ' τ' := ⟨fun _ _ _ _ e => e, fun _ t => t, fun _ t => .inl t, fun b o => .inl (h b o), fun _ h => h⟩
structure ER (K : PySem.W.Frag) (B : Base) (T : Addr → Prop) (H : Hp) (σ : L2.St) (τ : ASt) (D : Ends) (AD : AEnds) : Prop where
  nx : ∀ T' H' σ' τ', Prog T H σ τ T' H' σ' τ' → SR K B T' H' σ' τ' → AD.nx τ' → D.nx σ' H'
  bk : ∀ T' H' σ' τ', Prog T H σ τ T' H' σ' τ' → SR K B T' H' σ' τ' → AD.bk τ' → D.bk σ' H'
  ct : ∀ T' H' σ' τ', Prog T H σ τ T' H' σ' τ' → SR K B T' H' σ' τ' → AD.ct τ' → D.ct σ' H'
  rt : ∀ v x T' H', Stp B.T B.H T' H' → Rep K T' B.M H' v x → AD.rt x → D.rt v H'
theorem ER.shift {D : Ends} {AD : AEnds} (e : ER K B T H σ τ D AD) (p : Prog T H σ τ T1 H1 σ1 τ1) : ER K B T1 H1 σ1 τ1 D AD :=
  ⟨fun _ _ _ _ q => e.nx _ _ _ _ (p.trans q), fun _ _ _ _ q => e.bk _ _ _ _ (p.trans q), fun _ _ _ _ q => e.ct _ _ _ _ (p.trans q), e.rt⟩
end
def SimS (K : PySem.W.Frag) (t : TS) (a : AS) : Prop := ∀ (B : Base) (T : Addr → Prop) (σ : L2.St) (τ : ASt) (H : Hp) (D : Ends) (AD : AEnds), SR K B T H σ τ → a AD τ → ER K B T H σ τ D AD → t D σ H
def SS (X : Cx) (st : Stmt) (a : AS) : Prop := ∃ t, PS X st t ∧ SimS X.K t a
def SSs (X : Cx) (st : List Stmt) (a : AS) : Prop := ∃ t, PSs X st t ∧ SimS X.K t a
/-! ### the store of one slot -/
theorem get_set {α : Type} {l : List α} {i j : Nat} {x y : α} (h : (l.set i x)[j]? = some y) : (j = i ∧ y = x ∧ i < l.length) ∨ (j ≠ i ∧ l[j]? = some y) := by
  by_cases e : j = i
  · subst e
    rw [List.getElem?_set] at h
    simp at h
    obtain ⟨h1, h2⟩ := h
    exact .inl ⟨rfl, h2.symm, h1⟩
  · rw [List.getElem?_set_ne (fun z => e z.symm)] at h
    exact .inr ⟨e, h⟩
section
variable {K : PySem.W.Frag} {B : Base} {T : Addr → Prop} {H : Hp} {σ : L2.St} {τ : ASt}
theorem own_set_val {i : Nat} {v : V} {x : PV} {b : Addr} (h : ownA (σ.set i (some v)) (τ.set i (some (.val x))) b) : ownA σ τ b := by
  obtain ⟨j, xs, h1, h2⟩ := h
  rcases get_set h1 with ⟨_, e, _⟩ | ⟨n, h1'⟩
  · cases e
  · rw [List.getElem?_set_ne (fun z => n z.symm)] at h2
    exact ⟨j, xs, h1', h2⟩
theorem SR.set {i : Nat} {v : V} {x : PV} (s : SR K B T H σ τ) (r : Rep K T (mt B σ τ) H v x) : SR K B T H (σ.set i (some v)) (τ.set i (some (.val x))) := by
  have mv : Mv K T (mt B σ τ) H T (mt B (σ.set i (some v)) (τ.set i (some (.val x)))) H := .anti s.va fun a m => m.elim .inl fun z => .inr (own_set_val z)
  refine ⟨by simp [s.len], fun j y e => ?_, fun j ys e => ?_, fun j k ys zs p e1 e2 e3 e4 => ?_, s.tp, s.bm, s.bt, s.st⟩
  · rcases get_set e with ⟨rfl, e', hl⟩ | ⟨n, e'⟩
    · cases e'
      refine ⟨v, by rw [List.getElem?_set]; simp [s.len, hl], r.mv mv⟩
    · obtain ⟨w, hw, rw'⟩ := s.val j y e'
      exact ⟨w, by rw [List.getElem?_set_ne (fun z => n z.symm)]; exact hw, rw'.mv mv⟩
  · rcases get_set e with ⟨_, e', _⟩ | ⟨n, e'⟩
    · cases e'
    · obtain ⟨p, vs, h1, h2, h3, h4⟩ := s.own j ys e'
      exact ⟨p, vs, by rw [List.getElem?_set_ne (fun z => n z.symm)]; exact h1, h2, h3.mv mv, h4⟩
  · rcases get_set e1 with ⟨_, e', _⟩ | ⟨n, e1'⟩
    · cases e'
    · rcases get_set e2 with ⟨_, e', _⟩ | ⟨n2, e2'⟩
      · cases e'
      · rw [List.getElem?_set_ne (fun z => n z.symm)] at e3
        rw [List.getElem?_set_ne (fun z => n2 z.symm)] at e4
        exact s.dist j k ys zs p e1' e2' e3 e4
theorem own_set_own {i : Nat} {p : Addr} {xs : List PV} {b : Addr} (h : ownA (σ.set i (some (.ref p))) (τ.set i (some (.own xs))) b) : ownA σ τ b ∨ b = p := by
  obtain ⟨j, ys, h1, h2⟩ := h
  rcases get_set h1 with ⟨rfl, e, _⟩ | ⟨n, h1'⟩
  · rcases get_set h2 with ⟨_, e', _⟩ | ⟨n, _⟩
    · cases e'; exact .inr rfl
    · exact absurd rfl n
  · rw [List.getElem?_set_ne (fun z => n z.symm)] at h2
    exact .inl ⟨j, ys, h1', h2⟩
/-- a slot takes a new list as its own -/
theorem SR.take {i : Nat} {p : Addr} {vs : List V} {xs : List PV} (s : SR K (B.add p) T H σ τ) (hp : H p = some (.lst vs)) (nt : ¬ T p) (no : ¬ ownA σ τ p) (nb : ¬ B.M p) (b0 : B.H p = none) (r : Reps K T (mt (B.add p) σ τ) H vs xs) :
    SR K B T H (σ.set i (some (.ref p))) (τ.set i (some (.own xs))) := by
  have mv : Mv K T (mt (B.add p) σ τ) H T (mt B (σ.set i (some (.ref p))) (τ.set i (some (.own xs)))) H := .anti s.va fun a m => by
    rcases m with m | m
    · exact .inl (.inl m)
    · rcases own_set_own m with z | z
      · exact .inr z
      · exact .inl (.inr z)
  refine ⟨by simp [s.len], fun j y e => ?_, fun j ys e => ?_, fun j k ys zs q e1 e2 e3 e4 => ?_, s.tp, fun a m => s.bm a (.inl m), fun a m => s.bt a (.inl m), s.st⟩
  · rcases get_set e with ⟨_, e', _⟩ | ⟨n, e'⟩
    · cases e'
    · obtain ⟨w, hw, rw'⟩ := s.val j y e'
      exact ⟨w, by rw [List.getElem?_set_ne (fun z => n z.symm)]; exact hw, rw'.mv mv⟩
  · rcases get_set e with ⟨rfl, e', hl⟩ | ⟨n, e'⟩
    · cases e'
      exact ⟨p, vs, by rw [List.getElem?_set]; simp [s.len, hl], hp, r.mv mv, b0, nt, nb⟩
    · obtain ⟨q, ws, h1, h2, h3, h4, h5, h6⟩ := s.own j ys e'
      exact ⟨q, ws, by rw [List.getElem?_set_ne (fun z => n z.symm)]; exact h1, h2, h3.mv mv, h4, h5, fun z => h6 (.inl z)⟩
  · rcases get_set e1 with ⟨a1, _, _⟩ | ⟨n, e1'⟩
    · rcases get_set e2 with ⟨a2, _, _⟩ | ⟨n2, e2'⟩
      · rw [a1, a2]
      · subst a1
        rw [List.getElem?_set_ne (fun z => n2 z.symm)] at e4
        rcases get_set e3 with ⟨_, e', _⟩ | ⟨n, _⟩
        · cases e'; exact absurd ⟨k, zs, e2', e4⟩ no
        · exact absurd rfl n
    · rw [List.getElem?_set_ne (fun z => n z.symm)] at e3
      rcases get_set e2 with ⟨a2, _, _⟩ | ⟨n2, e2'⟩
      · subst a2
        rcases get_set e4 with ⟨_, e', _⟩ | ⟨n, _⟩
        · cases e'; exact absurd ⟨j, ys, e1', e3⟩ no
        · exact absurd rfl n
      · rw [List.getElem?_set_ne (fun z => n2 z.symm)] at e4
        exact s.dist j k ys zs q e1' e2' e3 e4
/-- an owned list is written -/
theorem SR.write {i : Nat} {p : Addr} {ws vs : List V} {xs ys : List PV} (s : SR K B T H σ τ) (ht : τ[i]? = some (some (.own xs))) (hs : σ[i]? = some (some (.ref p))) (hp : H p = some (.lst ws)) (r : Reps K T (mt B σ τ) H vs ys) :
    SR K B T (upd H p (.lst vs)) σ (τ.set i (some (.own ys))) ∧ Prog T H σ τ T (upd H p (.lst vs)) σ (τ.set i (some (.own ys))) := by
  obtain ⟨p', ws', e1, e2, r0, b0, nt, nb⟩ := s.own i xs ht
  rw [hs] at e1; cases e1
  have hs' : σ.set i (some (.ref p)) = σ := by
    apply List.ext_getElem?
    intro k
    by_cases hk : i = k
    · subst hk
      rw [List.getElem?_set, hs]
      simp [(List.getElem?_eq_some_iff.mp hs).1]
    · rw [List.getElem?_set_ne hk]
  have owp : ownA σ τ p := ⟨i, xs, ht, hs⟩
  have ow : ∀ b, ownA σ (τ.set i (some (.own ys))) b → ownA σ τ b := fun b h => by
    obtain ⟨j, zs, h1, h2⟩ := h
    rcases get_set h1 with ⟨rfl, e, _⟩ | ⟨n, h1'⟩
    · exact ⟨j, xs, ht, h2⟩
    · exact ⟨j, zs, h1', h2⟩
  have mv : Mv K T (mt B σ τ) H T (mt B σ (τ.set i (some (.own ys)))) (upd H p (.lst vs)) := ⟨s.va, fun b o _ m e => by
      rw [upd_ne (fun z => m (by subst z; exact .inr owp))]; exact e, fun _ t => t, fun _ _ t => t, fun b _ m => m.elim .inl fun z => .inr (ow b z)⟩
  refine ⟨⟨by simp [s.len], fun j y e => ?_, fun j zs e => ?_, fun j k zs us q h1 h2 h3 h4 => ?_, fun a t => ?_, fun a m => ?_, s.bt, ?_⟩, ⟨fun b o t w e => by rw [upd_ne (fun z => w (by subst z; exact owp))]; exact e, fun _ t => t, fun _ t => .inl t, fun b o => .inl (ow b o), fun b h => ?_⟩⟩
  · rcases get_set e with ⟨_, e', _⟩ | ⟨n, e'⟩
    · cases e'
    · obtain ⟨v, h, rr⟩ := s.val j y e'
      exact ⟨v, h, rr.mv mv⟩
  · rcases get_set e with ⟨rfl, e', _⟩ | ⟨n, e'⟩
    · cases e'
      exact ⟨p, vs, hs, upd_same, r.mv mv, b0, nt, nb⟩
    · obtain ⟨q, us, h1, h2, h3, h4⟩ := s.own j zs e'
      have hq : q ≠ p := fun z => by subst z; exact n (s.dist j i zs xs q e' ht h1 hs)
      exact ⟨q, us, h1, by rw [upd_ne hq]; exact h2, h3.mv mv, h4⟩
  · rcases get_set h1 with ⟨rfl, _, _⟩ | ⟨n, h1'⟩
    · rcases get_set h2 with ⟨rfl, _, _⟩ | ⟨n2, h2'⟩
      · rfl
      · exact s.dist _ k xs us q ht h2' h3 h4
    · rcases get_set h2 with ⟨rfl, _, _⟩ | ⟨n2, h2'⟩
      · exact s.dist j _ zs xs q h1' ht h3 h4
      · exact s.dist j k zs us q h1' h2' h3 h4
  · obtain ⟨d, x, e, z⟩ := s.tp a t
    exact ⟨d, x, by rw [upd_ne (fun w => by subst w; exact nt t)]; exact e, z⟩
  · obtain ⟨o, e, z⟩ := s.bm a m
    exact ⟨o, by rw [upd_ne (fun w => by subst w; exact nb m)]; exact e, z⟩
  · refine ⟨fun b o t e => ?_, s.st.sub, s.st.new, fun a t => ?_⟩
    · rw [upd_ne (fun w => by subst w; rw [b0] at e; cases e)]; exact s.st.keep b o t e
    · obtain ⟨d, x, e, z⟩ := s.tp a t
      exact ⟨d, x, by rw [upd_ne (fun w => by subst w; exact nt t)]; exact e, z⟩
  · by_cases z : b = p
    · subst z; rw [upd_same]; exact fun e => nomatch e
    · rw [upd_ne z]; exact h
end
section
variable {X : Cx} {st : Stmt} {rest : List Stmt} {e : Expr} {pos : Pos} {a b : AS} {ta : AE}
/-! ### borrowing: what is owned is read, the result has no list -/
def aBor (ta : AE) : AE := fun τ Q => ta (frz τ) fun x => noL x = true ∧ Q x
theorem se_bor (h : SE X e ta) : SE X e (aBor ta) := by
  obtain ⟨t, p, s⟩ := h
  refine ⟨t, p, fun B T σ τ H Q AQ sr h k => s B T σ (frz τ) H _ _ sr.frz h fun v x T1 H1 s1 r1 h1 => ?_⟩
  exact k v x T1 H1 s1 (r1.free h1.1) h1.2
def aBorT (tt : AT) : AT := fun τ Q => tt (frz τ) Q
theorem st_bor {tt : AT} (h : ST' X e tt) : ST' X e (aBorT tt) := by
  obtain ⟨t, p, s⟩ := h
  exact ⟨t, p, fun B T σ τ H Q AQ sr h k => s B T σ (frz τ) H _ _ sr.frz h fun b T1 H1 s1 h1 => k b T1 H1 s1 h1⟩
/-! ### rows -/
def aNext : AS := fun D τ => D.nx τ
def aSeq (a b : AS) : AS := fun D τ => a { D with nx := b D } τ
theorem ss_nil : SSs X [] aNext := ⟨_, pss_nil, fun B T σ τ H D AD sr h er => er.nx T H σ τ .refl sr h⟩
theorem ss_cons (h1 : SS X st a) (h2 : SSs X rest b) : SSs X (st :: rest) (aSeq a b) := by
  obtain ⟨t, p, s⟩ := h1
  obtain ⟨t', p', s'⟩ := h2
  exact ⟨_, pss_cons p p', fun B T σ τ H D AD sr h er => s B T σ τ H _ _ sr h ⟨fun T' H' σ' τ' q sr' h' => s' B T' σ' τ' H' D AD sr' h' (er.shift q), er.bk, er.ct, er.rt⟩⟩
theorem ss_one (h1 : SS X st a) : SSs X [st] a := let ⟨_, p, s⟩ := h1; ⟨_, pss_one p, s⟩
/-! return: all that is owned is let go -/
def aRet (ta : AE) : AS := fun D τ => ta (frz τ) D.rt
theorem ss_ret (h : SE X e ta) : SS X (.Return (some e) pos) (aRet ta) := by
  obtain ⟨t, p, s⟩ := h
  refine ⟨_, ps_ret p, fun B T σ τ H D AD sr h er => s B T σ (frz τ) H _ _ sr.frz h fun v x T1 H1 s1 r1 h1 => ?_⟩
  exact er.rt v x T1 H1 (sr.st.trans s1) (r1.mv (.anti (sr.frz.stp s1).va fun a m => .inl m)) h1
/-! if -/
def aIfS (c : AT) (a b : AS) : AS := fun D τ => c τ fun k => if k = true then a D τ else b D τ
theorem ss_if {c : Expr} {x y : List Stmt} {tc : AT} (hc : ST' X c tc) (ha : SSs X x a) (hb : SSs X y b) : SS X (.If c x y pos) (aIfS tc a b) := by
  obtain ⟨t, p, s⟩ := hc
  obtain ⟨t1, p1, s1'⟩ := ha
  obtain ⟨t2, p2, s2'⟩ := hb
  refine ⟨_, ps_if p p1 p2, fun B T σ τ H D AD sr h er => s B T σ τ H _ _ sr h fun k T1 H1 s1 h1 => ?_⟩
  cases k with
  | true => rw [if_pos rfl] at h1 ⊢; exact s1' B T1 σ τ H1 D AD (sr.stp s1) h1 (er.shift s1.prog)
  | false => rw [if_neg Bool.false_ne_true] at h1 ⊢; exact s2' B T1 σ τ H1 D AD (sr.stp s1) h1 (er.shift s1.prog)
/-! ### targets -/
abbrev AG := PV → ASt → (ASt → Prop) → Prop
abbrev AGs := List PV → ASt → (ASt → Prop) → Prop
def SimG (K : PySem.W.Frag) (g : TG) (ag : AG) : Prop := ∀ (B : Base) (T : Addr → Prop) (σ : L2.St) (τ : ASt) (H : Hp) (v : V) (x : PV) (Q : L2.St → Hp → Prop) (AQ : ASt → Prop), SR K B T H σ τ → Rep K T (mt B σ τ) H v x → ag x τ AQ →
  (∀ σ' τ', SR K B T H σ' τ' → (∀ b, ownA σ' τ' b → ownA σ τ b) → AQ τ' → Q σ' H) → g v σ H Q
def SimGs (K : PySem.W.Frag) (g : TGs) (ag : AGs) : Prop := ∀ (B : Base) (T : Addr → Prop) (σ : L2.St) (τ : ASt) (H : Hp) (vs : List V) (xs : List PV) (Q : L2.St → Hp → Prop) (AQ : ASt → Prop), SR K B T H σ τ → Reps K T (mt B σ τ) H vs xs → ag xs τ AQ →
  (∀ σ' τ', SR K B T H σ' τ' → (∀ b, ownA σ' τ' b → ownA σ τ b) → AQ τ' → Q σ' H) → g vs σ H Q
def SG (X : Cx) (tg : Expr) (ag : AG) : Prop := ∃ g, PG X tg g ∧ SimG X.K g ag
def SGs (X : Cx) (tg : List Expr) (ag : AGs) : Prop := ∃ g, PGs X tg g ∧ SimGs X.K g ag
def agN (i : Nat) : AG := fun x τ Q => Q (τ.set i (some (.val x)))
theorem sim_gN {K : PySem.W.Frag} {i : Nat} : SimG K (gName i) (agN i) := fun B T σ τ H v x Q AQ sr r h k => k _ _ (sr.set r) (fun b o => own_set_val o) h
theorem sg_name {i : Nat} {x : Str} (hN : X.N.Nodup) (hi : X.N[i]? = some x) (hx : Loc X.env.scope x) (hf : X.fn x = true ∨ X.env.scope.names.lookup x = some .local := by first | exact .inl rfl | exact .inr rfl | assumption) : SG X (.Name x pos) (agN i) :=
  ⟨_, pg_name hN hi hx hf, sim_gN⟩
def agNil : AGs := fun xs τ Q => match xs with | [] => Q τ | _ => False
def agCons (g : AG) (r : AGs) : AGs := fun xs τ Q => match xs with | x :: t => g x τ fun τ' => r t τ' Q | [] => False
theorem sim_gnil {K : PySem.W.Frag} : SimGs K gNil agNil := fun B T σ τ H vs xs Q AQ sr r h k => by
  cases r with
  | nil => exact ⟨rfl, k σ τ sr (fun _ o => o) h⟩
  | cons _ _ => exact h.elim
theorem sim_gcons {K : PySem.W.Frag} {g : TG} {gs : TGs} {ag : AG} {ags : AGs} (h1 : SimG K g ag) (h2 : SimGs K gs ags) : SimGs K (gCons g gs) (agCons ag ags) := fun B T σ τ H vs xs Q AQ sr r h k => by
  cases r with
  | nil => exact h.elim
  | cons r t =>
    refine ⟨_, _, rfl, h1 B T σ τ H _ _ _ _ sr r h fun σ1 τ1 sr1 o1 q1 => ?_⟩
    exact h2 B T σ1 τ1 H _ _ Q AQ sr1 (t.mv (.anti sr.va fun a m => m.elim .inl fun z => .inr (o1 a z))) q1 fun σ2 τ2 sr2 o2 q2 => k σ2 τ2 sr2 (fun b o => o1 b (o2 b o)) q2
theorem sgs_nil : SGs X [] agNil := ⟨_, pgs_nil, sim_gnil⟩
theorem sgs_cons {es : List Expr} {ag : AG} {ags : AGs} (h1 : SG X e ag) (h2 : SGs X es ags) (hs : (assignEach (e :: es) X.env).map (·.2) = assign e X.env :: (assignEach es X.env).map (·.2) := by rfl) : SGs X (e :: es) (agCons ag ags) :=
  let ⟨_, p, s⟩ := h1; let ⟨_, p', s'⟩ := h2; ⟨_, pgs_cons p p' hs, sim_gcons s s'⟩
/-! ### assignments -/
def aAsg (ta : AE) (g : AG) : AS := fun D τ => ta τ fun x => g x τ D.nx
theorem sim_asg {K : PySem.W.Frag} {t : TE} {g : TG} {ag : AG} (s : SimE K t ta) (s' : SimG K g ag) : SimS K (tAsg t g) (aAsg ta ag) := fun B T σ τ H D AD sr h er => s B T σ τ H _ _ sr h fun v x T1 H1 s1 r1 h1 =>
  s' B T1 σ τ H1 v x _ _ (sr.stp s1) r1 h1 fun σ2 τ2 sr2 o2 q2 => er.nx T1 H1 σ2 τ2 (s1.prog.trans (.less o2)) sr2 q2
theorem ss_asg {tg : Expr} {ag : AG} (he : SE X e ta) (hg : SG X tg ag) (hs : swapsWithSole [tg] e pos.line X.env = pure false := by rfl) (hw : swappedStores [tg] e X.env = pure none := by rfl)
    (h1 : (assignEach [tg] X.env).map (·.2) = [assign tg X.env] := by rfl) : SS X (.Assign [tg] e pos) (aAsg ta ag) :=
  let ⟨_, p, s⟩ := he; let ⟨_, p', s'⟩ := hg; ⟨_, ps_asg p p' hs hw h1, sim_asg s s'⟩
theorem ss_set {i : Nat} {x : Str} {pos' : Pos} (hN : X.N.Nodup) (hi : X.N[i]? = some x) (hx : Loc X.env.scope x) (he : SE X e ta) (hs : swapsWith e (some (.Name x pos')) pos.line X.env = pure false := by rfl) (hf : X.fn x = true ∨ X.env.scope.names.lookup x = some .local := by first | exact .inl rfl | exact .inr rfl | assumption) :
    SS X (.Assign [.Name x pos'] e pos) (aAsg ta (agN i)) := let ⟨_, p, s⟩ := he; ⟨_, ps_set hN hi hx p hs hf, sim_asg s sim_gN⟩
/-- name = a new list, which the name owns -/
def aNew (r : AA) (i : Nat) : AS := fun D τ => r τ fun xs => D.nx (τ.set i (some (.own xs)))
theorem sim_new {K : PySem.W.Frag} {t : TE} {r : AA} {i : Nat} (s : SimF K t r) : SimS K (tAsg t (gName i)) (aNew r i) := fun B T σ τ H D AD sr h er => s B T σ τ H _ _ sr h fun p vs xs T1 H1 s1 sr1 hn hp nt r1 h1 => by
  have no : ¬ ownA σ τ p := fun o => by obtain ⟨_, e, _⟩ := sr.ownH o; rw [hn] at e; cases e
  have nb : ¬ B.M p := fun o => by obtain ⟨_, e, _⟩ := sr.bm p o; rw [hn] at e; cases e
  refine er.nx T1 H1 _ _ ⟨fun b o t _ e => s1.keep b o t e, s1.sub, s1.new, fun b o => ?_, fun b h => s1.some h⟩ (sr1.take hp nt no nb (sr.st.none hn) r1) h1
  rcases own_set_own o with z | z
  · exact .inl z
  · subst z; exact .inr hn
theorem ss_new {i : Nat} {x : Str} {pos' : Pos} {r : AA} (hN : X.N.Nodup) (hi : X.N[i]? = some x) (hx : Loc X.env.scope x) (he : SF X e r) (hs : swapsWith e (some (.Name x pos')) pos.line X.env = pure false := by rfl) (hf : X.fn x = true ∨ X.env.scope.names.lookup x = some .local := by first | exact .inl rfl | exact .inr rfl | assumption) :
    SS X (.Assign [.Name x pos'] e pos) (aNew r i) := let ⟨_, p, s⟩ := he; ⟨_, ps_set hN hi hx p hs hf, sim_new s⟩
def aPar (i j : Nat) (r : AA) : AS := fun D τ => r τ fun xs => match xs with | [x, y] => D.nx ((τ.set i (some (.val x))).set j (some (.val y))) | _ => False
theorem ss_par {i j : Nat} {x y : Str} {c d : Expr} {r : AA} {px py pt : Pos} {kt k2 pt2} (hc : X.calm = true) (hN : X.N.Nodup) (hi : X.N[i]? = some x) (hj : X.N[j]? = some y) (hij : i ≠ j)
    (hx : X.env.scope.names.lookup x = some .local) (hy : X.env.scope.names.lookup y = some .local) (ha : SA X [c, d] r)
    (hw : swappedStores [.Tuple [.Name x px, .Name y py] kt pt] (.Tuple [c, d] k2 pt2) X.env = pure (some [x, y]))
    (hs : swapsWithSole [.Tuple [.Name x px, .Name y py] kt pt] (.Tuple [c, d] k2 pt2) pos.line X.env = pure false := by rfl) :
    SS X (.Assign [.Tuple [.Name x px, .Name y py] kt pt] (.Tuple [c, d] k2 pt2) pos) (aPar i j r) := by
  obtain ⟨t, p, s⟩ := ha
  refine ⟨_, ps_par hc hN hi hj hij hx hy p hw hs, fun B T σ τ H D AD sr h er => s B T σ τ H _ _ sr h fun vs xs T1 H1 s1 r1 h1 => ?_⟩
  cases r1 with
  | nil => exact h1.elim
  | cons ra ta =>
    cases ta with
    | nil => exact h1.elim
    | cons rb tb =>
      cases tb with
      | cons _ _ => exact h1.elim
      | nil =>
        have sr1 := sr.stp s1
        refine ⟨_, _, rfl, er.nx T1 H1 _ _ ?_ ((sr1.set (i := i) ra).set (i := j) (rb.mv (.anti sr1.va fun a m => m.elim .inl fun z => .inr (own_set_val z)))) h1⟩
        exact s1.prog.trans (.less fun b o => own_set_val (own_set_val o))
/-! ### x += e -/
/-! ### what a list's owner does to it -/
def aOwn (i : Nat) (τ : ASt) (R : List PV → Prop) : Prop := match nth τ i with | some (.own xs) => R xs | _ => False
theorem aOwn_of {i : Nat} {τ : ASt} {R : List PV → Prop} (h : aOwn i τ R) : ∃ xs, τ[i]? = some (some (.own xs)) ∧ R xs := by
  unfold aOwn at h
  cases e : nth τ i with
  | none => rw [e] at h; exact h.elim
  | some z =>
    rw [e] at h
    cases z with
    | val x => exact h.elim
    | own xs => exact ⟨xs, nth_eq e, h⟩
/-- a method that writes the list -/
abbrev OpM := List PV → List PV → (List PV → Prop) → Prop
def SimM (K : PySem.W.Frag) (r : V → List V → Hp → VK → Prop) (f : OpM) : Prop := ∀ (T M : Addr → Prop) (H : Hp) (l : Addr) (ws vs : List V) (xs ys : List PV) (Q : VK) (AQ : List PV → Prop), H l = some (.lst ws) → Reps K T M H ws xs → Reps K T M H vs ys → f xs ys AQ →
  (∀ ws' xs', Reps K T M H ws' xs' → AQ xs' → Q .non (upd H l (.lst ws'))) → r (.ref l) vs H Q
def aMeth (i : Nat) (f : OpM) (r : AA) : AS := fun D τ => aOwn i τ fun xs => r τ fun ys => f xs ys fun zs => D.nx (τ.set i (some (.own zs)))
theorem sim_meth {K : PySem.W.Frag} {i : Nat} {rr : V → List V → Hp → VK → Prop} {f : OpM} {t : TA} {r : AA} (hm : SimM K rr f) (s : SimA K t r) : SimS K (tDrop (tBM K "list" rr (tVar i) t)) (aMeth i f r) := fun B T σ τ H D AD sr h er => by
  obtain ⟨xs, e, h⟩ := aOwn_of h
  obtain ⟨p, vs, e1, hp, r1, b0, nt, nb⟩ := sr.own i xs e
  refine ⟨.ref p, e1, .inl ⟨rfl, vs, .inl (.inl hp)⟩, s B T σ τ H _ _ sr h fun us ys T1 H1 s1 r2 h2 => ?_⟩
  have sr1 := sr.stp s1
  refine hm T1 (mt B σ τ) H1 p vs us xs ys _ _ (s1.keep _ _ nt hp) (r1.stp s1 sr.va) r2 h2 fun ws' zs r3 h3 => ?_
  obtain ⟨sr3, pr3⟩ := sr1.write (i := i) (xs := xs) e e1 (s1.keep _ _ nt hp) r3
  exact er.nx T1 _ _ _ (s1.prog.trans pr3) sr3 h3
theorem ss_meth {i : Nat} {x name : Str} {es : List Expr} {id : String} {rr : V → List V → Hp → VK → Prop} {f : OpM} {r : AA} {p apos cpos : Pos} (slot : Slot "list" name id) (hty : typeOf (.builtin id) = pure (.type "method_descriptor")) (hm : MtM X id rr ∧ SimM X.K rr f) (ha : SA X (e :: es) r)
    (hN : X.N[i]? = some x := by rfl) (hv : Vis X.env.scope x := by first | exact Or.inl rfl | exact Or.inr (Or.inl rfl) | exact Or.inr (Or.inr rfl)) (hd : (x == ("__debug__" : Str)) = false := by decide) (hcd : (x == ("__classdict__" : Str)) = false := by decide)
    (hbase : attributeBase (.Name x p) name X.env (eval (.Name x p) X.env) = eval (.Name x p) X.env := by rfl)
    (hfew : ((backTo cpos (starEach (e :: es) X.env)).all (fun x => !x.1) && (backToKw cpos (keywordEach [] X.env)).all (fun x => x.1.isSome)
      && decide ((e :: es).length + ([] : List Keyword).length + (if ([] : List Keyword).isEmpty then 0 else 1) < 30)) = true := by rfl)
    (hline : (apos.endLine == cpos.line) = true := by rfl) (hs : starEach (e :: es) X.env = (false, eval e X.env) :: starEach es X.env := by rfl) (hplain : (backTo cpos (starEach es X.env)).any (·.1) = false := by rfl)
    (hsw : swapsWith (.Call (.Attribute (.Name x p) name apos) (e :: es) [] cpos) none pos.line X.env = pure false := by rfl) :
    SS X (.Expr (.Call (.Attribute (.Name x p) name apos) (e :: es) [] cpos) pos) (aMeth i f r) := by
  obtain ⟨t, pa, s⟩ := ha
  exact ⟨_, ps_expr (pe_bm PySem.F.plainAttrs_list slot hty hm.1 (pe_var hN hv hd hcd) pa hbase hfew hline hs hplain) hsw, sim_meth hm.2 s⟩
def mApp : OpM := fun xs ys Q => match ys with | [y] => xs.length < sizeLine ∧ Q (xs ++ [y]) | _ => False
theorem sm_append : MtM X "list.append" rAppend ∧ SimM X.K rAppend mApp := by
  refine ⟨mt_append, fun T M H l ws vs xs ys Q AQ hl r1 r2 h k => ?_⟩
  unfold mApp at h
  split at h <;> first | exact h.elim | skip
  cases r2 with
  | cons ry t =>
    cases t
    exact ⟨l, ws, _, rfl, rfl, hl, by rw [r1.length]; exact h.1, k _ _ (r1.append (.cons ry .nil)) h.2⟩
def mIns : OpM := fun xs ys Q => match ys with | [.int i, y] => (0 ≤ i ∧ i ≤ (xs.length : Int) ∧ xs.length < sizeLine) ∧ Q (xs.take i.toNat ++ y :: xs.drop i.toNat) | _ => False
theorem sm_insert : MtM X "list.insert" rInsert ∧ SimM X.K rInsert mIns := by
  refine ⟨mt_insert, fun T M H l ws vs xs ys Q AQ hl r1 r2 h k => ?_⟩
  unfold mIns at h
  split at h <;> first | exact h.elim | skip
  cases r2 with
  | cons ri t =>
    cases t with
    | cons ry t =>
      cases t; cases ri
      obtain ⟨⟨h1, h2, h3⟩, h4⟩ := h
      exact ⟨l, ws, _, _, rfl, rfl, hl, h1, by rw [r1.length]; exact h2, by rw [r1.length]; exact h3, k _ _ ((r1.take _).append (.cons ry (r1.drop _))) h4⟩
/-! one that is owned is let go -/
/-! x[i] = e -/
def onN (o : Option Nat) (R : Nat → Prop) : Prop := match o with | some j => R j | none => False
theorem onN_of {o : Option Nat} {R : Nat → Prop} (h : onN o R) : ∃ z, o = some z ∧ R z := by
  cases o <;> first | exact ⟨_, rfl, h⟩ | exact h.elim
def aPut (i : Nat) (ti ta : AE) : AS := fun D τ => ta τ fun y => aOwn i τ fun xs => ti τ fun k => onI k fun k => onN (ixN xs.length k) fun j => D.nx (τ.set i (some (.own (xs.set j y))))
theorem ss_put {i : Nat} {x : Str} {ix : Expr} {ti : AE} {p tpos : Pos} (hi : SE X ix ti) (he : SE X e ta) (hN : X.N[i]? = some x := by rfl) (hv : Vis X.env.scope x := by first | exact Or.inl rfl | exact Or.inr (Or.inl rfl) | exact Or.inr (Or.inr rfl)) (hd : (x == ("__debug__" : Str)) = false := by decide) (hcd : (x == ("__classdict__" : Str)) = false := by decide)
    (ha : ∀ v, assign (.Subscript (.Name x p) ix tpos) X.env v = (do
      let ov ← holding [v] (eval (.Name x p) X.env)
      let iv ← holding [v, ov] (eval ix X.env)
      standAt tpos
      holding [v, ov, iv] (setItem ov iv v)
      release [v, ov, iv] []) := by intro _; rfl)
    (hs : swapsWithSole [.Subscript (.Name x p) ix tpos] e pos.line X.env = pure false := by rfl) (hw : swappedStores [.Subscript (.Name x p) ix tpos] e X.env = pure none := by rfl)
    (h1 : (assignEach [.Subscript (.Name x p) ix tpos] X.env).map (·.2) = [assign (.Subscript (.Name x p) ix tpos) X.env] := by rfl) : SS X (.Assign [.Subscript (.Name x p) ix tpos] e pos) (aPut i ti ta) := by
  obtain ⟨t, pt, s⟩ := hi
  obtain ⟨t', pt', s'⟩ := he
  refine ⟨_, ps_asg pt' (pg_sub (pe_var hN hv hd hcd) pt set_list ha) hs hw h1, fun B T σ τ H D AD sr h er => s' B T σ τ H _ _ sr h fun v y T1 H1 s1 r1 h1 => ?_⟩
  have sr1 := sr.stp s1
  obtain ⟨xs, e, h1⟩ := aOwn_of h1
  obtain ⟨q, vs, e1, hp, r2, b0, nt, nb⟩ := sr1.own i xs e
  refine ⟨.ref q, e1, s B T1 σ τ H1 _ _ sr1 h1 fun w k T2 H2 s2 r3 h3 => ?_⟩
  obtain ⟨k, rfl, h3⟩ := onI_of h3
  obtain ⟨j, ej, h3⟩ := onN_of h3
  cases r3.toI
  have sr2 := sr1.stp s2
  obtain ⟨sr4, pr4⟩ := sr2.write (i := i) (xs := xs) e e1 (s2.keep _ _ nt hp) (((r2.stp s2 sr1.va)).set (r1.stp s2 sr1.va) j)
  exact ⟨q, vs, k, j, rfl, rfl, s2.keep _ _ nt hp, by rw [r2.length]; exact ej, er.nx T2 _ _ _ ((s1.trans s2).prog.trans pr4) sr4 h3⟩
end
end PL
end
section
set_option Elab.async false
set_option linter.all false
set_option maxRecDepth 100000
set_option maxHeartbeats 4000000
/-! Loops, what they walk, comprehensions, defs over values without a heap. -/
namespace PL
open PySem PySem.Spec PyProof.Rows L2
section
variable {X : Cx} {st : Stmt} {e : Expr} {pos : Pos} {a b : AS} {ta : AE}
/-! ### while -/
def whGo (c : AT) (b : AS) (D : AEnds) : Nat → ASt → Prop
  | 0, _ => False
  | n + 1, τ => c (frz τ) fun k => if k = true then b { D with nx := whGo c b D n, ct := whGo c b D n, bk := D.nx } τ else D.nx τ
def aWhile (c : AT) (b : AS) : AS := fun D τ => ∃ n, whGo c b D n τ
theorem ss_while {c : Expr} {body : List Stmt} {tc : AT} (hp : PassesOwn (model X.prog X.w) X.A X.env X.xe) (hc : ST' X c tc) (hb : SSs X body b) : SS X (.While c body [] pos) (aWhile tc b) := by
  obtain ⟨t, p, s⟩ := hc
  obtain ⟨t', p', s'⟩ := hb
  refine ⟨_, ps_while hp p p', fun B T σ τ H D AD sr h er => ?_⟩
  obtain ⟨n, h⟩ := h
  refine ⟨fun m σ1 H1 => ∃ T1 τ1, SR X.K B T1 H1 σ1 τ1 ∧ Prog T H σ τ T1 H1 σ1 τ1 ∧ whGo tc b AD m τ1, ⟨n, T, τ, sr, .refl, h⟩, ?_⟩
  rintro m σ1 H1 ⟨T1, τ1, sr1, pr1, h1⟩
  cases m with
  | zero => exact h1.elim
  | succ m =>
    refine s B T1 σ1 (frz τ1) H1 _ _ sr1.frz h1 fun k T2 H2 s2 h2 => ?_
    have sr2 := sr1.stp s2
    have er2 := (er.shift pr1).shift s2.prog
    cases k with
    | false => rw [if_neg Bool.false_ne_true] at h2 ⊢; exact er2.nx T2 H2 σ1 τ1 .refl sr2 h2
    | true =>
      rw [if_pos rfl] at h2 ⊢
      refine ⟨fun σ' H' => ∃ T' τ', SR X.K B T' H' σ' τ' ∧ Prog T H σ τ T' H' σ' τ' ∧ whGo tc b AD m τ', fun σ' H' q => ⟨m, Nat.lt_succ_self m, q⟩, ?_⟩
      exact s' B T2 σ1 τ1 H2 _ _ sr2 h2 ⟨fun T' H' σ' τ' q sr' h' => ⟨T', τ', sr', (pr1.trans s2.prog).trans q, h'⟩, er2.nx, fun T' H' σ' τ' q sr' h' => ⟨T', τ', sr', (pr1.trans s2.prog).trans q, h'⟩, er.rt⟩
/-! ### what is walked -/
abbrev AI := ASt → (List PV → Prop) → Prop
structure ItAt (K : PySem.W.Frag) (M : Addr → Prop) (J : It) (xs : List PV) (T : Addr → Prop) (H : Hp) : Prop where
  go : ∀ i y, xs[i]? = some y → J.go i H
  yld : ∀ i y v H', xs[i]? = some y → J.yld i H v H' → Stp T H T H' ∧ Rep K T M H' v y
  stop : ∀ i, xs.length ≤ i → J.stop i H
/-- all but tapes stays -/
def KeepAll (T : Addr → Prop) (H H2 : Hp) : Prop := ∀ b o, ¬ T b → H b = some o → H2 b = some o
/-- s: it may be walked while what is owned changes -/
def SimI (K : PySem.W.Frag) (s : Bool) (wi : TI) (ai : AI) : Prop := ∀ (B : Base) (T : Addr → Prop) (σ : L2.St) (τ : ASt) (H : Hp) (R : It → Hp → Prop) (AQ : List PV → Prop), SR K B T H σ τ → ai τ AQ →
  (∀ J xs T' H', Stp T H T' H' → (∀ M2 T2 H2, Mv K T' (mt B σ τ) H' T2 M2 H2 → Val T2 M2 H2 → (s = true ∨ KeepAll T' H' H2) → ItAt K M2 J xs T2 H2) → AQ xs → R J H') → wi σ H R
def SI (X : Cx) (tg iter : Expr) (s : Bool) (ai : AI) : Prop := ∃ wi, PI X tg iter wi ∧ SimI X.K s wi ai
/-! a list or a tuple -/
def iSeq (K : PySem.W.Frag) (tl : TE) : TI := fun σ H R => tl σ H fun x H1 => ∃ a, x = .ref a ∧ (((∃ xs, SqL K H1 a xs) ∧ R (Itl K a) H1) ∨ ((∃ xs, SqT K H1 a xs) ∧ R (Itt K a) H1))
theorem pi_seq {tg l : Expr} {tl : TE} (hl : PE X l tl) : PI X tg l (iSeq X.K tl) := by
  intro pins s σ H R I h
  refine thn (hl pins s σ H _ I h) fun v s1 ⟨x, H1, I1, r1, q1⟩ => ?_
  obtain ⟨a, e, q⟩ := q1
  subst e
  cases r1
  rcases q with ⟨⟨xs, hq⟩, q⟩ | ⟨⟨xs, hq⟩, q⟩
  · obtain ⟨its, rv, p, hz⟩ := I1.list hq
    refine wpAny_pyIter_list p.isList ?_
    refine ⟨s1.heap.objs.size, [s1.heap.objs.size], _, _, H1, rfl, I1.kept (t' := s1.toks) fun b o e => Heap.get?_push_of_some _ e, turn_list a _, ⟨_, Heap.get?_push_size _ rfl, rfl, rfl⟩, fun b hb => ?_, q⟩
    have e : b = s1.heap.objs.size := by simpa using hb
    subst e
    exact I1.fpOk (Nat.le_refl _) (I1.hok.fresh (Nat.le_refl _))
  · obtain ⟨its, rv, p, hz⟩ := I1.tuple hq
    refine wpAny_pyIter_tuple (show s1.heap.IsTuple a its.toArray from p) ?_
    refine ⟨s1.heap.objs.size, [s1.heap.objs.size], _, _, H1, rfl, I1.kept (t' := s1.toks) fun b o e => Heap.get?_push_of_some _ e, turn_tuple a _, ⟨_, Heap.get?_push_size _ rfl, rfl, rfl⟩, fun b hb => ?_, q⟩
    have e : b = s1.heap.objs.size := by simpa using hb
    subst e
    exact I1.fpOk (Nat.le_refl _) (I1.hok.fresh (Nat.le_refl _))
def aiQ (ta : AE) : AI := fun τ Q => ta τ fun x => onQ x Q
theorem itAt_tup {K : PySem.W.Frag} {T M : Addr → Prop} {H : Hp} {a : Addr} {xs : List PV} (va : Val T M H) (r : Rep K T M H (.ref a) (.tup xs)) : ItAt K M (Itt K a) xs T H := by
  obtain ⟨a', vs, e, hq, rs⟩ := sqT_or r
  cases e
  refine ⟨fun i y h => ?_, fun i y v H' h yl => ?_, fun i h => ⟨vs, hq, by rw [rs.length]; exact h⟩⟩
  · obtain ⟨v, hv, _⟩ := rs.get h
    exact ⟨vs, v, hq, hv⟩
  · obtain ⟨rfl, yl⟩ := yl
    obtain ⟨z, hz, rz⟩ := rs.get' (yl vs hq)
    rw [h] at hz; cases hz
    exact ⟨.refl va.tp, rz⟩
theorem itAt_lst {K : PySem.W.Frag} {T M : Addr → Prop} {H : Hp} {a : Addr} {vs : List V} {xs : List PV} (va : Val T M H) (hq : H a = some (.lst vs)) (rs : Reps K T M H vs xs) : ItAt K M (Itl K a) xs T H := by
  have hq' : SqL K H a vs := .inl (.inl hq)
  refine ⟨fun i y h => ?_, fun i y v H' h yl => ?_, fun i h => ⟨vs, hq', by rw [rs.length]; exact h⟩⟩
  · obtain ⟨v, hv, _⟩ := rs.get h
    exact ⟨vs, v, hq', hv⟩
  · obtain ⟨rfl, yl⟩ := yl
    obtain ⟨z, hz, rz⟩ := rs.get' (yl vs hq')
    rw [h] at hz; cases hz
    exact ⟨.refl va.tp, rz⟩
theorem si_q {tg : Expr} (h : SE X e ta) : SI X tg e true (aiQ ta) := by
  obtain ⟨t, p, s⟩ := h
  refine ⟨_, pi_seq p, fun B T σ τ H R AQ sr h k => s B T σ τ H _ _ sr h fun v x T1 H1 s1 r1 h1 => ?_⟩
  obtain ⟨xs, hx, q⟩ := onQ_of h1
  rcases hx with rfl | rfl
  · obtain ⟨a, vs, rfl, hq, rs⟩ := sqT_or r1
    refine ⟨a, rfl, .inr ⟨⟨vs, hq⟩, k _ xs T1 H1 s1 (fun M2 T2 H2 mv va _ => itAt_tup va (r1.mv mv)) q⟩⟩
  · obtain ⟨a, vs, rfl, hq, nt, nm, rs⟩ := sqL_or r1
    refine ⟨a, rfl, .inl ⟨⟨vs, .inl (.inl hq)⟩, k _ xs T1 H1 s1 (fun M2 T2 H2 mv va _ => ?_) q⟩⟩
    obtain ⟨a', vs', e', hq', _, _, rs'⟩ := sqL_or (r1.mv mv)
    cases e'
    exact itAt_lst va hq' rs'
/-! range -/
def rng (lo : Int) (n : Nat) : List PV := (List.range n).map fun (k : Nat) => .int (lo + (k : Int))
theorem itAt_rng {K : PySem.W.Frag} {T M : Addr → Prop} {H : Hp} {lo : Int} {n : Nat} (va : Val T M H) : ItAt K M (Itr lo n) (rng lo n) T H := by
  have hl : (rng lo n).length = n := by simp [rng]
  refine ⟨fun i y h => ?_, fun i y v H' h yl => ?_, fun i h => by rw [hl] at h; exact h⟩
  · have := (List.getElem?_eq_some_iff.mp h).1
    rw [hl] at this
    exact this
  · obtain ⟨rfl, rfl⟩ := yl
    have hi := (List.getElem?_eq_some_iff.mp h).1
    rw [hl] at hi
    have : y = .int (lo + (i : Int)) := by
      simp [rng, List.getElem?_range hi] at h
      exact h.symm
    subst this
    exact ⟨.refl va.tp, .int _⟩
def aiR1 (r : AA) : AI := fun τ Q => r τ fun xs => match xs with | [.int j] => (-(2 ^ 62) ≤ j ∧ j < 2 ^ 62) ∧ Q (rng 0 j.toNat) | _ => False
def aiR2 (r : AA) : AI := fun τ Q => r τ fun xs => match xs with | [.int i, .int j] => (-(2 ^ 62) ≤ i ∧ i < 2 ^ 62 ∧ -(2 ^ 62) ≤ j ∧ j < 2 ^ 62) ∧ Q (rng i (j - i).toNat) | _ => False
theorem si_r1 {tg c : Expr} {r : AA} {p : Pos} (hg : Gl X "range") (hm : X.mg "range" = none) (ha : SA X [c] r) (hs : starEach [c] X.env = [(false, eval c X.env)] := by rfl) : SI X tg (.Call (.Name "range" p) [c] [] pos) true (aiR1 r) := by
  obtain ⟨t, pa, s⟩ := ha
  refine ⟨_, pi_range1 hg hm pa hs, fun B T σ τ H R AQ sr h k => s B T σ τ H _ _ sr h fun vs xs T1 H1 s1 r1 h1 => ?_⟩
  split at h1 <;> first | exact h1.elim | skip
  cases r1 with
  | cons r t =>
    cases t; cases r
    exact ⟨_, rfl, h1.1.1, h1.1.2, k _ _ T1 H1 s1 (fun M2 T2 H2 mv va _ => itAt_rng va) h1.2⟩
theorem si_r2 {tg c d : Expr} {r : AA} {p : Pos} (hg : Gl X "range") (hm : X.mg "range" = none) (ha : SA X [c, d] r) (hs : starEach [c, d] X.env = [(false, eval c X.env), (false, eval d X.env)] := by rfl) (hs2 : starEach [d] X.env = [(false, eval d X.env)] := by rfl) :
    SI X tg (.Call (.Name "range" p) [c, d] [] pos) true (aiR2 r) := by
  obtain ⟨t, pa, s⟩ := ha
  refine ⟨_, pi_range2 hg hm pa hs hs2, fun B T σ τ H R AQ sr h k => s B T σ τ H _ _ sr h fun vs xs T1 H1 s1 r1 h1 => ?_⟩
  split at h1 <;> first | exact h1.elim | skip
  cases r1 with
  | cons r t =>
    cases t with
    | cons r' t =>
      cases t; cases r; cases r'
      exact ⟨_, _, rfl, h1.1, k _ _ T1 H1 s1 (fun M2 T2 H2 mv va _ => itAt_rng va) h1.2⟩
/-! zip of two -/
def zipP (xs ys : List PV) : List PV := List.zipWith (fun x y => .tup [x, y]) xs ys
def iZipQ (K : PySem.W.Frag) (ta : TA) : TI := fun σ H R => ta σ H fun vs H1 => ∃ b c l m, vs = [.ref l, .ref m] ∧ (∃ xs, Sq K b H1 l xs) ∧ (∃ ys, Sq K c H1 m ys) ∧ R (Itz K b c l m) H1
theorem pi_zipQ {e f : Expr} {ta : TA} {p pos tpos : Pos} {es : List Expr} {x1 : Nat} (hg : Gl X "zip") (hm : X.mg "zip" = none) (ha : PA X [e, f] ta)
    (hs : starEach [e, f] X.env = [(false, eval e X.env), (false, eval f X.env)] := by rfl) (hs2 : starEach [f] X.env = [(false, eval f X.env)] := by rfl) :
    PI X (.Tuple es x1 tpos) (.Call (.Name "zip" p) [e, f] [] pos) (iZipQ X.K ta) := by
  intro pins s σ H R I h
  refine Call_ (ld_blt I hg hm boot_zip (PyProof.Rows.callWith_type1 (thn (ha pos pins s σ H _ I h) fun us s1 ⟨vs, H1, I1, r1, q1⟩ => ?_) (by rw [hs, hs2]) (by rw [hs2]; rfl)))
  obtain ⟨b, c, l, m, rfl, ⟨xs, hl⟩, ⟨ys, hm'⟩, q⟩ := q1
  cases r1 with
  | cons r rr =>
  cases rr with
  | cons r' rr =>
  cases rr
  cases r
  cases r'
  obtain ⟨us, ru, su, _⟩ := I1.sq hl
  obtain ⟨vs, rv, sv, _⟩ := I1.sq hm'
  have llt : l < s1.heap.objs.size := by cases b <;> (obtain ⟨o, e, _⟩ := su; exact Heap.lt_size e)
  have mlt : m < s1.heap.objs.size := by cases c <;> (obtain ⟨o, e, _⟩ := sv; exact Heap.lt_size e)
  refine zipNew su sv fun h1 Z kp => wpAny_pyIter_zip Z.zip ?_
  refine ⟨_, _, _, _, H1, rfl, I1.kept (t' := s1.toks) kp, turn_zip (zipApart_new llt mlt), Z, fun p hp => ?_, q⟩
  have hp' : s1.heap.objs.size ≤ p := by
    have hp'' : p = s1.heap.objs.size + 4 ∨ p = s1.heap.objs.size + 2 ∨ p = s1.heap.objs.size + 3 ∨ p = s1.heap.objs.size ∨ p = s1.heap.objs.size + 1 := by simpa using hp
    rcases hp'' with e | e | e | e | e <;> (rw [e]; omega)
  exact I1.fpOk hp' (I1.hok.fresh hp')
def bOf : PV → Bool | .lst _ => true | _ => false
theorem sq_of {K : PySem.W.Frag} {T M : Addr → Prop} {H : Hp} {v : V} {x : PV} {xs : List PV} (hx : x = .tup xs ∨ x = .lst xs) (r : Rep K T M H v x) : ∃ a vs, v = .ref a ∧ Sq K (bOf x) H a vs ∧ Reps K T M H vs xs := by
  rcases hx with rfl | rfl
  · obtain ⟨a, vs, rfl, hq, rs⟩ := sqT_or r
    exact ⟨a, vs, rfl, hq, rs⟩
  · obtain ⟨a, vs, rfl, hq, _, _, rs⟩ := sqL_or r
    exact ⟨a, vs, rfl, .inl (.inl hq), rs⟩
theorem itAt_zip {K : PySem.W.Frag} {T M : Addr → Prop} {H : Hp} {l m : Addr} {x y : PV} {xs ys : List PV} (va : Val T M H) (hx : x = .tup xs ∨ x = .lst xs) (hy : y = .tup ys ∨ y = .lst ys) (r : Rep K T M H (.ref l) x) (r2 : Rep K T M H (.ref m) y) :
    ItAt K M (Itz K (bOf x) (bOf y) l m) (zipP xs ys) T H := by
  obtain ⟨_, vs, e, hq, rs⟩ := sq_of hx r
  cases e
  obtain ⟨_, ws, e, hq2, rs2⟩ := sq_of hy r2
  cases e
  have hz : ∀ i z, (zipP xs ys)[i]? = some z → ∃ a b, xs[i]? = some a ∧ ys[i]? = some b ∧ z = PV.tup [a, b] := fun i z h => by
    unfold zipP at h
    rw [List.getElem?_zipWith] at h
    cases e1 : xs[i]? with
    | none => rw [e1] at h; cases h
    | some a =>
      cases e2 : ys[i]? with
      | none => rw [e1, e2] at h; cases h
      | some b => rw [e1, e2] at h; cases h; exact ⟨a, b, by first | rfl | exact e1, by first | rfl | exact e2, rfl⟩
  refine ⟨fun i z h => ?_, fun i z v H' h yl => ?_, fun i h => ⟨vs, ws, hq, hq2, ?_⟩⟩
  · obtain ⟨a, b, ha, hb, _⟩ := hz i z h
    obtain ⟨u, hu, _⟩ := rs.get ha
    obtain ⟨w, hw, _⟩ := rs2.get hb
    exact ⟨vs, ws, u, w, hq, hq2, hu, hw⟩
  · obtain ⟨a, b, ha, hb, rfl⟩ := hz i z h
    obtain ⟨p, u, w, rfl, hn, rfl, hu, hw⟩ := yl
    obtain ⟨a', ha', ra⟩ := rs.get' (hu vs hq)
    obtain ⟨b', hb', rb⟩ := rs2.get' (hw ws hq2)
    rw [ha] at ha'; cases ha'
    rw [hb] at hb'; cases hb'
    have st := Stp.lay (o := .tup [u, w]) va.tp hn
    exact ⟨st, .tup (.inl upd_same) (.cons (ra.stp st va) (.cons (rb.stp st va) .nil))⟩
  · rw [rs.length, rs2.length]
    have : (zipP xs ys).length = min xs.length ys.length := by simp [zipP]
    omega
def aiZ (r : AA) : AI := fun τ Q => r τ fun ls => match ls with | [x, y] => onQ x fun xs => onQ y fun ys => Q (zipP xs ys) | _ => False
theorem si_z {e f : Expr} {r : AA} {p pos tpos : Pos} {es : List Expr} {x1 : Nat} (hg : Gl X "zip") (hm : X.mg "zip" = none) (ha : SA X [e, f] r)
    (hs : starEach [e, f] X.env = [(false, eval e X.env), (false, eval f X.env)] := by rfl) (hs2 : starEach [f] X.env = [(false, eval f X.env)] := by rfl) :
    SI X (.Tuple es x1 tpos) (.Call (.Name "zip" p) [e, f] [] pos) true (aiZ r) := by
  obtain ⟨t, pa, s⟩ := ha
  refine ⟨_, pi_zipQ hg hm pa hs hs2, fun B T σ τ H R AQ sr h k => s B T σ τ H _ _ sr h fun vs xs T1 H1 s1 r1 h1 => ?_⟩
  split at h1 <;> first | exact h1.elim | skip
  rename_i x y
  obtain ⟨xs, hx, h2⟩ := onQ_of h1
  obtain ⟨ys, hy, h3⟩ := onQ_of h2
  cases r1 with
  | cons ra t =>
    cases t with
    | cons rb t =>
      cases t
      obtain ⟨l, us, rfl, hq, rs⟩ := sq_of hx ra
      obtain ⟨m, ws, rfl, hq2, rs2⟩ := sq_of hy rb
      exact ⟨bOf x, bOf y, l, m, rfl, ⟨us, hq⟩, ⟨ws, hq2⟩, k _ _ T1 H1 s1 (fun M2 T2 H2 mv va _ => itAt_zip va hx hy (ra.mv mv) (rb.mv mv)) h3⟩
/-! ### for -/
def forGo (g : AG) (b : AS) (D : AEnds) : List PV → ASt → Prop
  | [], τ => D.nx τ
  | x :: r, τ => g x τ fun τ1 => b { D with nx := forGo g b D r, ct := forGo g b D r, bk := D.nx } τ1
def aFor (ai : AI) (g : AG) (b : AS) : AS := fun D τ => ai τ fun xs => forGo g b D xs τ
theorem Prog.mvv {K : PySem.W.Frag} {B : Base} {T T' : Addr → Prop} {H H' : Hp} {σ σ' : L2.St} {τ τ' : ASt} (s : SR K B T H σ τ) (p : Prog T H σ τ T' H' σ' τ') : Mv K T (mt B σ τ) H T' (mt B σ' τ') H' :=
  ⟨s.va, fun b o t m e => p.keep b o t (fun z => m (.inr z)) e, p.sub, fun b n t => (p.new b t).elim id fun z => absurd z n, fun b n m => m.elim .inl fun z => (p.own b z).elim .inr fun z => absurd z n⟩
theorem ss_for {tg iter : Expr} {body : List Stmt} {ai : AI} {g : AG} (hp : PassesOwn (model X.prog X.w) X.A X.env X.xe) (hc : X.calm = true) (hi : SI X tg iter true ai) (hg : SG X tg g) (hb : SSs X body b)
    (hs : ∀ x, foldedSetIterable iter X.env x = pure x := by intro _; rfl) : SS X (.For tg iter body [] pos) (aFor ai g b) := by
  obtain ⟨wi, pi, si⟩ := hi
  obtain ⟨tg', pg, sg⟩ := hg
  obtain ⟨tb, pb, sb⟩ := hb
  refine ⟨_, ps_for hp hc pi pg pb hs, fun B T σ τ H D AD sr h er => si B T σ τ H _ _ sr h fun J xs T1 H1 s1 walk h1 => ?_⟩
  have sr1 := sr.stp s1
  refine ⟨fun i m σ2 H2 => m = xs.length - i ∧ ∃ T2 τ2, SR X.K B T2 H2 σ2 τ2 ∧ Prog T1 H1 σ τ T2 H2 σ2 τ2 ∧ forGo g b AD (xs.drop i) τ2, ⟨_, rfl, T1, τ, sr1, .refl, h1⟩, ?_⟩
  rintro i m σ2 H2 ⟨rfl, T2, τ2, sr2, pr2, h2⟩
  have w := walk _ T2 H2 (pr2.mvv sr1) sr2.va (.inl rfl)
  have er2 := (er.shift s1.prog).shift pr2
  by_cases hlt : i < xs.length
  · have hget : xs[i]? = some xs[i] := List.getElem?_eq_getElem hlt
    rw [List.drop_eq_getElem_cons hlt] at h2
    refine .inr ⟨w.go i _ hget, fun σ' H' => ∃ T' τ', SR X.K B T' H' σ' τ' ∧ Prog T1 H1 σ τ T' H' σ' τ' ∧ forGo g b AD (xs.drop (i + 1)) τ', fun σ' H' ⟨T', τ', q1, q2, q3⟩ => ⟨_, by omega, rfl, T', τ', q1, q2, q3⟩, fun v H3 yl => ?_⟩
    obtain ⟨s3, r3⟩ := w.yld i _ v H3 hget yl
    have sr3 := sr2.stp s3
    refine sg B T2 σ2 τ2 H3 v _ _ _ sr3 r3 h2 fun σ4 τ4 sr4 o4 h4 => ?_
    have pr4 : Prog T1 H1 σ τ T2 H3 σ4 τ4 := (pr2.trans s3.prog).trans (.less o4)
    have er4 := (er.shift s1.prog).shift pr4
    exact sb B T2 σ4 τ4 H3 _ _ sr4 h4 ⟨fun T' H' σ' τ' q sr' h' => ⟨T', τ', sr', pr4.trans q, h'⟩, er4.nx, fun T' H' σ' τ' q sr' h' => ⟨T', τ', sr', pr4.trans q, h'⟩, er.rt⟩
  · rw [List.drop_eq_nil_of_le (by omega)] at h2
    exact .inl ⟨w.stop i (by omega), er2.nx T2 H2 σ2 τ2 .refl sr2 h2⟩
/-! ### comprehensions -/
def blkV : Option AV → Option AV | some (.val x) => some (.val x) | _ => none
def blkA (own : Nat) (ix : List Nat) (τ : ASt) : ASt := List.replicate own none ++ ix.map fun i => blkV (nth τ i)
def cmpGo (g : AG) (t : AT) (te : AE) (τ0 : ASt) (Q : List PV → Prop) : List PV → List PV → Prop
  | [], acc => Q acc
  | x :: r, acc => g x τ0 fun τ1 => t τ1 fun ok => if ok = true then te τ1 fun y => cmpGo g t te τ0 Q r (acc ++ [y]) else cmpGo g t te τ0 Q r acc
def aComp (ai : AI) (own : Nat) (ix : List Nat) (g : AG) (t : AT) (te : AE) : AA := fun τ Q => ai τ fun xs => xs.length < sizeLine ∧ cmpGo g t te (blkA own ix τ) Q xs []
theorem blkA_val {own : Nat} {ix : List Nat} {τ : ASt} {j : Nat} {x : PV} (h : (blkA own ix τ)[j]? = some (some (.val x))) : own ≤ j ∧ ∃ i, ix[j - own]? = some i ∧ τ[i]? = some (some (.val x)) := by
  unfold blkA at h
  by_cases hj : j < own
  · rw [List.getElem?_append_left (by simpa using hj), List.getElem?_replicate, if_pos hj] at h
    cases h
  · rw [List.getElem?_append_right (by simpa using hj), List.length_replicate, List.getElem?_map] at h
    cases e : ix[j - own]? with
    | none => rw [e] at h; cases h
    | some i =>
      rw [e] at h
      refine ⟨by omega, i, rfl, nth_eq ?_⟩
      cases e2 : nth τ i with
      | none => simp [e2, blkV] at h
      | some z => cases z <;> simp [e2, blkV] at h; subst h; rfl
theorem blkA_own {own : Nat} {ix : List Nat} {τ : ASt} {j : Nat} {xs : List PV} : (blkA own ix τ)[j]? ≠ some (some (.own xs)) := fun h => by
  unfold blkA at h
  by_cases hj : j < own
  · rw [List.getElem?_append_left (by simpa using hj), List.getElem?_replicate, if_pos hj] at h
    cases h
  · rw [List.getElem?_append_right (by simpa using hj), List.length_replicate, List.getElem?_map] at h
    cases e : ix[j - own]? with
    | none => rw [e] at h; cases h
    | some i =>
      rw [e] at h
      cases e2 : nth τ i with
      | none => simp [e2, blkV] at h
      | some z => cases z <;> simp [e2, blkV] at h
def Base.blk (B : Base) (σ : L2.St) (τ : ASt) (D : Addr) : Base := ⟨B.T, B.H, fun a => mt B σ τ a ∨ a = D⟩
theorem SR.blk {K : PySem.W.Frag} {B : Base} {T T' : Addr → Prop} {H H' : Hp} {σ : L2.St} {τ : ASt} {D : Addr} {ws : List V} {own : Nat} {ix : List Nat} (s : SR K B T H σ τ) (q : Stp T H T' H') (hn : H D = none) (hd : H' D = some (.lst ws)) (nt : ¬ T' D) :
    SR K (B.blk σ τ D) T' H' (blkSt own ix σ) (blkA own ix τ) := by
  have s' := s.stp q
  have mv : Mv K T (mt B σ τ) H T' (mt (B.blk σ τ D) (blkSt own ix σ) (blkA own ix τ)) H' := ⟨s.va, fun b o t _ e => q.keep b o t e, q.sub, fun b n t => (q.new b t).elim id fun z => absurd z n, fun b n z => by
    rcases z with (z | z) | ⟨_, _, z, _⟩
    · exact z
    · subst z; exact absurd hn n
    · exact absurd z blkA_own⟩
  refine ⟨by simp [blkSt, blkA], fun j x e => ?_, fun j xs e => absurd e blkA_own, fun j k xs ys p e => absurd e blkA_own, s'.tp, fun a m => ?_, fun a m => ?_, s'.st⟩
  · obtain ⟨hj, i, hi, e'⟩ := blkA_val e
    obtain ⟨v, hv, r⟩ := s.val i x e'
    refine ⟨v, ?_, r.mv mv⟩
    unfold blkSt
    rw [List.getElem?_append_right (by simpa using hj), List.length_replicate, List.getElem?_map, hi]
    simp [hv]
  · rcases m with m | m
    · exact s'.va.mu a m
    · subst m; exact ⟨_, hd, MutH.lst⟩
  · rcases m with m | m
    · exact s'.nt m
    · subst m; exact nt
def SIf (X : Cx) (ifs : List Expr) (t : AT) : Prop := ∃ tt, PIf X ifs tt ∧ SimT X.K tt t
def aYes : AT := fun _ Q => Q true
theorem sif_nil : SIf X [] aYes := ⟨_, pif_nil, fun B T σ τ H Q AQ sr h k => k true T H (.refl sr.tp) h⟩
theorem sif_one {c : Expr} {t : AT} (h : ST' X c t) : SIf X [c] t := let ⟨_, p, s⟩ := h; ⟨_, pif_one p, s⟩
theorem sim_comp {K : PySem.W.Frag} {s : Bool} {wi : TI} {ai : AI} {own : Nat} {ix : List Nat} {g : TG} {ag : AG} {tt : TT} {at' : AT} {te : TE} (hi : SimI K s wi ai) (hg : SimG K g ag) (ht : SimT K tt at') (he : SimE K te ta) :
    SimF K (tComp wi own ix g tt te) (aComp ai own ix ag at' ta) := by
  intro B T σ τ H Q AQ sr h k
  refine hi B T σ τ H _ _ sr h fun J xs T1 H1 s1 walk h1 D hD => ?_
  obtain ⟨hl, h1⟩ := h1
  have sr1 := sr.stp s1
  have nt1 : ¬ T1 D := fun z => by obtain ⟨o, e, _⟩ := (sr1.tp D z).mut; rw [hD] at e; cases e
  have lay := Stp.lay (o := .lst []) sr1.tp hD
  refine ⟨fun i m H2 => m = xs.length - i ∧ ∃ T2 vs acc, Stp T1 H1 T2 H2 ∧ H2 D = some (.lst vs) ∧ ¬ T2 D ∧ Reps K T2 (fun a => mt B σ τ a ∨ a = D) H2 vs acc ∧ acc.length ≤ i ∧ cmpGo ag at' ta (blkA own ix τ) AQ (xs.drop i) acc,
    ⟨_, rfl, T1, [], [], lay, upd_same, nt1, .nil, Nat.le_refl _, h1⟩, ?_⟩
  rintro i m H2 ⟨rfl, T2, vs, acc, s2, hD2, nt2, r2, hacc, h2⟩
  have srb := sr1.blk (own := own) (ix := ix) s2 hD hD2 nt2
  have va2 : Val T2 (fun a => mt B σ τ a ∨ a = D) H2 := ⟨srb.tp, srb.bm⟩
  have w := walk (fun a => mt B σ τ a ∨ a = D) T2 H2 ⟨sr1.va, fun b o t _ e => s2.keep b o t e, s2.sub, fun b n t => (s2.new b t).elim id fun z => absurd z n, fun b n z => z.elim id fun z => by subst z; exact absurd hD n⟩ va2 (.inr s2.keep)
  by_cases hlt : i < xs.length
  · have hget : xs[i]? = some xs[i] := List.getElem?_eq_getElem hlt
    rw [List.drop_eq_getElem_cons hlt] at h2
    refine .inr ⟨w.go i _ hget, fun v H3 yl => ?_⟩
    obtain ⟨s3, r3⟩ := w.yld i _ v H3 hget yl
    have sr3 := srb.stp s3
    refine hg _ T2 _ _ H3 v _ _ _ sr3 (r3.mv (.anti ⟨sr3.tp, sr3.bm⟩ fun a z => z.elim id fun ⟨_, _, z, _⟩ => absurd z blkA_own)) h2 fun σ4 τ4 sr4 o4 h4 => ?_
    refine ht _ T2 σ4 τ4 H3 _ _ sr4 h4 fun ok T5 H5 s5 h5 => ?_
    have sr5 := sr4.stp s5
    have hD3 := s3.keep D _ nt2 hD2
    have hD5 := s5.keep D _ nt2 hD3
    have nt5 : ¬ T5 D := fun z => (s5.new D z).elim nt2 fun n => by rw [n] at hD3; cases hD3
    have r5 := (r2.stp s3 va2).stp s5 ⟨sr3.tp, sr3.bm⟩
    cases ok with
    | false =>
      rw [if_neg Bool.false_ne_true] at h5 ⊢
      exact ⟨_, by omega, rfl, T5, vs, acc, (s2.trans s3).trans s5, hD5, nt5, r5, by omega, h5⟩
    | true =>
      rw [if_pos rfl] at h5 ⊢
      refine he _ T5 σ4 τ4 H5 _ _ sr5 h5 fun vy y T6 H6 s6 r6 h6 => ?_
      have sr6 := sr5.stp s6
      have hD6 := s6.keep D _ nt5 hD5
      have nt6 : ¬ T6 D := fun z => (s6.new D z).elim nt5 fun n => by rw [n] at hD5; cases hD5
      have va6 : Val T6 (fun a => mt B σ τ a ∨ a = D) H6 := ⟨sr6.tp, sr6.bm⟩
      have r7 := r5.stp s6 ⟨sr5.tp, sr5.bm⟩
      have s7 := ((s2.trans s3).trans s5).trans s6
      have tp8 : ∀ a, T6 a → TapeAt (upd H6 D (.lst (vs ++ [vy]))) a := fun a t => by
        obtain ⟨d, x, e, z⟩ := sr6.tp a t
        exact ⟨d, x, by rw [upd_ne (fun w => by subst w; exact nt6 t)]; exact e, z⟩
      have mv8 : Mv K T6 (fun a => mt B σ τ a ∨ a = D) H6 T6 (fun a => mt B σ τ a ∨ a = D) (upd H6 D (.lst (vs ++ [vy]))) := ⟨va6, fun b o _ m e => by rw [upd_ne (fun w => m (.inr w))]; exact e, fun _ t => t, fun _ _ t => t, fun _ _ z => z⟩
      refine ⟨vs, hD6, by rw [r2.length]; omega, _, (by omega : xs.length - (i + 1) < xs.length - i), rfl, T6, vs ++ [vy], acc ++ [y], ⟨fun b o t e => ?_, s7.sub, s7.new, tp8⟩, upd_same, nt6, (r7.append (.cons (r6.mv (.anti sr6.va fun a z => .inl z)) .nil)).mv mv8, by simp; omega, h6⟩
      rw [upd_ne (ne_of_none e hD)]
      exact s7.keep b o t e
  · rw [List.drop_eq_nil_of_le (by omega)] at h2
    refine .inl ⟨w.stop i (by omega), ?_⟩
    exact k D vs acc T2 H2 (s1.trans s2) (sr1.add s2 hD hD2 MutH.lst nt2) (s1.none hD) hD2 nt2 (r2.mv (.anti va2 fun a z => by
      rcases z with (z | z) | z
      · exact .inl (.inl z)
      · exact .inr z
      · exact .inl (.inr z))) h2
/-- all that a comprehension is -/
structure CompS (X : Cx) (tg elt : Expr) (ifs : List Expr) (scope : Scope) (own : Nat) (ix : List Nat) (N : List Str) (g : AG) (t : AT) (te : AE) : Prop where
  ex : ∃ g' t' te', CompOk X tg elt ifs scope own ix N g' t' te' ∧ SimG X.K g' g ∧ SimT X.K t' t ∧ SimE X.K te' te
theorem sf_comp {tg elt iter : Expr} {ifs : List Expr} {scope : Scope} {own : Nat} {ix : List Nat} {N : List Str} {g : AG} {t : AT} {s : Bool} {ai : AI} (hc : X.calm = true) (hi : SI X tg iter s ai) (O : CompS X tg elt ifs scope own ix N g t ta) (hs : ∀ x, foldedSetIterable iter X.env x = pure x := by intro _; rfl) :
    SF X (.ListComp elt [⟨tg, iter, ifs, 0⟩] scope pos) (aComp ai own ix g t ta) := by
  obtain ⟨wi, pi, si⟩ := hi
  obtain ⟨g', t', te', O, sg, st, se⟩ := O.ex
  exact ⟨_, pe_comp hc pi O hs, sim_comp si sg st se⟩
theorem ss_compV {i : Nat} {x : Str} {pos' spos : Pos} {tg elt iter : Expr} {ifs : List Expr} {scope : Scope} {own : Nat} {ix : List Nat} {N : List Str} {g : AG} {t : AT} {s : Bool} {ai : AI} (hc : X.calm = true) (hN : X.N.Nodup) (hi' : X.N[i]? = some x) (hx : Loc X.env.scope x) (hi : SI X tg iter s ai) (O : CompS X tg elt ifs scope own ix N g t ta)
    (hsw : swapsWith (.ListComp elt [⟨tg, iter, ifs, 0⟩] scope pos) (some (.Name x pos')) spos.line X.env = pure true := by rfl) (hs : ∀ x, foldedSetIterable iter X.env x = pure x := by intro _; rfl)
    (hf : X.fn x = true ∨ X.env.scope.names.lookup x = some .local := by first | exact .inl rfl | exact .inr rfl | assumption) :
    SS X (.Assign [.Name x pos'] (.ListComp elt [⟨tg, iter, ifs, 0⟩] scope pos) spos) (aAsg (aFr (aComp ai own ix g t ta)) (agN i)) := by
  obtain ⟨wi, pi, si⟩ := hi
  obtain ⟨g', t', te', O, sg, st, se⟩ := O.ex
  exact ⟨_, ps_comp hc hN hi' hx pi O hsw hs hf, sim_asg (sim_fr (sim_comp si sg st se)) sim_gN⟩
end
/-! ### a def -/
def startA (N : Nat) (xs : List PV) : ASt := xs.map (fun x => some (.val x)) ++ List.replicate (N - xs.length) none
def aBody (N : Nat) (b : AS) : AF := fun xs Q => b { nx := fun _ => Q .non, rt := Q, bk := fun _ => False, ct := fun _ => False } (startA N xs)
theorem start_sr {K : PySem.W.Frag} {T M : Addr → Prop} {H : Hp} {N : List Str} {vs : List V} {xs : List PV} (va : Val T M H) (mt' : ∀ a, M a → ¬ T a) (r : Reps K T M H vs xs) : SR K ⟨T, H, M⟩ T H (start N vs) (startA N.length xs) := by
  have no : ∀ (j : Nat) (ys : List PV), (startA N.length xs)[j]? ≠ some (some (.own ys)) := fun j ys h => by
    unfold startA at h
    by_cases hj : j < xs.length
    · rw [List.getElem?_append_left (by simpa using hj), List.getElem?_map, List.getElem?_eq_getElem hj] at h
      cases h
    · rw [List.getElem?_append_right (by simpa using hj), List.getElem?_replicate] at h
      split at h <;> cases h
  refine ⟨by simp [L2.start, startA, r.length], fun j x h => ?_, fun j ys h => absurd h (no j ys), fun j k ys zs p h => absurd h (no j ys), va.tp, va.mu, mt', .refl va.tp⟩
  unfold startA at h
  by_cases hj : j < xs.length
  · rw [List.getElem?_append_left (by simpa using hj), List.getElem?_map, List.getElem?_eq_getElem hj] at h
    cases h
    obtain ⟨v, hv, rv⟩ := r.get (List.getElem?_eq_getElem hj)
    refine ⟨v, ?_, rv.mv (.anti va fun a m => m.elim id fun ⟨_, _, z, _⟩ => absurd z (no _ _))⟩
    unfold L2.start
    rw [List.getElem?_append_left (by rw [List.length_map, r.length]; exact hj), List.getElem?_map, hv]
    rfl
  · rw [List.getElem?_append_right (by simpa using hj), List.getElem?_replicate] at h
    split at h <;> cases h
section
variable {P : Program} {w : World} {K : PySem.W.Frag} {mg : Str → Option Value} {base : Heap}
/-- the rule of a def: its body's term -/
theorem fn_pure {x qual : Str} {st : Stmt} {f : Addr} {fd : FuncData} {N ps : List Str} {k n : Nat} {b : AS} (F : Fun K x qual st f fd) (S : FnScope N ps (defScope st)) (hn : n = ps.length)
    (hbody : ∀ (cdv : Value) (A : Around) (outer : List Env) (s : Shared) (H : Hp) (E : XK), Room k (A.deeper (envOfC qual (defScope st) s.heap.objs.size f cdv)) →
      SSs (cxOf CX0 P w K mg base N qual (defScope st) f cdv A outer s H E).nox (defBody st) b) : FnOk P w K mg base CX0 (k + 1) f fd ps (spA K n (aBody N.length b)) := by
  refine F.ok S (fun vs H Q E h => ?_) (fun cdv A outer s H vs Q E hr h => ?_)
  · obtain ⟨T, M, xs, AQ, _, _, r, hl, _⟩ := h
    rw [r.length, hl, hn]
  · obtain ⟨T, M, xs, AQ, va, mt', r, hl, hF, hQ⟩ := h
    obtain ⟨t, p, sm⟩ := hbody cdv A outer s H E hr
    refine ⟨t, p, sm ⟨T, H, M⟩ T _ _ H _ _ (start_sr va mt' r) hF ⟨fun T' H' σ' τ' _ sr q => ?_, fun _ _ _ _ _ _ q => q.elim, fun _ _ _ _ _ _ q => q.elim, fun v x T' H' s' r' q => hQ v x T' H' s' r' q⟩⟩
    exact hQ _ _ T' H' sr.st .non q
end
end PL
end
section
set_option Elab.async false
set_option linter.all false
set_option maxRecDepth 100000
set_option maxHeartbeats 4000000
/-! plus of any two, slices, backwards slices, the drawing of a number. -/
namespace PL
open PySem PySem.Spec PyProof.Rows L2
section
variable {X : Cx}
/-! ### a + b: ints, lists, tuples -/
theorem cat_tup0 {prog : Program} {w : World} {A : Around} {E : Value → Shared → Prop} {s : Shared} {t b : Addr} {ws : List Value} {Q : Value → Shared → Prop} (ht : IsTup s.heap t #[]) (hb : IsTup s.heap b ws.toArray) (h0 : Q (.ref b) s) : wpAny (model prog w) A (binaryOp .Add (.ref t) (.ref b)) Q E s := by
  obtain ⟨⟨cls, dd, data, sl⟩, ho, hc, n, hd⟩ := id ht
  obtain ⟨⟨cls2, dd2, data2, sl2⟩, ho2, hc2, n2, hd2⟩ := id hb
  simp only at hc hd hc2 hd2
  subst hc hd hc2 hd2
  exact concat_meets ⟨_, ho, rfl⟩ ⟨_, ho2, rfl⟩ noFill_tuple_add seq_tuple_add PySem.F.slot_tuple_add PySem.F.entry_tuple_add (PySem.F.args_tuple_add_2 _ _)
      (tuple_addW0 t b #[] ws.toArray n n2 dd dd2 sl sl2 (by simp)) ⟨ho, ho2, h0⟩
def rCatT0 (K : PySem.W.Frag) : R2 := fun x y H Q => ∃ a b ys, x = .ref a ∧ y = .ref b ∧ SqT K H a [] ∧ SqT K H b ys ∧ Q (.ref b) H
theorem op_catT0 : OpR X (binaryOp .Add) (rCatT0 X.K) := by
  intro pins s σ H x y v u Q I rx ry h
  obtain ⟨a, b, ys, rfl, rfl, ha, hb, q⟩ := h
  cases rx
  cases ry
  obtain ⟨its, r1, p1, _⟩ := I.tuple ha
  obtain ⟨its2, r2, p2, _⟩ := I.tuple hb
  cases r1
  exact cat_tup0 p1 p2 ⟨.ref b, H, I, rfl, q⟩
def rAddA (K : PySem.W.Frag) : R2 := fun x y H Q => ((rI0 (fun i j => V.int (i + j)) x y H Q ∨ rCat x y H Q) ∨ rCatT K x y H Q) ∨ rCatT0 K x y H Q
def fAddA : Op2 := fun x y Q => match x, y with
  | .int i, .int j => Q (.int (i + j))
  | .lst xs, .lst ys => xs.length + ys.length ≤ sizeLine ∧ Q (.lst (xs ++ ys))
  | .tup xs, .tup ys => xs.length + ys.length ≤ sizeLine ∧ Q (.tup (xs ++ ys))
  | _, _ => False
theorem so_addA : OpR X (binaryOp .Add) (rAddA X.K) ∧ SimR2 X.K (rAddA X.K) fAddA := by
  refine ⟨((op_add.or op_cat).or op_catT).or op_catT0, fun T M H u v x y Q AQ va ru rv h k => ?_⟩
  unfold fAddA at h
  split at h <;> first | exact h.elim | skip
  · exact .inl (.inl (.inl ⟨_, _, ru.toI, rv.toI, k _ _ T H (.refl va.tp) (.int _) h⟩))
  · obtain ⟨a, vs, rfl, hq, nt, nm, rs⟩ := sqL_or ru
    obtain ⟨b, ws, rfl, hq2, nt2, nm2, rs2⟩ := sqL_or rv
    refine .inl (.inl (.inr ⟨a, b, vs, ws, rfl, rfl, hq, hq2, by rw [rs.length, rs2.length]; exact h.1, fun p hp => ?_⟩))
    have st := Stp.lay (o := .lst (vs ++ ws)) va.tp hp
    have np : ¬ T p := fun z => by obtain ⟨o, e, _⟩ := (va.tp p z).mut; rw [hp] at e; cases e
    have nq : ¬ M p := fun z => by obtain ⟨o, e, _⟩ := va.mu p z; rw [hp] at e; cases e
    exact k _ _ T _ st (.lst upd_same np nq ((rs.append rs2).stp st va)) h.2
  · obtain ⟨a, vs, rfl, hq, rs⟩ := sqT_or ru
    obtain ⟨b, ws, rfl, hq2, rs2⟩ := sqT_or rv
    by_cases e : vs = []
    · subst e
      cases rs
      exact .inr ⟨a, b, ws, rfl, rfl, hq, hq2, k _ _ T H (.refl va.tp) rv (by simpa using h.2)⟩
    · refine .inl (.inr ⟨a, b, vs, ws, rfl, rfl, hq, hq2, e, by rw [rs.length, rs2.length]; exact h.1, fun z => ?_, fun z p hp => ?_⟩)
      · subst z
        cases rs2
        exact k _ _ T H (.refl va.tp) ru (by simpa using h.2)
      · have st := Stp.lay (o := .tup (vs ++ ws)) va.tp hp
        exact k _ _ T _ st (.tup (.inl upd_same) ((rs.append rs2).stp st va)) h.2
/-! ### slices -/
theorem getItem_tuple_whole {prog : Program} {w : World} {A : Around} {E : Value → Shared → Prop} {s : Shared} {t sl : Addr} {items : Array Value} {vl vu : Value} {lo hi : Option Int} {Q : Value → Shared → Prop} (ht : IsTup s.heap t items) (hs : s.heap.IsSliceOf sl vl vu .none) (pl : IsPart vl lo) (pu : IsPart vu hi)
    (hw : HT.sIx items.size 0 lo = 0 ∧ HT.sIx items.size items.size hi = items.size)
    (h : Q (.ref t) s) : wpAny (model prog w) A (getItem (.ref t) (.ref sl)) Q E s := by
  obtain ⟨os, hos, hcs, hds⟩ := id hs
  have hTs : s.TypeIs (.ref sl) "slice" := ⟨os, hos, hcs⟩
  obtain ⟨ot, hot, hct, nt, hdt⟩ := id ht
  unfold getItem
  try with_reducible refine wpAny_holding ?_
  first | refine wpAny_bind (wpAny_pure ?_) | skip
  refine wpAny_bind (wpAny_sequenceKey ht.typeIs (by decide) ?_)
  refine wpAny_bind (wpAny_callSpecial?_slot (name := Str.ofString "__getitem__") ht.typeIs PyProof.Rows.slot_tuple_getitem
    (wpAny_call_entry PyProof.Rows.slot_tuple_getitem ht.typeIs entry_tuple_getitem ?_ (args_tuple_getitem _ _)))
  show wpAny _ _ (Builtin.Tuple.tupleItemsOf (.ref t) >>= _) _ _ s
  refine wpAny_bind (tupleItemsOf_ ht ?_)
  refine wpAny_bind (wpAny_typeOf hTs ?_)
  rw [if_pos (by decide)]
  refine wpAny_bind (HT.sliceApplied_gen hs pl pu ?_)
  have hyes : ((((HT.sIx items.size 0 lo : Nat) : Int) == 0 && (1 : Int) == 1 && (HT.sIx items.size items.size hi - HT.sIx items.size 0 lo) == items.size) = true) := by
    rw [hw.1, hw.2]
    simp
  show wpAny _ _ (if (((HT.sIx items.size 0 lo : Nat) : Int) == 0 && (1 : Int) == 1 && (HT.sIx items.size items.size hi - HT.sIx items.size 0 lo) == items.size) = true then _ else _) _ _ s
  rw [if_pos hyes]
  unfold Builtin.Tuple.tupleIsExact
  simp only [bind_assoc, pure_bind]
  refine wpAny_bind (wpAny_typeOf ht.typeIs ?_)
  rw [if_pos (by decide)]
  exact wpAny_bind (wpAny_rule (wpAny_pure ⟨_, rfl, wpAny_pure h⟩))
def rSlW (K : PySem.W.Frag) : V → Option Int → Option Int → Hp → VK → Prop := fun x lo hi H Q => ∃ a xs, x = .ref a ∧ SqT K H a xs ∧
  (HT.sIx xs.length 0 lo = 0 ∧ HT.sIx xs.length xs.length hi = xs.length) ∧ Q (.ref a) H
theorem sl_tupW : SlR X (rSlW X.K) := by
  intro pins s σ H x v vl vu lo hi sl Q I rx hs pl pu h
  obtain ⟨a, xs, rfl, hx, hw, q⟩ := h
  cases rx
  obtain ⟨its, r, ht, hz⟩ := I.tuple hx
  have hlen : its.toArray.size = xs.length := by rw [List.size_toArray]; exact r.length.symm
  refine ⟨"tuple", _, PyProof.Rows.slot_tuple_getitem.lookup, ht.typeIs, ?_⟩
  exact getItem_tuple_whole ht hs pl pu (by rw [hlen]; exact hw) ⟨.ref a, H, I, rfl, q⟩
/-- the items of xs[lo:hi] -/
def cutP (xs : List PV) (lo hi : Option Int) : List PV := (xs.drop (HT.sIx xs.length 0 lo)).take (HT.sIx xs.length xs.length hi - HT.sIx xs.length 0 lo)
theorem cut_rep {K : PySem.W.Frag} {T M : Addr → Prop} {H : Hp} {vs : List V} {xs : List PV} (r : Reps K T M H vs xs) (lo hi : Option Int) : Reps K T M H (cutV vs lo hi) (cutP xs lo hi) := by
  unfold cutV cutP
  rw [r.length]
  exact (r.drop _).take _
abbrev AO := ASt → (Option Int → Prop) → Prop
def SimO (K : PySem.W.Frag) (t : TO) (a : AO) : Prop := ∀ (B : Base) (T : Addr → Prop) (σ : L2.St) (τ : ASt) (H : Hp) (Q : Option Int → Hp → Prop) (AQ : Option Int → Prop), SR K B T H σ τ → a τ AQ →
  (∀ o T' H', Stp T H T' H' → AQ o → Q o H') → t σ H Q
def SO (X : Cx) (e : Option Expr) (a : AO) : Prop := ∃ t, PO X e t ∧ SimO X.K t a
def aoN : AO := fun _ Q => Q none
def aoS (ta : AE) : AO := fun τ Q => ta τ fun x => onI x fun i => Q (some i)
theorem soN : SO X none aoN := ⟨_, po_none, fun B T σ τ H Q AQ sr h k => k _ T H (.refl sr.tp) h⟩
theorem soS {e : Expr} {ta : AE} (h : SE X e ta) : SO X (some e) (aoS ta) := by
  obtain ⟨t, p, s⟩ := h
  refine ⟨_, po_some p, fun B T σ τ H Q AQ sr h k => s B T σ τ H _ _ sr h fun v x T1 H1 s1 r1 h1 => ?_⟩
  obtain ⟨i, rfl, q⟩ := onI_of h1
  exact ⟨i, r1.toI, k _ T1 H1 s1 q⟩
@[irreducible] def fSl (x : PV) (lo hi : Option Int) (Q : PV → Prop) : Prop := match x with | .tup xs => Q (.tup (cutP xs lo hi)) | .lst xs => Q (.lst (cutP xs lo hi)) | _ => False
theorem sl_tup' {xs : List PV} {lo hi : Option Int} {Q : PV → Prop} (h : Q (.tup (cutP xs lo hi))) : fSl (.tup xs) lo hi Q := by unfold fSl; exact h
theorem sl_lst' {xs : List PV} {lo hi : Option Int} {Q : PV → Prop} (h : Q (.lst (cutP xs lo hi))) : fSl (.lst xs) lo hi Q := by unfold fSl; exact h
def aSl (ta : AE) (l h : AO) : AE := fun τ Q => ta τ fun x => l τ fun lo => h τ fun hi => fSl x lo hi Q
theorem se_sl {e : Expr} {lo hi : Option Expr} {p2 pos : Pos} {ta : AE} {l h : AO} (he : SE X e ta) (hl : SO X lo l) (hh : SO X hi h) : SE X (.Subscript e (.Slice lo hi none p2) pos) (aSl ta l h) := by
  obtain ⟨t, p, s⟩ := he
  obtain ⟨t1, p1, s1'⟩ := hl
  obtain ⟨t2, p2', s2'⟩ := hh
  refine ⟨_, pe_slice ((sl_list.or sl_tup).or sl_tupW) p p1 p2', fun B T σ τ H Q AQ sr h k => s B T σ τ H _ _ sr h fun v x T1 H1 s1 r1 h1 => ?_⟩
  refine s1' B T1 σ τ H1 _ _ (sr.stp s1) h1 fun lo T2 H2 s2 h2 => ?_
  refine s2' B T2 σ τ H2 _ _ ((sr.stp s1).stp s2) h2 fun hi T3 H3 s3 h3 => ?_
  have sr3 := ((sr.stp s1).stp s2).stp s3
  have r3 := (r1.stp s2 (sr.stp s1).va).stp s3 ((sr.stp s1).stp s2).va
  have s123 := (s1.trans s2).trans s3
  unfold fSl at h3
  split at h3 <;> first | exact h3.elim | skip
  · obtain ⟨a, vs, rfl, hq, rs⟩ := sqT_or r3
    by_cases hw : HT.sIx vs.length 0 lo = 0 ∧ HT.sIx vs.length vs.length hi = vs.length
    · refine .inr ⟨a, vs, rfl, hq, hw, k _ _ T3 H3 s123 r3 ?_⟩
      rename_i xs
      have : cutP xs lo hi = xs := by
        unfold cutP
        rw [← rs.length, hw.1, hw.2, rs.length]
        simp
      rw [this] at h3
      exact h3
    · refine .inl (.inr ⟨a, vs, rfl, hq, hw, fun q hq' => ?_⟩)
      have st := Stp.lay (o := .tup (cutV vs lo hi)) sr3.tp hq'
      exact k _ _ T3 _ (s123.trans st) (.tup (.inl upd_same) ((cut_rep rs lo hi).stp st sr3.va)) h3
  · obtain ⟨a, vs, rfl, hq, nt, nm, rs⟩ := sqL_or r3
    refine .inl (.inl ⟨a, vs, rfl, .inl (.inl hq), fun q hq' => ?_⟩)
    have st := Stp.lay (o := .lst (cutV vs lo hi)) sr3.tp hq'
    have np : ¬ T3 q := fun z => by obtain ⟨o, e, _⟩ := (sr3.tp q z).mut; rw [hq'] at e; cases e
    have nq : ¬ mt B σ τ q := fun z => by obtain ⟨o, e, _⟩ := sr3.va.mu q z; rw [hq'] at e; cases e
    exact k _ _ T3 _ (s123.trans st) (.lst upd_same np nq ((cut_rep rs lo hi).stp st sr3.va)) h3
/-! ### xs[::-1] of a list -/
end
/-! ### the tape -/
def F_draw : AF := fun xs Q => match xs with | [.tape, .int m] => (0 < m ∧ m < 4611686018427387904) ∧ ∀ r, 0 ≤ r → r < m → Q (.int r) | _ => False
def F_tape : AF := fun xs Q => match xs with | [.scr ns, .int k] => (0 ≤ k ∧ k ≤ 1000) ∧ Q .tape | _ => False
end PL
end
section
set_option Elab.async false
set_option linter.all false
set_option maxRecDepth 100000
set_option maxHeartbeats 4000000
/-! A comprehension's side conditions; one transformer for all of its contexts. -/
namespace PL
open PySem PySem.Spec PyProof.Rows L2
def GMono (g : TG) : Prop := ∀ v σ H Q Q', (∀ σ2 H2, Q σ2 H2 → Q' σ2 H2) → g v σ H Q → g v σ H Q'
def GsMono (g : TGs) : Prop := ∀ v σ H Q Q', (∀ σ2 H2, Q σ2 H2 → Q' σ2 H2) → g v σ H Q → g v σ H Q'
/-- a target of a comprehension: the first own names alone are stored -/
def SK (own : Nat) (X : Cx) (tg : Expr) (ag : AG) : Prop := ∃ g, PG X tg g ∧ SimG X.K g ag ∧ GKeep own g ∧ GMono g
def SKs (own : Nat) (X : Cx) (tg : List Expr) (ag : AGs) : Prop := ∃ g, PGs X tg g ∧ SimGs X.K g ag ∧ GsKeep own g ∧ GsMono g
section
variable {X : Cx} {pos : Pos} {own : Nat}
theorem sk_name {i : Nat} {x : Str} (hN : X.N.Nodup) (hi : X.N[i]? = some x) (hx : Loc X.env.scope x) (hk : i < own) (hf : X.fn x = true ∨ X.env.scope.names.lookup x = some .local := by first | exact .inl rfl | exact .inr rfl | assumption) : SK own X (.Name x pos) (agN i) :=
  ⟨_, pg_name hN hi hx hf, sim_gN, gk_name hk, gm_name⟩
theorem sks_nil : SKs own X [] agNil := ⟨_, pgs_nil, sim_gnil, gks_nil, gms_nil⟩
theorem sks_cons {e : Expr} {es : List Expr} {ag : AG} {ags : AGs} (h1 : SK own X e ag) (h2 : SKs own X es ags) (hs : (assignEach (e :: es) X.env).map (·.2) = assign e X.env :: (assignEach es X.env).map (·.2) := by rfl) : SKs own X (e :: es) (agCons ag ags) :=
  let ⟨_, p, s, k, m⟩ := h1; let ⟨_, p', s', k', m'⟩ := h2; ⟨_, pgs_cons p p' hs, sim_gcons s s', gks_cons k m k' m', gms_cons m m'⟩
end
/-! the weakest ones -/
def gOf (K : PySem.W.Frag) (own : Nat) (ag : AG) : TG := fun v σ H Q => ∃ (B : Base) (T : Addr → Prop) (τ : ASt) (x : PV) (AQ : ASt → Prop), SR K B T H σ τ ∧ Rep K T (mt B σ τ) H v x ∧ ag x τ AQ ∧
  ∀ σ' τ', SR K B T H σ' τ' → (∀ b, ownA σ' τ' b → ownA σ τ b) → AQ τ' → (σ'.length = σ.length ∧ ∀ j, own ≤ j → σ'[j]? = σ[j]?) → Q σ' H
def tOf (K : PySem.W.Frag) (a : AT) : TT := fun σ H Q => ∃ (B : Base) (T : Addr → Prop) (τ : ASt) (AQ : Bool → Prop), SR K B T H σ τ ∧ a τ AQ ∧ ∀ b T' H', Stp T H T' H' → AQ b → Q b H'
def eOf (K : PySem.W.Frag) (a : AE) : TE := fun σ H Q => ∃ (B : Base) (T : Addr → Prop) (τ : ASt) (AQ : PV → Prop), SR K B T H σ τ ∧ a τ AQ ∧ ∀ v x T' H', Stp T H T' H' → Rep K T' (mt B σ τ) H' v x → AQ x → Q v H'
theorem sim_gOf {K : PySem.W.Frag} {own : Nat} {ag : AG} : SimG K (gOf K own ag) ag := fun B T σ τ H v x Q AQ sr r h k => ⟨B, T, τ, x, AQ, sr, r, h, fun σ' τ' s o q _ => k σ' τ' s o q⟩
theorem keep_gOf {K : PySem.W.Frag} {own : Nat} {ag : AG} : GKeep own (gOf K own ag) := fun v σ H Q ⟨B, T, τ, x, AQ, sr, r, h, k⟩ => ⟨B, T, τ, x, AQ, sr, r, h, fun σ' τ' s o q z => ⟨k σ' τ' s o q z, z⟩⟩
theorem sim_tOf {K : PySem.W.Frag} {a : AT} : SimT K (tOf K a) a := fun B T σ τ H Q AQ sr h k => ⟨B, T, τ, AQ, sr, h, k⟩
theorem sim_eOf {K : PySem.W.Frag} {a : AE} : SimE K (eOf K a) a := fun B T σ τ H Q AQ sr h k => ⟨B, T, τ, AQ, sr, h, k⟩
section
variable {X : Cx}
theorem SK.of {own : Nat} {tg : Expr} {ag : AG} (h : SK own X tg ag) : PG X tg (gOf X.K own ag) := by
  obtain ⟨g, p, s, k, m⟩ := h
  intro pins sh σ H v u Q I r hw
  obtain ⟨B, T, τ, x, AQ, sr, rx, h, c⟩ := hw
  have h1 : g v σ H fun σ' H' => H' = H ∧ ∃ τ', SR X.K B T H σ' τ' ∧ (∀ b, ownA σ' τ' b → ownA σ τ b) ∧ AQ τ' := s B T σ τ H v x _ AQ sr rx h fun σ' τ' s o q => ⟨rfl, τ', s, o, q⟩
  have h2 := k v σ H _ h1
  refine p pins sh σ H v u Q I r (m v σ H _ _ (fun σ2 H2 q => ?_) h2)
  obtain ⟨⟨rfl, τ', s', o', q'⟩, z⟩ := q
  exact c σ2 τ' s' o' q' z
theorem SIf.of {ifs : List Expr} {a : AT} (h : SIf X ifs a) : PIf X ifs (tOf X.K a) := by
  obtain ⟨t, p, s⟩ := h
  intro pins sh σ H Q I hw
  obtain ⟨B, T, τ, AQ, sr, h, c⟩ := hw
  exact p pins sh σ H Q I (s B T σ τ H Q AQ sr h c)
theorem SE.of {e : Expr} {a : AE} (h : SE X e a) : PE X e (eOf X.K a) := by
  obtain ⟨t, p, s⟩ := h
  intro pins sh σ H Q I hw
  obtain ⟨B, T, τ, AQ, sr, h, c⟩ := hw
  exact p pins sh σ H Q I (s B T σ τ H Q AQ sr h c)
theorem comp_s {tg elt : Expr} {ifs : List Expr} {scope : Scope} {own : Nat} {ix : List Nat} {N : List Str} {g : AG} {t : AT} {te : AE} (h1 : scope.kind = .function) (h2 : (scope.names.all fun y => !decide (y.2 = .cell)) = true) (h3 : (scope.names.all fun y => !decide (y.2 = .local) || decide (scope.names.lookup y.1 = some .local)) = true)
    (h4 : (scope.names.all fun y => !decide (y.2 = .free) || decide (X.env.scope.names.lookup y.1 = some .cell)) = true) (h5 : N.length = own + ix.length) (h6 : freesB X (relabel scope X.env) own ix N = true)
    (tgt : ∀ cl C s H ex pn, SK own (blk X (relabel scope X.env) N cl C s H ex pn) tg g)
    (tst : ∀ cl C s H ex pn, SIf (blk X (relabel scope X.env) N cl C s H ex pn) ifs t)
    (val : ∀ cl C s H ex pn, SE (blk X (relabel scope X.env) N cl C s H ex pn) elt te) : CompS X tg elt ifs scope own ix N g t te :=
  ⟨gOf X.K own g, tOf X.K t, eOf X.K te, comp_ok h1 h2 h3 h4 h5 h6 keep_gOf (fun cl C s H ex pn => (tgt cl C s H ex pn).of) (fun cl C s H ex pn => (tst cl C s H ex pn).of) (fun cl C s H ex pn => (val cl C s H ex pn).of), sim_gOf, sim_tOf, sim_eOf⟩
end
end PL
end
section
set_option Elab.async false
set_option linter.all false
set_option maxRecDepth 100000
set_option maxHeartbeats 4000000
/-! Equality and texts of nested values. -/
namespace PL
open PySem PySem.Spec PyProof.Rows L2
mutual
def pd : PV → PyData
  | .bl b => .bool b
  | .int i => .int i
  | .str x => .str x
  | .tup xs => .tuple (pds xs)
  | .lst xs => .list (pds xs)
  | _ => .none
def pds : List PV → List PyData
  | [] => []
  | x :: xs => pd x :: pds xs
end
mutual
/-- plain data, at most n deep -/
def okD : Nat → PV → Bool
  | _, .non => true
  | _, .bl _ => true
  | _, .int _ => true
  | _, .str x => PyData.strOk x
  | n + 1, .tup xs => okDs n xs
  | n + 1, .lst xs => okDs n xs
  | _, _ => false
def okDs : Nat → List PV → Bool
  | _, [] => true
  | n, x :: xs => okD n x && okDs n xs
end
mutual
theorem okD_lay : ∀ (n : Nat) (x : PV), okD n x = true → (pd x).canLay0 = true ∧ (pd x).depth ≤ n ∧ (pd x).hasDict = false
  | n, .non, _ => ⟨rfl, Nat.zero_le _, rfl⟩
  | n, .bl _, _ => ⟨rfl, Nat.zero_le _, rfl⟩
  | n, .int _, _ => ⟨rfl, Nat.zero_le _, rfl⟩
  | n, .str x, h => ⟨by simpa [pd, PyData.canLay0, okD] using h, Nat.zero_le _, rfl⟩
  | 0, .tup xs, h => by simp [okD] at h
  | 0, .lst xs, h => by simp [okD] at h
  | n + 1, .tup xs, h => by
    obtain ⟨a, b, c⟩ := okDs_lay n xs (by simpa [okD] using h)
    exact ⟨by simpa [pd, PyData.canLay0] using a, by simpa [pd, PyData.depth] using b, by simpa [pd, PyData.hasDict] using c⟩
  | n + 1, .lst xs, h => by
    obtain ⟨a, b, c⟩ := okDs_lay n xs (by simpa [okD] using h)
    exact ⟨by simpa [pd, PyData.canLay0] using a, by simpa [pd, PyData.depth] using b, by simpa [pd, PyData.hasDict] using c⟩
  | n, .tape, h => by simp [okD] at h
  | n, .scr _, h => by simp [okD] at h
  | n, .ty _, h => by simp [okD] at h
theorem okDs_lay : ∀ (n : Nat) (xs : List PV), okDs n xs = true → PyData.canLayAll0 (pds xs) = true ∧ PyData.depthAll (pds xs) ≤ n ∧ PyData.hasDictAll (pds xs) = false
  | n, [], _ => ⟨rfl, Nat.zero_le _, rfl⟩
  | n, x :: xs, h => by
    simp only [okDs, Bool.and_eq_true] at h
    obtain ⟨a, b, c⟩ := okD_lay n x h.1
    obtain ⟨a', b', c'⟩ := okDs_lay n xs h.2
    exact ⟨by simp [pds, PyData.canLayAll0, a, a'], by simp only [pds, PyData.depthAll]; omega, by simp [pds, PyData.hasDictAll, c, c']⟩
end
section
variable {X : Cx} {pins : List (Addr × Obj)} {σ : L2.St} {H : Hp} {s : Shared}
mutual
theorem reads_of (I : Inv X pins σ H s) {T M : Addr → Prop} : ∀ (n : Nat) {x : PV} {v : V} {u : Value}, Rep X.K T M H v x → okD n x = true → RelV v u → ∃ as, Reads s.heap u (pd x) as
  | _, _, _, _, .non, _, r => by cases r; exact ⟨_, .none⟩
  | _, _, _, _, .bl b, _, r => by cases r; exact ⟨_, .bool b⟩
  | _, _, _, _, .int i, _, r => by obtain ⟨t, rfl⟩ := r; exact ⟨_, .int i t⟩
  | _, _, _, _, .str x, _, r => by obtain ⟨t, rfl⟩ := r; exact ⟨_, .str x t⟩
  | _, _, _, _, .ty n, h, r => by simp [okD] at h
  | 0, _, _, _, .tup hq rs, h, r => by simp [okD] at h
  | 0, _, _, _, .lst hq t m rs, h, r => by simp [okD] at h
  | n + 1, _, _, _, .tup hq rs, h, r => by
    cases r
    obtain ⟨its, rv, ⟨o, ho, hc, k, hd⟩, _⟩ := I.tuple hq.sq
    obtain ⟨as, ra⟩ := readsAll_of I n rs (by simpa [okD] using h) rv
    exact ⟨_, .tuple ho hc hd (by simpa using ra)⟩
  | n + 1, _, _, _, .lst hq t m rs, h, r => by
    cases r
    obtain ⟨its, rv, ⟨o, k, ho, hc, _, hd⟩, _⟩ := I.list (SqL.of hq)
    obtain ⟨as, ra⟩ := readsAll_of I n rs (by simpa [okD] using h) rv
    exact ⟨_, .list ho hc hd (by simpa using ra)⟩
  | _, _, _, _, .tape _, h, r => by simp [okD] at h
  | _, _, _, _, .scr _, h, r => by simp [okD] at h
theorem readsAll_of (I : Inv X pins σ H s) {T M : Addr → Prop} : ∀ (n : Nat) {xs : List PV} {vs : List V} {us : List Value}, Reps X.K T M H vs xs → okDs n xs = true → Vals vs us → ∃ as, ReadsAll s.heap us (pds xs) as
  | _, _, _, _, .nil, _, r => by cases r; exact ⟨_, .nil⟩
  | n, _, _, _, .cons h t, hk, r => by
    simp only [okDs, Bool.and_eq_true] at hk
    cases r with
    | cons r rr =>
      obtain ⟨as, ra⟩ := reads_of I n h hk.1 r
      obtain ⟨bs, rb⟩ := readsAll_of I n t hk.2 rr
      exact ⟨_, .cons ra rb⟩
end
end
section
variable {X : Cx}
/-- python's == of plain data -/
def eqB (x y : PV) : Bool := PyData.eqv (pd x) (pd y)
def rEqP (K : PySem.W.Frag) (neg : Bool) : R2 := fun u v H Q => ∃ (T M : Addr → Prop) (x y : PV), Rep K T M H u x ∧ Rep K T M H v y ∧ okD 30 x = true ∧ okD 30 y = true ∧ Q (.bl (if neg then !eqB x y else eqB x y)) H
theorem op_eqP {k : Nat} (hr : Room k X.A) : OpR X (compareOp .Eq) (rEqP X.K false) := by
  intro pins s σ H u v uu vv Q I ru rv h
  obtain ⟨T, M, x, y, rx, ry, kx, ky, q⟩ := h
  obtain ⟨as, ra⟩ := reads_of I 30 rx kx ru
  obtain ⟨bs, rb⟩ := reads_of I 30 ry ky rv
  obtain ⟨a1, a2, _⟩ := okD_lay 30 x kx
  obtain ⟨b1, b2, _⟩ := okD_lay 30 y ky
  exact SeqAt.compareEq_reads ra rb a1 b1 (by have := hr.un; omega) ⟨.bl _, H, I, rfl, q⟩
theorem op_neP {k : Nat} (hr : Room k X.A) : OpR X (compareOp .NotEq) (rEqP X.K true) := by
  intro pins s σ H u v uu vv Q I ru rv h
  obtain ⟨T, M, x, y, rx, ry, kx, ky, q⟩ := h
  obtain ⟨as, ra⟩ := reads_of I 30 rx kx ru
  obtain ⟨bs, rb⟩ := reads_of I 30 ry ky rv
  obtain ⟨a1, a2, _⟩ := okD_lay 30 x kx
  obtain ⟨b1, b2, _⟩ := okD_lay 30 y ky
  exact SeqAt.compareNe_reads ra rb a1 b1 (by have := hr.un; omega) ⟨.bl _, H, I, rfl, q⟩
def fEq : Op2 := fun x y Q => match scalP x y with | some b => Q (.bl b) | none => (okD 30 x = true ∧ okD 30 y = true) ∧ Q (.bl (eqB x y))
def fNe : Op2 := fun x y Q => match scalP x y with | some b => Q (.bl (!b)) | none => (okD 30 x = true ∧ okD 30 y = true) ∧ Q (.bl (!eqB x y))
def rEqA (K : PySem.W.Frag) : R2 := fun x y H Q => rEq x y H Q ∨ rEqP K false x y H Q
def rNeA (K : PySem.W.Frag) : R2 := fun x y H Q => rNe x y H Q ∨ rEqP K true x y H Q
theorem so_eq {k : Nat} (hr : Room k X.A) : OpR X (compareOp .Eq) (rEqA X.K) ∧ SimR2 X.K (rEqA X.K) fEq := by
  refine ⟨op_eq.or (op_eqP hr), fun T M H u v x y Q AQ va ru rv h k => ?_⟩
  unfold fEq at h
  split at h
  · rename_i b e
    obtain ⟨h1, h2⟩ := scal_rep ru rv e
    refine .inl ⟨h1, ?_⟩
    rw [h2]
    exact k _ _ T H (.refl va.tp) (.bl _) h
  · exact .inr ⟨T, M, x, y, ru, rv, h.1.1, h.1.2, k _ _ T H (.refl va.tp) (.bl _) h.2⟩
theorem so_ne {k : Nat} (hr : Room k X.A) : OpR X (compareOp .NotEq) (rNeA X.K) ∧ SimR2 X.K (rNeA X.K) fNe := by
  refine ⟨op_ne.or (op_neP hr), fun T M H u v x y Q AQ va ru rv h k => ?_⟩
  unfold fNe at h
  split at h
  · rename_i b e
    obtain ⟨h1, h2⟩ := scal_rep ru rv e
    refine .inl ⟨h1, ?_⟩
    rw [h2]
    exact k _ _ T H (.refl va.tp) (.bl _) h
  · exact .inr ⟨T, M, x, y, ru, rv, h.1.1, h.1.2, k _ _ T H (.refl va.tp) (.bl _) h.2⟩
/-! ### str(..) of a tuple, a list, None -/
structure ShOk (x : PV) : Prop where
  ok : okD 30 x = true
  sh : (pd x).showable = true
  sz : (pd x).shown.length ≤ sizeLine
end
end PL
end
section
set_option Elab.async false
set_option linter.all false
set_option maxRecDepth 100000
set_option maxHeartbeats 4000000
/-! A list taken apart; x *= e; in, not in. -/
namespace PL
open PySem PySem.Spec PyProof.Rows L2
section
variable {prog : Program} {w : World} {A : Around} {E : Value → Shared → Prop} {s : Shared}
theorem isList_push {h : Heap} {l : Addr} {items : Array Value} (hl : h.IsList l items) (o : Obj) : (h.push o).IsList l items := by
  obtain ⟨ob, e, r⟩ := hl
  exact ⟨ob, Heap.get?_push_of_some _ e, r⟩
theorem draw_list {it t : Addr} {items : Array Value} (hne : t ≠ it) : ∀ (n i : Nat) (s : Shared) (Q : List Value → Shared → Prop), s.heap.IsListIter it t i → s.heap.IsList t items → i + n ≤ items.size →
    (∀ h', h'.IsListIter it t (i + n) → Heap.SameBut it s.heap h' → Q ((items.toList.drop i).take n) { s with heap := h' }) → wpAny (model prog w) A (draw (.ref it) n) Q E s
  | 0, i, s, Q, hit, _, _, hQ => by
    show wpAny _ _ (pure []) Q E s
    exact wpAny_pure (by simpa using hQ s.heap hit (Heap.SameBut.refl ..))
  | n + 1, i, s, Q, hit, ht, hle, hQ => by
    have hlt : i < items.size := by omega
    show wpAny _ _ (pyNext (.ref it) >>= _) Q E s
    refine wpAny_bind (wpAny_pyNext_list_item hit ht (x := items[i]) (by simp [hlt]) fun h₁ hit₁ hs₁ => ?_)
    refine wpAny_bind (wpAny_holding (draw_list hne n (i + 1) _ _ hit₁ (ht.extBut hs₁.extBut hne) (by omega) fun h₂ hit₂ hs₂ => wpAny_pure ?_))
    have hd : items.toList.drop i = items[i] :: items.toList.drop (i + 1) := by simp [List.drop_eq_getElem_cons, hlt]
    have := hQ h₂ (by rw [show i + (n + 1) = i + 1 + n by omega]; exact hit₂) (hs₁.trans hs₂)
    rw [hd, List.take_succ_cons] at this
    exact this
theorem unpackItems_list {t : Addr} {items : Array Value} {Q : List Value → Shared → Prop} (hh : A.handled = none) (ht : s.heap.IsList t items)
    (hQ : ∀ h', Heap.ExtBut s.heap.objs.size s.heap h' → Q items.toList { s with heap := h' }) : wpAny (model prog w) A (unpackItems (.ref t) items.size none) Q E s := by
  have hlt : t ≠ s.heap.objs.size := by obtain ⟨o, ho, _⟩ := ht; exact Nat.ne_of_lt (Heap.lt_size ho)
  unfold unpackItems
  refine wpAny_bind ?_
  · unfold notIterableAtAll
    refine wpAny_bind (wpAny_specialOf ht.typeIs slot_list_iter.lookup ?_)
    refine wpAny_pure ?_
    simp only [Bool.false_eq_true, if_false]
    refine wpAny_bind (wpAny_holding (wpAny_pyIter_list ht ?_))
    refine wpAny_bind (wpAny_holding (draw_list hlt items.size 0 _ _ ⟨_, Heap.get?_push_size _ rfl, rfl, rfl⟩ (isList_push ht _) (by omega) fun h₁ hit₁ hs₁ => ?_))
    have hall : List.take items.size (List.drop 0 items.toList) = items.toList := by
      rw [List.drop_zero]; exact List.take_of_length_le (by simp)
    rw [hall]
    rw [if_neg (by simp)]
    have ht₁ : h₁.IsList t items := (isList_push ht _).extBut hs₁.extBut hlt
    refine wpAny_bind (wpAny_holding (wpAny_pyNext_list_end hh hit₁ ht₁ (by simp) fun h₂ he₂ => ?_))
    simp only [Option.isSome_none, Bool.false_eq_true, if_false]
    refine wpAny_pure (hQ h₂ fun b o hb e => he₂ b o hb (hs₁.extBut b o hb (Heap.get?_push_of_some _ e)))
theorem assign_Tuple_list {env : Env} {elts : List Expr} {x1} {pos : Pos} {t : Addr} {items : Array Value} {Q : Unit → Shared → Prop} (hh : A.handled = none) (ht : s.heap.IsList t items)
    (hn : (assignEach elts env).length = items.size) (hstar : (assignEach elts env).findIdx? (·.1) = none)
    (h : ∀ h', Heap.ExtBut s.heap.objs.size s.heap h' → wpAny (model prog w) A (assignInOrder ((assignEach elts env).map (·.2)) items.toList) Q E { s with heap := h' }) :
    wpAny (model prog w) A (assign (.Tuple elts x1 pos) env (.ref t)) Q E s := by
  rw [assign_Tuple]
  refine wpAny_bind (wpAny_standAt ?_)
  unfold unpack
  rw [hn, hstar]
  exact wpAny_bind (wpAny_holding (unpackItems_list hh ht h))
end
section
variable {X : Cx} {pos : Pos}
def gSeq (K : PySem.W.Frag) (n : Nat) (t : TGs) : TG := fun v σ H Q => ∃ a xs, v = .ref a ∧ (SqT K H a xs ∨ SqL K H a xs) ∧ xs.length = n ∧ t xs σ H Q
theorem pg_seq {es : List Expr} {k : Nat} {t : TGs} {n : Nat} (hc : X.calm = true) (h : PGs X es t)
    (hn : (assignEach es X.env).length = n := by rfl) (hst : (assignEach es X.env).findIdx? (·.1) = none := by rfl) : PG X (.Tuple es k pos) (gSeq X.K n t) := by
  intro pins s σ H v u Q I r hw
  obtain ⟨a, xs, e1, hq, hl, hw⟩ := hw
  subst e1
  cases r
  rcases hq with hq | hq
  · obtain ⟨its, rv, ht, hz⟩ := I.tuple hq
    refine assign_Tuple_tuple (I.ok.hd hc) ht (by simp [hn, ← hl, rv.length]) hst fun h' hx => ?_
    have I1 : Inv X pins σ H { s with heap := h' } := I.kept (t' := s.toks) fun b o e => hx b o (Nat.ne_of_lt (Heap.lt_size e)) e
    exact h pins _ σ H xs _ Q I1 (by simpa using rv) hw
  · obtain ⟨its, rv, ht, hz⟩ := I.list hq
    refine assign_Tuple_list (I.ok.hd hc) ht.isList (by simp [hn, ← hl, rv.length]) hst fun h' hx => ?_
    have I1 : Inv X pins σ H { s with heap := h' } := I.kept (t' := s.toks) fun b o e => hx b o (Nat.ne_of_lt (Heap.lt_size e)) e
    exact h pins _ σ H xs _ Q I1 (by simpa using rv) hw
/-- (a, b, ..) = a tuple or list of that length -/
def agQ (n : Nat) (r : AGs) : AG := fun x τ Q => onQ x fun xs => xs.length = n ∧ r xs τ Q
theorem sim_gQ {K : PySem.W.Frag} {n : Nat} {gs : TGs} {ags : AGs} (s : SimGs K gs ags) : SimG K (gSeq K n gs) (agQ n ags) := fun B T σ τ H v x Q AQ sr r h k => by
  obtain ⟨xs, hx, h⟩ := onQ_of h
  rcases hx with rfl | rfl
  · obtain ⟨p, vs, rfl, hq, r'⟩ := sqT_or r
    exact ⟨p, vs, rfl, .inl hq, by rw [r'.length]; exact h.1, s B T σ τ H vs _ Q AQ sr r' h.2 k⟩
  · obtain ⟨p, vs, rfl, hq, nt, nm, r'⟩ := sqL_or r
    exact ⟨p, vs, rfl, .inr (.inl (.inl hq)), by rw [r'.length]; exact h.1, s B T σ τ H vs _ Q AQ sr r' h.2 k⟩
theorem sg_seq {es : List Expr} {k : Nat} {ags : AGs} {n : Nat} (hc : X.calm = true) (h : SGs X es ags) (hn : (assignEach es X.env).length = n := by rfl) (hst : (assignEach es X.env).findIdx? (·.1) = none := by rfl) : SG X (.Tuple es k pos) (agQ n ags) :=
  let ⟨_, p, s⟩ := h; ⟨_, pg_seq hc p hn hst, sim_gQ s⟩
theorem gk_seq {own : Nat} {K : PySem.W.Frag} {n : Nat} {t : TGs} (h : GsKeep own t) : GKeep own (gSeq K n t) := fun v σ H Q ⟨a, xs, e, h1, h2, h3⟩ => ⟨a, xs, e, h1, h2, h xs σ H Q h3⟩
theorem sk_seq {own : Nat} {es : List Expr} {k : Nat} {ags : AGs} {n : Nat} (hc : X.calm = true) (h : SKs own X es ags) (hn : (assignEach es X.env).length = n := by rfl) (hst : (assignEach es X.env).findIdx? (·.1) = none := by rfl) : SK own X (.Tuple es k pos) (agQ n ags) :=
  let ⟨_, p, s, kp, m⟩ := h; ⟨_, pg_seq hc p hn hst, sim_gQ s, gk_seq kp, fun v σ H Q Q' z ⟨a, xs, e, h1, h2, h3⟩ => ⟨a, xs, e, h1, h2, m _ _ _ _ _ z h3⟩⟩
/-! x *= e -/
end
end PL
end
section
set_option Elab.async false
set_option linter.all false
set_option maxRecDepth 100000
set_option maxHeartbeats 4000000
/-! The tape's steps; the law's call; readings of loops. -/
namespace PL
open PySem PySem.Spec PyProof.Rows L2
theorem small_cmul {i : Int} (a : 0 ≤ i) (b : i < 2147483647) : -(2 ^ 64) < i ∧ i < 2 ^ 64 := ⟨by omega, by omega⟩
theorem b01 (b : Bool) : (0 : Int) ≤ (if b = true then 1 else 0) := by cases b <;> decide
theorem b64 (b : Bool) : -(2 ^ 64) < (if b = true then (1 : Int) else 0) ∧ (if b = true then (1 : Int) else 0) < 2 ^ 64 := by cases b <;> decide
theorem tape_put {T : Addr → Prop} {H : Hp} {p : Addr} {d x : Int} (tp : ∀ a, T a → TapeAt H a) (t : T p) (d0 : 0 ≤ d) (x0 : 0 ≤ x) (x1 : x < 2147483647) : Stp T H T (upd H p (.lst [.int d, .int x])) where
  keep := fun b o n e => by rw [upd_ne (fun z => n (by subst z; exact t))]; exact e
  sub := fun _ t => t
  new := fun _ t => .inl t
  tp := fun a ta => by
    by_cases z : a = p
    · subst z; exact ⟨d, x, upd_same, d0, x0, x1⟩
    · obtain ⟨d', x', e, q⟩ := tp a ta
      exact ⟨d', x', by rw [upd_ne z]; exact e, q⟩
theorem tape_new {T : Addr → Prop} {H : Hp} {p : Addr} {d x : Int} (tp : ∀ a, T a → TapeAt H a) (hp : H p = none) (d0 : 0 ≤ d) (x0 : 0 ≤ x) (x1 : x < 2147483647) : Stp T H (fun b => T b ∨ b = p) (upd H p (.lst [.int d, .int x])) where
  keep := fun b o n e => by rw [upd_ne (ne_of_none e hp)]; exact e
  sub := fun _ t => .inl t
  new := fun b t => t.elim .inl fun z => .inr (by subst z; exact hp)
  tp := fun a ta => by
    by_cases z : a = p
    · subst z; exact ⟨d, x, upd_same, d0, x0, x1⟩
    · rcases ta with ta | ta
      · obtain ⟨d', x', e, q⟩ := tp a ta
        exact ⟨d', x', by rw [upd_ne z]; exact e, q⟩
      · exact absurd ta z
theorem law_sp {K : PySem.W.Frag} {H : Hp} {a : Addr} {ns : List Int} {F : AF} (hS : SqL K H a (ns.map V.int)) (h : F [.scr ns] fun x => x = .bl true) : spA K 1 F [.ref a] H (fun v _ => v = .bl true) fun _ _ _ => False := by
  refine ⟨fun _ => False, fun _ => False, [.scr ns], _, ⟨fun _ z => z.elim, fun _ z => z.elim⟩, fun _ z => z.elim, .cons (.scr ?_) .nil, rfl, h, fun v x T' H' _ r e => ?_⟩
  · rcases hS with h | h
    · exact .inl ⟨h, id, id⟩
    · exact .inr fun H => .inr h
  · subst e; cases r; rfl
/-! ### loops -/
/-- a for whose turn is shown with the rest as a letter -/
theorem for_ind {g : AG} {b : AS} {D : AEnds} (Pv : List PV → ASt → Prop) (hd : ∀ τ, Pv [] τ → D.nx τ)
    (hs : ∀ x r τ (R : ASt → Prop), (∀ τ, Pv r τ → R τ) → Pv (x :: r) τ → g x τ fun τ1 => b { D with nx := R, ct := R, bk := D.nx } τ1) :
    ∀ xs τ, Pv xs τ → forGo g b D xs τ
  | [], τ, h => hd τ h
  | x :: r, τ, h => hs x r τ _ (fun τ2 h2 => for_ind Pv hd hs r τ2 h2) h
/-- a while whose turn is shown with the rest as a letter; n: how many turns at most -/
theorem wh_ind {c : AT} {b : AS} {D : AEnds} (Pv : Nat → ASt → Prop) (h0 : ∀ τ, ¬ Pv 0 τ)
    (hs : ∀ n τ (R : ASt → Prop), (∀ τ, Pv n τ → R τ) → Pv (n + 1) τ → c (frz τ) fun k => if k = true then b { D with nx := R, ct := R, bk := D.nx } τ else D.nx τ) :
    ∀ n τ, Pv n τ → whGo c b D n τ
  | 0, τ, h => absurd h (h0 τ)
  | n + 1, τ, h => hs n τ _ (fun τ2 h2 => wh_ind Pv h0 hs n τ2 h2) h
theorem rng_succ (lo : Int) (n : Nat) : rng lo (n + 1) = .int lo :: rng (lo + 1) n := by
  unfold rng
  rw [List.range_succ_eq_map, List.map_cons, List.map_map]
  congr 1
  · simp
  · apply List.map_congr_left
    intro k _
    simp only [Function.comp]
    congr 1
    omega
theorem rng_length (lo : Int) (n : Nat) : (rng lo n).length = n := by simp [rng]
end PL
end
section
set_option Elab.async false
set_option linter.all false
set_option maxRecDepth 100000
set_option maxHeartbeats 4000000
/-! A module's constants and tables; x in a list or tuple of plain data. -/
namespace PL
open PySem PySem.Spec PyProof.Rows L2
section
variable {K : PySem.W.Frag} {T M : Addr → Prop} {H : Hp}
/-- values that are known to the module, by items -/
inductive KR (K : PySem.W.Frag) : List Value → List PV → Prop where
  | nil : KR K [] []
  | cons {u : Value} {x : PV} {us : List Value} {xs : List PV} (h : ∃ V, RelV V u ∧ ∀ T M H, Rep K T M H V x) (t : KR K us xs) : KR K (u :: us) (x :: xs)
theorem KR.length : ∀ {us : List Value} {xs : List PV}, KR K us xs → us.length = xs.length
  | _, _, .nil => rfl
  | _, _, .cons _ t => by simp [t.length]
end
def KTab (K : PySem.W.Frag) (d : Addr) : List (Str × PV) → Prop
  | [] => True
  | p :: r => (∃ (u : Value) (V : V), PySem.W.nsIn K d p.1 = some (some u) ∧ RelV V u ∧ ∀ T M H, Rep K T M H V p.2) ∧ KTab K d r
theorem KTab.get {K : PySem.W.Frag} {d : Addr} : ∀ {tb : List (Str × PV)}, KTab K d tb → ∀ s v, tb.lookup s = some v → ∃ (u : Value) (V : V), PySem.W.nsIn K d s = some (some u) ∧ RelV V u ∧ ∀ T M H, Rep K T M H V v
  | [], _, s, v, e => by cases e
  | (a, b) :: r, h, s, v, e => by
    rw [List.lookup_cons] at e
    split at e
    · rename_i hb
      cases e
      have : s = a := eq_of_beq hb
      subst this
      exact h.1
    · exact KTab.get h.2 s v e
section
variable {X : Cx}
/-! a table of the module -/
/-! x in xs, x not in xs -/
end
end PL
end
section
set_option Elab.async false
set_option linter.all false
set_option maxRecDepth 100000
set_option maxHeartbeats 400000
/-! isinstance(x, (T, ..)) with the types written. -/
namespace L2
open PySem PySem.Spec PyProof.Rows
section
variable {X : Cx}
end
end L2
namespace PL
open PySem PySem.Spec PyProof.Rows L2
section
variable {X : Cx}
end
end PL
end
section
set_option Elab.async false
set_option linter.all false
set_option maxRecDepth 100000
set_option maxHeartbeats 400000
/-! isinstance(x, str). -/
namespace L2
open PySem PySem.Spec PyProof.Rows
section
variable {X : Cx}
def isStr : Kd → Bool | .str => true | _ => false
def rIsiS (K : PySem.W.Frag) : List V → Hp → VK → Prop := fun xs H Q => ∃ x k, xs = [x, .ty "str"] ∧ KdV K x H k ∧ Q (.bl (isStr k)) H
theorem call_isiS : CallR X (.builtin "isinstance") (rIsiS X.K) := by
  intro pins s σ H xs us Q I r h
  obtain ⟨x, k, rfl, hk, q⟩ := h
  cases r with
  | cons rx rr =>
  cases rr with
  | cons rt rr =>
  cases rr
  cases rt
  have yes : Q (.bl true) H → EP X pins σ Q (.bool true) s := fun z => ⟨.bl true, H, I, rfl, z⟩
  have no : Q (.bl false) H → EP X pins σ Q (.bool false) { s with toks := s.toks + 1 } := fun z => ⟨.bl false, H, I.tok _, rfl, z⟩
  cases k with
  | int =>
    obtain ⟨i, rfl⟩ := hk
    obtain ⟨t, rfl⟩ := rx
    exact IsiPair.int_str (no q)
  | bl =>
    obtain ⟨i, rfl⟩ := hk
    cases rx
    exact IsiPair.bool_str (no q)
  | non =>
    have e : x = .non := hk
    subst e
    cases rx
    exact IsiPair.NoneType_str (no q)
  | str =>
    obtain ⟨i, rfl⟩ := hk
    obtain ⟨t, rfl⟩ := rx
    exact IsiPair.str_str (yes q)
  | lst =>
    obtain ⟨a, ys, rfl, hq⟩ := hk
    cases rx
    obtain ⟨its, r', pl, hz⟩ := I.list hq
    exact IsiPair.isList_str pl.isList (fun _ _ e => e) (no q)
  | tup =>
    obtain ⟨a, ys, rfl, hq⟩ := hk
    cases rx
    obtain ⟨its, r', pl, hz⟩ := I.tuple hq
    have pl' : s.heap.IsTuple a its.toArray := pl
    exact IsiPair.isTuple_str pl' (fun _ _ e => e) (no q)
end
end L2
namespace PL
open PySem PySem.Spec PyProof.Rows L2
section
variable {X : Cx}
def onS (x : PV) (Q : PV → Prop) : Prop := match kdOf x with | some k => Q (.bl (isStr k)) | none => False
def gIsiS : AF := fun xs Q => match xs with | [x, .ty T] => T = "str" ∧ onS x Q | _ => False
theorem sb_isiS : CallR X (.builtin "isinstance") (rIsiS X.K) ∧ SimRL X.K (rIsiS X.K) gIsiS := by
  refine ⟨call_isiS, fun T M H us xs Q AQ va r h k => ?_⟩
  unfold gIsiS at h
  split at h <;> first | exact h.elim | skip
  rename_i x ty
  obtain ⟨ht, h⟩ := h
  subst ht
  unfold onS at h
  cases r with
  | cons r t =>
    cases t with
    | cons r2 t =>
      cases t; cases r2
      cases r with
      | non => exact ⟨_, .non, rfl, rfl, k _ _ T H (.refl va.tp) (.bl _) h⟩
      | bl b => exact ⟨_, .bl, rfl, ⟨_, rfl⟩, k _ _ T H (.refl va.tp) (.bl _) h⟩
      | int b => exact ⟨_, .int, rfl, ⟨_, rfl⟩, k _ _ T H (.refl va.tp) (.bl _) h⟩
      | str b => exact ⟨_, .str, rfl, ⟨_, rfl⟩, k _ _ T H (.refl va.tp) (.bl _) h⟩
      | ty b => exact h.elim
      | tup hq _ => exact ⟨_, .tup, rfl, ⟨_, _, rfl, hq.sq⟩, k _ _ T H (.refl va.tp) (.bl _) h⟩
      | lst hq _ _ _ => exact ⟨_, .lst, rfl, ⟨_, _, rfl, .inl (.inl hq)⟩, k _ _ T H (.refl va.tp) (.bl _) h⟩
      | tape _ => exact h.elim
      | scr _ => exact h.elim
      | dct _ _ _ => exact h.elim
end
end PL
end
section
set_option Elab.async false
set_option linter.all false
set_option maxRecDepth 100000
set_option maxHeartbeats 4000000
/-! zip of three sequences of one length. -/
namespace L2
open PySem PySem.Spec PyProof.Rows
abbrev IsTrip (h : Heap) (T : Addr) (a b c : Value) : Prop := h.get? T = some { cls := .type "tuple", data := .seq #[a, b, c] }
structure Z3A (z TI TO i j k l m n : Addr) : Prop where
  TIz : TI ≠ z
  TOz : TO ≠ z
  iz : i ≠ z
  jz : j ≠ z
  kz : k ≠ z
  TITO : TI ≠ TO
  TIi : TI ≠ i
  TIj : TI ≠ j
  TIk : TI ≠ k
  TOi : TO ≠ i
  TOj : TO ≠ j
  TOk : TO ≠ k
  ij : i ≠ j
  ik : i ≠ k
  jk : j ≠ k
  lo : ∀ x ∈ [l, m, n], x ≠ z ∧ x ≠ TI ∧ x ≠ TO ∧ x ≠ i ∧ x ≠ j ∧ x ≠ k
structure Z3 (b c d : Bool) (z TI TO i j k l m n : Addr) (t : Nat) (f : Value) (h : Heap) : Prop where
  zip : IsZip h z TI TO f
  its : IsTrip h TI (.ref i) (.ref j) (.ref k)
  own : ∃ x y w, IsTrip h TO x y w
  one : SIt b h i l t
  two : SIt c h j m t
  tre : SIt d h k n t
theorem Z3.mv {b c d : Bool} {z TI TO i j k l m n : Addr} {t : Nat} {f : Value} {h h' : Heap} (Z : Z3 b c d z TI TO i j k l m n t f h) (e : ∀ p ∈ [z, TI, TO, i, j, k], ∀ o, h.get? p = some o → h'.get? p = some o) : Z3 b c d z TI TO i j k l m n t f h' := by
  obtain ⟨a1, a2, ⟨x, y, w, a3⟩, a4, a5, a6⟩ := Z
  exact ⟨e z (by simp) _ a1, e TI (by simp) _ a2, ⟨x, y, w, e TO (by simp) _ a3⟩, a4.mv (e i (by simp)), a5.mv (e j (by simp)), a6.mv (e k (by simp))⟩
section
variable {prog : Program} {w : World} {A : Around} {E : Value → Shared → Prop} {s : Shared}
variable {b c d : Bool} {z TI TO i j k l m n : Addr} {t : Nat} {xs ys ws : Array Value}
end
/-! made -/
abbrev y1 (b : Bool) (h : Heap) (l : Addr) : Heap := h.push (itO b l)
abbrev y2 (b c : Bool) (h : Heap) (l m : Addr) : Heap := (y1 b h l).push (itO c m)
abbrev y3 (b c d : Bool) (h : Heap) (l m n : Addr) : Heap := (y2 b c h l m).push (itO d n)
abbrev y4 (b c d : Bool) (h : Heap) (l m n : Addr) : Heap := (y3 b c d h l m n).push { cls := .type "tuple", data := .seq #[.ref h.objs.size, .ref (y1 b h l).objs.size, .ref (y2 b c h l m).objs.size] }
abbrev y5 (b c d : Bool) (h : Heap) (l m n : Addr) : Heap := (y4 b c d h l m n).push { cls := .type "tuple", data := .seq #[.none, .none, .none] }
section
variable {prog : Program} {w : World} {A : Around} {E : Value → Shared → Prop} {s : Shared} {b c d : Bool} {l m n : Addr} {xs ys ws : Array Value}
end
section
variable {X : Cx}
end
end L2
end
section
set_option Elab.async false
set_option linter.all false
set_option maxRecDepth 100000
set_option maxHeartbeats 4000000
/-! zip of three over values. -/
namespace PL
open PySem PySem.Spec PyProof.Rows L2
section
variable {X : Cx}
end
end PL
end
section
set_option Elab.async false
set_option linter.all false
set_option maxRecDepth 100000
set_option maxHeartbeats 4000000
/-! zip(xs, reversed(ys)) of tuples of one length. -/
namespace L2
open PySem PySem.Spec PyProof.Rows
theorem owner_rv : Manifest.owners.lookup (String.ofList ['d', 'e', 's', 'r', 'e', 'v', 'e', 'r'].reverse) = some Manifest.sig_reversed := by kernel_rfl
theorem slot_rv_next : Slot "reversed" "__next__" "reversed.__next__" :=
  .of (owner := "reversed") (n := "__next__") (by rw [typeLookup_type, builtinLookup_eq_fast]; kernel_rfl) (by decide +kernel) (by decide +kernel) (by decide +kernel)
    (by first | exact .inl (by decide +kernel) | exact .inr (by decide +kernel)) (by rw [isSubtype_type]; kernel_rfl)
theorem entry_rv_next : entryFor table "reversed.__next__" = some Builtin.«reversed.__next__» := entryFor_of_tree (by kernel_rfl)
theorem args_rv_next_1 (a : Value) : argsOk "reversed.__next__" ⟨[a], []⟩ := by
  unfold argsOk; rw [signature?_of (id := "reversed.__next__") (n := ['_', '_', 't', 'x', 'e', 'n', '_', '_']) (o := ['d', 'e', 's', 'r', 'e', 'v', 'e', 'r']) (by kernel_rfl) owner_rv]; kernel_rfl
theorem slot_rv_iter : Slot "reversed" "__iter__" "reversed.__iter__" :=
  .of (owner := "reversed") (n := "__iter__") (by rw [typeLookup_type, builtinLookup_eq_fast]; kernel_rfl) (by decide +kernel) (by decide +kernel) (by decide +kernel)
    (by first | exact .inl (by decide +kernel) | exact .inr (by decide +kernel)) (by rw [isSubtype_type]; kernel_rfl)
theorem args_rv_iter_1 (a : Value) : argsOk "reversed.__iter__" ⟨[a], []⟩ := by
  unfold argsOk; rw [signature?_of (id := "reversed.__iter__") (n := ['_', '_', 'r', 'e', 't', 'i', '_', '_']) (o := ['d', 'e', 's', 'r', 'e', 'v', 'e', 'r']) (by kernel_rfl) owner_rv]; kernel_rfl
theorem entry_rv_iter : entryFor table "reversed.__iter__" = some Builtin.«dict_keyiterator.__iter__» :=
  entryFor_alias (id' := "dict_keyiterator.__iter__") (by kernel_rfl) (by first | rfl | decide +kernel | (unfold String.splitOn; simp +decide [String.splitOnAux])) (by decide +kernel) (by kernel_rfl)
theorem tup_norev : typeLookup (.type "tuple") "__reversed__" = pure none := by rw [typeLookup_type, builtinLookup_eq_fast]; kernel_rfl
theorem sub_tup_dict : isSubtype (.type "tuple") (.type "dict") = pure false := by rw [isSubtype_type]; kernel_rfl
/-- reversed(a tuple), i: the place that comes next -/
def rvO (m : Addr) (i : Int) : Obj := { cls := .type "reversed", data := .fields #[.ref m, rawInt i] }
def IsRv (h : Heap) (q m : Addr) (i : Int) : Prop := h.get? q = some (rvO m i)
section
variable {prog : Program} {w : World} {A : Around} {E : Value → Shared → Prop} {s : Shared}
theorem IsRv.typeIs {q m : Addr} {i : Int} (x : IsRv s.heap q m i) : s.TypeIs (.ref q) "reversed" := ⟨_, x, rfl⟩
end
theorem rv_meets (l : Addr) (items : Array Value) (hfit : (items.size : Int) < 2 ^ 63) : Meets (Builtin.«reversed.__new__» ⟨[.type "reversed", .ref l], []⟩) (fun _ R s => IsTup s.heap l items ∧ R (.ok (.ret (.ref s.heap.objs.size))) { s with heap := s.heap.push (rvO l ((items.size : Int) - 1)), toks := s.toks + 1 + 1 }) :=
  .of_wp fun prog w A R s h => by
    obtain ⟨hl, h⟩ := h
    unfold Builtin.«reversed.__new__»
    refine wpAny_bind (wpAny_of_eq (newClass_reversed _) ?_)
    try dsimp only
    refine wpAny_bind (wpAny_of_eq (a := ()) (by first | rfl | kernel_rfl) ?_)
    refine wpAny_bind (wpAny_of_eq (a := ()) (by first | rfl | kernel_rfl) ?_)
    try dsimp only
    refine wpAny_bind (wpAny_specialOf hl.typeIs tup_norev ?_)
    try dsimp only
    refine wpAny_bind ?_
    wp_delta
    refine wpAny_bind (wpAny_isInstance (T := "tuple") (b := false) hl.typeIs sub_tup_dict ?_)
    rw [if_neg (by decide)]
    refine wpAny_bind (wpAny_specialOf hl.typeIs PyProof.Rows.slot_tuple_getitem.lookup ?_)
    dsimp only
    rw [if_pos (by decide +kernel)]
    refine wpAny_pure ?_
    rw [if_neg (by decide)]
    refine wpAny_bind (len_tuple hl hfit ?_)
    refine wpAny_bind (wpAny_of_eq (a := some (items.size : Int)) rfl ?_)
    dsimp only
    unfold Builtin.SmallTypes.newRecord
    refine wpAny_bind (wpAny_newObj_type (wpAny_pure ?_))
    exact ⟨_, rfl, h⟩
theorem rv_init : Slot "reversed" "__init__" "object.__init__" :=
  .of (owner := "object") (n := "__init__") (by rw [typeLookup_type, builtinLookup_eq_fast]; kernel_rfl) (by decide +kernel) (by decide +kernel) (by decide +kernel)
    (by first | exact .inl (by decide +kernel) | exact .inr (by decide +kernel)) (by rw [isSubtype_type]; kernel_rfl)
theorem called_rv : TypeCalled "reversed" "reversed.__new__" "object.__init__" :=
  ⟨by decide +kernel, by decide +kernel, ⟨_, _, F.mro_reversed⟩, F.made_reversed, by decide +kernel, by rw [isSubtype_type]; kernel_rfl, rv_init⟩
section
variable {prog : Program} {w : World} {A : Around} {E : Value → Shared → Prop} {s : Shared}
theorem call_rv {l : Addr} {items : Array Value} {Q : Value → Shared → Prop} (hl : IsTup s.heap l items) (hfit : (items.size : Int) < 2 ^ 63)
    (h : Q (.ref s.heap.objs.size) { s with heap := s.heap.push (rvO l ((items.size : Int) - 1)), toks := s.toks + 1 + 1 }) : wpAny (model prog w) A (call (.type "reversed") [.ref l]) Q E s := by
  refine callType_new called_rv (by decide) (F.typeCall_reversed_1 _) (F.newCall_reversed_1 _) (fun obj => F.args_object_init_2 obj _) F.entry_reversed_new (rv_meets l items hfit) ⟨hl, ?_⟩
  exact ⟨⟨_, Heap.get?_push_size _ rfl, rfl⟩, h⟩
theorem iter_rv {q m : Addr} {i : Int} {Q : Value → Shared → Prop} (hq : IsRv s.heap q m i) (h : Q (.ref q) s) : wpAny (model prog w) A (pyIter (.ref q)) Q E s := by
  refine wpAny_pyIter_slot hq.typeIs slot_rv_iter (wpAny_call_entry slot_rv_iter hq.typeIs entry_rv_iter ?_ (args_rv_iter_1 _))
  show wpAny _ _ (ret (.ref q)) _ _ s
  exact wpAny_pure ⟨_, rfl, "reversed", _, hq.typeIs, slot_rv_next.lookup, h⟩
theorem next_rv {q m : Addr} {k : Nat} {xs : Array Value} {x : Value} {Q : Value → Shared → Prop} (hq : IsRv s.heap q m ((xs.size : Int) - 1 - k)) (hl : IsTup s.heap m xs) (hfit : (xs.size : Int) < 2 ^ 63) (hk : k < xs.size) (hx : xs[xs.size - 1 - k]? = some x)
    (hQ : ∀ h' tk, IsRv h' q m ((xs.size : Int) - 1 - (k + 1 : Nat)) → Heap.SameBut q s.heap h' → Q x { s with heap := h', toks := tk }) : wpAny (model prog w) A (Builtin.SmallTypes.nextOf (.ref q)) Q E s := by
  unfold Builtin.SmallTypes.nextOf
  refine wpAny_bind (wpAny_callSpecial?_slot (name := Str.ofString "__next__") hq.typeIs slot_rv_next (wpAny_call_entry slot_rv_next hq.typeIs entry_rv_next ?_ (args_rv_next_1 _)))
  unfold Builtin.«reversed.__next__»
  refine wpAny_bind (wpAny_of_eq (a := (Value.ref q, [])) rfl ?_)
  try dsimp only
  refine wpAny_bind (wpAny_field hq rfl (x := .ref m) rfl ?_)
  refine wpAny_bind (wpAny_field hq rfl (x := rawInt ((xs.size : Int) - 1 - k)) rfl ?_)
  show wpAny _ _ (if ((xs.size : Int) - 1 - k) < 0 then _ else _) _ _ s
  rw [if_neg (by omega)]
  refine wpAny_bind (wpAny_specialOf hl.typeIs PyProof.Rows.slot_tuple_getitem.lookup ?_)
  rw [if_neg (by decide)]
  refine wpAny_bind (wpAny_mkInt ?_)
  have hx' : seqIndex? ((xs.size : Int) - 1 - k) xs.size = some (xs.size - 1 - k) := by
    unfold seqIndex?
    have e0 : ¬ ((xs.size : Int) - 1 - k < 0) := by omega
    have e1 : (0 : Int) ≤ (xs.size : Int) - 1 - k := by omega
    have e2 : (xs.size : Int) - 1 - k < xs.size := by omega
    simp only [if_neg e0, e1, e2, decide_true, Bool.and_true, if_true]
    congr 1
    omega
  refine wpAny_bind (wpAny_attempt (getItem_tuple hl (by omega) (by omega) hx' hx ?_))
  refine wpAny_bind (wpAny_field (s := { s with toks := s.toks + 1 }) hq rfl (x := rawInt ((xs.size : Int) - 1 - k)) rfl ?_)
  refine wpAny_bind (wpAny_setField (s := { s with toks := s.toks + 1 }) hq rfl (by simp) (wpAny_pure ⟨x, rfl, wpAny_pure (hQ _ _ ?_ (Heap.SameBut.update ..))⟩))
  unfold IsRv
  rw [Heap.get?_update_self _ hq (Obj.isFreed_of_fields (Obj.data_mapFields rfl _))]
  rw [show (xs.size : Int) - 1 - (k + 1 : Nat) = (xs.size : Int) - 1 - k - 1 by omega]
  rfl
end
/-- the zip's records as they stand ahead of turn k -/
structure ZR (z TI TO i j l m : Addr) (n : Nat) (k : Nat) (f : Value) (h : Heap) : Prop where
  zip : IsZip h z TI TO f
  its : IsPair h TI (.ref i) (.ref j)
  own : ∃ x y, IsPair h TO x y
  one : SIt false h i l k
  two : IsRv h j m ((n : Int) - 1 - k)
theorem ZR.mv {z TI TO i j l m : Addr} {n k : Nat} {f : Value} {h h' : Heap} (Z : ZR z TI TO i j l m n k f h) (e : ∀ p ∈ [z, TI, TO, i, j], ∀ o, h.get? p = some o → h'.get? p = some o) : ZR z TI TO i j l m n k f h' := by
  obtain ⟨a1, a2, ⟨x, y, a3⟩, a4, a5⟩ := Z
  exact ⟨e z (by simp) _ a1, e TI (by simp) _ a2, ⟨x, y, e TO (by simp) _ a3⟩, a4.mv (e i (by simp)), e j (by simp) _ a5⟩
section
variable {prog : Program} {w : World} {A : Around} {E : Value → Shared → Prop} {s : Shared}
variable {z TI TO i j l m : Addr} {k : Nat} {xs ys : Array Value}
theorem zrNext {x y : Value} {Q : Value → Shared → Prop} (D : ZipApart z TI TO i j l m) (Z : ZR z TI TO i j l m ys.size k .none s.heap) (hl : SSq false s.heap l xs) (hm : IsTup s.heap m ys) (hfit : (ys.size : Int) < 2 ^ 63) (hx : xs[k]? = some x) (hk : k < ys.size) (hy : ys[ys.size - 1 - k]? = some y)
    (hQ : ∀ h' tk, IsZip h' z TI TO (rawInt s.heap.objs.size) → IsPair h' TI (.ref i) (.ref j) → IsPair h' TO x y → SIt false h' i l (k + 1) → IsRv h' j m ((ys.size : Int) - 1 - (k + 1 : Nat)) → IsPair h' s.heap.objs.size x y →
      (∀ p o, p ≠ z → p ≠ TO → p ≠ i → p ≠ j → s.heap.get? p = some o → h'.get? p = some o) → Q (.ref s.heap.objs.size) { s with heap := h', toks := tk }) :
    wpAny (model prog w) A (Builtin.«zip.__next__» ⟨[.ref z], []⟩) (fun fin s' => ∃ v, fin = .done (.ret v) ∧ Q v s') E s := by
  obtain ⟨zz, zi, ⟨x0, y0, zo⟩, z1, z2⟩ := Z
  show wpAny _ _ (field (.ref z) 2 >>= _) _ _ _
  refine wpAny_bind (wpAny_field zz rfl (x := .bool false) rfl ?_)
  show wpAny _ _ (field (.ref z) 3 >>= _) _ _ _
  refine wpAny_bind (wpAny_field zz rfl (x := .ref TI) rfl (wpAny_bind (wpAny_seqItems zi rfl ?_)))
  refine wpAny_bind (m := Builtin.SmallTypes.ownedTupleIsFree (.ref z)) ?_
  unfold Builtin.SmallTypes.ownedTupleIsFree
  refine wpAny_bind (wpAny_field zz rfl (x := .none) rfl (wpAny_pure ?_))
  simp only [if_true]
  refine wpAny_bind (wpAny_rule (wpAny_bind (wpAny_field zz rfl (x := .ref TO) rfl (wpAny_bind (wpAny_setField_rec zz (by simp) fun g1 e1 b1 => ?_)))))
  have e1 : IsZip g1 z TI TO .ellipsis := e1
  refine wpAny_bind ?_
  simp only [List.zipIdx_cons, List.zipIdx_nil, List.forIn_cons, List.forIn_nil]
  refine wpAny_bind (wpAny_bind (wpAny_onRaise ?_))
  refine wpAny_bind (m := Builtin.SmallTypes.nextOf (.ref i)) (draw_one (z1.mv fun o => b1.extBut _ o D.i1z) (hl.mv fun o => b1.extBut _ o D.l1z) hx fun g2 e2 b2 => wpAny_pure ?_)
  have o2 : IsPair g2 TO x0 y0 := b2.extBut _ _ D.TOi1 (b1.extBut _ _ D.TOz zo)
  refine wpAny_bind (wpAny_seqItems o2 rfl (wpAny_bind (wpAny_updateSeq_pair o2 fun g3 o3 b3 => wpAny_bind (wpAny_letGo (wpAny_pure ?_)))))
  have o3 : IsPair g3 TO x y0 := o3
  refine wpAny_bind (wpAny_bind (wpAny_onRaise ?_))
  have hm' : ∀ h h' : Heap, (∀ o, h.get? m = some o → h'.get? m = some o) → IsTup h m ys → IsTup h' m ys := fun h h' e x => (show SSq false h m ys from x).mv e
  have hm3 : IsTup g3 m ys := hm' _ _ (fun o => b3.extBut _ o D.l2TO) (hm' _ _ (fun o => b2.extBut _ o D.l2i1) (hm' _ _ (fun o => b1.extBut _ o D.l2z) hm))
  have z23 : IsRv g3 j m ((ys.size : Int) - 1 - k) := b3.extBut _ _ D.TOi2.symm (b2.extBut _ _ D.i12.symm (b1.extBut _ _ D.i2z z2))
  refine wpAny_bind (m := Builtin.SmallTypes.nextOf (.ref j)) (next_rv z23 hm3 hfit hk hy fun g4 tk e4 b4 => wpAny_pure ?_)
  have o4 : IsPair g4 TO x y0 := b4.extBut _ _ D.TOi2 o3
  refine wpAny_bind (wpAny_seqItems o4 rfl (wpAny_bind (wpAny_updateSeq_pair o4 fun g5 o5 b5 => wpAny_bind (wpAny_letGo (wpAny_pure (wpAny_pure ?_))))))
  have o5 : IsPair g5 TO x y := o5
  refine wpAny_bind (wpAny_seqItems o5 rfl (wpAny_bind (wpAny_newTuple ?_)))
  have sz : g5.objs.size = s.heap.objs.size := by rw [b5.1, b4.1, b3.1, b2.1, b1.1]
  have k5 : IsZip g5 z TI TO .ellipsis := b5.extBut _ _ D.TOz.symm (b4.extBut _ _ D.i2z.symm (b3.extBut _ _ D.TOz.symm (b2.extBut _ _ D.i1z.symm e1)))
  have all5 : ∀ p o, p ≠ z → p ≠ TO → p ≠ i → p ≠ j → s.heap.get? p = some o → g5.get? p = some o := fun p o q1 q2 q3 q4 e =>
    b5.extBut _ _ q2 (b4.extBut _ _ q4 (b3.extBut _ _ q2 (b2.extBut _ _ q3 (b1.extBut _ _ q1 e))))
  have one5 : SIt false g5 i l (k + 1) := ((e2.mv fun o => b3.extBut _ o D.TOi1.symm).mv fun o => b4.extBut _ o D.i12).mv fun o => b5.extBut _ o D.TOi1.symm
  have two5 : IsRv g5 j m ((ys.size : Int) - 1 - (k + 1 : Nat)) := b5.extBut _ _ D.TOi2.symm e4
  have zlt : z < g5.objs.size := Heap.lt_size k5
  refine wpAny_bind (m := Builtin.SmallTypes.ownedTupleHandOut (.ref z) (.ref g5.objs.size)) ?_
  unfold Builtin.SmallTypes.ownedTupleHandOut
  have k6 : IsZip (g5.push { cls := .type "tuple", data := .seq #[x, y] }) z TI TO .ellipsis := Heap.get?_push_of_some _ k5
  refine wpAny_bind (wpAny_setField_rec k6 (by simp) fun g7 k7 b7 => ?_)
  have k7 : IsZip g7 z TI TO (rawInt g5.objs.size) := k7
  refine wpAny_setField_rec k7 (by simp) fun g8 k8 b8 => ?_
  have k8 : IsZip g8 z TI TO (rawInt g5.objs.size) := k8
  have up : ∀ p o, p ≠ z → g5.get? p = some o → g8.get? p = some o := fun p o q e => b8.extBut _ _ q (b7.extBut _ _ q (Heap.get?_push_of_some _ e))
  have new8 : IsPair g8 g5.objs.size x y := b8.extBut _ _ (Nat.ne_of_gt zlt) (b7.extBut _ _ (Nat.ne_of_gt zlt) (Heap.get?_push_size _ rfl))
  rw [sz] at k8 new8
  refine wpAny_pure ⟨_, rfl, ?_⟩
  show Q (.ref g5.objs.size) _
  rw [sz]
  exact hQ g8 tk k8 (up _ _ D.TIz (all5 _ _ D.TIz D.TITO D.TIi1 D.TIi2 zi)) (up _ _ D.TOz o5) (one5.mv fun o => up _ o D.i1z) (up _ _ D.i2z two5) new8 fun p o q1 q2 q3 q4 e => up p o q1 (all5 p o q1 q2 q3 q4 e)
theorem zrEnd {n : Nat} {Q : Fin → Shared → Prop} (hh : A.handled = none) (D : ZipApart z TI TO i j l m) (Z : ZR z TI TO i j l m n k .none s.heap) (hl : SSq false s.heap l xs) (hx : xs[k]? = none)
    (hE : ∀ h' e, (∀ p o, p ≠ z → p ≠ TO → p ≠ i → p ≠ j → s.heap.get? p = some o → h'.get? p = some o) → (∃ o, h'.get? e = some o ∧ o.cls = .type "StopIteration") → E (.ref e) { s with heap := h' }) :
    wpAny (model prog w) A (Builtin.«zip.__next__» ⟨[.ref z], []⟩) Q E s := by
  obtain ⟨zz, zi, ⟨x0, y0, zo⟩, z1, z2⟩ := Z
  show wpAny _ _ (field (.ref z) 2 >>= _) _ _ _
  refine wpAny_bind (wpAny_field zz rfl (x := .bool false) rfl ?_)
  show wpAny _ _ (field (.ref z) 3 >>= _) _ _ _
  refine wpAny_bind (wpAny_field zz rfl (x := .ref TI) rfl (wpAny_bind (wpAny_seqItems zi rfl ?_)))
  refine wpAny_bind (m := Builtin.SmallTypes.ownedTupleIsFree (.ref z)) ?_
  unfold Builtin.SmallTypes.ownedTupleIsFree
  refine wpAny_bind (wpAny_field zz rfl (x := .none) rfl (wpAny_pure ?_))
  simp only [if_true]
  refine wpAny_bind (wpAny_rule (wpAny_bind (wpAny_field zz rfl (x := .ref TO) rfl (wpAny_bind (wpAny_setField_rec zz (by simp) fun g1 e1 b1 => ?_)))))
  have e1 : IsZip g1 z TI TO .ellipsis := e1
  refine wpAny_bind ?_
  simp only [List.zipIdx_cons, List.zipIdx_nil, List.forIn_cons, List.forIn_nil]
  refine wpAny_bind (wpAny_bind (wpAny_onRaise ?_))
  refine wpAny_bind (m := Builtin.SmallTypes.nextOf (.ref i)) (draw_none hh (z1.mv fun o => b1.extBut _ o D.i1z) (hl.mv fun o => b1.extBut _ o D.l1z) hx fun g2 e b2 he => ?_)
  obtain ⟨oe, ge, ce⟩ := he
  have k2 : IsZip g2 z TI TO .ellipsis := b2 _ _ D.i1z.symm e1
  have ez : e ≠ z := fun q => by subst q; rw [k2] at ge; cases ge; simp at ce
  refine wpAny_setField_rec k2 (by simp) fun g3 _ b3 => hE g3 e (fun p o q1 _ q3 _ q => b3.extBut _ _ q1 (b2 _ _ q3 (b1.extBut _ _ q1 q))) ⟨oe, b3.extBut _ _ ez ge, ce⟩
end
theorem zra_new {n l m : Nat} (h1 : l < n) (h2 : m < n) : ZipApart (n + 4) (n + 2) (n + 3) (n + 1) n l m where
  TIz := (by omega : (n + 2 : Nat) ≠ n + 4)
  TOz := (by omega : (n + 3 : Nat) ≠ n + 4)
  i1z := (by omega : (n + 1 : Nat) ≠ n + 4)
  i2z := (by omega : (n : Nat) ≠ n + 4)
  TITO := (by omega : (n + 2 : Nat) ≠ n + 3)
  TIi1 := (by omega : (n + 2 : Nat) ≠ n + 1)
  TIi2 := (by omega : (n + 2 : Nat) ≠ n)
  TOi1 := (by omega : (n + 3 : Nat) ≠ n + 1)
  TOi2 := (by omega : (n + 3 : Nat) ≠ n)
  i12 := (by omega : (n + 1 : Nat) ≠ n)
  l1z := (by omega : (l : Nat) ≠ n + 4)
  l1TO := (by omega : (l : Nat) ≠ n + 3)
  l1i1 := (by omega : (l : Nat) ≠ n + 1)
  l1i2 := (by omega : (l : Nat) ≠ n)
  l2z := (by omega : (m : Nat) ≠ n + 4)
  l2TO := (by omega : (m : Nat) ≠ n + 3)
  l2i1 := (by omega : (m : Nat) ≠ n + 1)
  l2i2 := (by omega : (m : Nat) ≠ n)
abbrev rA (h : Heap) (l : Addr) : Heap := h.push (itO false l)
abbrev rC (h : Heap) (l r : Addr) : Heap := (rA h l).push { cls := .type "tuple", data := .seq #[.ref h.objs.size, .ref r] }
abbrev rD (h : Heap) (l r : Addr) : Heap := (rC h l r).push { cls := .type "tuple", data := .seq #[.none, .none] }
abbrev rF (h : Heap) (l r : Addr) : Heap := (rD h l r).push { cls := .type "zip", data := .fields #[.none, .bool false, .bool false, .ref (rA h l).objs.size, .ref (rC h l r).objs.size] }
theorem iter_rv' {prog : Program} {w : World} {A : Around} {E : Value → Shared → Prop} {h : Heap} {g : Array GenState} {d : Drawn} {tk : Nat} {os : OsState} {q m : Addr} {i : Int} {Q : Value → Shared → Prop} (hq : IsRv h q m i)
    (k : Q (.ref q) ⟨h, g, d, tk, os⟩) : wpAny (model prog w) A (pyIter (.ref q)) Q E ⟨h, g, d, tk, os⟩ := iter_rv (s := ⟨h, g, d, tk, os⟩) hq k
theorem zipR_meets (l r m : Addr) (i : Int) (xs : Array Value) : Meets (Builtin.«zip.__new__» ⟨[.type "zip", .ref l, .ref r], []⟩) (fun _ R s => SSq false s.heap l xs ∧ IsRv s.heap r m i ∧ R (.ok (.ret (.ref (rD s.heap l r).objs.size))) { s with heap := rF s.heap l r }) :=
  .of_wp fun prog w A R s h => by
    obtain ⟨hp, g, d, tk, os⟩ := s
    obtain ⟨hl, hm, h⟩ := h
    have hsub := sub_zip
    have hl1 : SSq false hp l xs := hl
    have hm1 : IsRv (hp.push (itO false l)) r m i := Heap.get?_push_of_some _ hm
    wp_walk using it_new hl1, iter_rv' hm1
    exact ⟨_, rfl, h⟩
section
variable {prog : Program} {w : World} {A : Around} {E : Value → Shared → Prop} {s : Shared} {l m r : Addr} {xs : Array Value} {n : Nat}
theorem zipRNew (hl : SSq false s.heap l xs) (hr : IsRv s.heap r m ((n : Int) - 1)) {Q : Value → Shared → Prop}
    (h : ∀ h', ZR (s.heap.objs.size + 3) (s.heap.objs.size + 1) (s.heap.objs.size + 2) s.heap.objs.size r l m n 0 .none h' → (∀ p o, s.heap.get? p = some o → h'.get? p = some o) → Q (.ref (s.heap.objs.size + 3)) { s with heap := h' }) :
    wpAny (model prog w) A (call (.type "zip") [.ref l, .ref r]) Q E s := by
  refine callType_new F.called_zip (by decide) (F.typeCall_zip_2 _ _) (F.newCall_zip_2 _ _) (fun obj => F.args_object_init_3 obj _ _) F.entry_zip_new (zipR_meets l r m _ xs) ⟨hl, hr, ?_⟩
  have n1 : (rA s.heap l).objs.size = s.heap.objs.size + 1 := Heap.size_push ..
  have n3 : (rC s.heap l r).objs.size = s.heap.objs.size + 2 := by rw [Heap.size_push, n1]
  have n4 : (rD s.heap l r).objs.size = s.heap.objs.size + 3 := by rw [Heap.size_push, n3]
  have up : ∀ (g : Heap) (x : Obj) (p : Addr) (o : Obj), g.get? p = some o → (g.push x).get? p = some o := fun g x p o e => Heap.get?_push_of_some _ e
  have p5 : (rF s.heap l r).get? (rD s.heap l r).objs.size = some _ := Heap.get?_push_size _ rfl
  have p4 : (rF s.heap l r).get? (rC s.heap l r).objs.size = some _ := up _ _ _ _ (Heap.get?_push_size _ rfl)
  have p3 : (rF s.heap l r).get? (rA s.heap l).objs.size = some _ := up _ _ _ _ (up _ _ _ _ (Heap.get?_push_size _ rfl))
  have p1 : (rF s.heap l r).get? s.heap.objs.size = some (itO false l) := up _ _ _ _ (up _ _ _ _ (up _ _ _ _ (Heap.get?_push_size _ rfl)))
  have all : ∀ p o, s.heap.get? p = some o → (rF s.heap l r).get? p = some o := fun p o e => up _ _ _ _ (up _ _ _ _ (up _ _ _ _ (up _ _ _ _ e)))
  rw [n1, n3, n4] at p5
  rw [n1] at p3
  rw [n3] at p4
  show _ ∧ _
  rw [n4]
  exact ⟨⟨_, p5, rfl⟩, h _ ⟨p5, p3, ⟨_, _, p4⟩, it_is p1, by rw [show (n : Int) - 1 - (0 : Nat) = (n : Int) - 1 by omega]; exact all _ _ hr⟩ all⟩
end
/-- the pairs of a tuple and one read from its end, each pair a new tuple -/
def Itv (K : PySem.W.Frag) (l m : Addr) (n : Nat) : It :=
  ⟨fun i H => ∃ xs ys x y, Sq K false H l xs ∧ Sq K false H m ys ∧ ys.length = n ∧ xs[i]? = some x ∧ i < n ∧ ys[n - 1 - i]? = some y,
   fun i H v H' => ∃ T x y, v = .ref T ∧ H T = none ∧ H' = upd H T (.tup [x, y]) ∧ (∀ xs, Sq K false H l xs → xs[i]? = some x) ∧ ∀ ys, Sq K false H m ys → ys[n - 1 - i]? = some y,
   fun i H => ∃ xs, Sq K false H l xs ∧ xs.length ≤ i⟩
theorem turn_zipR {P : Program} {w : World} {K : PySem.W.Frag} {es : List Expr} {x1 : Nat} {pos : Pos} {z TI TO i j l m : Addr} {n : Nat} (D : ZipApart z TI TO i j l m) :
    Turn P w K (.Tuple es x1 pos) (Itv K l m n) [z, TI, TO, i, j] z (fun k h => ZR z TI TO i j l m n k .none h) where
  mem := by simp
  obj := fun k h Z p hp => by
    have hp' : p = z ∨ p = TI ∨ p = TO ∨ p = i ∨ p = j := by simpa using hp
    rcases hp' with e | e | e | e | e
    · subst e; exact ⟨_, Z.zip, fun v q => nomatch q⟩
    · subst e; exact ⟨_, Z.its, fun v q => nomatch q⟩
    · subst e; obtain ⟨x, y, q⟩ := Z.own; exact ⟨_, q, fun v q => nomatch q⟩
    · subst e; exact Z.one.obj
    · subst e; exact ⟨_, Z.two, fun v q => nomatch q⟩
  keep := fun k h h' Z e => Z.mv e
  item := by
    intro X hP hw hK hc k pins s σ H E I hf Z hg
    subst hP hw hK
    obtain ⟨xs, ys, x, y, hl, hm, hn, hx, hk, hy⟩ := hg
    obtain ⟨us, ru, su, _⟩ := I.sq hl
    obtain ⟨vs, rv, sv, hz⟩ := I.sq hm
    obtain ⟨u, hu, rx⟩ := ru.get hx
    obtain ⟨v, hv, ry⟩ := rv.get hy
    have vn : vs.toArray.size = n := by rw [List.size_toArray, ← rv.length]; exact hn
    have hT : s.TypeIs (.ref z) "zip" := ⟨_, Z.zip, rfl⟩
    rw [← vn] at Z
    unfold pyNext
    refine wpAny_bind (wpAny_attempt (wpAny_callSpecial?_slot (name := Str.ofString "__next__") hT F.slot_zip_next (wpAny_call_entry F.slot_zip_next hT F.entry_zip_next
      (zrNext D Z su sv (by rw [vn, ← hn]; exact Int.lt_of_le_of_lt (Int.ofNat_le.mpr hz) (by decide)) (x := u) (y := v) (by simpa using hu) (by rw [vn]; exact hk) (by rw [vn]; simpa using hv) fun h1 tk a1 a2 a3 a4 a5 a6 a7 => wpAny_pure ?_) (F.args_zip_next_1 _))))
    refine ⟨_, rfl, wpAny_letOwnedTupleGo_zip (s := { s with heap := h1, toks := tk }) a1 fun h2 c1 c2 => ?_⟩
    have nT : ∀ p ∈ [z, TI, TO, i, j], p < s.heap.objs.size := fun p hp => by
      have hp' : p = z ∨ p = TI ∨ p = TO ∨ p = i ∨ p = j := by simpa using hp
      rcases hp' with e | e | e | e | e
      · subst e; exact Heap.lt_size Z.zip
      · subst e; exact Heap.lt_size Z.its
      · subst e; obtain ⟨x, y, q⟩ := Z.own; exact Heap.lt_size q
      · subst e; obtain ⟨o, q, _⟩ := Z.one.obj; exact Heap.lt_size q
      · subst e; exact Heap.lt_size Z.two
    have c2' : ∀ p o, p ≠ z → h1.get? p = some o → h2.get? p = some o := fun p o q e => c2.extBut _ _ q e
    have kp : ∀ p o, p ∉ [z, TI, TO, i, j] → s.heap.get? p = some o → h2.get? p = some o := fun p o hp e => by
      have hp' : p ≠ z ∧ p ≠ TI ∧ p ≠ TO ∧ p ≠ i ∧ p ≠ j := by simpa using hp
      exact c2' p o hp'.1 (a7 p o hp'.1 hp'.2.2.1 hp'.2.2.2.1 hp'.2.2.2.2 e)
    have hzT : s.heap.objs.size ≠ z := Nat.ne_of_gt (nT z (by simp))
    have I2 : Inv X pins σ (upd H s.heap.objs.size (.tup [x, y])) { s with heap := h2, toks := tk } := I.turnedN hf nT kp (Nat.le_refl _)
      ⟨(by show 2 ≤ sizeLine; decide), [u, v], .cons rx (.cons ry .nil), ⟨_, c2' _ _ hzT a6, rfl, _, rfl⟩⟩
    have hfr : H s.heap.objs.size = none := I.fresh
    refine ⟨.ref s.heap.objs.size, upd H s.heap.objs.size (.tup [x, y]), I2, rfl, ⟨_, x, y, rfl, hfr, rfl, fun xs' h' => ?_, fun ys' h' => ?_⟩, ?_, fun p hp => ?_⟩
    · rw [I.sq_inj h' hl]; exact hx
    · rw [I.sq_inj h' hm]; exact hy
    · rw [vn] at a5
      exact ⟨c1, c2' _ _ D.TIz a2, ⟨_, _, c2' _ _ D.TOz a3⟩, a4.mv fun o => c2' _ o D.i1z, c2' _ _ D.i2z a5⟩
    · rw [upd_ne (Nat.ne_of_lt (nT p hp))]
      exact (hf p hp).1
  done := by
    intro X hP hw hK hc k pins s σ H E I hf Z hg
    subst hP hw hK
    obtain ⟨xs, hl, he⟩ := hg
    obtain ⟨us, ru, su, _⟩ := I.sq hl
    have e1 := ru.length
    have hT : s.TypeIs (.ref z) "zip" := ⟨_, Z.zip, rfl⟩
    unfold pyNext
    refine wpAny_bind (wpAny_attempt (wpAny_callSpecial?_slot (name := Str.ofString "__next__") hT F.slot_zip_next (wpAny_call_entry F.slot_zip_next hT F.entry_zip_next
      (zrEnd (I.ok.hd hc) D Z su (by simp; omega) fun h1 e hk he => ?_) (F.args_zip_next_1 _))))
    obtain ⟨o, ho, hcl⟩ := he
    refine wpAny_bind (wpAny_isInstance (T := "StopIteration") (b := true) ⟨o, ho, hcl⟩ isSubtype_stop (wpAny_pure ⟨rfl, ?_⟩))
    exact I.turnedL (t' := s.toks) hf fun p o hp e => by
      have hp' : p ≠ z ∧ p ≠ TI ∧ p ≠ TO ∧ p ≠ i ∧ p ≠ j := by simpa using hp
      exact hk p o hp'.1 hp'.2.2.1 hp'.2.2.2.1 hp'.2.2.2.2 e
  self := fun _ _ _ _ _ Z h => wpAny_pyIter_zip Z.zip h
section
variable {X : Cx}
theorem pi_zipR {e f : Expr} {te tf : TE} {p p2 pos pos2 tpos : Pos} {es : List Expr} {x1 : Nat} (hg : Gl X "zip") (hm : X.mg "zip" = none) (hg2 : Gl X "reversed") (hm2 : X.mg "reversed" = none) (he : PE X e te) (hf : PE X f tf)
    (hs : starEach [e, .Call (.Name "reversed" p2) [f] [] pos2] X.env = [(false, eval e X.env), (false, eval (.Call (.Name "reversed" p2) [f] [] pos2) X.env)] := by rfl) (hs2 : starEach [f] X.env = [(false, eval f X.env)] := by rfl) :
    PI X (.Tuple es x1 tpos) (.Call (.Name "zip" p) [e, .Call (.Name "reversed" p2) [f] [] pos2] [] pos) (fun σ H R => te σ H fun u H1 => tf σ H1 fun v H2 => ∃ l m ys, u = .ref l ∧ v = .ref m ∧ (∃ xs, Sq X.K false H2 l xs) ∧ Sq X.K false H2 m ys ∧ R (Itv X.K l m ys.length) H2) := by
  intro pins s σ H R I h
  refine Call_ (ld_blt I hg hm boot_zip (PyProof.Rows.callWith_type1 ?_ (by rw [hs]; rfl) rfl))
  rw [hs]
  show wpAny _ _ (spliced ((false, eval e X.env) :: [(false, eval (.Call (.Name "reversed" p2) [f] [] pos2) X.env)])) _ _ s
  refine Calls.spliced_cons (thn (he pins s σ H _ I h) fun v s1 ⟨x, H1, I1, r1, q1⟩ => ?_)
  refine Calls.spliced_cons ?_
  refine Call_ (ld_blt I1 hg2 hm2 boot_reversed (PyProof.Rows.callWith_type1 ?_ (by rw [hs2]; rfl) rfl))
  rw [hs2]
  show wpAny _ _ (spliced ((false, eval f X.env) :: [])) _ _ s1
  refine Calls.spliced_cons (thn (hf pins s1 σ H1 _ I1 q1) fun v2 s2 ⟨x2, H2, I2, r2, q2⟩ => Calls.spliced_nil ?_)
  obtain ⟨l, m, ys, rfl, rfl, ⟨xs, hl⟩, hm', q⟩ := q2
  cases r1
  cases r2
  obtain ⟨us, ru, su, _⟩ := I2.sq hl
  obtain ⟨vs, rv, sv, hz⟩ := I2.sq hm'
  have vn : vs.toArray.size = ys.length := by rw [List.size_toArray, ← rv.length]
  have llt : l < s2.heap.objs.size := by obtain ⟨o, e, _⟩ := su; exact Heap.lt_size e
  have mlt : m < s2.heap.objs.size := by obtain ⟨o, e, _⟩ := sv; exact Heap.lt_size e
  refine call_rv sv (by rw [vn]; exact Int.lt_of_le_of_lt (Int.ofNat_le.mpr hz) (by decide)) (Calls.spliced_nil ?_)
  have up : ∀ b o, s2.heap.get? b = some o → (s2.heap.push (rvO m ((vs.toArray.size : Int) - 1))).get? b = some o := fun b o e => Heap.get?_push_of_some _ e
  have szp : (s2.heap.push (rvO m ((vs.toArray.size : Int) - 1))).objs.size = s2.heap.objs.size + 1 := Heap.size_push ..
  have su' : SSq false (s2.heap.push (rvO m ((vs.toArray.size : Int) - 1))) l us.toArray := su.mv fun o e => up _ o e
  have hR : IsRv (s2.heap.push (rvO m ((vs.toArray.size : Int) - 1))) s2.heap.objs.size m ((ys.length : Int) - 1) := by
    rw [← vn]; exact Heap.get?_push_size _ rfl
  refine zipRNew (s := { s2 with heap := s2.heap.push (rvO m ((vs.toArray.size : Int) - 1)), toks := s2.toks + 1 + 1 }) su' hR fun h1 Z kp => wpAny_pyIter_zip Z.zip ?_
  have I3 : Inv X pins σ H2 { s2 with heap := h1, toks := s2.toks + 1 + 1 } := I2.kept (t' := s2.toks + 1 + 1) fun b ob q => kp b ob (up b ob q)
  have Z' : ZR (s2.heap.objs.size + 4) (s2.heap.objs.size + 2) (s2.heap.objs.size + 3) (s2.heap.objs.size + 1) s2.heap.objs.size l m ys.length 0 .none h1 := by
    have Z2 := Z
    rw [show ({ s2 with heap := s2.heap.push (rvO m ((vs.toArray.size : Int) - 1)), toks := s2.toks + 1 + 1 } : Shared).heap.objs.size = s2.heap.objs.size + 1 from szp] at Z2
    exact Z2
  refine ⟨_, _, _, _, H2, ?_, I3, turn_zipR (zra_new llt mlt), Z', fun p hp => ?_, q⟩
  · exact congrArg Value.ref (by show (s2.heap.push (rvO m ((vs.toArray.size : Int) - 1))).objs.size + 3 = _; rw [szp])
  have hp' : s2.heap.objs.size ≤ p := by
    have hp'' : p = s2.heap.objs.size + 4 ∨ p = s2.heap.objs.size + 2 ∨ p = s2.heap.objs.size + 3 ∨ p = s2.heap.objs.size + 1 ∨ p = s2.heap.objs.size := by simpa using hp
    rcases hp'' with e | e | e | e | e <;> (rw [e]; first | exact Nat.le_refl _ | exact Nat.le_add_right _ _)
  exact I2.fpOk hp' (I2.hok.fresh hp')
end
end L2
end
section
set_option Elab.async false
set_option linter.all false
set_option maxRecDepth 100000
set_option maxHeartbeats 4000000
/-! zip(xs, reversed(ys)) over values. -/
namespace PL
open PySem PySem.Spec PyProof.Rows L2
theorem zipP_get {xs ys : List PV} {i : Nat} {u : PV} (h : (zipP xs ys)[i]? = some u) : ∃ x y, xs[i]? = some x ∧ ys[i]? = some y ∧ u = .tup [x, y] := by
  unfold zipP at h
  rw [List.getElem?_zipWith] at h
  cases hx : xs[i]? with
  | none => rw [hx] at h; simp at h
  | some x =>
    cases hy : ys[i]? with
    | none => rw [hx, hy] at h; simp at h
    | some y => rw [hx, hy] at h; simp at h; exact ⟨x, y, rfl, rfl, h.symm⟩
theorem itAt_zipR {K : PySem.W.Frag} {T M : Addr → Prop} {H : Hp} {l m : Addr} {xs ys : List PV} {n : Nat} (va : Val T M H) (e1 : xs.length = ys.length) (en : ys.length = n)
    (r : Rep K T M H (.ref l) (.tup xs)) (r2 : Rep K T M H (.ref m) (.tup ys)) : ItAt K M (Itv K l m n) (zipP xs ys.reverse) T H := by
  obtain ⟨_, vs, e, hq, rs⟩ := sqT_or r
  cases e
  obtain ⟨_, ws, e, hq2, rs2⟩ := sqT_or r2
  cases e
  have wl := rs2.length
  have rg : ∀ i b, ys.reverse[i]? = some b → i < n ∧ ys[n - 1 - i]? = some b := fun i b h => by
    have hi : i < ys.reverse.length := (List.getElem?_eq_some_iff.mp h).1
    rw [List.length_reverse] at hi
    rw [List.getElem?_reverse hi, en] at h
    exact ⟨by omega, h⟩
  refine ⟨fun i w h => ?_, fun i w v H' h yl => ?_, fun i h => ⟨vs, hq, ?_⟩⟩
  · obtain ⟨a, b, ha, hb, _⟩ := zipP_get h
    obtain ⟨hi, hb⟩ := rg i b hb
    obtain ⟨u1, h1, _⟩ := rs.get ha
    obtain ⟨u2, h2, _⟩ := rs2.get hb
    exact ⟨vs, ws, u1, u2, hq, hq2, by omega, h1, hi, h2⟩
  · obtain ⟨a, b, ha, hb, rfl⟩ := zipP_get h
    obtain ⟨hi, hb⟩ := rg i b hb
    obtain ⟨p, u1, u2, rfl, hn, rfl, h1, h2⟩ := yl
    obtain ⟨a', ha', ra⟩ := rs.get' (h1 vs hq)
    obtain ⟨b', hb', rb⟩ := rs2.get' (h2 ws hq2)
    rw [ha] at ha'; cases ha'
    rw [hb] at hb'; cases hb'
    have st := Stp.lay (o := .tup [u1, u2]) va.tp hn
    exact ⟨st, .tup (.inl upd_same) (.cons (ra.stp st va) (.cons (rb.stp st va) .nil))⟩
  · have : (zipP xs ys.reverse).length = xs.length := by unfold zipP; rw [List.length_zipWith, List.length_reverse]; omega
    rw [this] at h
    rw [rs.length]
    exact h
section
variable {X : Cx}
def aiZR (ta tb : AE) : AI := fun τ Q => ta τ fun x => tb τ fun y => match x, y with | .tup xs, .tup ys => xs.length = ys.length ∧ Q (zipP xs ys.reverse) | _, _ => False
theorem si_zR {e f : Expr} {ta tb : AE} {p p2 pos pos2 tpos : Pos} {es : List Expr} {x1 : Nat} (hg : Gl X "zip") (hm : X.mg "zip" = none) (hg2 : Gl X "reversed") (hm2 : X.mg "reversed" = none) (ha : SE X e ta) (hb : SE X f tb)
    (hs : starEach [e, .Call (.Name "reversed" p2) [f] [] pos2] X.env = [(false, eval e X.env), (false, eval (.Call (.Name "reversed" p2) [f] [] pos2) X.env)] := by rfl) (hs2 : starEach [f] X.env = [(false, eval f X.env)] := by rfl) :
    SI X (.Tuple es x1 tpos) (.Call (.Name "zip" p) [e, .Call (.Name "reversed" p2) [f] [] pos2] [] pos) true (aiZR ta tb) := by
  obtain ⟨t, pa, s⟩ := ha
  obtain ⟨t', pb, s'⟩ := hb
  refine ⟨_, pi_zipR hg hm hg2 hm2 pa pb hs hs2, fun B T σ τ H R AQ sr h k => s B T σ τ H _ _ sr h fun u x T1 H1 s1 r1 h1 => s' B T1 σ τ H1 _ _ (sr.stp s1) h1 fun v y T2 H2 s2 r2 h2 => ?_⟩
  split at h2 <;> first | exact h2.elim | skip
  obtain ⟨e1, h2⟩ := h2
  have r1' := r1.stp s2 (sr.stp s1).va
  obtain ⟨l, us, rfl, hq, rs⟩ := sqT_or r1'
  obtain ⟨m, ws, rfl, hq2, rs2⟩ := sqT_or r2
  exact ⟨l, m, ws, rfl, rfl, ⟨us, hq⟩, hq2, k _ _ T2 H2 (s1.trans s2) (fun M2 T3 H3 mv va _ => itAt_zipR va e1 (by rw [rs2.length]) (r1'.mv mv) (r2.mv mv)) h2⟩
end
end PL
end
section
set_option Elab.async false
set_option linter.all false
set_option maxRecDepth 100000
set_option maxHeartbeats 4000000
/-! A comprehension one of whose own names is read in a comprehension within: it has a cell. -/
namespace L2
open PySem PySem.Spec PyProof.Rows
def oneCell (h : Heap) : Heap := (h.push { cls := .type "dict", data := .dict #[] }).push { cls := .type "cell", data := .cell none }
theorem oneCell_keeps {h : Heap} {b : Addr} {o : Obj} (e : h.get? b = some o) : (oneCell h).get? b = some o := Heap.get?_push_of_some _ (Heap.get?_push_of_some _ e)
theorem oneCell_ns {h : Heap} : (oneCell h).Ns h.objs.size (fun _ => none) := (Heap.Ns.new h (.type "dict")).keeps fun b o e => Heap.get?_push_of_some _ e
theorem oneCell_cell {h : Heap} : (oneCell h).IsCell (h.objs.size + 1) none := by
  have e : (h.push { cls := .type "dict", data := .dict #[] }).objs.size = h.objs.size + 1 := Heap.size_push ..
  rw [← e]
  exact ⟨_, Heap.get?_push_size _ rfl, rfl⟩
theorem nfe_cell {M : Model} {A : Around} {E : Value → Shared → Prop} {s : Shared} {scope : Scope} {y0 : Str} {globals : Addr} {cl : List (Str × Addr)} {qual : Str} {env : Env} {Q : Env → Shared → Prop}
    (cf : ∀ n acc, cellsFrom n scope.names acc = (y0, n) :: acc) (pc : ∀ h, pushCells h scope.names = h.push { cls := .type "cell", data := .cell none })
    (hQ : Q (newEnv scope s.heap.objs.size globals ((y0, s.heap.objs.size + 1) :: cl) qual none .none (some env) builtinsNs) { s with heap := oneCell s.heap }) :
    wpAny M A (newFunctionEnv scope globals cl [] qual none .none (some env)) Q E s := by
  simp only [newFunctionEnv, Option.isSome_some, if_true]
  refine wpAny_bind (wpAny_alloc ?_)
  refine wpAny_bind (wpAny_layCells _ (fun name kind cells => by cases hkc : kind == NameKind.cell <;> simp [hkc]) _ _ _ _ ?_)
  rw [cf, pc]
  rw [show ({ s with heap := s.heap.push { cls := .type "dict", data := .dict #[] } } : Shared).heap.objs.size = s.heap.objs.size + 1 from Heap.size_push ..]
  rw [List.forIn_nil]
  exact wpAny_bind (wpAny_pure (wpAny_pure hQ))
def blkC (X : Cx) (sc : Scope) (N : List Str) (y0 : Str) (cl : List (Str × Addr)) (C : Addr) (s : Shared) (H : Hp) (ex : List Addr) (pn : List (Addr × Obj)) : Cx :=
  { blk X sc N ((y0, C + 1) :: cl) C s H ex pn with fn := fun x => x == y0 }
section
variable {X : Cx} {pins : List (Addr × Obj)} {σ : St} {H : Hp} {s : Shared} {fp : List Addr} {sc : Scope} {N : List Str} {cl : List (Str × Addr)} {y0 : Str}
theorem lkC {C : Addr} {y : Str} {c : Addr} (e : ((y0, C + 1) :: cl).lookup y = some c) : (y = y0 ∧ c = C + 1) ∨ cl.lookup y = some c := by
  rw [List.lookup_cons] at e
  cases hb : y == y0 with
  | true => rw [hb] at e; cases e; exact .inl ⟨beq_iff_eq.mp hb, rfl⟩
  | false => rw [hb] at e; exact .inr e
theorem blkC_ok (I : Inv X pins σ H s) (hf : ∀ b ∈ fp, FpOk X pins H b) (hlt : ∀ b ∈ fp, b < s.heap.objs.size) (hk : sc.kind = .function)
    (h1 : ∀ y c, cl.lookup y = some c → X.env.cells.lookup y = some c) (h2 : ∀ y, (sc.names.lookup y = some .cell ∨ sc.names.lookup y = some .free) → ∃ c, ((y0, s.heap.objs.size + 1) :: cl).lookup y = some c) :
    (blkC X sc N y0 cl s.heap.objs.size s H fp (X.pn ++ pins)).Ok where
  mod := I.ok.mod
  kind := hk
  glob := I.ok.glob
  blt := I.ok.blt
  above := Nat.le_refl _
  inj := fun x y c a b => by
    have lo : ∀ y c, cl.lookup y = some c → c < s.heap.objs.size := fun y c e => I.szLt (h1 y c e)
    rcases lkC a with ⟨e1, e2⟩ | a'
    · rcases lkC b with ⟨e3, e4⟩ | b'
      · rw [e1, e3]
      · rw [e2] at b'
        exact absurd (lo _ _ b') (Nat.not_lt.mpr (Nat.le_succ _))
    · rcases lkC b with ⟨e3, e4⟩ | b'
      · rw [e4] at a'
        exact absurd (lo _ _ a') (Nat.not_lt.mpr (Nat.le_succ _))
      · exact I.ok.inj x y c (h1 x c a') (h1 y c b')
  has := fun x hx => h2 x hx
  cab := fun x c z e => by
    have z : (x == y0) = true := z
    rcases lkC e with ⟨_, rfl⟩ | e
    · exact Nat.le_succ _
    · have e' : ((y0, s.heap.objs.size + 1) :: cl).lookup x = some c := ‹_›
      rw [List.lookup_cons, z] at e'
      cases e'
      exact Nat.le_succ _
  hd := I.ok.hd
  frames := I.ok.frames
  stk := .inl rfl
  exf := fun b hb => ⟨Nat.ne_of_lt (hlt b hb), fun x c e => by
    rcases lkC e with ⟨_, rfl⟩ | e
    · exact Nat.ne_of_gt (Nat.lt_succ_of_lt (hlt b hb))
    · exact (hf b hb).2.2.2.2.1 x c (h1 x c e)⟩
  bs := I.bs
  bsz := Nat.le_trans I.ok.bsz I.sz
  noex := fun b o e hb => by
    rcases (hf b hb).2.2.2.1 with z | z
    · exact I.ok.noex b o e z
    · exact absurd (Nat.lt_of_lt_of_le (Heap.lt_size (I.ok.bs b o e).1) z) (Nat.lt_irrefl _)
  exfs := fun b hb => I.notStk (hf b hb).2.1 (hf b hb).2.2.1
  funs := I.stack
  frf := I.stkFree
theorem blkC_in {own : Nat} {ix : List Nat} {h' : Heap} {m : Str → Option Value} {t' : Nat} (I : Inv X pins σ H s) (hf : ∀ b ∈ fp, FpOk X pins H b) (hlt : ∀ b ∈ fp, b < s.heap.objs.size) (hk : sc.kind = .function)
    (h1 : ∀ y c, cl.lookup y = some c → X.env.cells.lookup y = some c) (h2 : ∀ y, (sc.names.lookup y = some .cell ∨ sc.names.lookup y = some .free) → ∃ c, ((y0, s.heap.objs.size + 1) :: cl).lookup y = some c) (F : Frees X sc own ix N) (far : ∀ (j i : Nat) (x : Str), ix[j]? = some i → N[own + j]? = some x → x ≠ y0)
    (hn : h'.Ns s.heap.objs.size m) (hcl : h'.IsCell (s.heap.objs.size + 1) none) (k : ∀ b o, s.heap.get? b = some o → h'.get? b = some o) :
    Inv (blkC X sc N y0 cl s.heap.objs.size s H fp (X.pn ++ pins)) [] (blkSt own ix σ) H { s with heap := h', toks := t' } where
  ok := blkC_ok I hf hlt hk h1 h2
  os := rfl
  bare := I.bare
  base := Un.kept k
  loc := by
    refine ⟨m, hn, fun i x v e1 e2 e3 => ?_⟩
    obtain ⟨hle, io, ei, es⟩ := blkSt_some e2
    obtain ⟨y, ny, ey, oy, sy⟩ := F.out _ _ ei
    have exy : x = y := by
      have e1' : N[i]? = some x := e1
      have ny' := ny
      rw [show own + (i - own) = i by omega, e1'] at ny'
      exact Option.some.inj ny'
    subst exy
    have ne := far _ _ _ ei ny
    obtain ⟨m0, hn0, hl0⟩ := I.loc
    obtain ⟨u, r, l⟩ := hl0 io x v ey es (.inr (.inl oy))
    refine ⟨u, r, ?_⟩
    rcases l with ⟨z, _⟩ | ⟨_, c, ec, z⟩
    · have z' : X.env.scope.names.lookup x = some .local := z
      rw [oy] at z'
      cases z'
    · obtain ⟨c', ec'⟩ := h2 x (.inl sy)
      have ec2 : cl.lookup x = some c' := by
        rcases lkC ec' with ⟨e, _⟩ | e
        · exact absurd e ne
        · exact e
      have := h1 x c' ec2
      rw [ec] at this
      cases this
      obtain ⟨o, ho, hd⟩ := z
      exact .inr ⟨.inl sy, c, ec', o, k c o ho, hd⟩
  cell := fun x c e => by
    rcases lkC e with ⟨_, rfl⟩ | e
    · exact ⟨none, hcl⟩
    · obtain ⟨v, o, ho, hd⟩ := I.cell x c (h1 x c e)
      exact ⟨v, o, k c o ho, hd⟩
  free := I.hok.fresh (Nat.le_refl _)
  freeC := fun x c e => by
    rcases lkC e with ⟨_, rfl⟩ | e
    · exact I.hok.fresh (Nat.le_succ _)
    · exact I.freeC x c (h1 x c e)
  pin := fun p hp => by
    have hp' : p ∈ X.pn ++ pins := by simpa [blkC, blk] using hp
    obtain ⟨a, b, c, d, e⟩ := I.pin p hp'
    exact ⟨k _ _ a, b, Nat.ne_of_lt (Heap.lt_size a), I.notStk c d, e⟩
  hok := I.hok.kept k
  len := by rw [blkSt_len]; exact F.len.symm
theorem blkC_out {own : Nat} {ix : List Nat} {σ' : St} {H' : Hp} {s' : Shared} {pins' : List (Addr × Obj)} (I : Inv X pins σ H s) (hf : ∀ b ∈ fp, FpOk X pins H b) (hlt : ∀ b ∈ fp, b < s.heap.objs.size)
    (B : Inv (blkC X sc N y0 cl s.heap.objs.size s H fp (X.pn ++ pins)) pins' σ' H' s') : Inv X pins σ H' s' :=
  I.call' (ch := fp) B.os B.base B.hok B.bare fun b hb => ⟨(hf b hb).2.2.2.1, (hf b hb).2.1, (hf b hb).2.2.2.2.1, (hf b hb).2.2.2.2.2⟩
end
section
variable {X : Cx} {tg elt iter : Expr} {ifs : List Expr} {scope : Scope} {pos : Pos} {wi : TI} {own : Nat} {ix : List Nat} {N : List Str} {y0 : Str} {g : TG} {tt : TT} {te : TE}
structure CompOkC (X : Cx) (tg elt : Expr) (ifs : List Expr) (scope : Scope) (own : Nat) (ix : List Nat) (N : List Str) (y0 : Str) (g : TG) (tt : TT) (te : TE) : Prop where
  kind : scope.kind = .function
  cells : ∀ y ∈ scope.names, y.2 = .cell → y.1 = y0
  cf : ∀ n acc, cellsFrom n scope.names acc = (y0, n) :: acc
  pc : ∀ h, pushCells h scope.names = h.push { cls := .type "cell", data := .cell none }
  far : ∀ (j i : Nat) (x : Str), ix[j]? = some i → N[own + j]? = some x → x ≠ y0
  names : ∀ y ∈ scope.names, y.2 = .local → scope.names.lookup y.1 = some .local
  frees : ∀ y ∈ scope.names, y.2 = .free → X.env.scope.names.lookup y.1 = some .cell
  ins : Frees X (relabel scope X.env) own ix N
  keep : GKeep own g
  tgt : ∀ cl C s H ex pn, PG (blkC X (relabel scope X.env) N y0 cl C s H ex pn) tg g
  tst : ∀ cl C s H ex pn, PIf (blkC X (relabel scope X.env) N y0 cl C s H ex pn) ifs tt
  val : ∀ cl C s H ex pn, PE (blkC X (relabel scope X.env) N y0 cl C s H ex pn) elt te
theorem relabel_memC {env : Env} {y : Str} {k : NameKind} (hno : ∀ y ∈ scope.names, y.2 = .cell → y.1 = y0) (h : (y, k) ∈ (relabel scope env).names) (hk : k = .cell ∨ k = .free) : (y, NameKind.free) ∈ scope.names ∨ y = y0 := by
  obtain ⟨⟨n, k'⟩, hm, e⟩ := List.mem_map.mp (show (y, k) ∈ scope.names.map _ from h)
  dsimp only at e
  split at e
  · rename_i hc
    cases e
    have : k' = .free := by
      cases k' <;> simp_all
    subst this
    exact .inl hm
  · cases e
    rcases hk with z | z
    · subst z
      exact .inr (hno _ hm rfl)
    · subst z
      exact .inl hm
/-- the loop, in the block -/
theorem comp_loopC {pins : List (Addr × Obj)} {σ : St} {H : Hp} {s : Shared} {fp : List Addr} {cl : List (Str × Addr)} {it : Addr} {tn : Nat → Heap → Prop} {J : It} {D : Addr} {R : Result → Shared → Prop} {Qh : Hp → Prop} {W : Nat → Nat → Hp → Prop}
    (hc : X.calm = true) (O : CompOkC X tg elt ifs scope own ix N y0 g tt te) (T : Turn X.prog X.w X.K tg J fp it tn) (I : Inv X pins σ H s) (hf : ∀ b ∈ fp, FpOk X pins H b) (hlt : ∀ b ∈ fp, b < s.heap.objs.size)
    (hW : cTurns J D (blkSt own ix σ) g tt te Qh W)
    (hR : ∀ σ' H' s', Inv (blkC X (relabel scope X.env) N y0 cl s.heap.objs.size s H fp (X.pn ++ pins)) [] σ' H' s' → Qh H' → R (.ok .next) s')
    (n : Nat) (s0 : Shared) (h0 : ∃ i H', Inv (blkC X (relabel scope X.env) N y0 cl s.heap.objs.size s H fp (X.pn ++ pins)) [] (blkSt own ix σ) H' s0 ∧ tn i s0.heap ∧ (∀ b ∈ fp, H' b = none) ∧ W i n H') :
    codeAny (model X.prog X.w) X.A (.compLoop (.ListComp elt [⟨tg, iter, ifs, 0⟩] scope pos) 0 (.ref it) (.ref D) (blkEnv X.env (relabel scope X.env) ((y0, s.heap.objs.size + 1) :: cl) s.heap.objs.size)) R s0 := by
  refine codeAny_loop rfl (fun n s' => ∃ i H', Inv (blkC X (relabel scope X.env) N y0 cl s.heap.objs.size s H fp (X.pn ++ pins)) [] (blkSt own ix σ) H' s' ∧ tn i s'.heap ∧ (∀ b ∈ fp, H' b = none) ∧ W i n H') (fun n s1 h1 => ?_) n h0
  obtain ⟨i, H1, B1, st1, fr1, w1⟩ := h1
  generalize hY : blkC X (relabel scope X.env) N y0 cl s.heap.objs.size s H fp (X.pn ++ pins) = Y at *
  have eA : Y.A = X.A := by rw [← hY]; rfl
  have eP : Y.prog = X.prog := by rw [← hY]; rfl
  have eW : Y.w = X.w := by rw [← hY]; rfl
  have eK : Y.K = X.K := by rw [← hY]; rfl
  have eE : blkEnv X.env (relabel scope X.env) ((y0, s.heap.objs.size + 1) :: cl) s.heap.objs.size = Y.env := by rw [← hY]; rfl
  have eX : Y.xe = fun _ _ => False := by rw [← hY]; rfl
  have eC : Y.calm = true := by rw [← hY]; exact hc
  have hg : PG Y tg g := by rw [← hY]; exact O.tgt _ _ _ _ _ _
  have ht : PIf Y ifs tt := by rw [← hY]; exact O.tst _ _ _ _ _ _
  have hv : PE Y elt te := by rw [← hY]; exact O.val _ _ _ _ _ _
  have stat : ∀ {H' : Hp}, (∀ b ∈ fp, H' b = none) → ∀ b ∈ fp, FpOk Y [] H' b := fun {H'} hn b hb => by
    obtain ⟨_, a1, a2, a3, a4, a5⟩ := hf b hb
    refine ⟨hn b hb, ?_, ?_, ?_, ?_, ?_⟩
    · rw [← hY]; exact Nat.ne_of_lt (hlt b hb)
    · rw [← hY]; exact I.notStk a1 a2
    · rw [← hY]; exact .inl hb
    · intro x c e
      exact (B1.ok.exf b (by rw [← hY]; exact hb)).2 x c e
    · intro p hp
      have : p ∈ X.pn ++ pins := by rw [← hY] at hp; simpa [blkC, blk] using hp
      exact a5 p this
  rw [eE, ← eA, ← eP, ← eW]
  show wpAny _ _ ((compTurn (.ListComp elt [⟨tg, iter, ifs, 0⟩] scope pos) 0 (.ref it) (.ref D) Y.env).onRaise (fun x => do noteFrame x Y.env; theTreesLotGoes x)) _ _ s1
  refine wpAny_noted ?_
  rw [compTurn_list]
  have ff : ∀ {α : Type} {t : Sem α} {Q : α → Shared → Prop} {E : Value → Shared → Prop} {s : Shared}, wpAny (model Y.prog Y.w) Y.A t Q Y.xe s → wpAny (model Y.prog Y.w) Y.A t Q E s := fun h => wpAny_mono h (fun _ _ q => q) fun _ _ z => by rw [eX] at z; exact z.elim
  refine wpAny_bind (wpAny_standAt (wpAny_bind ?_))
  rcases hW i n H1 w1 with ⟨stop, qn⟩ | ⟨go, step⟩
  · have zd := fun E => T.done Y eP eW eK eC i [] s1 _ H1 E B1 (stat fr1) st1 stop
    rw [← eP, ← eW] at zd
    refine thn (zd _) fun r s4 ⟨hr, I4⟩ => ?_
    subst hr
    exact wpAny_pure (hR _ _ _ I4 qn)
  · have zi := fun E => T.item Y eP eW eK eC i [] s1 _ H1 E B1 (stat fr1) st1 go
    rw [← eP, ← eW] at zi
    refine thn (zi _) fun r s4 ⟨u, hr, h4⟩ => ?_
    subst hr
    refine wpAny_bind (thn h4 fun _ s5 ⟨x, H5, I5, r5, y5, st5, fr5⟩ => ?_)
    have I5' := I5.pinned (stat fr5) (T.obj _ _ st5)
    refine wpAny_bind (thn (ff (hg _ s5 _ H5 x u _ I5' r5 (O.keep _ _ _ _ (step x H5 y5)))) fun _ s6 ⟨σ6, H6, I6, q6, l6, k6⟩ => ?_)
    refine wpAny_bind (thn (ff (ht _ s6 σ6 H6 _ I6 q6)) fun ok s7 ⟨H7, I7, q7⟩ => ?_)
    have back : ∀ {H8 : Hp} {s8 : Shared} {m' : Nat}, Inv Y ([] ++ pinsAt fp s5.heap) σ6 H8 s8 → m' < n → W (i + 1) m' H8 →
        ∃ m, m < n ∧ ∃ i H', Inv Y [] (blkSt own ix σ) H' s8 ∧ tn i s8.heap ∧ (∀ b ∈ fp, H' b = none) ∧ W i m H' := fun {H8 s8 m'} I8 hm w8 => by
      refine ⟨m', hm, i + 1, H8, I8.unpinned.weak l6.symm (fun j v hj => ?_), T.keep _ _ _ st5 fun b hb o e => (I8.pin (b, o) (List.mem_append_right _ (List.mem_append_right _ (mem_pinsAt hb e)))).1, fun b hb => ?_, w8⟩
      · rw [k6 j (blkSt_some hj).1]
        exact hj
      · obtain ⟨o, e, d⟩ := T.obj _ _ st5 b hb
        exact (I8.pin (b, o) (List.mem_append_right _ (List.mem_append_right _ (mem_pinsAt hb e)))).2.1
    cases ok with
    | false =>
      obtain ⟨m', hm, w8⟩ := q7
      exact wpAny_pure ⟨rfl, back I7 hm w8⟩
    | true =>
      refine wpAny_bind (wpAny_bind (thn (ff (hv _ s7 σ6 H7 _ I7 q7)) fun yv s8 ⟨y, H8, I8, r8, ys, hD, hz, m', hm, w8⟩ => ?_))
      refine wpAny_bind (thn (ff (mt_append _ s8 σ6 H8 (.ref D) [y] (.ref D) [yv] (fun _ H9 => H9 = upd H8 D (.lst (ys ++ [y]))) I8 rfl (.cons r8 .nil) ⟨D, ys, y, rfl, rfl, hD, hz, rfl⟩)) fun _ s9 ⟨_, H9, I9, _, e9⟩ => ?_)
      subst e9
      exact wpAny_pure (wpAny_pure ⟨rfl, back I9 hm w8⟩)
/-- the two halves ahead of the loop -/
theorem comp_runC {pins : List (Addr × Obj)} {σ : St} {H : Hp} {s : Shared} {use : Option (Value → Sem Unit)} {Q : Value → Shared → Prop} {it : Addr} {fp : List Addr} {cl : List (Str × Addr)} {tn : Nat → Heap → Prop} {J : It} {Qd : Addr → Hp → Prop}
    (hc : X.calm = true) (O : CompOkC X tg elt ifs scope own ix N y0 g tt te) (T : Turn X.prog X.w X.K tg J fp it tn) (I : Inv X pins σ H s) (hf : ∀ b ∈ fp, FpOk X pins H b) (st : tn 0 s.heap)
    (h1 : ∀ y c, cl.lookup y = some c → X.env.cells.lookup y = some c) (h2 : ∀ y, (y, NameKind.free) ∈ scope.names → ∃ c, cl.lookup y = some c)
    (hq : ∀ D, H D = none → ∃ W : Nat → Nat → Hp → Prop, (∃ m, W 0 m (upd H D (.lst []))) ∧ cTurns J D (blkSt own ix σ) g tt te (Qd D) W)
    (hR : ∀ D C H' s', (∃ m, s'.heap.Ns C m) → Inv X pins σ H' s' → (∀ σ2 s2, Inv X pins σ2 H' s2 → ∀ h', Heap.SameBut C s2.heap h' → Inv X pins σ2 H' { s2 with heap := h' }) → C ≠ X.env.locals → (∀ x c, X.env.cells.lookup x = some c → C ≠ c) → Qd D H' →
      compPost (model X.prog X.w) X.A X.xe use Q (.ref D) C (.ok .next) s') :
    wpAny (model X.prog X.w) X.A (newList []) (fun acc s₃ => wpAny (model X.prog X.w) X.A (newFunctionEnv scope X.env.globals cl [] X.env.qual none .none (some X.env)) (fun cenv s₄ =>
      codeAny (model X.prog X.w) X.A (.compStart (.ListComp elt [⟨tg, iter, ifs, 0⟩] scope pos) 0 (.ref it) acc { cenv with scope := relabel scope X.env }) (compPost (model X.prog X.w) X.A X.xe use Q acc cenv.locals) s₄) X.xe s₃) X.xe s := by
  refine wpAny_newObj_type ?_ (by simp [sizeOk])
  have I3 : Inv X pins σ (upd H s.heap.objs.size (.lst [])) { s with heap := s.heap.push { cls := .type "list", data := .seq ([] : List Value).toArray } } := I.lnew (t' := s.toks) .nil (Nat.zero_le _)
  have hfr := I.fresh
  obtain ⟨W, ⟨m0, w0⟩, hW⟩ := hq _ hfr
  have hlt0 : ∀ b ∈ fp, b < s.heap.objs.size := fun b hb => by
    obtain ⟨o, e, _⟩ := T.obj _ _ st b hb
    exact Heap.lt_size e
  have hf3 : ∀ b ∈ fp, FpOk X pins (upd H s.heap.objs.size (.lst [])) b := fun b hb => by
    obtain ⟨a0, ar⟩ := hf b hb
    exact ⟨by rw [upd_ne (Nat.ne_of_lt (hlt0 b hb))]; exact a0, ar⟩
  generalize hs3 : ({ s with heap := s.heap.push { cls := .type "list", data := .seq ([] : List Value).toArray } } : Shared) = s3 at I3
  have st3 : tn 0 s3.heap := T.keep _ _ _ st fun b hb o e => by rw [← hs3]; exact Heap.get?_push_of_some _ e
  have hlt : ∀ b ∈ fp, b < s3.heap.objs.size := fun b hb => by
    obtain ⟨o, e, _⟩ := T.obj _ _ st3 b hb
    exact Heap.lt_size e
  refine nfe_cell O.cf O.pc ?_
  have kp : ∀ b o, s3.heap.get? b = some o → (oneCell s3.heap).get? b = some o := fun b o e => oneCell_keeps e
  have hns := oneCell_ns (h := s3.heap)
  have hcl := oneCell_cell (h := s3.heap)
  have hh2 : ∀ y, ((relabel scope X.env).names.lookup y = some .cell ∨ (relabel scope X.env).names.lookup y = some .free) → ∃ c, ((y0, s3.heap.objs.size + 1) :: cl).lookup y = some c := fun y hy => by
    have go : (y, NameKind.free) ∈ scope.names ∨ y = y0 := by
      rcases hy with z | z
      · exact relabel_memC O.cells (lk_mem z) (.inl rfl)
      · exact relabel_memC O.cells (lk_mem z) (.inr rfl)
    rw [List.lookup_cons]
    cases hb : y == y0 with
    | true => exact ⟨_, rfl⟩
    | false =>
      rcases go with z | z
      · exact h2 y z
      · rw [z] at hb; simp at hb
  have B := blkC_in (N := N) (t' := s3.toks) I3 hf3 hlt (sc := relabel scope X.env) O.kind h1 hh2 O.ins O.far hns hcl kp
  have st4 : tn 0 (oneCell s3.heap) := T.keep _ _ _ st3 fun b hb o e => kp b o e
  have loop : ∀ s4 : Shared, s4 = { s3 with heap := oneCell s3.heap } →
      codeAny (model X.prog X.w) X.A (.compLoop (.ListComp elt [⟨tg, iter, ifs, 0⟩] scope pos) 0 (.ref it) (.ref s.heap.objs.size) (blkEnv X.env (relabel scope X.env) ((y0, s3.heap.objs.size + 1) :: cl) s3.heap.objs.size)) (compPost (model X.prog X.w) X.A X.xe use Q (.ref s.heap.objs.size) s3.heap.objs.size) s4 := by
    rintro s4 rfl
    refine comp_loopC (cl := cl) (Qh := Qd s.heap.objs.size) hc O T I3 hf3 hlt hW (fun σ' H' s' B' q' => ?_) m0 _ ⟨0, _, B, st4, fun b hb => (hf3 b hb).1, w0⟩
    refine hR _ _ H' s' (let ⟨m, hm, _⟩ := B'.loc; ⟨m, hm⟩) (blkC_out (own := own) (ix := ix) I3 hf3 hlt B') (fun σ2 s2 I2 h' hs => blk_gone I3 rfl I2 B'.free hs) (Nat.ne_of_gt I3.lt) (fun x c e => Nat.ne_of_gt (I3.szLt e)) q'
  exact codeAny_compStart_list (loop _ rfl) (T.self _ 0 _ _ _ st4 (loop _ rfl))
theorem pe_compC (hc : X.calm = true) (hi : PI X tg iter wi) (O : CompOkC X tg elt ifs scope own ix N y0 g tt te) (hs : ∀ x, foldedSetIterable iter X.env x = pure x := by intro _; rfl) :
    PE X (.ListComp elt [⟨tg, iter, ifs, 0⟩] scope pos) (tComp wi own ix g tt te) := by
  intro pins s σ H Q I h
  obtain ⟨cl, hclos, h1, h2⟩ := closure_of (env := X.env) (scope := scope) fun y hy e => I.ok.has y.1 (.inl (O.frees y hy e))
  rw [eval_ListComp]
  refine wpAny_comprehension_free (use := none) rfl hs hclos O.kind O.names (thn (hi pins s σ H _ I h) fun v s1 hv => thn hv fun itv s2 hv2 => ?_)
  obtain ⟨it, fp, tn, J, H2, rfl, I2, T, st2, f2, q⟩ := hv2
  exact comp_runC (Qd := fun D H' => Q (.ref D) H') hc O T I2 f2 st2 h1 h2 q fun D C H' s' hn I' gone nl nc q' => by
    obtain ⟨m, hm⟩ := hn
    exact ⟨m, hm, fun h' hs => ⟨.ref D, H', gone σ s' I' h' hs, rfl, q'⟩⟩
end
end L2
end
section
set_option Elab.async false
set_option linter.all false
set_option maxRecDepth 100000
set_option maxHeartbeats 4000000
/-! A comprehension whose own name is read in one within. -/
namespace PL
open PySem PySem.Spec PyProof.Rows L2
section
variable {X : Cx} {ta : AE} {pos : Pos}
structure CompSC (X : Cx) (tg elt : Expr) (ifs : List Expr) (scope : Scope) (own : Nat) (ix : List Nat) (N : List Str) (y0 : Str) (g : AG) (t : AT) (te : AE) : Prop where
  ex : ∃ g' t' te', CompOkC X tg elt ifs scope own ix N y0 g' t' te' ∧ SimG X.K g' g ∧ SimT X.K t' t ∧ SimE X.K te' te
theorem sf_compC {tg elt iter : Expr} {ifs : List Expr} {scope : Scope} {own : Nat} {ix : List Nat} {N : List Str} {y0 : Str} {g : AG} {t : AT} {s : Bool} {ai : AI} (hc : X.calm = true) (hi : SI X tg iter s ai) (O : CompSC X tg elt ifs scope own ix N y0 g t ta) (hs : ∀ x, foldedSetIterable iter X.env x = pure x := by intro _; rfl) :
    SF X (.ListComp elt [⟨tg, iter, ifs, 0⟩] scope pos) (aComp ai own ix g t ta) := by
  obtain ⟨wi, pi, si⟩ := hi
  obtain ⟨g', t', te', O, sg, st, se⟩ := O.ex
  exact ⟨_, pe_compC hc pi O hs, sim_comp si sg st se⟩
theorem comp_sC {tg elt : Expr} {ifs : List Expr} {scope : Scope} {own : Nat} {ix : List Nat} {N : List Str} (y0 : Str) {g : AG} {t : AT} {te : AE} (h1 : scope.kind = .function) (h2 : (scope.names.all fun y => !decide (y.2 = .cell) || decide (y.1 = y0)) = true)
    (cf : ∀ n acc, cellsFrom n scope.names acc = (y0, n) :: acc) (pc : ∀ h, pushCells h scope.names = h.push { cls := .type "cell", data := .cell none })
    (h3 : (scope.names.all fun y => !decide (y.2 = .local) || decide (scope.names.lookup y.1 = some .local)) = true)
    (h4 : (scope.names.all fun y => !decide (y.2 = .free) || decide (X.env.scope.names.lookup y.1 = some .cell)) = true) (h5 : N.length = own + ix.length) (h6 : freesB X (relabel scope X.env) own ix N = true)
    (h7 : ((N.drop own).all fun x => !decide (x = y0)) = true)
    (tgt : ∀ cl C s H ex pn, SK own (blkC X (relabel scope X.env) N y0 cl C s H ex pn) tg g)
    (tst : ∀ cl C s H ex pn, SIf (blkC X (relabel scope X.env) N y0 cl C s H ex pn) ifs t)
    (val : ∀ cl C s H ex pn, SE (blkC X (relabel scope X.env) N y0 cl C s H ex pn) elt te) : CompSC X tg elt ifs scope own ix N y0 g t te := by
  refine ⟨gOf X.K own g, tOf X.K t, eOf X.K te, ⟨h1, fun y hy e => ?_, cf, pc, fun j i x hj hx => ?_, fun y hy e => ?_, fun y hy e => ?_, frees_of h5 h6, keep_gOf, fun cl C s H ex pn => (tgt cl C s H ex pn).of, fun cl C s H ex pn => (tst cl C s H ex pn).of, fun cl C s H ex pn => (val cl C s H ex pn).of⟩, sim_gOf, sim_tOf, sim_eOf⟩
  · have := List.all_eq_true.mp h2 y hy
    simpa [e] using this
  · have hm : x ∈ N.drop own := List.mem_of_getElem? (i := j) (by rw [List.getElem?_drop]; exact hx)
    have := List.all_eq_true.mp h7 x hm
    simpa using this
  · have := List.all_eq_true.mp h3 y hy
    simpa [e] using this
  · have := List.all_eq_true.mp h4 y hy
    simpa [e] using this
end
end PL
end
section
set_option Elab.async false
set_option linter.all false
set_option maxRecDepth 100000
set_option maxHeartbeats 4000000
/-! Fractions as rational numbers: the program's and the laws' own sums. -/
namespace PL
open PySem L2 PyProof.Rows
def fr (r : Rat) : PV := .tup [.int r.num, .int (r.den : Int)]
/-! ### sizes -/
theorem iteB {b : Bool} {A B : Prop} (h1 : b = true → A) (h2 : b = false → B) : if b = true then A else B := by
  cases b with
  | true => rw [if_pos rfl]; exact h1 rfl
  | false => rw [if_neg Bool.false_ne_true]; exact h2 rfl
structure Bd (n : Nat) (r : Rat) : Prop where
  top : r.num.natAbs < 2 ^ n
  bot : r.den < 2 ^ n
theorem Bd.botI {n : Nat} {r : Rat} (b : Bd n r) : (r.den : Int).natAbs < 2 ^ n := by simpa using b.bot
theorem pow_mono {m n : Nat} (h : m ≤ n) : 2 ^ m ≤ 2 ^ n := Nat.pow_le_pow_right (by decide) h
theorem Bd.mono {m n : Nat} {r : Rat} (b : Bd m r) (h : m ≤ n) : Bd n r := ⟨Nat.lt_of_lt_of_le b.top (pow_mono h), Nat.lt_of_lt_of_le b.bot (pow_mono h)⟩
theorem mul_lt {a b m n : Nat} (ha : a < 2 ^ m) (hb : b < 2 ^ n) : a * b < 2 ^ (m + n) := by
  rw [Nat.pow_add]
  exact Nat.mul_lt_mul_of_lt_of_le ha (Nat.le_of_lt hb) (Nat.pos_of_ne_zero (by intro z; rw [z] at hb; omega)) |> fun h => h
theorem mul_ltI {a b : Int} {m n : Nat} (ha : a.natAbs < 2 ^ m) (hb : b.natAbs < 2 ^ n) : (a * b).natAbs < 2 ^ (m + n) := by
  rw [Int.natAbs_mul]; exact mul_lt ha hb
theorem add_ltI {a b : Int} {n : Nat} (ha : a.natAbs < 2 ^ n) (hb : b.natAbs < 2 ^ n) : (a + b).natAbs < 2 ^ (n + 1) := by
  rw [Nat.pow_succ]; omega
theorem sub_ltI {a b : Int} {n : Nat} (ha : a.natAbs < 2 ^ n) (hb : b.natAbs < 2 ^ n) : (a - b).natAbs < 2 ^ (n + 1) := by
  rw [Nat.pow_succ]; omega
theorem lt_mono {a m n : Nat} (h : a < 2 ^ m) (hm : m ≤ n) : a < 2 ^ n := Nat.lt_of_lt_of_le h (pow_mono hm)
theorem MulOk.of {a b : Int} {m n : Nat} (ha : a.natAbs < 2 ^ m) (hb : b.natAbs < 2 ^ n) (hm : m ≤ 1000000 := by omega) (hn : n ≤ 1000000 := by omega) : MulOk a b := ⟨lt_mono ha hm, lt_mono hb hn⟩
/-- what part makes is no greater -/
theorem divInt_top (t b : Int) : (Rat.divInt t b).num.natAbs ≤ t.natAbs := by
  rw [Rat.num_divInt]
  by_cases h : b = 0
  · subst h; simp
  · have e : (b.gcd t : Int) ∣ b.sign * t := Int.dvd_trans (Int.gcd_dvd_right ..) (Int.dvd_mul_left ..)
    rw [Int.natAbs_ediv_of_dvd e, Int.natAbs_mul]
    refine Nat.le_trans (Nat.div_le_self _ _) ?_
    rw [Int.natAbs_sign_of_ne_zero h]
    omega
theorem divInt_bot (t b : Int) (h : b ≠ 0) : (Rat.divInt t b).den ≤ b.natAbs := by
  rw [Rat.den_divInt, if_neg h]
  exact Nat.div_le_self _ _
theorem Bd.divInt {n : Nat} {t b : Int} (h : b ≠ 0) (ht : t.natAbs < 2 ^ n) (hb : b.natAbs < 2 ^ n) : Bd n (Rat.divInt t b) :=
  ⟨Nat.lt_of_le_of_lt (divInt_top t b) ht, Nat.lt_of_le_of_lt (divInt_bot t b h) hb⟩
theorem den_ne (a : Rat) : (a.den : Int) ≠ 0 := by have := a.den_pos; omega
theorem add_divInt (a b : Rat) : a + b = Rat.divInt (a.num * b.den + b.num * a.den) (a.den * b.den) := by
  have h := Rat.divInt_add_divInt a.num b.num (den_ne a) (den_ne b)
  rw [Rat.num_divInt_den, Rat.num_divInt_den] at h
  exact h
theorem sub_divInt (a b : Rat) : a - b = Rat.divInt (a.num * b.den - b.num * a.den) (a.den * b.den) := by
  have h := Rat.divInt_sub_divInt a.num b.num (den_ne a) (den_ne b)
  rw [Rat.num_divInt_den, Rat.num_divInt_den] at h
  exact h
theorem mul_divInt (a b : Rat) : a * b = Rat.divInt (a.num * b.num) (a.den * b.den) := by
  have h := Rat.divInt_mul_divInt a.num b.num (d₁ := a.den) (d₂ := b.den)
  rw [Rat.num_divInt_den, Rat.num_divInt_den] at h
  exact h
theorem div_divInt (a b : Rat) : a / b = Rat.divInt (a.num * b.den) (a.den * b.num) := by
  rw [Rat.div_def, Rat.inv_def]
  have h := Rat.divInt_mul_divInt a.num b.den (d₁ := a.den) (d₂ := b.num)
  rw [Rat.num_divInt_den] at h
  exact h
theorem mul_ne {a b : Int} (ha : a ≠ 0) (hb : b ≠ 0) : a * b ≠ 0 := Int.mul_ne_zero ha hb
theorem num_ne {b : Rat} (h : b ≠ 0) : b.num ≠ 0 := fun z => h (Rat.num_eq_zero.mp z)
theorem Bd.add {m n : Nat} {a b : Rat} (ha : Bd m a) (hb : Bd n b) : Bd (m + n + 1) (a + b) := by
  rw [add_divInt]
  refine .divInt (mul_ne (den_ne a) (den_ne b)) (add_ltI (mul_ltI ha.top (by simpa using hb.bot)) ?_) ?_
  · rw [Nat.add_comm m n]; exact mul_ltI hb.top (by simpa using ha.bot)
  · exact lt_mono (mul_ltI (by simpa using ha.bot) (by simpa using hb.bot)) (by omega)
theorem Bd.sub {m n : Nat} {a b : Rat} (ha : Bd m a) (hb : Bd n b) : Bd (m + n + 1) (a - b) := by
  rw [sub_divInt]
  refine .divInt (mul_ne (den_ne a) (den_ne b)) (sub_ltI (mul_ltI ha.top (by simpa using hb.bot)) ?_) ?_
  · rw [Nat.add_comm m n]; exact mul_ltI hb.top (by simpa using ha.bot)
  · exact lt_mono (mul_ltI (by simpa using ha.bot) (by simpa using hb.bot)) (by omega)
theorem Bd.mul {m n : Nat} {a b : Rat} (ha : Bd m a) (hb : Bd n b) : Bd (m + n) (a * b) := by
  rw [mul_divInt]
  exact .divInt (mul_ne (den_ne a) (den_ne b)) (mul_ltI ha.top hb.top) (mul_ltI (by simpa using ha.bot) (by simpa using hb.bot))
theorem Bd.div {m n : Nat} {a b : Rat} (h : b ≠ 0) (ha : Bd m a) (hb : Bd n b) : Bd (m + n) (a / b) := by
  rw [div_divInt]
  exact .divInt (mul_ne (den_ne a) (num_ne h)) (mul_ltI ha.top (by simpa using hb.bot)) (mul_ltI (by simpa using ha.bot) hb.top)
theorem Bd.neg {n : Nat} {a : Rat} (ha : Bd n a) : Bd n (-a) := ⟨by show (-a.num).natAbs < _; rw [Int.natAbs_neg]; exact ha.top, ha.bot⟩
theorem fr_int (n : Int) : fr (n : Rat) = .tup [.int n, .int 1] := by simp [fr]
theorem Bd.int {n : Int} {k : Nat} (h : n.natAbs < 2 ^ k) (hk : 1 ≤ k) : Bd k (n : Rat) := ⟨by simpa using h, by simp; omega⟩
/-! ### the program's -/
def B_common : AS :=
  (aSeq (aWhile (aTst (aOp fNe (aV 1) (aC (.int 0)))) (aPar 0 1 (aCons (aV 1) (aCons (aOp fMod (aV 0) (aV 1)) aNil))))
    (aRet (aV 0)))
def F_common : AF := aBody 2 B_common
theorem F_common_ok (x y : Nat) (Q : PV → Prop) (h : Q (.int (Nat.gcd x y : Nat))) : F_common [.int x, .int y] Q := by
  have go : ∀ y x : Nat, ∀ D : AEnds, D.nx [some (.val (.int (Nat.gcd x y : Nat))), some (.val (.int 0))] → ∃ n, whGo (aTst (aOp fNe (aV 1) (aC (.int 0)))) (aPar 0 1 (aCons (aV 1) (aCons (aOp fMod (aV 0) (aV 1)) aNil))) D n [some (.val (.int x)), some (.val (.int y))] := by
    intro y
    induction y using Nat.strongRecOn with
    | _ y ih =>
      intro x D hD
      by_cases hy : y = 0
      · subst hy
        refine ⟨1, ?_⟩
        rw [Nat.gcd_zero_right] at hD
        exact hD
      · obtain ⟨n, hn⟩ := ih (x % y) (Nat.mod_lt _ (by omega)) y D (by rw [Nat.gcd_comm y, ← Nat.gcd_rec, Nat.gcd_comm y]; exact hD)
        refine ⟨n + 1, ?_⟩
        refine iteB (b := !decide ((y : Int) = 0)) (fun _ => ?_) (fun z => ?_)
        · have e2 : (x : Int).fmod (y : Int) = ((x % y : Nat) : Int) := by
            rw [Int.fmod_eq_emod_of_nonneg _ (by omega)]; simp
          refine ⟨by omega, ?_⟩
          rw [← e2] at hn
          exact hn
        · have : (y : Int) = 0 := by simpa using z
          omega
  obtain ⟨n, hn⟩ := go y x { nx := fun τ => aRet (aV 0) { nx := fun _ => Q .non, rt := Q, bk := fun _ => False, ct := fun _ => False } τ, rt := Q, bk := fun _ => False, ct := fun _ => False } h
  exact ⟨n, hn⟩
def B_part_t1 : AS :=
  (aSeq (aIfS (aTst (aOp fLt (aV 1) (aC (.int 0)))) (aAsg (aUn fNeg (aV 2)) (agN 2)) aNext)
    (aRet (aTup (aCons (aOp fDiv (aV 0) (aV 2)) (aCons (aOp fDiv (aV 1) (aV 2)) aNil)))))
def B_part : AS :=
  (aSeq (aAsg (aCall 2 F_common (aCons (aCB gAbs (aCons (aV 0) aNil)) (aCons (aCB gAbs (aCons (aV 1) aNil)) aNil))) (agN 2))
    B_part_t1)
def F_part : AF := aBody 3 B_part
theorem part_num (t b : Int) (hb : b ≠ 0) : ∀ s : Int, s = (if b < 0 then -(Nat.gcd t.natAbs b.natAbs : Int) else (Nat.gcd t.natAbs b.natAbs : Int)) → s ≠ 0 ∧ t.fdiv s = (Rat.divInt t b).num ∧ b.fdiv s = ((Rat.divInt t b).den : Int) := by
  intro s hs
  have g0 : 0 < Nat.gcd t.natAbs b.natAbs := Nat.gcd_pos_of_pos_right _ (by omega)
  have eg : b.gcd t = Nat.gcd t.natAbs b.natAbs := by rw [Int.gcd_eq_natAbs_gcd_natAbs, Nat.gcd_comm]
  have d1 : (Nat.gcd t.natAbs b.natAbs : Int) ∣ t := by rw [← Int.dvd_natAbs]; exact Int.ofNat_dvd.mpr (Nat.gcd_dvd_left ..)
  have d2 : (Nat.gcd t.natAbs b.natAbs : Int) ∣ b := by rw [← Int.dvd_natAbs]; exact Int.ofNat_dvd.mpr (Nat.gcd_dvd_right ..)
  have d1' : s ∣ t := by rw [hs]; split <;> first | exact Int.neg_dvd.mpr d1 | exact d1
  have d2' : s ∣ b := by rw [hs]; split <;> first | exact Int.neg_dvd.mpr d2 | exact d2
  refine ⟨by rw [hs]; split <;> omega, ?_, ?_⟩
  · rw [Int.fdiv_eq_ediv_of_dvd d1', Rat.num_divInt, eg, hs]
    by_cases h : b < 0
    · rw [if_pos h, Int.sign_eq_neg_one_of_neg h, Int.ediv_neg]
      have : (-1 : Int) * t = -t := by omega
      rw [this, Int.neg_ediv_of_dvd d1]
    · rw [if_neg h, Int.sign_eq_one_of_pos (by omega), Int.one_mul]
  · rw [Int.fdiv_eq_ediv_of_dvd d2', Rat.den_divInt, if_neg hb, eg, hs]
    by_cases h : b < 0
    · rw [if_pos h, Int.ediv_neg]
      have : (b.natAbs : Int) = -b := by omega
      rw [Int.natCast_ediv, this, Int.neg_ediv_of_dvd d2]
    · rw [if_neg h]
      have : (b.natAbs : Int) = b := by omega
      rw [Int.natCast_ediv, this]
theorem F_part_ok (t b : Int) (hb : b ≠ 0) (hB : b.natAbs < 2 ^ 8900) (Q : PV → Prop) (h : Q (fr (Rat.divInt t b))) : F_part [.int t, .int b] Q := by
  have g0 : 0 < Nat.gcd t.natAbs b.natAbs := Nat.gcd_pos_of_pos_right _ (by omega)
  have gl : Nat.gcd t.natAbs b.natAbs < 2 ^ 8900 := Nat.lt_of_le_of_lt (Nat.le_of_dvd (by omega) (Nat.gcd_dvd_right ..)) hB
  obtain ⟨s0, e1, e2⟩ := part_num t b hb _ rfl
  refine ⟨rfl, F_common_ok _ _ _ ?_⟩
  refine iteB (b := decide (b < 0)) (fun z => ?_) (fun z => ?_)
  · have z' : b < 0 := of_decide_eq_true z
    rw [if_pos z'] at s0 e1 e2
    refine ⟨⟨s0, by rw [Int.natAbs_neg]; exact gl⟩, ⟨s0, by rw [Int.natAbs_neg]; exact gl⟩, (show 2 ≤ sizeLine by decide), ?_⟩
    unfold fr at h
    rw [← e1, ← e2] at h
    exact h
  · have z' : ¬ b < 0 := of_decide_eq_false z
    rw [if_neg z'] at s0 e1 e2
    refine ⟨⟨s0, gl⟩, ⟨s0, gl⟩, (show 2 ≤ sizeLine by decide), ?_⟩
    unfold fr at h
    rw [← e1, ← e2] at h
    exact h
theorem Bd.mt {n : Nat} {a b : Rat} (ha : Bd 4000 a) (hb : Bd 4000 b) : MulOk a.num b.den ∧ MulOk b.num a.den ∧ MulOk a.den b.den ∧ MulOk a.num b.num ∧ MulOk a.den b.num := 
  ⟨.of ha.top (by simpa using hb.bot), .of hb.top (by simpa using ha.bot), .of (by simpa using ha.bot) (by simpa using hb.bot), .of ha.top hb.top, .of (by simpa using ha.bot) hb.top⟩
theorem dd_lt {a b : Rat} (ha : Bd 4000 a) (hb : Bd 4000 b) : ((a.den : Int) * (b.den : Int)).natAbs < 2 ^ 8900 := lt_mono (mul_ltI (a := (a.den : Int)) (by simpa using ha.bot) (by simpa using hb.bot)) (by omega)
def B_plus : AS :=
  (aRet (aCall 2 F_part (aCons (aOp fAddA (aOp fMul (aOp fIx (aV 0) (aC (.int 0))) (aOp fIx (aV 1) (aC (.int 1)))) (aOp fMul (aOp fIx (aV 1) (aC (.int 0))) (aOp fIx (aV 0) (aC (.int 1))))) (aCons (aOp fMul (aOp fIx (aV 0) (aC (.int 1))) (aOp fIx (aV 1) (aC (.int 1)))) aNil))))
def F_plus : AF := aBody 2 B_plus
theorem F_plus_ok {a b : Rat} (ha : Bd 4000 a) (hb : Bd 4000 b) {Q : PV → Prop} (h : Q (fr (a + b))) : F_plus [fr a, fr b] Q := by
  obtain ⟨m1, m2, m3, _⟩ := Bd.mt (n := 0) ha hb
  refine ⟨m1, m2, m3, rfl, F_part_ok _ _ (mul_ne (den_ne a) (den_ne b)) (dd_lt ha hb) _ ?_⟩
  rw [add_divInt] at h
  exact h
def B_minus : AS :=
  (aRet (aCall 2 F_part (aCons (aOp fSub (aOp fMul (aOp fIx (aV 0) (aC (.int 0))) (aOp fIx (aV 1) (aC (.int 1)))) (aOp fMul (aOp fIx (aV 1) (aC (.int 0))) (aOp fIx (aV 0) (aC (.int 1))))) (aCons (aOp fMul (aOp fIx (aV 0) (aC (.int 1))) (aOp fIx (aV 1) (aC (.int 1)))) aNil))))
def F_minus : AF := aBody 2 B_minus
theorem F_minus_ok {a b : Rat} (ha : Bd 4000 a) (hb : Bd 4000 b) {Q : PV → Prop} (h : Q (fr (a - b))) : F_minus [fr a, fr b] Q := by
  obtain ⟨m1, m2, m3, _⟩ := Bd.mt (n := 0) ha hb
  refine ⟨m1, m2, m3, rfl, F_part_ok _ _ (mul_ne (den_ne a) (den_ne b)) (dd_lt ha hb) _ ?_⟩
  rw [sub_divInt] at h
  exact h
def B_times : AS :=
  (aRet (aCall 2 F_part (aCons (aOp fMul (aOp fIx (aV 0) (aC (.int 0))) (aOp fIx (aV 1) (aC (.int 0)))) (aCons (aOp fMul (aOp fIx (aV 0) (aC (.int 1))) (aOp fIx (aV 1) (aC (.int 1)))) aNil))))
def F_times : AF := aBody 2 B_times
theorem F_times_ok {a b : Rat} (ha : Bd 4000 a) (hb : Bd 4000 b) {Q : PV → Prop} (h : Q (fr (a * b))) : F_times [fr a, fr b] Q := by
  obtain ⟨_, _, m3, m4, _⟩ := Bd.mt (n := 0) ha hb
  refine ⟨m4, m3, rfl, F_part_ok _ _ (mul_ne (den_ne a) (den_ne b)) (dd_lt ha hb) _ ?_⟩
  rw [mul_divInt] at h
  exact h
def B_over : AS :=
  (aRet (aCall 2 F_part (aCons (aOp fMul (aOp fIx (aV 0) (aC (.int 0))) (aOp fIx (aV 1) (aC (.int 1)))) (aCons (aOp fMul (aOp fIx (aV 0) (aC (.int 1))) (aOp fIx (aV 1) (aC (.int 0)))) aNil))))
def F_over : AF := aBody 2 B_over
theorem F_over_ok {a b : Rat} (h0 : b ≠ 0) (ha : Bd 4000 a) (hb : Bd 4000 b) {Q : PV → Prop} (h : Q (fr (a / b))) : F_over [fr a, fr b] Q := by
  obtain ⟨m1, _, _, _, m5⟩ := Bd.mt (n := 0) ha hb
  refine ⟨m1, m5, rfl, F_part_ok _ _ (mul_ne (den_ne a) (num_ne h0)) (lt_mono (mul_ltI (a := (a.den : Int)) (by simpa using ha.bot) hb.top) (by omega)) _ ?_⟩
  rw [div_divInt] at h
  exact h
/-! ### the laws' own -/
def B__law_part_t2 : AS :=
  (aSeq (aAsg (aOp fSub (aC (.int 1)) (aOp fMul (aC (.int 2)) (aCB gInt (aCons (aOp fLt (aV 1) (aC (.int 0))) aNil)))) (agN 2))
    (aRet (aTup (aCons (aOp fDiv (aOp fMul (aV 2) (aV 0)) (aV 3)) (aCons (aOp fDiv (aOp fMul (aV 2) (aV 1)) (aV 3)) aNil)))))
def B__law_part_t1 : AS :=
  (aSeq (aWhile (aTst (aOp fGt (aV 4) (aC (.int 0)))) (aPar 3 4 (aCons (aV 4) (aCons (aOp fMod (aV 3) (aV 4)) aNil))))
    B__law_part_t2)
def B__law_part : AS :=
  (aSeq (aPar 3 4 (aCons (aCB gAbs (aCons (aV 0) aNil)) (aCons (aCB gAbs (aCons (aV 1) aNil)) aNil)))
    B__law_part_t1)
def F__law_part : AF := aBody 5 B__law_part
theorem law_part_num (t b : Int) (hb : b ≠ 0) : ∀ s : Int, s = (if b < 0 then -1 else 1) → (s * t).fdiv (Nat.gcd t.natAbs b.natAbs : Int) = (Rat.divInt t b).num ∧ (s * b).fdiv (Nat.gcd t.natAbs b.natAbs : Int) = ((Rat.divInt t b).den : Int) := by
  intro s hs
  have g0 : 0 < Nat.gcd t.natAbs b.natAbs := Nat.gcd_pos_of_pos_right _ (by omega)
  have eg : b.gcd t = Nat.gcd t.natAbs b.natAbs := by rw [Int.gcd_eq_natAbs_gcd_natAbs, Nat.gcd_comm]
  have es : b.sign = s := by
    rw [hs]; split
    · rename_i h; exact Int.sign_eq_neg_one_of_neg h
    · exact Int.sign_eq_one_of_pos (by omega)
  rw [Rat.num_divInt, Rat.den_divInt, if_neg hb, eg, es, Int.fdiv_eq_ediv_of_nonneg _ (by omega), Int.fdiv_eq_ediv_of_nonneg _ (by omega)]
  refine ⟨rfl, ?_⟩
  rw [Int.natCast_ediv]
  congr 1
  rw [hs]; split <;> omega
theorem F__law_part_ok (t b : Int) (hb : b ≠ 0) (hT : t.natAbs < 2 ^ 900000) (hB : b.natAbs < 2 ^ 8900) {Q : PV → Prop} (h : Q (fr (Rat.divInt t b))) : F__law_part [.int t, .int b] Q := by
  have g0 : 0 < Nat.gcd t.natAbs b.natAbs := Nat.gcd_pos_of_pos_right _ (by omega)
  have gl : Nat.gcd t.natAbs b.natAbs < 2 ^ 8900 := Nat.lt_of_le_of_lt (Nat.le_of_dvd (by omega) (Nat.gcd_dvd_right ..)) hB
  have sg : (1 : Int) - 2 * (if decide (b < 0) = true then 1 else 0) = (if b < 0 then -1 else 1) := by
    by_cases z : b < 0 <;> simp [z]
  obtain ⟨e1, e2⟩ := law_part_num t b hb _ sg
  have go : ∀ y x : Nat, ∀ D : AEnds, ∀ u v w, D.nx [u, v, w, some (.val (.int (Nat.gcd x y : Nat))), some (.val (.int 0))] → ∃ n, whGo (aTst (aOp fGt (aV 4) (aC (.int 0)))) (aPar 3 4 (aCons (aV 4) (aCons (aOp fMod (aV 3) (aV 4)) aNil))) D n [u, v, w, some (.val (.int x)), some (.val (.int y))] := by
    intro y
    induction y using Nat.strongRecOn with
    | _ y ih =>
      intro x D u v w hD
      by_cases hy : y = 0
      · subst hy
        refine ⟨1, ?_⟩
        rw [Nat.gcd_zero_right] at hD
        exact hD
      · obtain ⟨n, hn⟩ := ih (x % y) (Nat.mod_lt _ (by omega)) y D u v w (by rw [Nat.gcd_comm y, ← Nat.gcd_rec, Nat.gcd_comm y]; exact hD)
        refine ⟨n + 1, ?_⟩
        refine iteB (b := decide (0 < (y : Int))) (fun _ => ?_) (fun z => ?_)
        · have e2 : (x : Int).fmod (y : Int) = ((x % y : Nat) : Int) := by
            rw [Int.fmod_eq_emod_of_nonneg _ (by omega)]; simp
          refine ⟨by omega, ?_⟩
          rw [← e2] at hn
          exact hn
        · have : ¬ (0 : Int) < y := of_decide_eq_false z
          omega
  refine go b.natAbs t.natAbs _ (some (.val (.int t))) (some (.val (.int b))) none ?_
  have one : (1 : Int).natAbs < 2 ^ 1 := by decide
  have sb : ((1 : Int) - 2 * (if decide (b < 0) = true then 1 else 0)).natAbs < 2 ^ 1 := by rw [sg]; split <;> decide
  refine ⟨.of (m := 2) (n := 1) (by decide) (by split <;> decide), .of sb hT, ⟨by omega, gl⟩, .of sb hB, ⟨by omega, gl⟩, (show 2 ≤ sizeLine by decide), ?_⟩
  unfold fr at h
  rw [← e1, ← e2] at h
  exact h
end PL
end
section
set_option Elab.async false
set_option linter.all false
set_option maxRecDepth 100000
set_option maxHeartbeats 4000000
/-! What many laws share. -/
namespace PL
open PySem L2 PyProof.Rows
theorem draw_ok {m : Int} {Q : PV → Prop} (m0 : 0 < m) (m1 : m < 4611686018427387904) (h : ∀ r, 0 ≤ r → r < m → Q (.int r)) : F_draw [.tape, .int m] Q := ⟨⟨m0, m1⟩, h⟩
/-! ### the look that two things are the same, kinds and all -/
mutual
def okS : Nat → PV → Bool
  | 0, _ => false
  | _ + 1, .non => true
  | _ + 1, .bl _ => true
  | _ + 1, .int _ => true
  | n + 1, .tup xs => okSs n xs && decide (xs.length < sizeLine)
  | _ + 1, _ => false
def okSs : Nat → List PV → Bool
  | _, [] => true
  | n, x :: xs => okS n x && okSs n xs
end
/-- the laws' own sums, by parts -/
theorem t900 {t : Int} {n : Nat} (h : t.natAbs < 2 ^ n) (hn : n ≤ 900000 := by omega) : t.natAbs < 2 ^ 900000 := lt_mono h hn
section
variable {a b : Rat} {Q : PV → Prop}
theorem lp_add (ha : Bd 4000 a) (hb : Bd 4000 b) (h : Q (fr (a + b))) : F__law_part [.int (a.num * b.den + b.num * a.den), .int (a.den * b.den)] Q :=
  F__law_part_ok _ _ (mul_ne (den_ne a) (den_ne b)) (t900 (add_ltI (n := 8000) (mul_ltI ha.top hb.botI) (mul_ltI hb.top ha.botI))) (dd_lt ha hb) (by rw [← add_divInt]; exact h)
theorem lp_sub (ha : Bd 4000 a) (hb : Bd 4000 b) (h : Q (fr (a - b))) : F__law_part [.int (a.num * b.den - b.num * a.den), .int (a.den * b.den)] Q :=
  F__law_part_ok _ _ (mul_ne (den_ne a) (den_ne b)) (t900 (sub_ltI (n := 8000) (mul_ltI ha.top hb.botI) (mul_ltI hb.top ha.botI))) (dd_lt ha hb) (by rw [← sub_divInt]; exact h)
theorem lp_mul (ha : Bd 4000 a) (hb : Bd 4000 b) (h : Q (fr (a * b))) : F__law_part [.int (a.num * b.num), .int (a.den * b.den)] Q :=
  F__law_part_ok _ _ (mul_ne (den_ne a) (den_ne b)) (t900 (mul_ltI ha.top hb.top)) (dd_lt ha hb) (by rw [← mul_divInt]; exact h)
theorem lp_div (h0 : b ≠ 0) (ha : Bd 4000 a) (hb : Bd 4000 b) (h : Q (fr (a / b))) : F__law_part [.int (a.num * b.den), .int (a.den * b.num)] Q :=
  F__law_part_ok _ _ (mul_ne (den_ne a) (num_ne h0)) (t900 (mul_ltI ha.top (by simpa using hb.bot))) (lt_mono (mul_ltI (a := (a.den : Int)) (by simpa using ha.bot) hb.top) (by omega)) (by rw [← div_divInt]; exact h)
end
/-- a whole number -/
theorem tup_int {n : Int} {Q : PV → Prop} (h : Q (fr (n : Rat))) : Q (.tup [.int n, .int 1]) := by rw [← fr_int]; exact h
theorem Bd.part {t b : Int} {n : Nat} (h : b ≠ 0) (ht : t.natAbs < 2 ^ n) (hb : b.natAbs < 2 ^ n) : Bd n (Rat.divInt t b) := .divInt h ht hb
end PL
end
section
set_option Elab.async false
set_option linter.all false
set_option maxRecDepth 100000
set_option maxHeartbeats 4000000
/-! More of what many laws share: sums, plans that are drawn, texts that are shown. -/
namespace PL
open PySem L2 PyProof.Rows
theorem lz {a b : Nat} (h : Nat.ble a b = true := by rfl) : a ≤ b := Nat.le_of_ble_eq_true h
/-! ### texts -/
structure Sh (d n : Nat) (x : PV) : Prop where
  ok : okD d x = true
  sh : (pd x).showable = true
  sz : (pd x).shown.length ≤ n
mutual
theorem okD_mono : ∀ {d e : Nat} (x : PV), d ≤ e → okD d x = true → okD e x = true
  | _, _, .non, _, _ => by simp [okD]
  | _, _, .bl _, _, _ => by simp [okD]
  | _, _, .int _, _, _ => by simp [okD]
  | _, _, .str x, _, h => by simpa [okD] using h
  | 0, _, .tup xs, _, h => by simp [okD] at h
  | 0, _, .lst xs, _, h => by simp [okD] at h
  | d + 1, 0, .tup xs, h, _ => by omega
  | d + 1, 0, .lst xs, h, _ => by omega
  | d + 1, e + 1, .tup xs, h, k => by simp only [okD] at k ⊢; exact okDs_mono xs (by omega) k
  | d + 1, e + 1, .lst xs, h, k => by simp only [okD] at k ⊢; exact okDs_mono xs (by omega) k
  | _, _, .tape, _, h => by simp [okD] at h
  | _, _, .scr _, _, h => by simp [okD] at h
  | _, _, .dct _, _, h => by simp [okD] at h
  | _, _, .ty _, _, h => by simp [okD] at h
theorem okDs_mono : ∀ {d e : Nat} (xs : List PV), d ≤ e → okDs d xs = true → okDs e xs = true
  | _, _, [], _, _ => by simp [okDs]
  | _, _, x :: xs, h, k => by
    simp only [okDs, Bool.and_eq_true] at k ⊢
    exact ⟨okD_mono x h k.1, okDs_mono xs h k.2⟩
end
theorem Sh.mono {d n e m : Nat} {x : PV} (s : Sh d n x) (h1 : d ≤ e) (h2 : n ≤ m) : Sh e m x := ⟨okD_mono x h1 s.ok, s.sh, Nat.le_trans s.sz h2⟩
theorem Sh.go {d n : Nat} {x : PV} (s : Sh d n x) (h1 : d ≤ 30 := by omega) (h2 : n ≤ 16777216 := by omega) : ShOk x := ⟨okD_mono x h1 s.ok, s.sh, Nat.le_trans s.sz h2⟩
theorem Sh.int {i : Int} (h : i.natAbs < 2 ^ 1900) : Sh 0 1902 (.int i) := by
  refine ⟨rfl, ?_, ?_⟩
  · show decide (i.natAbs.log2 < 1920) = true
    exact decide_eq_true (Nat.lt_trans (log2_lt' h (by decide)) (by decide))
  · show (Str.ofString (toString i)).length ≤ 1902
    rw [PySem.ofString_length]
    exact Nat.le_trans (int_text_length_le (k := 1900) (by decide) (log2_lt' h (by decide))) (by decide)
theorem okDs_all {d : Nat} : ∀ {xs : List PV}, (∀ x ∈ xs, okD d x = true) → okDs d xs = true
  | [], _ => rfl
  | x :: xs, h => by
    simp only [okDs, Bool.and_eq_true]
    exact ⟨h x (by simp), okDs_all fun y hy => h y (by simp [hy])⟩
theorem sh_all : ∀ {xs : List PV}, (∀ x ∈ xs, (pd x).showable = true) → PyData.showableAll (pds xs) = true
  | [], _ => rfl
  | x :: xs, h => by
    simp only [pds, PyData.showableAll, Bool.and_eq_true]
    exact ⟨h x (by simp), sh_all fun y hy => h y (by simp [hy])⟩
theorem sum_all {n : Nat} : ∀ {xs : List PV}, (∀ x ∈ xs, (pd x).shown.length ≤ n) → ((PyData.shownAll (pds xs)).map (·.length)).sum ≤ xs.length * n
  | [], _ => by simp [pds, PyData.shownAll]
  | x :: xs, h => by
    simp only [pds, PyData.shownAll, List.map_cons, List.sum_cons, List.length_cons]
    have h1 := h x (by simp)
    have h2 := sum_all (n := n) (xs := xs) fun y hy => h y (by simp [hy])
    rw [Nat.succ_mul]; omega
theorem shownAll_len : ∀ (xs : List PV), (PyData.shownAll (pds xs)).length = xs.length
  | [] => rfl
  | x :: xs => by simp [pds, PyData.shownAll, shownAll_len xs]
theorem Sh.tup {d n : Nat} {xs : List PV} (h : ∀ x ∈ xs, Sh d n x) : Sh (d + 1) (xs.length * (n + 2) + 3) (.tup xs) := by
  refine ⟨by simp only [okD]; exact okDs_all fun x hx => (h x hx).ok, by simp only [pd, PyData.showable]; exact sh_all fun x hx => (h x hx).sh, ?_⟩
  have h1 := sum_all (n := n) (xs := xs) fun x hx => (h x hx).sz
  have h2 := tupleText_len_le (PyData.shownAll (pds xs))
  rw [shownAll_len] at h2
  simp only [pd, PyData.shown]
  rw [Nat.mul_add]
  omega
theorem Sh.lst {d n : Nat} {xs : List PV} (h : ∀ x ∈ xs, Sh d n x) : Sh (d + 1) (xs.length * (n + 2) + 3) (.lst xs) := by
  refine ⟨by simp only [okD]; exact okDs_all fun x hx => (h x hx).ok, by simp only [pd, PyData.showable]; exact sh_all fun x hx => (h x hx).sh, ?_⟩
  have h1 := sum_all (n := n) (xs := xs) fun x hx => (h x hx).sz
  have h2 := listText_len_le (PyData.shownAll (pds xs))
  rw [shownAll_len] at h2
  simp only [pd, PyData.shown]
  rw [Nat.mul_add]
  omega
theorem mem2 {α : Type} {P : α → Prop} {a b : α} (ha : P a) (hb : P b) : ∀ x ∈ [a, b], P x := fun x hx => by
  simp only [List.mem_cons, List.not_mem_nil, or_false] at hx
  rcases hx with rfl | rfl
  · exact ha
  · exact hb
theorem mem3 {α : Type} {P : α → Prop} {a b c : α} (ha : P a) (hb : P b) (hc : P c) : ∀ x ∈ [a, b, c], P x := fun x hx => by
  simp only [List.mem_cons, List.not_mem_nil, or_false] at hx
  rcases hx with rfl | rfl | rfl
  · exact ha
  · exact hb
  · exact hc
theorem mem4 {α : Type} {P : α → Prop} {a b c d : α} (ha : P a) (hb : P b) (hc : P c) (hd : P d) : ∀ x ∈ [a, b, c, d], P x := fun x hx => by
  simp only [List.mem_cons, List.not_mem_nil, or_false] at hx
  rcases hx with rfl | rfl | rfl | rfl
  · exact ha
  · exact hb
  · exact hc
  · exact hd
theorem Sh.fr {r : Rat} (h : Bd 1900 r) : Sh 1 4000 (fr r) := (Sh.tup (mem2 (Sh.int h.top) (Sh.int h.botI))).mono (by omega) lz
/-! ### equality -/
theorem eqB_refl {d : Nat} {x : PV} (h : okD d x = true) : eqB x x = true := SeqAt.eqv_refl _ (okD_lay d x h).1
theorem eqB_fr (a b : Rat) : eqB (fr a) (fr b) = decide (a = b) := by
  show (PyData.eqvAll [.int a.num, .int a.den] [.int b.num, .int b.den]) = _
  simp only [PyData.eqvAll, PyData.eqv]
  by_cases h : a = b
  · subst h; simp
  · have : ¬ (a.num = b.num ∧ (a.den : Int) = b.den) := fun z => h (Rat.ext z.1 (by omega))
    rw [decide_eq_false h]
    simp only [Bool.and_true, Bool.and_eq_false_iff, beq_eq_false_iff_ne]
    by_cases h1 : a.num = b.num
    · exact .inr fun z => this ⟨h1, z⟩
    · exact .inl h1
theorem ok_fr (d : Nat) (a : Rat) : okD (d + 1) (fr a) = true := rfl
/-! ### the program's and the laws' own sums -/
theorem lt_fr {a b : Rat} : decide (a.num * (b.den : Int) < b.num * (a.den : Int)) = decide (a < b) := by
  rw [decide_eq_decide]; exact (Rat.lt_iff a b).symm
def B_before : AS :=
  (aRet (aOp fLt (aOp fMul (aOp fIx (aV 0) (aC (.int 0))) (aOp fIx (aV 1) (aC (.int 1)))) (aOp fMul (aOp fIx (aV 1) (aC (.int 0))) (aOp fIx (aV 0) (aC (.int 1))))))
def F_before : AF := aBody 2 B_before
section
variable {a b : Rat} {Q : PV → Prop}
theorem F_before_ok (ha : Bd 4000 a) (hb : Bd 4000 b) (h : Q (.bl (decide (a < b)))) : F_before [fr a, fr b] Q := by
  obtain ⟨m1, m2, _⟩ := Bd.mt (n := 0) ha hb
  refine ⟨m1, m2, ?_⟩
  rw [← lt_fr] at h
  exact h
def B__law_sum : AS :=
  (aRet (aCall 2 F__law_part (aCons (aOp fAddA (aOp fMul (aOp fIx (aV 0) (aC (.int 0))) (aOp fIx (aV 1) (aC (.int 1)))) (aOp fMul (aOp fIx (aV 1) (aC (.int 0))) (aOp fIx (aV 0) (aC (.int 1))))) (aCons (aOp fMul (aOp fIx (aV 0) (aC (.int 1))) (aOp fIx (aV 1) (aC (.int 1)))) aNil))))
def F__law_sum : AF := aBody 2 B__law_sum
theorem F__law_sum_ok (ha : Bd 4000 a) (hb : Bd 4000 b) (h : Q (fr (a + b))) : F__law_sum [fr a, fr b] Q := by
  obtain ⟨m1, m2, m3, _⟩ := Bd.mt (n := 0) ha hb
  exact ⟨m1, m2, m3, rfl, lp_add ha hb h⟩
def B__law_off : AS :=
  (aRet (aCall 2 F__law_part (aCons (aOp fSub (aOp fMul (aOp fIx (aV 0) (aC (.int 0))) (aOp fIx (aV 1) (aC (.int 1)))) (aOp fMul (aOp fIx (aV 1) (aC (.int 0))) (aOp fIx (aV 0) (aC (.int 1))))) (aCons (aOp fMul (aOp fIx (aV 0) (aC (.int 1))) (aOp fIx (aV 1) (aC (.int 1)))) aNil))))
def F__law_off : AF := aBody 2 B__law_off
theorem F__law_off_ok (ha : Bd 4000 a) (hb : Bd 4000 b) (h : Q (fr (a - b))) : F__law_off [fr a, fr b] Q := by
  obtain ⟨m1, m2, m3, _⟩ := Bd.mt (n := 0) ha hb
  exact ⟨m1, m2, m3, rfl, lp_sub ha hb h⟩
def B__law_product : AS :=
  (aRet (aCall 2 F__law_part (aCons (aOp fMul (aOp fIx (aV 0) (aC (.int 0))) (aOp fIx (aV 1) (aC (.int 0)))) (aCons (aOp fMul (aOp fIx (aV 0) (aC (.int 1))) (aOp fIx (aV 1) (aC (.int 1)))) aNil))))
def F__law_product : AF := aBody 2 B__law_product
theorem F__law_product_ok (ha : Bd 4000 a) (hb : Bd 4000 b) (h : Q (fr (a * b))) : F__law_product [fr a, fr b] Q := by
  obtain ⟨m1, m2, m3, m4, _⟩ := Bd.mt (n := 0) ha hb
  exact ⟨m4, m3, rfl, lp_mul ha hb h⟩
def B__law_ratio : AS :=
  (aRet (aCall 2 F__law_part (aCons (aOp fMul (aOp fIx (aV 0) (aC (.int 0))) (aOp fIx (aV 1) (aC (.int 1)))) (aCons (aOp fMul (aOp fIx (aV 0) (aC (.int 1))) (aOp fIx (aV 1) (aC (.int 0)))) aNil))))
def F__law_ratio : AF := aBody 2 B__law_ratio
theorem F__law_ratio_ok (h0 : b ≠ 0) (ha : Bd 4000 a) (hb : Bd 4000 b) (h : Q (fr (a / b))) : F__law_ratio [fr a, fr b] Q := by
  obtain ⟨m1, m2, m3, m4, m5⟩ := Bd.mt (n := 0) ha hb
  exact ⟨m1, m5, rfl, lp_div h0 ha hb h⟩
end
/-! ### what is drawn -/
theorem dpos {t b : Int} (ht : 0 < t) (hb : 0 < b) : 0 < Rat.divInt t b := by
  rw [Rat.lt_iff]
  have h1 := Rat.num_divInt t b
  show (0 : Int) * _ < _ * 1
  rw [Int.zero_mul, Int.mul_one, h1, Int.sign_eq_one_of_pos hb, Int.one_mul]
  have g : 0 < (b.gcd t : Int) := by have := Int.gcd_pos_of_ne_zero_left t (show b ≠ 0 by omega); omega
  exact Int.ediv_pos_of_pos_of_dvd ht (by omega) (Int.gcd_dvd_right ..)
/-- a part of small whole numbers -/
theorem small_part {t b : Int} {Q : PV → Prop} (k : Nat) (hb : b ≠ 0) (ht : t.natAbs < 2 ^ k) (hb2 : b.natAbs < 2 ^ k) (hk : k ≤ 2000) (h : Bd k (Rat.divInt t b) → Q (fr (Rat.divInt t b))) : F__law_part [.int t, .int b] Q :=
  F__law_part_ok t b hb (lt_mono ht (by omega)) (lt_mono hb2 (by omega)) (h (.part hb ht hb2))
/-- k parts of D, k at most N either way -/
def Mul (D N : Nat) (a : Rat) : Prop := 0 < D ∧ ∃ k : Int, a = Rat.divInt k D ∧ k.natAbs ≤ N
theorem Mul.bd {D N n : Nat} {a : Rat} (h : Mul D N a) (h1 : N < 2 ^ n) (h2 : D < 2 ^ n) : Bd n a := by
  obtain ⟨h0, k, rfl, hk⟩ := h
  exact .divInt (by omega) (by omega) (by simpa using h2)
theorem Mul.part {t b : Int} {c : Nat} (hb : 0 < b) (hc : 0 < c) {N : Nat} (h : (t * c).natAbs ≤ N) : Mul (b.toNat * c) N (Rat.divInt t b) := by
  refine ⟨Nat.mul_pos (by omega) hc, t * c, ?_, h⟩
  have e : ((b.toNat * c : Nat) : Int) = b * c := by rw [Int.natCast_mul]; congr 1; omega
  rw [e, (Rat.divInt_eq_divInt_iff (by omega) (mul_ne (by omega) (by omega)))]
  rw [Int.mul_comm b, Int.mul_assoc]
theorem Mul.add {D N M : Nat} {a b : Rat} (ha : Mul D N a) (hb : Mul D M b) : Mul D (N + M) (a + b) := by
  obtain ⟨h0, k, rfl, hk⟩ := ha
  obtain ⟨_, l, rfl, hl⟩ := hb
  refine ⟨h0, k + l, ?_, by omega⟩
  rw [Rat.divInt_add_divInt _ _ (by omega) (by omega), Rat.divInt_eq_divInt_iff (mul_ne (by omega) (by omega)) (by omega)]
  rw [← Int.add_mul, Int.mul_assoc]
theorem Mul.mono {D N M : Nat} {a : Rat} (h : Mul D N a) (hm : N ≤ M) : Mul D M a := ⟨h.1, let ⟨k, e, hk⟩ := h.2; ⟨k, e, by omega⟩⟩
theorem Mul.int {n : Int} {D N : Nat} (hD : 0 < D) (h : (n * D).natAbs ≤ N) : Mul D N (n : Rat) := by
  have e : (n : Rat) = Rat.divInt n 1 := by rw [← Rat.num_divInt_den (n : Rat)]; simp
  rw [e]
  have := Mul.part (t := n) (b := 1) (c := D) (by decide) hD h
  simpa using this
def B__law_span_t1 : AS :=
  (aSeq (aIfS (aTst (aOp fLt (aV 1) (aC (.int 3)))) (aRet (aTup (aCons (aOp fAddA (aC (.int 1)) (aCall 2 F_draw (aCons (aV 0) (aCons (aC (.int 5)) aNil)))) (aCons (aC (.int 1)) aNil)))) aNext)
    (aRet (aCall 2 F__law_part (aCons (aOp fAddA (aC (.int 1)) (aCall 2 F_draw (aCons (aV 0) (aCons (aC (.int 8)) aNil)))) (aCons (aOp fSub (aV 1) (aC (.int 1))) aNil)))))
def B__law_span : AS :=
  (aSeq (aAsg (aCall 2 F_draw (aCons (aV 0) (aCons (aC (.int 5)) aNil))) (agN 1))
    B__law_span_t1)
def F__law_span : AF := aBody 2 B__law_span
theorem F__law_span_okM {Q : PV → Prop} (h : ∀ a, Bd 8 a → 0 < a → Mul 6 48 a → Q (fr a)) : F__law_span [.tape] Q := by
  refine ⟨rfl, draw_ok (by decide) (by decide) fun w w0 w1 => ?_⟩
  refine iteB (b := decide (w < 3)) (fun _ => ?_) (fun z => ?_)
  · refine ⟨rfl, draw_ok (by decide) (by decide) fun r r0 r1 => ⟨lz, ?_⟩⟩
    exact tup_int (h _ (.int (by omega) (by decide)) (by exact_mod_cast (by omega : (0 : Int) < 1 + r)) (.int (by decide) (by omega)))
  · have z' : ¬ w < 3 := of_decide_eq_false z
    have hw : w - 1 = 2 ∨ w - 1 = 3 := by omega
    refine ⟨rfl, draw_ok (by decide) (by decide) fun r r0 r1 => ⟨rfl, ?_⟩⟩
    refine small_part 8 (by omega) (by omega) (by omega) (by decide) fun b => h _ b (dpos (by omega) (by omega)) ?_
    rcases hw with e | e
    · rw [e]; exact Mul.part (t := 1 + r) (b := 2) (c := 3) (by decide) (by decide) (by omega)
    · rw [e]; exact Mul.part (t := 1 + r) (b := 3) (c := 2) (by decide) (by decide) (by omega)
theorem F__law_span_ok {Q : PV → Prop} (h : ∀ a, Bd 8 a → 0 < a → Q (fr a)) : F__law_span [.tape] Q := F__law_span_okM fun a b p _ => h a b p
def B__law_place_t2 : AS :=
  (aSeq (aIfS (aTst (aOp fEq (aV 1) (aC (.int 6)))) (aRet (aCall 2 F__law_part (aCons (aOp fSub (aCall 2 F_draw (aCons (aV 0) (aCons (aC (.int 25)) aNil))) (aC (.int 6))) (aCons (aC (.int 2)) aNil)))) aNext)
    (aRet (aCall 2 F__law_part (aCons (aOp fSub (aCall 2 F_draw (aCons (aV 0) (aCons (aC (.int 31)) aNil))) (aC (.int 9))) (aCons (aC (.int 3)) aNil)))))
def B__law_place_t1 : AS :=
  (aSeq (aIfS (aTst (aOp fLt (aV 1) (aC (.int 6)))) (aRet (aTup (aCons (aOp fSub (aCall 2 F_draw (aCons (aV 0) (aCons (aC (.int 10)) aNil))) (aC (.int 3))) (aCons (aC (.int 1)) aNil)))) aNext)
    B__law_place_t2)
def B__law_place : AS :=
  (aSeq (aAsg (aCall 2 F_draw (aCons (aV 0) (aCons (aC (.int 8)) aNil))) (agN 1))
    B__law_place_t1)
def F__law_place : AF := aBody 2 B__law_place
theorem F__law_place_ok {Q : PV → Prop} (h : ∀ a, Mul 6 60 a → Q (fr a)) : F__law_place [.tape] Q := by
  refine ⟨rfl, draw_ok (by decide) (by decide) fun w w0 w1 => ?_⟩
  refine iteB (b := decide (w < 6)) (fun _ => ?_) (fun z => ?_)
  · refine ⟨rfl, draw_ok (by decide) (by decide) fun r r0 r1 => ⟨lz, ?_⟩⟩
    exact tup_int (h _ (.int (by decide) (by omega)))
  refine iteB (b := decide (w = 6)) (fun _ => ?_) (fun z => ?_)
  · exact ⟨rfl, draw_ok (by decide) (by decide) fun r r0 r1 => ⟨rfl, small_part 8 (by omega) (by omega) (by omega) (by decide) fun b => h _ (Mul.part (t := r - 6) (b := 2) (c := 3) (by decide) (by decide) (by omega))⟩⟩
  · exact ⟨rfl, draw_ok (by decide) (by decide) fun r r0 r1 => ⟨rfl, small_part 8 (by omega) (by omega) (by omega) (by decide) fun b => h _ (Mul.part (t := r - 9) (b := 3) (c := 2) (by decide) (by decide) (by omega))⟩⟩
/-! ### plans -/
abbrev C4 := Rat × Rat × Rat × Rat
def cor (c : C4) : PV := .tup [fr c.1, fr c.2.1, fr c.2.2.1, fr c.2.2.2]
def corL (c : C4) : PV := .lst [fr c.1, fr c.2.1, fr c.2.2.1, fr c.2.2.2]
def planP (cs : List C4) : PV := .tup (cs.map cor)
structure CBd (B : Nat) (c : C4) : Prop where
  m : Bd B c.1
  x : Bd B c.2.1
  y : Bd B c.2.2.1
  z : Bd B c.2.2.2
theorem CBd.mono {B B' : Nat} {c : C4} (h : CBd B c) (k : B ≤ B') : CBd B' c := ⟨h.m.mono k, h.x.mono k, h.y.mono k, h.z.mono k⟩
structure CMul (D N : Nat) (c : C4) : Prop where
  m : Mul D N c.1
  x : Mul D N c.2.1
  y : Mul D N c.2.2.1
  z : Mul D N c.2.2.2
theorem CMul.mono {D N M : Nat} {c : C4} (h : CMul D N c) (k : N ≤ M) : CMul D M c := ⟨h.m.mono k, h.x.mono k, h.y.mono k, h.z.mono k⟩
theorem CMul.bd {D N n : Nat} {c : C4} (h : CMul D N c) (h1 : N < 2 ^ n) (h2 : D < 2 ^ n) : CBd n c := ⟨h.m.bd h1 h2, h.x.bd h1 h2, h.y.bd h1 h2, h.z.bd h1 h2⟩
def Ris (cs : List C4) : Prop := cs.Pairwise fun a b => a.1 < b.1
structure PlanM (n D N : Nat) (cs : List C4) : Prop where
  two : 2 ≤ cs.length
  few : cs.length ≤ n
  mu : ∀ c ∈ cs, CMul D N c
  ris : Ris cs
structure PlanOk (n B : Nat) (cs : List C4) : Prop where
  two : 2 ≤ cs.length
  few : cs.length ≤ n
  bd : ∀ c ∈ cs, CBd B c
  ris : Ris cs
theorem ris_snoc {cs : List C4} {c d : C4} (h : Ris (cs ++ [c])) (hd : c.1 < d.1) : Ris (cs ++ [c] ++ [d]) := by
  refine List.pairwise_append.mpr ⟨h, by simp, fun a ha b hb => ?_⟩
  simp at hb; subst hb
  rcases List.mem_append.mp ha with ha | ha
  · have := (List.pairwise_append.mp h).2.2 a ha c (by simp)
    grind
  · simp at ha; subst ha; exact hd
end PL
end
section
set_option Elab.async false
set_option linter.all false
set_option maxRecDepth 100000
set_option maxHeartbeats 400000
namespace PL
open PySem L2 PyProof.Rows
theorem cut_to {cs : List C4} {i : Int} {k : Nat} (hk : i = (k : Int)) (h : k ≤ cs.length) : cutP (cs.map cor) none (some i) = (cs.take k).map cor := by
  unfold cutP
  rw [hk, HT.sIx_none, HT.sIx_nat]
  rw [show min k (cs.map cor).length = k by simp; omega, List.map_take]
  simp
theorem cut_from {cs : List C4} {i : Int} {k : Nat} (hk : i = (k : Int)) (h : k ≤ cs.length) : cutP (cs.map cor) (some i) none = (cs.drop k).map cor := by
  unfold cutP
  rw [hk, HT.sIx_none, HT.sIx_nat]
  rw [show min k (cs.map cor).length = k by simp; omega, List.map_drop]
  exact List.take_of_length_le (by simp)
theorem sl_to {cs : List C4} {i : Int} {k : Nat} {Q : PV → Prop} (hk : i = (k : Int)) (h : k ≤ cs.length) (q : Q (planP (cs.take k))) : fSl (planP cs) none (some i) Q := by
  refine sl_tup' ?_
  rw [cut_to hk h]; exact q
theorem sl_from {cs : List C4} {i : Int} {k : Nat} {Q : PV → Prop} (hk : i = (k : Int)) (h : k ≤ cs.length) (q : Q (planP (cs.drop k))) : fSl (planP cs) (some i) none Q := by
  refine sl_tup' ?_
  rw [cut_from hk h]; exact q
theorem cat_plan {cs ds : List C4} {Q : PV → Prop} (h : cs.length + ds.length ≤ 10000) (q : Q (planP (cs ++ ds))) : fAddA (planP cs) (planP ds) Q := by
  refine ⟨?_, ?_⟩
  · simp only [List.length_map]; exact Nat.le_trans h (by decide)
  · show Q (.tup (cs.map cor ++ ds.map cor))
    rw [← List.map_append]; exact q
theorem PlanM.ok {n D N m : Nat} {cs : List C4} (p : PlanM n D N cs) (h1 : N < 2 ^ m) (h2 : D < 2 ^ m) : PlanOk n m cs := ⟨p.two, p.few, fun c hc => (p.mu c hc).bd h1 h2, p.ris⟩
end PL
end
section
set_option Elab.async false
set_option linter.all false
set_option maxRecDepth 100000
set_option maxHeartbeats 400000
namespace PL
open PySem L2 PyProof.Rows
/-- a plan that is handed in: tuples, or lists -/
def PlanV (cs : List C4) (v : PV) : Prop := ∃ f : C4 → PV, (f = cor ∨ f = corL) ∧ (v = .tup (cs.map f) ∨ v = .lst (cs.map f))
theorem PlanV.self (cs : List C4) : PlanV cs (planP cs) := ⟨cor, .inl rfl, .inl rfl⟩
theorem PlanV.lists (cs : List C4) : PlanV cs (.lst (cs.map corL)) := ⟨corL, .inr rfl, .inr rfl⟩
theorem PlanV.list (cs : List C4) : PlanV cs (.lst (cs.map cor)) := ⟨cor, .inl rfl, .inr rfl⟩
/-- a comprehension over a list that is a map, by a function -/
theorem cmp_map {α β : Type} {g : AG} {te : AE} {τ0 : ASt} {Q : List PV → Prop} (f : α → PV) (k : β → PV) (e : α → β) (P : α → Prop)
    (hs : ∀ a, P a → ∀ R : PV → Prop, R (k (e a)) → g (f a) τ0 fun τ1 => te τ1 R) :
    ∀ (xs : List α) (acc : List PV), (∀ a ∈ xs, P a) → Q (acc ++ (xs.map e).map k) → cmpGo g aYes te τ0 Q (xs.map f) acc
  | [], acc, _, h => (by simpa using h : Q acc)
  | a :: xs, acc, hp, h => by
    refine hs a (hp a (by simp)) (fun y => cmpGo g aYes te τ0 Q (xs.map f) (acc ++ [y])) (cmp_map f k e P hs xs _ (fun b hb => hp b (by simp [hb])) ?_)
    simpa using h
/-! texts of plans -/
theorem Sh.cor {c : C4} (h : CBd 1900 c) : Sh 2 17000 (cor c) := (Sh.tup (mem4 (Sh.fr h.m) (Sh.fr h.x) (Sh.fr h.y) (Sh.fr h.z))).mono (by decide) lz
theorem Sh.corL {c : C4} (h : CBd 1900 c) : Sh 2 17000 (corL c) := (Sh.lst (mem4 (Sh.fr h.m) (Sh.fr h.x) (Sh.fr h.y) (Sh.fr h.z))).mono (by decide) lz
end PL
end
section
set_option Elab.async false
set_option linter.all false
set_option maxRecDepth 100000
set_option maxHeartbeats 400000
/-! Where a machine is: the program's word and the laws' own. -/
namespace PL
open PySem L2 PyProof.Rows
abbrev T3 := Rat × Rat × Rat
def inter (a b : C4) (m : Rat) : T3 := (a.2.1 + (m - a.1) / (b.1 - a.1) * (b.2.1 - a.2.1), a.2.2.1 + (m - a.1) / (b.1 - a.1) * (b.2.2.1 - a.2.2.1), a.2.2.2 + (m - a.1) / (b.1 - a.1) * (b.2.2.2 - a.2.2.2))
def spotG : C4 → List C4 → Rat → Option T3
  | _, [], _ => none
  | a, b :: r, m => if b.1 < m then spotG b r m else some (inter a b m)
def spotC : List C4 → Rat → Option T3
  | [], _ => none
  | a :: r, m => if m < a.1 then none else spotG a r m
def t3P (t : T3) : PV := .tup [fr t.1, fr t.2.1, fr t.2.2]
def spotP : Option T3 → PV
  | none => .non
  | some t => t3P t
structure TBd (B : Nat) (t : T3) : Prop where
  x : Bd B t.1
  y : Bd B t.2.1
  z : Bd B t.2.2
theorem TBd.mono {B B' : Nat} {t : T3} (h : TBd B t) (k : B ≤ B') : TBd B' t := ⟨h.x.mono k, h.y.mono k, h.z.mono k⟩
section
variable {B M : Nat} {a b : C4} {m : Rat}
theorem sub_ne {x y : Rat} (h : x < y) : y - x ≠ 0 := by grind
theorem Bd.share (ha : CBd B a) (hb : CBd B b) (hm : Bd M m) (h : a.1 < b.1) : Bd (M + B + 1 + (B + B + 1)) ((m - a.1) / (b.1 - a.1)) := (hm.sub ha.m).div (sub_ne h) (hb.m.sub ha.m)
theorem TBd.inter (ha : CBd B a) (hb : CBd B b) (hm : Bd M m) (h : a.1 < b.1) : TBd (M + 6 * B + 10) (inter a b m) := by
  have s := Bd.share ha hb hm h
  exact ⟨(ha.x.add (s.mul (hb.x.sub ha.x))).mono (by omega), (ha.y.add (s.mul (hb.y.sub ha.y))).mono (by omega), (ha.z.add (s.mul (hb.z.sub ha.z))).mono (by omega)⟩
end
theorem TBd.spotG {B M : Nat} {m : Rat} (hm : Bd M m) : ∀ {a : C4} {r : List C4}, Ris (a :: r) → (∀ c ∈ a :: r, CBd B c) → ∀ t, spotG a r m = some t → TBd (M + 6 * B + 10) t
  | a, [], _, _, t, e => by cases e
  | a, b :: r, hr, hb, t, e => by
    unfold PL.spotG at e
    split at e
    · exact TBd.spotG hm (List.pairwise_cons.mp hr).2 (fun c hc => hb c (by simp [hc])) t e
    · cases e
      exact .inter (hb a (by simp)) (hb b (by simp)) hm ((List.pairwise_cons.mp hr).1 b (by simp))
theorem TBd.spotC {B M : Nat} {m : Rat} {cs : List C4} (hm : Bd M m) (hr : Ris cs) (hb : ∀ c ∈ cs, CBd B c) : ∀ t, spotC cs m = some t → TBd (M + 6 * B + 10) t := fun t e => by
  cases cs with
  | nil => cases e
  | cons a r =>
    simp only [PL.spotC] at e
    split at e
    · cases e
    · exact TBd.spotG hm hr hb t e
/-! ### items of a plan that is handed in -/
theorem get_map {f : C4 → PV} {cs : List C4} {i : Int} {k : Nat} {c : C4} {Q : PV → Prop} (hk : i = (k : Int)) (e : cs[k]? = some c) (h : Q (f c)) : onO (atI (cs.map f) i) Q := by
  have q : atI (cs.map f) ((k : Nat) : Int) = some (f c) := atI_nat (by rw [List.getElem?_map, e] <;> rfl)
  rw [hk, q]; exact h
theorem get_last {f : C4 → PV} {cs : List C4} {c : C4} {Q : PV → Prop} (e : cs.getLast? = some c) (h : Q (f c)) : onO (atI (cs.map f) (-1)) Q := by
  have hne : cs ≠ [] := by intro z; subst z; cases e
  have hl : 0 < cs.length := List.length_pos_iff.mpr hne
  have q : atI (cs.map f) (-1) = some (f c) := by
    unfold atI ixN
    rw [List.length_map, if_neg (by decide), if_pos (by omega)]
    have e2 : (-1 + (cs.length : Int)).toNat = cs.length - 1 := by omega
    rw [Option.bind_some, e2, List.getElem?_map, ← List.getLast?_eq_getElem?, e]
    rfl
  rw [q]; exact h
def B_spot_between : AS :=
  (aSeq (aAsg (aCall 2 F_over (aCons (aCall 2 F_minus (aCons (aV 2) (aCons (aOp fIx (aV 0) (aC (.int 0))) aNil))) (aCons (aCall 2 F_minus (aCons (aOp fIx (aV 1) (aC (.int 0))) (aCons (aOp fIx (aV 0) (aC (.int 0))) aNil))) aNil))) (agN 3))
    (aRet (aCB gTuple (aCons (aFr (aComp (aiZ (aCons (aSl (aV 0) (aoS (aC (.int 1))) aoN) (aCons (aSl (aV 1) (aoS (aC (.int 1))) aoN) aNil))) 2 [3] (agQ 2 (agCons (agN 0) (agCons (agN 1) agNil))) aYes (aCall 2 F_plus (aCons (aV 0) (aCons (aCall 2 F_times (aCons (aV 2) (aCons (aCall 2 F_minus (aCons (aV 1) (aCons (aV 0) aNil))) aNil))) aNil))))) aNil))))
def F_spot_between : AF := aBody 4 B_spot_between
theorem F_spot_between_ok {f : C4 → PV} (hf : f = cor ∨ f = corL) {a b : C4} {B M : Nat} {m : Rat} (ha : CBd B a) (hb : CBd B b) (hm : Bd M m) (h : a.1 < b.1) (hB : M + 6 * B + 10 ≤ 3000) {Q : PV → Prop} (q : Q (t3P (inter a b m))) : F_spot_between [f a, f b, fr m] Q := by
  simp only [t3P, inter] at q
  have s := Bd.share ha hb hm h
  have key : cmpGo (agQ 2 (agCons (agN 0) (agCons (agN 1) agNil))) aYes (aCall 2 F_plus (aCons (aV 0) (aCons (aCall 2 F_times (aCons (aV 2) (aCons (aCall 2 F_minus (aCons (aV 1) (aCons (aV 0) aNil))) aNil))) aNil))) [none, none, some (.val (fr ((m - a.1) / (b.1 - a.1))))] (fun xs => Q (.tup xs))
      ([(a.2.1, b.2.1), (a.2.2.1, b.2.2.1), (a.2.2.2, b.2.2.2)].map fun p : Rat × Rat => PV.tup [fr p.1, fr p.2]) [] := by
    refine cmp_map (fun p : Rat × Rat => PV.tup [fr p.1, fr p.2]) fr (fun p => p.1 + (m - a.1) / (b.1 - a.1) * (p.2 - p.1)) (fun p => Bd B p.1 ∧ Bd B p.2) (fun p hp R hR => ?_) _ [] (mem3 ⟨ha.x, hb.x⟩ ⟨ha.y, hb.y⟩ ⟨ha.z, hb.z⟩) q
    have bl := hp.1
    have bh := hp.2
    exact ⟨rfl, rfl, F_minus_ok (bh.mono (by omega)) (bl.mono (by omega)) ⟨rfl, F_times_ok (s.mono (by omega)) ((bh.sub bl).mono (by omega)) ⟨rfl, F_plus_ok (bl.mono (by omega)) ((s.mul (bh.sub bl)).mono (by omega)) hR⟩⟩⟩
  have m1 := hm.mono (n := 4000) (by omega)
  have a1 := ha.m.mono (n := 4000) (by omega)
  have b1 := hb.m.mono (n := 4000) (by omega)
  rcases hf with rfl | rfl
  · exact ⟨rfl, F_minus_ok m1 a1 ⟨rfl, F_minus_ok b1 a1 ⟨rfl, F_over_ok (sub_ne h) ((hm.sub ha.m).mono (by omega)) ((hb.m.sub ha.m).mono (by omega)) (sl_tup' (sl_tup' ⟨lz, key⟩))⟩⟩⟩
  · exact ⟨rfl, F_minus_ok m1 a1 ⟨rfl, F_minus_ok b1 a1 ⟨rfl, F_over_ok (sub_ne h) ((hm.sub ha.m).mono (by omega)) ((hb.m.sub ha.m).mono (by omega)) (sl_lst' (sl_lst' ⟨lz, key⟩))⟩⟩⟩
def B_spot_at_t1 : AS :=
  (aSeq (aFor (aiR2 (aCons (aC (.int 1)) (aCons (aCB gLen (aCons (aV 0) aNil)) aNil))) (agN 2) (aIfS (aNotT (aTst (aCall 2 F_before (aCons (aOp fIx (aOp fIx (aV 0) (aV 2)) (aC (.int 0))) (aCons (aV 1) aNil))))) (aRet (aCall 3 F_spot_between (aCons (aOp fIx (aV 0) (aOp fSub (aV 2) (aC (.int 1)))) (aCons (aOp fIx (aV 0) (aV 2)) (aCons (aV 1) aNil))))) aNext))
    (aRet (aC .non)))
def B_spot_at : AS :=
  (aSeq (aIfS (aTst (aCall 2 F_before (aCons (aV 1) (aCons (aOp fIx (aOp fIx (aV 0) (aC (.int 0))) (aC (.int 0))) aNil)))) (aRet (aC .non)) aNext)
    B_spot_at_t1)
def F_spot_at : AF := aBody 3 B_spot_at
theorem ris_get {cs : List C4} (h : Ris cs) {k : Nat} {a b : C4} (ea : cs[k]? = some a) (eb : cs[k + 1]? = some b) : a.1 < b.1 := by
  have h1 := (List.getElem?_eq_some_iff.mp ea)
  have h2 := (List.getElem?_eq_some_iff.mp eb)
  obtain ⟨l1, rfl⟩ := h1
  obtain ⟨l2, rfl⟩ := h2
  exact List.pairwise_iff_getElem.mp h k (k + 1) l1 l2 (by omega)
theorem F_spot_at_ok {cs : List C4} {v : PV} {B M : Nat} {m : Rat} (hv : PlanV cs v) (hc : ∀ c ∈ cs, CBd B c) (hr : Ris cs) (h0 : cs ≠ []) (hl : cs.length ≤ 1000) (hm : Bd M m) (hB : M + 6 * B + 10 ≤ 3000) {Q : PV → Prop} (q : Q (spotP (spotC cs m))) : F_spot_at [v, fr m] Q := by
  obtain ⟨f, hf, hv⟩ := hv
  have m1 := hm.mono (n := 4000) (by omega)
  cases cs with
  | nil => exact absurd rfl h0
  | cons a r =>
    have ba := hc a (by simp)
    have a1 := ba.m.mono (n := 4000) (by omega)
    simp only [spotC] at q
    have few : r.length + 1 ≤ 1000 := hl
    have hfq : ∀ (c : C4) (P : PV → Prop), P (fr c.1) → onQ (f c) fun ys => onO (atI ys 0) P := fun c P hP => by rcases hf with rfl | rfl <;> exact hP
    rcases hv with rfl | rfl
    all_goals
      refine get_map (k := 0) (c := a) rfl rfl (hfq a _ ⟨rfl, F_before_ok m1 a1 ?_⟩)
      refine iteB (b := decide (m < a.1)) (fun z => ?_) (fun z => ?_)
      · rw [if_pos (of_decide_eq_true z)] at q
        exact q
      · rw [if_neg (of_decide_eq_false z)] at q
        have hlen : ∀ f : C4 → PV, ((((a :: r).map f).length : Nat) : Int) = r.length + 1 := fun f => by simp
        refine ⟨⟨by decide, by decide, by rw [hlen]; omega, by rw [hlen]; omega⟩, ?_⟩
        rw [hlen, show ((r.length : Int) + 1 - 1).toNat = r.length by omega]
        refine for_ind (fun rr τ => ∃ (k : Nat) (z2 : Option AV) (c : C4) (ds : List C4), rr = rng ((k : Int) + 1) ds.length ∧ (a :: r)[k]? = some c ∧ (a :: r).drop (k + 1) = ds ∧ spotG c ds m = spotG a r m ∧ τ = [some (.val _), some (.val (fr m)), z2]) ?_ ?_ _ _ ⟨0, none, a, r, rfl, rfl, rfl, rfl, rfl⟩
        · rintro τ ⟨k, z2, c, ds, hrr, ek, ed, es, rfl⟩
          have : ds = [] := by
            cases ds with
            | nil => rfl
            | cons d ds => rw [List.length_cons, rng_succ] at hrr; cases hrr
          subst this
          rw [← es] at q
          exact q
        · rintro x rr τ R hR ⟨k, z2, c, ds, hrr, ek, ed, es, rfl⟩
          cases ds with
          | nil => cases hrr
          | cons d ds =>
            rw [List.length_cons, rng_succ] at hrr
            cases hrr
            have ed' : (a :: r)[k + 1]? = some d := by
              have := congrArg (fun l => l[0]?) ed
              simpa [List.getElem?_drop] using this
            have bd := hc d (List.mem_of_getElem? ed')
            have bc := hc c (List.mem_of_getElem? ek)
            refine get_map (k := k + 1) (by omega) ed' (hfq d _ ⟨rfl, F_before_ok (bd.m.mono (by omega)) m1 ?_⟩)
            refine iteB (b := !decide (d.1 < m)) (fun z => ?_) (fun z => ?_)
            · have z' : ¬ d.1 < m := by simpa using z
              rw [← es] at q
              simp only [spotG, if_neg z', spotP] at q
              exact get_map (k := k) (by omega) ek (get_map (k := k + 1) (by omega) ed' ⟨rfl, F_spot_between_ok hf bc bd hm (ris_get hr ek ed') hB q⟩)
            · have z' : d.1 < m := by simpa using z
              refine hR _ ⟨k + 1, _, d, ds, ?_, ed', ?_, ?_, rfl⟩
              · rw [show (((k + 1 : Nat) : Int) + 1) = (k : Int) + 1 + 1 by omega]
              · have := congrArg List.tail ed
                simpa [List.tail_drop] using this
              · rw [← es]; simp only [spotG, if_pos z']
theorem spotG_none {m : Rat} : ∀ {a : C4} {r : List C4}, Ris (a :: r) → (∀ l, (a :: r).getLast? = some l → l.1 < m) → spotG a r m = none
  | a, [], _, _ => rfl
  | a, b :: r, hr, h => by
    have hr' : Ris (b :: r) := (List.pairwise_cons.mp hr).2
    have hb : b.1 < m := by
      cases r with
      | nil => exact h b rfl
      | cons c r =>
        obtain ⟨l, hl⟩ : ∃ l, (c :: r).getLast? = some l := ⟨_, List.getLast?_eq_some_getLast (by simp)⟩
        have h1 : l.1 < m := h l (by simpa [List.getLast?_cons_cons] using hl)
        have h2 : b.1 < l.1 := (List.pairwise_cons.mp hr').1 l (List.mem_of_getLast? hl)
        grind
    simp only [spotG, if_pos hb]
    exact spotG_none hr' fun l hl => h l (by simpa [List.getLast?_cons_cons] using hl)
theorem spotC_ahead {a : C4} {r : List C4} {m : Rat} (h : m < a.1) : spotC (a :: r) m = none := by simp only [spotC, if_pos h]
theorem spotC_behind {a : C4} {r : List C4} {m : Rat} (hr : Ris (a :: r)) (h : ∀ l, (a :: r).getLast? = some l → l.1 < m) : spotC (a :: r) m = none := by
  simp only [spotC]
  split
  · rfl
  · exact spotG_none hr h
def B__law_spot_b0_t1 : AS :=
  (aSeq (aAsg (aFr (aComp (aiQ (aTup (aCons (aC (.int 1)) (aCons (aC (.int 2)) (aCons (aC (.int 3)) aNil))))) 1 [4, 3, 2] (agN 0) aYes (aCall 2 F__law_product (aCons (aV 1) (aCons (aCall 2 F__law_off (aCons (aOp fIx (aV 2) (aV 0)) (aCons (aOp fIx (aV 3) (aV 0)) aNil))) aNil))))) (agN 5))
    (aRet (aCB gTuple (aCons (aFr (aComp (aiR1 (aCons (aC (.int 3)) aNil)) 1 [2, 5] (agN 0) aYes (aCall 2 F__law_sum (aCons (aOp fIx (aV 1) (aOp fAddA (aV 0) (aC (.int 1)))) (aCons (aOp fIx (aV 2) (aV 0)) aNil))))) aNil))))
def B__law_spot_b0 : AS :=
  (aSeq (aAsg (aCall 2 F__law_ratio (aCons (aCall 2 F__law_off (aCons (aV 1) (aCons (aOp fIx (aV 2) (aC (.int 0))) aNil))) (aCons (aCall 2 F__law_off (aCons (aOp fIx (aV 3) (aC (.int 0))) (aCons (aOp fIx (aV 2) (aC (.int 0))) aNil))) aNil))) (agN 4))
    B__law_spot_b0_t1)
def B__law_spot_t1 : AS :=
  (aSeq (aFor (aiZ (aCons (aV 0) (aCons (aSl (aV 0) (aoS (aC (.int 1))) aoN) aNil))) (agQ 2 (agCons (agN 2) (agCons (agN 3) agNil))) (aIfS (aNotT (aTst (aCall 2 F_before (aCons (aOp fIx (aV 3) (aC (.int 0))) (aCons (aV 1) aNil))))) B__law_spot_b0 aNext))
    (aRet (aC .non)))
def B__law_spot : AS :=
  (aSeq (aIfS (aOrT (aTst (aCall 2 F_before (aCons (aV 1) (aCons (aOp fIx (aOp fIx (aV 0) (aC (.int 0))) (aC (.int 0))) aNil)))) (aTst (aCall 2 F_before (aCons (aOp fIx (aOp fIx (aV 0) (aUn fNeg (aC (.int 1)))) (aC (.int 0))) (aCons (aV 1) aNil))))) (aRet (aC .non)) aNext)
    B__law_spot_t1)
def F__law_spot : AF := aBody 6 B__law_spot
theorem F__law_spot_ok {cs : List C4} {B M : Nat} {m : Rat} (hc : ∀ c ∈ cs, CBd B c) (hr : Ris cs) (h0 : cs ≠ []) (hl : cs.length ≤ 1000) (hm : Bd M m) (hB : M + 6 * B + 10 ≤ 3000) {Q : PV → Prop} (q : Q (spotP (spotC cs m))) : F__law_spot [planP cs, fr m] Q := by
  have m1 := hm.mono (n := 4000) (by omega)
  cases cs with
  | nil => exact absurd rfl h0
  | cons a r =>
    have ba := hc a (by simp)
    have a1 := ba.m.mono (n := 4000) (by omega)
    obtain ⟨l, el⟩ : ∃ l, (a :: r).getLast? = some l := ⟨_, List.getLast?_eq_some_getLast (by simp)⟩
    have bl := hc l (List.mem_of_getLast? el)
    refine get_map (f := cor) (k := 0) (c := a) rfl rfl ⟨rfl, F_before_ok m1 a1 ?_⟩
    refine iteB (b := decide (m < a.1)) (fun z => ?_) (fun z => ?_)
    · rw [spotC_ahead (of_decide_eq_true z)] at q
      exact q
    refine get_last (f := cor) el ⟨rfl, F_before_ok (bl.m.mono (by omega)) m1 ?_⟩
    refine iteB (b := decide (l.1 < m)) (fun z2 => ?_) (fun z2 => ?_)
    · rw [spotC_behind hr (fun l' e' => by rw [el] at e'; cases e'; exact of_decide_eq_true z2)] at q
      exact q
    simp only [spotC, if_neg (of_decide_eq_false z)] at q
    have few : r.length + 1 ≤ 1000 := hl
    refine sl_from (cs := a :: r) (i := 1) (k := 1) rfl (by simp) ?_
    refine for_ind (fun rr τ => ∃ (c : C4) (ds : List C4) (z2 z3 z4 z5 : Option AV), rr = zipP ((c :: ds).map cor) (ds.map cor) ∧ Ris (c :: ds) ∧ (∀ d ∈ c :: ds, CBd B d) ∧ spotG c ds m = spotG a r m ∧ τ = [some (.val (planP (a :: r))), some (.val (fr m)), z2, z3, z4, z5]) ?_ ?_ _ _ ⟨a, r, none, none, none, none, rfl, hr, hc, rfl, rfl⟩
    · rintro τ ⟨c, ds, z2, z3, z4, z5, hrr, hri, hb, es, rfl⟩
      have : ds = [] := by cases ds with | nil => rfl | cons d ds => cases hrr
      subst this
      rw [← es] at q
      exact q
    · rintro x rr τ R hR ⟨c, ds, z2, z3, z4, z5, hrr, hri, hb, es, rfl⟩
      cases ds with
      | nil => cases hrr
      | cons d ds =>
        cases hrr
        have bc := hb c (by simp)
        have bd := hb d (by simp)
        have hcd := (List.pairwise_cons.mp hri).1 d (by simp)
        refine ⟨rfl, rfl, F_before_ok (bd.m.mono (by omega)) m1 ?_⟩
        refine iteB (b := !decide (d.1 < m)) (fun z => ?_) (fun z => ?_)
        · have z' : ¬ d.1 < m := by simpa using z
          rw [← es] at q
          simp only [spotG, if_neg z', spotP, t3P, inter] at q
          have s := Bd.share bc bd hm hcd
          refine ⟨rfl, F__law_off_ok m1 (bc.m.mono (by omega)) ⟨rfl, F__law_off_ok (bd.m.mono (by omega)) (bc.m.mono (by omega)) ⟨rfl, F__law_ratio_ok (sub_ne hcd) ((hm.sub bc.m).mono (by omega)) ((bd.m.sub bc.m).mono (by omega)) ?_⟩⟩⟩
          refine ⟨lz, lz, ?_⟩
          refine ⟨rfl, F__law_off_ok (bd.x.mono (by omega)) (bc.x.mono (by omega)) ⟨rfl, F__law_product_ok (s.mono (by omega)) ((bd.x.sub bc.x).mono (by omega)) ?_⟩⟩
          refine ⟨rfl, F__law_off_ok (bd.y.mono (by omega)) (bc.y.mono (by omega)) ⟨rfl, F__law_product_ok (s.mono (by omega)) ((bd.y.sub bc.y).mono (by omega)) ?_⟩⟩
          refine ⟨rfl, F__law_off_ok (bd.z.mono (by omega)) (bc.z.mono (by omega)) ⟨rfl, F__law_product_ok (s.mono (by omega)) ((bd.z.sub bc.z).mono (by omega)) ?_⟩⟩
          refine ⟨⟨by decide, by decide⟩, lz, ?_⟩
          refine ⟨rfl, F__law_sum_ok (bc.x.mono (by omega)) ((s.mul (bd.x.sub bc.x)).mono (by omega)) ?_⟩
          refine ⟨rfl, F__law_sum_ok (bc.y.mono (by omega)) ((s.mul (bd.y.sub bc.y)).mono (by omega)) ?_⟩
          exact ⟨rfl, F__law_sum_ok (bc.z.mono (by omega)) ((s.mul (bd.z.sub bc.z)).mono (by omega)) q⟩
        · have z' : d.1 < m := by simpa using z
          exact hR _ ⟨d, ds, _, _, _, _, rfl, (List.pairwise_cons.mp hri).2, fun e he => hb e (by simp [he]), by rw [← es]; simp only [spotG, if_pos z'], rfl⟩
/-! texts of spots -/
end PL
end
section
set_option Elab.async false
set_option linter.all false
set_option maxRecDepth 100000
set_option maxHeartbeats 400000
/-! A part of a plan: what it is. -/
namespace PL
open PySem L2 PyProof.Rows
def sp (cs : List C4) (m : Rat) : C4 := (m, (spotC cs m).getD (0, 0, 0))
def btw (f t : Rat) (c : C4) : Bool := decide (f < c.1) && decide (c.1 < t)
theorem spotG_some {m : Rat} : ∀ {a : C4} {r : List C4} {l : C4}, r ≠ [] → (a :: r).getLast? = some l → m ≤ l.1 → ∃ t, spotG a r m = some t
  | a, [], l, h, _, _ => absurd rfl h
  | a, b :: r, l, _, e, hm => by
    simp only [spotG]
    split
    · rename_i h
      cases r with
      | nil =>
        have : b = l := by simpa using e
        subst this; grind
      | cons c r => exact spotG_some (l := l) (by simp) (by simpa [List.getLast?_cons_cons] using e) hm
    · exact ⟨_, rfl⟩
theorem spotC_some {a : C4} {r : List C4} {l : C4} {m : Rat} (h2 : r ≠ []) (e : (a :: r).getLast? = some l) (h0 : a.1 ≤ m) (h1 : m ≤ l.1) : ∃ t, spotC (a :: r) m = some t := by
  simp only [spotC]
  rw [if_neg (by grind)]
  exact spotG_some h2 e h1
theorem last_cons {a b l : C4} {r : List C4} (e : (a :: b :: r).getLast? = some l) : (b :: r).getLast? = some l := by
  simpa [List.getLast?_cons_cons] using e
def mx (b a : Rat) : Rat := if b < a then a else b
def mn (e l : Rat) : Rat := if e < l then e else l
def B__law_greater : AS :=
  (aRet (aIf (aTst (aCall 2 F_before (aCons (aV 0) (aCons (aV 1) aNil)))) (aV 1) (aV 0)))
def F__law_greater : AF := aBody 2 B__law_greater
theorem F__law_greater_ok {a b : Rat} (ha : Bd 4000 a) (hb : Bd 4000 b) {Q : PV → Prop} (q : Q (fr (mx a b))) : F__law_greater [fr a, fr b] Q := by
  refine ⟨rfl, F_before_ok ha hb ?_⟩
  refine iteB (b := decide (a < b)) (fun z => ?_) (fun z => ?_)
  · rw [mx, if_pos (of_decide_eq_true z)] at q; exact q
  · rw [mx, if_neg (of_decide_eq_false z)] at q; exact q
def B_lesser : AS :=
  (aRet (aIf (aTst (aCall 2 F_before (aCons (aV 1) (aCons (aV 0) aNil)))) (aV 1) (aV 0)))
def F_lesser : AF := aBody 2 B_lesser
theorem F_lesser_ok {a b : Rat} (ha : Bd 4000 a) (hb : Bd 4000 b) {Q : PV → Prop} (q : Q (fr (mn a b))) : F_lesser [fr a, fr b] Q := by
  refine ⟨rfl, F_before_ok hb ha ?_⟩
  refine iteB (b := decide (b < a)) (fun z => ?_) (fun z => ?_)
  · have z' := of_decide_eq_true z
    rw [show mn a b = b by unfold mn; split <;> grind] at q; exact q
  · have z' := of_decide_eq_false z
    rw [show mn a b = a by unfold mn; split <;> grind] at q; exact q
theorem cmp_filter {α : Type} {g : AG} {tt : AT} {te : AE} {τ0 : ASt} {Q : List PV → Prop} (f k : α → PV) (p : α → Bool) (P : α → Prop)
    (hs : ∀ a, P a → ∀ (R : PV → Prop) (N : Prop), (p a = true → R (k a)) → (p a = false → N) → g (f a) τ0 fun τ1 => tt τ1 fun ok => if ok = true then te τ1 R else N) :
    ∀ (xs : List α) (acc : List PV), (∀ a ∈ xs, P a) → Q (acc ++ (xs.filter p).map k) → cmpGo g tt te τ0 Q (xs.map f) acc
  | [], acc, _, h => (by simpa using h : Q acc)
  | a :: xs, acc, hp, h => by
    refine hs a (hp a (by simp)) (fun y => cmpGo g tt te τ0 Q (xs.map f) (acc ++ [y])) _ (fun z => ?_) (fun z => ?_)
    · exact cmp_filter f k p P hs xs _ (fun b hb => hp b (by simp [hb])) (by simpa [List.filter_cons, z] using h)
    · exact cmp_filter f k p P hs xs _ (fun b hb => hp b (by simp [hb])) (by simpa [List.filter_cons, z] using h)
theorem both {f t : Rat} {c : C4} {tt : (Bool → Prop) → Prop} {A : Prop} {N : Prop} (h1 : btw f t c = true → A) (h2 : btw f t c = false → N) :
    if decide (f < c.1) = true then (if decide (c.1 < t) = true then A else N) else N := by
  unfold btw at h1 h2
  refine iteB (fun z => iteB (fun z2 => h1 (by rw [z, z2]; rfl)) (fun z2 => h2 (by rw [z, z2]; rfl))) (fun z => h2 (by rw [z]; rfl))
theorem Bd.mx {n : Nat} {a b : Rat} (ha : Bd n a) (hb : Bd n b) : Bd n (mx a b) := by unfold PL.mx; split <;> assumption
theorem Bd.mn {n : Nat} {a b : Rat} (ha : Bd n a) (hb : Bd n b) : Bd n (mn a b) := by unfold PL.mn; split <;> assumption
end PL
end
section
set_option Elab.async false
set_option linter.all false
set_option maxRecDepth 100000
set_option maxHeartbeats 400000
/-! One step at a time, by the head of the goal. -/
namespace PL
open PySem L2 PyProof.Rows
section
variable {a b : AS} {ta tb : AE} {tt tu : AT} {g : AG} {gs : AGs} {nx bk ct : ASt → Prop} {rt : PV → Prop} {τ : ASt} {Q : PV → Prop} {QB : Bool → Prop} {QL : List PV → Prop} {QT : ASt → Prop} {r : AA} {ai : AI} {F : AF} {n i j : Nat} {x y z : PV} {xs ys : List PV}
theorem s_V (e : nth τ i = some (.val x)) (h : Q x) : aV i τ Q := by unfold aV; rw [e]; exact h
/-! values -/
def ixE (x : PV) (i : Int) : Option PV := match x with | .tup xs => atI xs i | .lst xs => atI xs i | _ => none
theorem s_ix {i : Int} (e : ixE x i = some z) (h : Q z) : fIx x (.int i) Q := by
  cases x <;> first | (cases e; done) | (show onO (atI _ i) Q; rw [show atI _ i = some z from e]; exact h)
theorem s_ixPl {l : C4} {cs : List C4} (el : cs.getLast? = some l) (h : Q (cor l)) : fIx (planP cs) (.int (-1)) Q := get_last el h
theorem s_neF {a b : Rat} (h : Q (.bl (!decide (a = b)))) : fNe (fr a) (fr b) Q := ⟨⟨ok_fr 29 _, ok_fr 29 _⟩, by rw [eqB_fr]; exact h⟩
theorem s_lenP {cs : List C4} (h : Q (.int cs.length)) : gLen [planP cs] Q := by
  show Q (.int (cs.map cor).length); rw [List.length_map]; exact h
theorem s_isi {T : String} {k : Kd} (ht : isTyp T) (e : kdOf x = some k) (h : Q (.bl (isiB k T))) : gIsi [x, .ty T] Q := by
  refine ⟨ht, ?_⟩; rw [e]; exact h
theorem s_all {g : List Bool → Bool} {bs : List Bool} (e : blsOf xs = some bs) (h : Q (.bl (g bs))) : gAll g [.lst xs] Q := by
  show (match blsOf xs with | some bs => Q (.bl (g bs)) | none => False); rw [e]; exact h
/-! tests -/
theorem s_ifT {c : Bool} {A B : Prop} (e : c = true) (h : A) : if c = true then A else B := by rw [if_pos e]; exact h
theorem s_ifF {c : Bool} {A B : Prop} (e : c = false) (h : B) : if c = true then A else B := by rw [if_neg (by rw [e]; exact Bool.false_ne_true)]; exact h
theorem s_ifd {p : Prop} [Decidable p] {A B : Prop} (h1 : p → A) (h2 : ¬ p → B) : if decide p = true then A else B := by
  by_cases h : p
  · rw [if_pos (decide_eq_true h)]; exact h1 h
  · rw [if_neg (by simp [h])]; exact h2 h
theorem s_ifn {p : Prop} [Decidable p] {A B : Prop} (h1 : ¬ p → A) (h2 : p → B) : if (!decide p) = true then A else B := by
  by_cases h : p
  · rw [if_neg (by simp [h])]; exact h2 h
  · rw [if_pos (by simp [h])]; exact h1 h
end
end PL
namespace PL
open PySem L2 PyProof.Rows
theorem bd0 : Bd 1 (0 : Rat) := ⟨by decide, by decide⟩
end PL
namespace PL
open PySem L2 PyProof.Rows
section
variable {g : AG} {b : AS} {nx bk ct : ASt → Prop} {rt : PV → Prop}
/-- a for over a range -/
theorem for_rng (P : Nat → ASt → Prop) {lo : Int} {n : Nat} (hd : ∀ τ, P n τ → nx τ)
    (hs : ∀ i, i < n → ∀ τ (R : ASt → Prop), (∀ τ, P (i + 1) τ → R τ) → P i τ → g (.int (lo + i)) τ fun τ1 => b ⟨R, rt, nx, R⟩ τ1) {τ : ASt} (h0 : P 0 τ) : forGo g b ⟨nx, rt, bk, ct⟩ (rng lo n) τ := by
  refine for_ind (fun r τ => ∃ i, i ≤ n ∧ r = rng (lo + i) (n - i) ∧ P i τ) ?_ ?_ _ _ ⟨0, Nat.zero_le _, by simp, h0⟩
  · rintro τ ⟨i, hi, hr, hp⟩
    have : n - i = 0 := by
      cases e : n - i with
      | zero => rfl
      | succ k => rw [e, rng_succ] at hr; cases hr
    have : i = n := by omega
    subst this
    exact hd τ hp
  · rintro x r τ R hR ⟨i, hi, hr, hp⟩
    cases e : n - i with
    | zero => rw [e] at hr; cases hr
    | succ k =>
      rw [e, rng_succ] at hr
      cases hr
      exact hs i (by omega) τ R (fun τ2 h2 => hR τ2 ⟨i + 1, by omega, by rw [show n - (i + 1) = k by omega, show lo + ((i + 1 : Nat) : Int) = lo + i + 1 by omega], h2⟩) hp
/-- a for over a list that is a map -/
theorem for_map {α : Type} (f : α → PV) (P : List α → List α → ASt → Prop) {cs : List α} (hd : ∀ τ, P cs [] τ → nx τ)
    (hs : ∀ us c vs, us ++ c :: vs = cs → ∀ τ (R : ASt → Prop), (∀ τ, P (us ++ [c]) vs τ → R τ) → P us (c :: vs) τ → g (f c) τ fun τ1 => b ⟨R, rt, nx, R⟩ τ1) {τ : ASt} (h0 : P [] cs τ) : forGo g b ⟨nx, rt, bk, ct⟩ (cs.map f) τ := by
  refine for_ind (fun r τ => ∃ us vs, us ++ vs = cs ∧ r = vs.map f ∧ P us vs τ) ?_ ?_ _ _ ⟨[], cs, rfl, rfl, h0⟩
  · rintro τ ⟨us, vs, e, hr, hp⟩
    cases vs with
    | nil => rw [List.append_nil] at e; subst e; exact hd τ hp
    | cons v vs => cases hr
  · rintro x r τ R hR ⟨us, vs, e, hr, hp⟩
    cases vs with
    | nil => cases hr
    | cons c vs =>
      cases hr
      exact hs us c vs e τ R (fun τ2 h2 => hR τ2 ⟨us ++ [c], vs, by simpa using e, rfl, h2⟩) hp
/-- a for over any list -/
theorem for_any (P : ASt → Prop) {xs : List PV} (hd : ∀ τ, P τ → nx τ)
    (hs : ∀ x ∈ xs, ∀ τ (R : ASt → Prop), (∀ τ, P τ → R τ) → P τ → g x τ fun τ1 => b ⟨R, rt, nx, R⟩ τ1) {τ : ASt} (h0 : P τ) : forGo g b ⟨nx, rt, bk, ct⟩ xs τ := by
  refine for_ind (fun r τ => (∀ x ∈ r, x ∈ xs) ∧ P τ) ?_ ?_ _ _ ⟨fun _ h => h, h0⟩
  · rintro τ ⟨_, hp⟩
    exact hd τ hp
  · rintro x r τ R hR ⟨hm, hp⟩
    exact hs x (hm x (by simp)) τ R (fun τ2 h2 => hR τ2 ⟨fun y hy => hm y (by simp [hy]), h2⟩) hp
end
section
variable {g : AG} {tt : AT} {te : AE} {τ0 : ASt} {Q : List PV → Prop}
end
end PL
namespace PL
section
variable {p : Prop} [Decidable p] {A B : Prop}
end
end PL
end
section
set_option Elab.async false
set_option linter.all false
set_option maxRecDepth 100000
set_option maxHeartbeats 400000
namespace PL
open PySem L2 PyProof.Rows
class Wp (P : Prop) (P' : outParam Prop) : Prop where
  go : P' → P
class WpC (P : Prop) (C P' : outParam Prop) : Prop where
  go : C → P' → P
class WpU (P : Prop) (P' : outParam Prop) : Prop where
  go : P' → P
class Wp2 (P : Prop) (A B : outParam Prop) : Prop where
  go : A → B → P
class Nth (τ : ASt) (i : Nat) (x : outParam AV) : Prop where
  e : nth τ i = some x
instance n_0 {v : AV} {r : ASt} : Nth (some v :: r) 0 v := ⟨rfl⟩
instance n_1 {y : Option AV} {r : ASt} {i : Nat} {v : AV} [h : Nth r i v] : Nth (y :: r) (i + 1) v := ⟨h.e⟩
class SetN (τ : ASt) (i : Nat) (v : AV) (τ' : outParam ASt) : Prop where
  e : τ.set i (some v) = τ'
instance st_0 {y : Option AV} {r : ASt} {v : AV} : SetN (y :: r) 0 v (some v :: r) := ⟨rfl⟩
instance st_1 {y : Option AV} {r r' : ASt} {i : Nat} {v : AV} [h : SetN r i v r'] : SetN (y :: r) (i + 1) v (y :: r') := ⟨by rw [List.set_cons_succ, h.e]⟩
class Frz (τ : ASt) (τ' : outParam ASt) : Prop where
  e : frz τ = τ'
instance fz_0 : Frz [] [] := ⟨rfl⟩
instance (priority := low) fz_z {z : Option AV} {r r' : ASt} [h : Frz r r'] : Frz (z :: r) (frzV z :: r') := ⟨by rw [← h.e]; rfl⟩
instance fz_n {r r' : ASt} [h : Frz r r'] : Frz (none :: r) (none :: r') := ⟨by rw [← h.e]; rfl⟩
instance fz_v {x : PV} {r r' : ASt} [h : Frz r r'] : Frz (some (.val x) :: r) (some (.val x) :: r') := ⟨by rw [← h.e]; rfl⟩
instance fz_o {x : List PV} {r r' : ASt} [h : Frz r r'] : Frz (some (.own x) :: r) (some (.val (.lst x)) :: r') := ⟨by rw [← h.e]; rfl⟩
class Blk (ix : List Nat) (τ : ASt) (τ' : outParam ASt) : Prop where
  e : (ix.map fun i => blkV (nth τ i)) = τ'
instance b_0 {τ : ASt} : Blk [] τ [] := ⟨rfl⟩
instance b_1 {τ r : ASt} {i : Nat} {ix : List Nat} {x : PV} [h : Nth τ i (.val x)] [h2 : Blk ix τ r] : Blk (i :: ix) τ (some (.val x) :: r) := ⟨by rw [List.map_cons, h.e, h2.e]; rfl⟩
class Rpl (n : Nat) (τ : outParam ASt) : Prop where
  e : List.replicate n none = τ
instance r_0 : Rpl 0 [] := ⟨rfl⟩
instance r_1 {n : Nat} {τ : ASt} [h : Rpl n τ] : Rpl (n + 1) (none :: τ) := ⟨by rw [List.replicate_succ, h.e]⟩
class CatN (xs ys : ASt) (zs : outParam ASt) : Prop where
  e : xs ++ ys = zs
instance c_0 {ys : ASt} : CatN [] ys ys := ⟨rfl⟩
instance c_1 {x : Option AV} {xs ys zs : ASt} [h : CatN xs ys zs] : CatN (x :: xs) ys (x :: zs) := ⟨by rw [List.cons_append, h.e]⟩
class CatP (xs ys : List PV) (zs : outParam (List PV)) : Prop where
  e : xs ++ ys = zs
instance cp_0 {ys : List PV} : CatP [] ys ys := ⟨rfl⟩
instance cp_1 {x : PV} {xs ys zs : List PV} [h : CatP xs ys zs] : CatP (x :: xs) ys (x :: zs) := ⟨by rw [List.cons_append, h.e]⟩
/-- a written list is short -/
class Shrt (xs : List PV) (n : outParam Nat) : Prop where
  e : xs.length = n
/-- an item of a written thing -/
class Ix (x : PV) (i : Int) (y : outParam PV) : Prop where
  e : ixE x i = some y
class AtN (xs : List PV) (n : Nat) (y : outParam PV) : Prop where
  e : xs[n]? = some y
section
variable {a b : AS} {ta tb : AE} {tt tu : AT} {g : AG} {gs : AGs} {nx bk ct : ASt → Prop} {rt : PV → Prop} {τ τ' τ2 : ASt} {Q : PV → Prop} {QB : Bool → Prop} {QL : List PV → Prop} {QT : ASt → Prop} {r : AA} {ai : AI} {F : AF} {n i j : Nat} {x y z : PV} {xs ys zs : List PV}
instance ix_tup0 {p0 : PV} {q : List PV} : Ix (.tup (p0 :: q)) 0 p0 := ⟨atI_nat (j := 0) rfl⟩
instance ix_lst0 {p0 : PV} {q : List PV} : Ix (.lst (p0 :: q)) 0 p0 := ⟨atI_nat (j := 0) rfl⟩
instance ix_tup1 {p0 p1 : PV} {q : List PV} : Ix (.tup (p0 :: p1 :: q)) 1 p1 := ⟨atI_nat (j := 1) rfl⟩
instance ix_lst1 {p0 p1 : PV} {q : List PV} : Ix (.lst (p0 :: p1 :: q)) 1 p1 := ⟨atI_nat (j := 1) rfl⟩
instance ix_tup2 {p0 p1 p2 : PV} {q : List PV} : Ix (.tup (p0 :: p1 :: p2 :: q)) 2 p2 := ⟨atI_nat (j := 2) rfl⟩
instance ix_lst2 {p0 p1 p2 : PV} {q : List PV} : Ix (.lst (p0 :: p1 :: p2 :: q)) 2 p2 := ⟨atI_nat (j := 2) rfl⟩
instance ix_f0 {q : Rat} : Ix (fr q) 0 (.int q.num) := ⟨rfl⟩
instance ix_f1 {q : Rat} : Ix (fr q) 1 (.int q.den) := ⟨rfl⟩
instance ix_c0 {c : C4} : Ix (cor c) 0 (fr c.1) := ⟨rfl⟩
instance ix_c1 {c : C4} : Ix (cor c) 1 (fr c.2.1) := ⟨rfl⟩
instance ix_c2 {c : C4} : Ix (cor c) 2 (fr c.2.2.1) := ⟨rfl⟩
instance ix_c3 {c : C4} : Ix (cor c) 3 (fr c.2.2.2) := ⟨rfl⟩
theorem atI0 {f : C4 → PV} {c : C4} {cs : List C4} : atI ((c :: cs).map f) 0 = some (f c) := atI_nat (j := 0) rfl
instance ix_p0 {c : C4} {cs : List C4} : Ix (planP (c :: cs)) 0 (cor c) := ⟨atI0⟩
instance w_seq  : Wp (aSeq a b ⟨nx, rt, bk, ct⟩ τ) (a ⟨b ⟨nx, rt, bk, ct⟩, rt, bk, ct⟩ τ) := ⟨id⟩
instance w_asg  : Wp (aAsg ta g ⟨nx, rt, bk, ct⟩ τ) (ta τ fun x => g x τ nx) := ⟨id⟩
instance w_ret  [h : Frz τ τ'] : Wp (aRet ta ⟨nx, rt, bk, ct⟩ τ) (ta τ' rt) := ⟨fun k => by unfold aRet; rw [h.e]; exact k⟩
instance w_next  : Wp (aNext ⟨nx, rt, bk, ct⟩ τ) (nx τ) := ⟨id⟩
instance w_ifS  : Wp (aIfS tt a b ⟨nx, rt, bk, ct⟩ τ) (tt τ fun k => if k = true then a ⟨nx, rt, bk, ct⟩ τ else b ⟨nx, rt, bk, ct⟩ τ) := ⟨id⟩
def setA (τ : ASt) (i : Nat) (v : AV) (QT : ASt → Prop) : Prop := QT (τ.set i (some v))
instance w_setA {v : AV} [h : SetN τ i v τ'] : Wp (setA τ i v QT) (QT τ') := ⟨fun k => by unfold setA; rw [h.e]; exact k⟩
instance w_new  : Wp (aNew r i ⟨nx, rt, bk, ct⟩ τ) (r τ fun xs => setA τ i (.own xs) nx) := ⟨id⟩
instance w_gN  [h : SetN τ i (.val x) τ'] : Wp (agN i x τ QT) (QT τ') := ⟨fun k => by unfold agN; rw [h.e]; exact k⟩
instance w_meth {f : OpM} : Wp (aMeth i f r ⟨nx, rt, bk, ct⟩ τ) (aOwn i τ fun xs => r τ fun ys => f xs ys fun zs => setA τ i (.own zs) nx) := ⟨id⟩
instance w_appd {k : Int} : Wp (mIns xs [.int k, y] QL) ((0 ≤ k ∧ k ≤ (xs.length : Int) ∧ xs.length < sizeLine) ∧ QL (xs.take k.toNat ++ y :: xs.drop k.toNat)) := ⟨id⟩
instance w_for  : Wp (aFor ai g b ⟨nx, rt, bk, ct⟩ τ) (ai τ fun xs => forGo g b ⟨nx, rt, bk, ct⟩ xs τ) := ⟨id⟩
instance w_for0  : Wp (forGo g b ⟨nx, rt, bk, ct⟩ [] τ) (nx τ) := ⟨id⟩
instance w_for1 {q : List PV} : WpU (forGo g b ⟨nx, rt, bk, ct⟩ (x :: q) τ) (g x τ fun τ1 => b ⟨forGo g b ⟨nx, rt, bk, ct⟩ q, rt, nx, forGo g b ⟨nx, rt, bk, ct⟩ q⟩ τ1) := ⟨id⟩
instance w_gNil  : Wp (agNil [] τ QT) (QT τ) := ⟨id⟩
instance w_gCons {t : List PV} : Wp (agCons g gs (x :: t) τ QT) (g x τ fun τ' => gs t τ' QT) := ⟨id⟩
instance w_gQ  : Wp (agQ n gs x τ QT) (onQ x fun xs => xs.length = n ∧ gs xs τ QT) := ⟨id⟩
instance w_V  [h : Nth τ i (.val x)] : Wp (aV i τ Q) (Q x) := ⟨fun k => s_V h.e k⟩
instance w_C  : Wp (aC x τ Q) (Q x) := ⟨id⟩
instance w_op {f : Op2} : Wp (aOp f ta tb τ Q) (ta τ fun x => tb τ fun y => f x y Q) := ⟨id⟩
instance w_un {f : PV → (PV → Prop) → Prop} : Wp (aUn f ta τ Q) (ta τ fun x => f x Q) := ⟨id⟩
instance w_and  : Wp (aAnd ta tb τ Q) (ta τ fun x => onB x fun c => if c = true then tb τ Q else Q (.bl false)) := ⟨id⟩
instance w_tst  : Wp (aTst ta τ QB) (ta τ fun x => onB x QB) := ⟨id⟩
def onT (x : PV) (QB : Bool → Prop) : Prop := match truP x with | some b => QB b | none => False
instance w_tru  : Wp (aTru ta τ QB) (ta τ fun x => onT x QB) := ⟨id⟩
instance w_truB {c : Bool} : Wp (onT (.bl c) QB) (QB c) := ⟨id⟩
instance w_notT  : Wp (aNotT tt τ QB) (tt τ fun c => QB (!c)) := ⟨id⟩
instance w_andT  : Wp (aAndT tt tu τ QB) (tt τ fun c => if c = true then tu τ QB else QB false) := ⟨id⟩
instance w_orT  : Wp (aOrT tt tu τ QB) (tt τ fun c => if c = true then QB true else tu τ QB) := ⟨id⟩
instance w_if  : Wp (aIf tt ta tb τ Q) (tt τ fun c => if c = true then ta τ Q else tb τ Q) := ⟨id⟩
instance w_yes  : Wp (aYes τ QB) (QB true) := ⟨id⟩
instance w_bor  [h : Frz τ τ'] : Wp (aBor ta τ Q) (ta τ' fun x => noL x = true ∧ Q x) := ⟨fun k => by unfold aBor; rw [h.e]; exact k⟩
instance w_borT  [h : Frz τ τ'] : Wp (aBorT tt τ QB) (tt τ' QB) := ⟨fun k => by unfold aBorT; rw [h.e]; exact k⟩
instance w_nil  : Wp (aNil τ QL) (QL []) := ⟨id⟩
instance w_cons  : Wp (aCons ta r τ QL) (ta τ fun x => r τ fun xs => QL (x :: xs)) := ⟨id⟩
def mkT (xs : List PV) (Q : PV → Prop) : Prop := xs.length ≤ sizeLine ∧ Q (.tup xs)
instance w_tup  : Wp (aTup r τ Q) (r τ fun xs => mkT xs Q) := ⟨id⟩
instance w_lst  : Wp (aLst r τ QL) (r τ fun xs => xs.length ≤ sizeLine ∧ QL xs) := ⟨id⟩
instance w_fr  : Wp (aFr r τ Q) (r τ fun xs => Q (.lst xs)) := ⟨id⟩
instance w_call  : Wp (aCall n F r τ Q) (r τ fun xs => xs.length = n ∧ F xs Q) := ⟨id⟩
instance w_cb  : Wp (aCB F r τ Q) (r τ fun xs => F xs Q) := ⟨id⟩
instance w_comp {own : Nat} {ix : List Nat} {te : AE} {τ3 τ4 : ASt} [h1 : Rpl own τ3] [h2 : Blk ix τ τ4] [h3 : CatN τ3 τ4 τ'] : Wp (aComp ai own ix g tt te τ QL) (ai τ fun xs => xs.length < sizeLine ∧ cmpGo g tt te τ' QL xs []) := ⟨fun k => by unfold aComp blkA; rw [h1.e, h2.e, h3.e]; exact k⟩
instance w_cmp0 {te : AE} {acc : List PV} : Wp (cmpGo g tt te τ QL [] acc) (QL acc) := ⟨id⟩
instance w_cmp1 {te : AE} {acc q : List PV} : Wp (cmpGo g tt te τ QL (x :: q) acc) (g x τ fun τ1 => tt τ1 fun ok => if ok = true then te τ1 fun y => cmpGo g tt te τ QL q (acc ++ [y]) else cmpGo g tt te τ QL q acc) := ⟨id⟩
instance w_iQ  : Wp (aiQ ta τ QL) (ta τ fun x => onQ x QL) := ⟨id⟩
instance w_iR1  : Wp (aiR1 (aCons ta aNil) τ QL) (ta τ fun x => onI x fun j => (-(2 ^ 62) ≤ j ∧ j < 2 ^ 62) ∧ QL (rng 0 j.toNat)) := ⟨fun h => by have e : (fun x => onI x fun j => (-(2 ^ 62) ≤ j ∧ j < 2 ^ 62) ∧ QL (rng 0 j.toNat)) = (fun x => match [x] with | [.int j] => (-(2 ^ 62) ≤ j ∧ j < 2 ^ 62) ∧ QL (rng 0 j.toNat) | _ => False) := (funext fun x => by cases x <;> rfl); rw [e] at h; exact h⟩
instance w_iZ  : Wp (aiZ (aCons ta (aCons tb aNil)) τ QL) (ta τ fun x => tb τ fun y => onQ x fun xs => onQ y fun ys => QL (zipP xs ys)) := ⟨id⟩
instance w_par  : Wp (aPar i j (aCons ta (aCons tb aNil)) ⟨nx, rt, bk, ct⟩ τ) (ta τ fun x => tb τ fun y => setA τ i (.val x) fun τ1 => setA τ1 j (.val y) nx) := ⟨id⟩
instance w_onI {R : Int → Prop} {k : Int} : Wp (onI (.int k) R) (R k) := ⟨id⟩
instance w_onB {R : Bool → Prop} {c : Bool} : Wp (onB (.bl c) R) (R c) := ⟨id⟩
instance w_onQT  : Wp (onQ (.tup xs) QL) (QL xs) := ⟨id⟩
instance w_onQL  : Wp (onQ (.lst xs) QL) (QL xs) := ⟨id⟩
instance w_onQF {q : Rat} : Wp (onQ (fr q) QL) (QL [.int q.num, .int q.den]) := ⟨id⟩
instance w_onQC {c : C4} : Wp (onQ (cor c) QL) (QL [fr c.1, fr c.2.1, fr c.2.2.1, fr c.2.2.2]) := ⟨id⟩
instance w_onQP {cs : List C4} : Wp (onQ (planP cs) QL) (QL (cs.map cor)) := ⟨id⟩
instance w_I {f : Int → Int → PV} {k l : Int} : Wp (fI f (.int k) (.int l) Q) (Q (f k l)) := ⟨id⟩
instance w_IC {C : Int → Int → Prop} {f : Int → Int → PV} {k l : Int} : Wp (fIC C f (.int k) (.int l) Q) (C k l ∧ Q (f k l)) := ⟨id⟩
instance w_isN_non  : Wp (fIsN .non .non Q) (Q (.bl true)) := ⟨id⟩
instance w_isN_int {k : Int} : Wp (fIsN (.int k) .non Q) (Q (.bl false)) := ⟨id⟩
instance w_isN_tup  : Wp (fIsN (.tup xs) .non Q) (Q (.bl false)) := ⟨id⟩
instance w_ix {k : Int} [h : Ix x k z] : Wp (fIx x (.int k) Q) (Q z) := ⟨fun q => s_ix h.e q⟩
instance w_neg {k : Int} : Wp (fNeg (.int k) Q) (Q (.int (-k))) := ⟨id⟩
instance w_not {c : Bool} : Wp (fNot (.bl c) Q) (Q (.bl (!c))) := ⟨id⟩
instance w_addI {k l : Int} : Wp (fAddA (.int k) (.int l) Q) (Q (.int (k + l))) := ⟨id⟩
instance w_addL  : Wp (fAddA (.lst xs) (.lst ys) Q) (xs.length + ys.length ≤ sizeLine ∧ Q (.lst (xs ++ ys))) := ⟨id⟩
instance w_eqI {k l : Int} : Wp (fEq (.int k) (.int l) Q) (Q (.bl (decide (k = l)))) := ⟨id⟩
instance w_neI {k l : Int} : Wp (fNe (.int k) (.int l) Q) (Q (.bl (!decide (k = l)))) := ⟨id⟩
instance w_eqB {k l : Bool} : Wp (fEq (.bl k) (.bl l) Q) (Q (.bl (decide (k = l)))) := ⟨id⟩
instance w_neF {k l : Rat} : Wp (fNe (fr k) (fr l) Q) (Q (.bl (!decide (k = l)))) := ⟨s_neF⟩
instance w_lenT  : Wp (gLen [.tup xs] Q) (Q (.int xs.length)) := ⟨id⟩
instance w_lenS {ns : List Int} : Wp (gLen [.scr ns] Q) (Q (.int ns.length)) := ⟨id⟩
instance w_lenP {cs : List C4} : Wp (gLen [planP cs] Q) (Q (.int cs.length)) := ⟨s_lenP⟩
instance (priority := high) w_lenMlst {α : Type} {f : α → PV} {cs : List α} : Wp (gLen [.lst (cs.map f)] Q) (Q (.int cs.length)) := ⟨fun h => by show Q (.int (cs.map f).length); rw [List.length_map]; exact h⟩
instance w_abs {k : Int} : Wp (gAbs [.int k] Q) (Q (.int k.natAbs)) := ⟨id⟩
instance w_i2 {f : Int → Int → Int} {k l : Int} : Wp (gI2 f [.int k, .int l] Q) (Q (.int (f k l))) := ⟨id⟩
instance w_intB {c : Bool} : Wp (gInt [.bl c] Q) (Q (.int (if c then 1 else 0))) := ⟨id⟩
instance w_tupL  : Wp (gTuple [.lst xs] Q) (Q (.tup xs)) := ⟨id⟩
instance w_slL {lo hi : Option Int} : Wp (fSl (.lst xs) lo hi Q) (Q (.lst (cutP xs lo hi))) := ⟨sl_lst'⟩
instance w_sl {l h : AO} : Wp (aSl ta l h τ Q) (ta τ fun x => l τ fun lo => h τ fun hi => fSl x lo hi Q) := ⟨id⟩
instance w_oN {R : Option Int → Prop} : Wp (aoN τ R) (R none) := ⟨id⟩
instance w_oS {R : Option Int → Prop} : Wp (aoS ta τ R) (ta τ fun x => onI x fun i => R (some i)) := ⟨id⟩
instance w_ift {A B : Prop} : Wp (if true = true then A else B) (A) := ⟨fun h => by rw [if_pos rfl]; exact h⟩
instance w_iff {A B : Prop} : Wp (if false = true then A else B) (B) := ⟨fun h => by rw [if_neg Bool.false_ne_true]; exact h⟩
instance w_iftn {A B : Prop} : Wp (if (!true) = true then A else B) (B) := ⟨fun h => h⟩
instance w_iffn {A B : Prop} : Wp (if (!false) = true then A else B) (A) := ⟨fun h => h⟩
instance w_d {p A B : Prop} [Decidable p] : Wp2 (if decide p = true then A else B) (p → A) (¬ p → B) := ⟨s_ifd⟩
instance w_dn {p A B : Prop} [Decidable p] : Wp2 (if (!decide p) = true then A else B) (¬ p → A) (p → B) := ⟨s_ifn⟩
instance w_sz0  {A : Prop} : Wp (([] : List PV).length ≤ sizeLine ∧ A) (A) := ⟨fun h => ⟨lz, h⟩⟩
instance w_len1 {p0 : PV} {A : Prop} : Wp ([p0].length = 1 ∧ A) (A) := ⟨fun h => ⟨rfl, h⟩⟩
instance w_len2 {p0 p1 : PV} {A : Prop} : Wp ([p0, p1].length = 2 ∧ A) (A) := ⟨fun h => ⟨rfl, h⟩⟩
instance w_sz2 {p0 p1 : PV} {A : Prop} : Wp ([p0, p1].length ≤ sizeLine ∧ A) (A) := ⟨fun h => ⟨lz, h⟩⟩
instance w_sy2 {p0 p1 : PV} {A : Prop} : Wp ([p0, p1].length < sizeLine ∧ A) (A) := ⟨fun h => ⟨lz, h⟩⟩
instance w_len3 {p0 p1 p2 : PV} {A : Prop} : Wp ([p0, p1, p2].length = 3 ∧ A) (A) := ⟨fun h => ⟨rfl, h⟩⟩
instance w_sz3 {p0 p1 p2 : PV} {A : Prop} : Wp ([p0, p1, p2].length ≤ sizeLine ∧ A) (A) := ⟨fun h => ⟨lz, h⟩⟩
instance w_len4 {p0 p1 p2 p3 : PV} {A : Prop} : Wp ([p0, p1, p2, p3].length = 4 ∧ A) (A) := ⟨fun h => ⟨rfl, h⟩⟩
instance w_sz4 {p0 p1 p2 p3 : PV} {A : Prop} : Wp ([p0, p1, p2, p3].length ≤ sizeLine ∧ A) (A) := ⟨fun h => ⟨lz, h⟩⟩
instance w_sy4 {p0 p1 p2 p3 : PV} {A : Prop} : Wp ([p0, p1, p2, p3].length < sizeLine ∧ A) (A) := ⟨fun h => ⟨lz, h⟩⟩
instance w_len5 {p0 p1 p2 p3 p4 : PV} {A : Prop} : Wp ([p0, p1, p2, p3, p4].length = 5 ∧ A) (A) := ⟨fun h => ⟨rfl, h⟩⟩
instance w_sz5 {p0 p1 p2 p3 p4 : PV} {A : Prop} : Wp ([p0, p1, p2, p3, p4].length ≤ sizeLine ∧ A) (A) := ⟨fun h => ⟨lz, h⟩⟩
instance w_mk1 {p0 : PV} : Wp (mkT [p0] Q) (Q (.tup [p0])) := ⟨fun h => ⟨lz, h⟩⟩
instance w_mk2 {p0 p1 : PV} : Wp (mkT [p0, p1] Q) (Q (.tup [p0, p1])) := ⟨fun h => ⟨lz, h⟩⟩
instance w_mk3 {p0 p1 p2 : PV} : Wp (mkT [p0, p1, p2] Q) (Q (.tup [p0, p1, p2])) := ⟨fun h => ⟨lz, h⟩⟩
instance w_mk4 {p0 p1 p2 p3 : PV} : Wp (mkT [p0, p1, p2, p3] Q) (Q (.tup [p0, p1, p2, p3])) := ⟨fun h => ⟨lz, h⟩⟩
instance (priority := high + 10) w_mkf0 : Wp (mkT [.int 0, .int 1] Q) (Q (fr 0)) := ⟨fun h => ⟨lz, h⟩⟩
instance (priority := high + 10) w_mkf1 : Wp (mkT [.int 1, .int 1] Q) (Q (fr 1)) := ⟨fun h => ⟨lz, h⟩⟩
instance (priority := high) w_mkfi {k : Int} : Wp (mkT [.int k, .int 1] Q) (Q (fr (k : Rat))) := ⟨fun h => ⟨lz, tup_int h⟩⟩
instance (priority := high) w_tc1 {k : Rat} {p q r : Rat} : Wp (fAddA (.tup [fr k]) (.tup [fr p, fr q, fr r]) Q) (Q (cor (k, p, q, r))) := ⟨fun h => ⟨lz, h⟩⟩
theorem fr_1_2 : PV.tup [.int 1, .int 2] = fr (1 / 2) := by unfold fr; rw [show ((1 : Rat) / 2).num = 1 by decide +kernel, show ((1 : Rat) / 2).den = 2 by decide +kernel]; rfl
instance (priority := high) w_mkr_1_2 : Wp (mkT [.int 1, .int 2] Q) (Q (fr (1 / 2))) := ⟨fun h => ⟨lz, by rw [fr_1_2]; exact h⟩⟩
theorem fr_1_3 : PV.tup [.int 1, .int 3] = fr (1 / 3) := by unfold fr; rw [show ((1 : Rat) / 3).num = 1 by decide +kernel, show ((1 : Rat) / 3).den = 3 by decide +kernel]; rfl
instance (priority := high) w_mkr_1_3 : Wp (mkT [.int 1, .int 3] Q) (Q (fr (1 / 3))) := ⟨fun h => ⟨lz, by rw [fr_1_3]; exact h⟩⟩
theorem fr_3_2 : PV.tup [.int 3, .int 2] = fr (3 / 2) := by unfold fr; rw [show ((3 : Rat) / 2).num = 3 by decide +kernel, show ((3 : Rat) / 2).den = 2 by decide +kernel]; rfl
instance (priority := high) w_mkr_3_2 : Wp (mkT [.int 3, .int 2] Q) (Q (fr (3 / 2))) := ⟨fun h => ⟨lz, by rw [fr_3_2]; exact h⟩⟩
instance w_nLf {q : Rat} {A : Prop} : Wp (noL (fr q) = true ∧ A) (A) := ⟨fun h => ⟨rfl, h⟩⟩
instance w_nLi {k : Int} {A : Prop} : Wp (noL (.int k) = true ∧ A) (A) := ⟨fun h => ⟨rfl, h⟩⟩
class Zp (xs ys : List PV) (zs : outParam (List PV)) : Prop where
  e : zipP xs ys = zs
instance zp_0 : Zp [] [] [] := ⟨rfl⟩
instance zp_1 [h : Zp xs ys zs] : Zp (x :: xs) (y :: ys) (.tup [x, y] :: zs) := ⟨by rw [← h.e]; rfl⟩
instance w_zcmp {te : AE} {acc : List PV} [h : Zp xs ys zs] : Wp (cmpGo g tt te τ QL (zipP xs ys) acc) (cmpGo g tt te τ QL zs acc) := ⟨fun k => by rw [h.e]; exact k⟩
instance w_zsz {A : Prop} [h : Zp xs ys zs] : Wp ((zipP xs ys).length < sizeLine ∧ A) (zs.length < sizeLine ∧ A) := ⟨fun k => by rw [h.e]; exact k⟩
instance (priority := high) w_cacc {te : AE} {acc q zs : List PV} [h : CatP acc [y] zs] : Wp (cmpGo g tt te τ QL q (acc ++ [y])) (cmpGo g tt te τ QL q zs) := ⟨fun k => by rw [h.e]; exact k⟩
instance wc_draw {m : Int} : WpC (F_draw [.tape, .int m] Q) (0 < m ∧ m < 4611686018427387904) (∀ r, 0 ≤ r → r < m → Q (.int r)) := ⟨fun c h => draw_ok c.1 c.2 h⟩
instance wc_tape {ns : List Int} {k : Int} : WpC (F_tape [.scr ns, .int k] Q) (0 ≤ k ∧ k ≤ 1000) (Q .tape) := ⟨fun c h => ⟨c, h⟩⟩
instance wc_F_minus {a b : Rat} : WpC (F_minus [fr a, fr b] Q) (Bd 4000 a ∧ Bd 4000 b) (Q (fr (a - b))) := ⟨fun c h => F_minus_ok c.1 c.2 h⟩
instance wc_F__law_sum {a b : Rat} : WpC (F__law_sum [fr a, fr b] Q) (Bd 4000 a ∧ Bd 4000 b) (Q (fr (a + b))) := ⟨fun c h => F__law_sum_ok c.1 c.2 h⟩
instance wc_F__law_off {a b : Rat} : WpC (F__law_off [fr a, fr b] Q) (Bd 4000 a ∧ Bd 4000 b) (Q (fr (a - b))) := ⟨fun c h => F__law_off_ok c.1 c.2 h⟩
instance wc_F__law_product {a b : Rat} : WpC (F__law_product [fr a, fr b] Q) (Bd 4000 a ∧ Bd 4000 b) (Q (fr (a * b))) := ⟨fun c h => F__law_product_ok c.1 c.2 h⟩
instance wc_F__law_greater {a b : Rat} : WpC (F__law_greater [fr a, fr b] Q) (Bd 4000 a ∧ Bd 4000 b) (Q (fr (mx a b))) := ⟨fun c h => F__law_greater_ok c.1 c.2 h⟩
instance wc_F_lesser {a b : Rat} : WpC (F_lesser [fr a, fr b] Q) (Bd 4000 a ∧ Bd 4000 b) (Q (fr (mn a b))) := ⟨fun c h => F_lesser_ok c.1 c.2 h⟩
instance wc_F_before {a b : Rat} : WpC (F_before [fr a, fr b] Q) (Bd 4000 a ∧ Bd 4000 b) (Q (.bl (decide (a < b)))) := ⟨fun c h => F_before_ok c.1 c.2 h⟩
instance wc_F_over {a b : Rat} : WpC (F_over [fr a, fr b] Q) (b ≠ 0 ∧ Bd 4000 a ∧ Bd 4000 b) (Q (fr (a / b))) := ⟨fun c h => F_over_ok c.1 c.2.1 c.2.2 h⟩
instance wc_F__law_ratio {a b : Rat} : WpC (F__law_ratio [fr a, fr b] Q) (b ≠ 0 ∧ Bd 4000 a ∧ Bd 4000 b) (Q (fr (a / b))) := ⟨fun c h => F__law_ratio_ok c.1 c.2.1 c.2.2 h⟩
instance wc_F__law_span  : WpC (F__law_span [.tape] Q) (True) (∀ a, Bd 8 a → 0 < a → Q (fr a)) := ⟨fun _ h => F__law_span_ok h⟩
instance wc_F__law_place  : WpC (F__law_place [.tape] Q) (True) (∀ a, Bd 8 a → Q (fr a)) := ⟨fun _ h => F__law_place_ok fun a m => h a (m.bd (by decide) (by decide))⟩
instance w_rl {lo : Int} {A : Prop} : Wp ((rng lo n).length < sizeLine ∧ A) (n < 16777216 ∧ A) := ⟨fun k => ⟨by rw [rng_length]; exact k.1, k.2⟩⟩
instance w_ml {α : Type} {f : α → PV} {cs : List α} {A : Prop} : Wp ((cs.map f).length < sizeLine ∧ A) (cs.length < 16777216 ∧ A) := ⟨fun k => ⟨by rw [List.length_map]; exact k.1, k.2⟩⟩
instance (priority := high) w_dselfn {α : Type} {k : α} [Decidable (k = k)] {A B : Prop} : Wp (if (!decide (k = k)) = true then A else B) B := ⟨fun h => by rw [if_neg (by simp)]; exact h⟩
instance wc_slto {cs : List C4} {k : Int} : WpC (fSl (planP cs) none (some k) Q) (0 ≤ k ∧ k ≤ cs.length) (Q (planP (cs.take k.toNat))) := ⟨fun c h => sl_to (k := k.toNat) (by omega) (by omega) h⟩
instance wc_slfrom {cs : List C4} {k : Int} : WpC (fSl (planP cs) (some k) none Q) (0 ≤ k ∧ k ≤ cs.length) (Q (planP (cs.drop k.toNat))) := ⟨fun c h => sl_from (k := k.toNat) (by omega) (by omega) h⟩
instance wc_addP {cs ds : List C4} : WpC (fAddA (planP cs) (planP ds) Q) (cs.length + ds.length ≤ 10000) (Q (planP (cs ++ ds))) := ⟨fun c h => cat_plan c h⟩
instance wc_add1 {cs : List C4} {c : C4} : WpC (fAddA (planP cs) (.tup [cor c]) Q) (cs.length ≤ 9000) (Q (planP (cs ++ [c]))) := ⟨fun k h => cat_plan (ds := [c]) (by simp; omega) h⟩
theorem ixAll {α : Type} {f : α → PV} {cs : List α} {k : Int} {R : PV → Prop} (c : 0 ≤ k ∧ k < cs.length) (h : ∀ c, cs[k.toNat]? = some c → c ∈ cs → R (f c)) : onO (atI (cs.map f) k) R := by
  have hk : k.toNat < cs.length := by omega
  have e : atI (cs.map f) ((k.toNat : Nat) : Int) = some (f cs[k.toNat]) := atI_nat (by rw [List.getElem?_map, List.getElem?_eq_getElem hk] <;> rfl)
  rw [show k = ((k.toNat : Nat) : Int) by omega, e]
  exact h _ (List.getElem?_eq_getElem hk) (List.getElem_mem hk)
instance wc_ixP {cs : List C4} {k : Int} : WpC (fIx (planP cs) (.int k) Q) (0 ≤ k ∧ k < cs.length) (∀ c, cs[k.toNat]? = some c → c ∈ cs → Q (cor c)) := ⟨fun c h => ixAll c h⟩
instance wc_ixL {α : Type} {f : α → PV} {cs : List α} {k : Int} : WpC (fIx (.lst (cs.map f)) (.int k) Q) (0 ≤ k ∧ k < cs.length) (∀ c, cs[k.toNat]? = some c → c ∈ cs → Q (f c)) := ⟨fun c h => ixAll c h⟩
instance w_slc1 {c : C4} : Wp (fSl (cor c) (some 1) none Q) (Q (.tup [fr c.2.1, fr c.2.2.1, fr c.2.2.2])) := ⟨fun h => sl_tup' h⟩
class Lk (tb : List (Str × PV)) (s : Str) (v : outParam PV) : Prop where
  e : tb.lookup s = some v
end
end PL
end
section
set_option Elab.async false
set_option linter.all false
set_option maxRecDepth 100000
set_option maxHeartbeats 400000
/-! Steps for isinstance against written types. -/
namespace PL
open PySem L2 PyProof.Rows
class SeqTs (Ts : List String) : Prop where
  q : Ts.any (isiB .tup) = true ∧ Ts.any (isiB .lst) = true ∧ Ts.any (isiB .int) = false ∧ Ts.any (isiB .bl) = false ∧ Ts.any (isiB .non) = false ∧ Ts.any (isiB .str) = false
instance : SeqTs ["tuple", "list"] := ⟨by decide⟩
instance : SeqTs ["list", "tuple"] := ⟨by decide⟩
section
variable {Ts : List String} [h : SeqTs Ts] {Q : PV → Prop} {xs : List PV}
end
end PL
end
open PySem L2 PL PyProof.Rows
local macro_rules | `(tactic| decreasing_trivial_pre_omega) => `(tactic| first | assumption | omega | ((apply Bd.mono); (focus (repeat' (first | assumption | exact CBd.m (by assumption) | exact CBd.x (by assumption) | exact CBd.y (by assumption) | exact CBd.z (by assumption) | exact bd0 | exact bd1 | with_reducible apply Bd.add | with_reducible apply Bd.sub | with_reducible apply Bd.mul | with_reducible apply Bd.neg | with_reducible apply Bd.mx | with_reducible apply Bd.mn))); first | omega | decide) | decide | (simp only [List.length_map, List.length_append, List.length_cons, List.length_nil, List.length_take, List.length_drop, List.length_zip, List.length_reverse]; omega) | (show _ ≤ 16777216; simp only [List.length_map, List.length_append, List.length_cons, List.length_nil, List.length_take, List.length_drop, List.length_zip, List.length_reverse]; omega) | (show _ < 16777216; simp only [List.length_map, List.length_append, List.length_cons, List.length_nil, List.length_take, List.length_drop, List.length_zip, List.length_reverse]; omega) | (refine And.intro ?_ ?_ <;> decreasing_trivial_pre_omega) | exact rfl)
local macro_rules | `(tactic| array_mem_dec) => `(tactic| first
  | refine Wp.go ?_
  | ((refine WpC.go ?_ ?_); focus (first | exact True.intro | decreasing_trivial_pre_omega))
  | ((with_reducible apply And.intro); focus decreasing_trivial_pre_omega)
  | ((with_reducible apply s_ifdT); focus decide)
  | ((with_reducible apply s_ifdF); focus decide)
  | ((with_reducible apply s_ifnT); focus decide)
  | ((with_reducible apply s_ifnF); focus decide)
  | refine Wp2.go (fun _ => ?_) (fun _ => ?_)
  | ((with_reducible apply s_ixPl); focus assumption)
  | ((with_reducible apply s_all); focus exact rfl)
  | ((with_reducible apply s_isi); (focus (first | exact .inl rfl | exact .inr (.inl rfl) | exact .inr (.inr (.inl rfl)) | exact .inr (.inr (.inr rfl)))); (focus exact rfl))
  | ((with_reducible apply s_ifT); focus exact rfl)
  | ((with_reducible apply s_ifF); focus exact rfl)
  | intro _
  | with_reducible rfl)
local macro_rules | `(tactic| array_get_dec) => `(tactic| first | array_mem_dec | refine WpU.go ?_ | fail)
section
set_option Elab.async false
set_option linter.all false
set_option maxRecDepth 100000
set_option maxHeartbeats 400000
/-! Shapes: what they make of a plan. -/
namespace PL
open PySem L2 PyProof.Rows
end PL
end
section
set_option Elab.async false
set_option linter.all false
set_option maxRecDepth 100000
set_option maxHeartbeats 400000
namespace PL
open PySem L2 PyProof.Rows
/-- first and last of a plan -/
theorem PlanOk.open {n B : Nat} {cs : List C4} (p : PlanOk n B cs) : ∃ a r l, cs = a :: r ∧ r ≠ [] ∧ (a :: r).getLast? = some l ∧ a.1 < l.1 := by
  obtain ⟨two, few, bd, ris⟩ := p
  match cs, two, ris with
  | a :: b0 :: r, _, ris => exact ⟨a, b0 :: r, _, rfl, by simp, List.getLast?_eq_some_getLast (by simp), (List.pairwise_cons.mp ris).1 _ (List.mem_of_getLast? (last_cons (List.getLast?_eq_some_getLast (by simp))))⟩
end PL
end
section
set_option Elab.async false
set_option linter.all false
set_option maxRecDepth 100000
set_option maxHeartbeats 400000
namespace PL
open PySem L2 PyProof.Rows
abbrev B_size_of : AS :=
  (aRet (aIf (aTst (aOp fEq (aV 1) (aC (.int 2)))) (aOp fIx (aV 0) (aC (.int 1))) (aOp fIx (aV 0) (aC (.int 0)))))
def F_size_of : AF := aBody 2 B_size_of
theorem s_F_size_of {x0 x1 : PV} {Q : PV → Prop} (h : B_size_of ⟨fun _ => Q .non, Q, fun _ => False, fun _ => False⟩ [some (.val x0), some (.val x1)]) : F_size_of [x0, x1] Q := h
/-- a flight as it is handed in -/
def BndV (b : T3) (v : PV) : Prop := v = t3P b ∨ v = .lst [fr b.1, fr b.2.1, fr b.2.2]
def FlyV (cs : List C4) (b : T3) (v : PV) : Prop := ∃ p w, PlanV cs p ∧ BndV b w ∧ (v = .tup [p, w] ∨ v = .lst [p, w])
def AptV (d : Rat × Rat) (v : PV) : Prop := v = .tup [fr d.1, fr d.2] ∨ v = .lst [fr d.1, fr d.2]
theorem pv0 {a : C4} {r : List C4} {v : PV} {R : PV → Prop} (hv : PlanV (a :: r) v) (h : ∀ x, (x = cor a ∨ x = corL a) → R x) : fIx v (.int 0) R := by
  obtain ⟨f, hf, hv⟩ := hv
  have hx : f a = cor a ∨ f a = corL a := by rcases hf with rfl | rfl <;> simp
  rcases hv with rfl | rfl
  · show onO (atI (f a :: r.map f) 0) R
    rw [show atI (f a :: r.map f) 0 = some (f a) from atI_nat (j := 0) rfl]
    exact h _ hx
  · show onO (atI (f a :: r.map f) 0) R
    rw [show atI (f a :: r.map f) 0 = some (f a) from atI_nat (j := 0) rfl]
    exact h _ hx
theorem pvL {cs : List C4} {l : C4} {v : PV} {R : PV → Prop} (hv : PlanV cs v) (el : cs.getLast? = some l) (h : ∀ x, (x = cor l ∨ x = corL l) → R x) : fIx v (.int (-1)) R := by
  obtain ⟨f, hf, hv⟩ := hv
  have hx : f l = cor l ∨ f l = corL l := by rcases hf with rfl | rfl <;> simp
  rcases hv with rfl | rfl
  · exact get_last el (h _ hx)
  · exact get_last el (h _ hx)
theorem c0 {x : PV} {c : C4} {R : PV → Prop} (hx : x = cor c ∨ x = corL c) (h : R (fr c.1)) : fIx x (.int 0) R := by
  rcases hx with rfl | rfl <;> exact h
theorem f0 {cs : List C4} {b : T3} {v : PV} {R : PV → Prop} (hv : FlyV cs b v) (h : ∀ p, PlanV cs p → R p) : fIx v (.int 0) R := by
  obtain ⟨p, w, hp, hw, hv⟩ := hv
  rcases hv with rfl | rfl <;> exact h p hp
theorem f1 {cs : List C4} {b : T3} {v : PV} {R : PV → Prop} (hv : FlyV cs b v) (h : ∀ w, BndV b w → R w) : fIx v (.int 1) R := by
  obtain ⟨p, w, hp, hw, hv⟩ := hv
  rcases hv with rfl | rfl <;> exact h w hw
theorem b2 {b : T3} {w : PV} {R : PV → Prop} (hw : BndV b w) (h : R (fr b.2.2)) : fIx w (.int 2) R := by
  rcases hw with rfl | rfl <;> exact h
theorem lt_sz {k n : Nat} (h : k ≤ n) (hn : n < 1000000) : k < sizeLine := Nat.lt_of_le_of_lt h (Nat.lt_of_lt_of_le hn (Nat.le_of_ble_eq_true rfl))
theorem size_ok {w : PV} {x y : Rat} {k : Int} (h0 : ∀ {R : PV → Prop}, R (fr x) → fIx w (.int 0) R) (h1 : ∀ {R : PV → Prop}, R (fr y) → fIx w (.int 1) R) {Q : PV → Prop} (q : Q (fr (if k = 2 then y else x))) : F_size_of [w, .int k] Q := by
  apply s_F_size_of
  repeat' array_mem_dec
  · rename_i h
    rw [if_pos h] at q
    exact h1 q
  · rename_i h
    rw [if_neg h] at q
    exact h0 q
theorem apt_size {d : Rat × Rat} {w : PV} {k : Int} (hw : AptV d w) {Q : PV → Prop} (q : Q (fr (if k = 2 then d.2 else d.1))) : F_size_of [w, .int k] Q :=
  size_ok (fun h => by rcases hw with rfl | rfl <;> exact h) (fun h => by rcases hw with rfl | rfl <;> exact h) q
theorem abs_is (r : Rat) : PV.tup [.int (r.num.natAbs : Int), .int r.den] = fr (if r < 0 then -r else r) := by
  unfold fr
  by_cases h : r < 0
  · rw [if_pos h, Rat.neg_num, Rat.neg_den]
    have : ¬ 0 ≤ r.num := fun z => by have := Rat.num_nonneg.mp z; grind
    rw [show ((r.num.natAbs : Nat) : Int) = -r.num by omega]
  · rw [if_neg h]
    have : 0 ≤ r.num := Rat.num_nonneg.mpr (by grind)
    rw [show ((r.num.natAbs : Nat) : Int) = r.num by omega]
end PL
end
section
set_option Elab.async false
set_option linter.all false
set_option maxRecDepth 100000
set_option maxHeartbeats 400000
/-! Two plans beside one another, as the laws draw them. -/
namespace PL
open PySem L2 PyProof.Rows
def B__law_plan_20_b0_t2 : AS :=
  (aSeq (aIfS (aTst (aOp fGt (aV 5) (aC (.int 3)))) (aAsg (aFr (aLst (aCons (aCall 1 F__law_place (aCons (aV 0) aNil)) (aCons (aCall 1 F__law_place (aCons (aV 0) aNil)) (aCons (aCall 1 F__law_place (aCons (aV 0) aNil)) aNil))))) (agN 3)) (aIfS (aTst (aOp fGt (aV 5) (aC (.int 0)))) (aAsg (aOp fAddA (aOp fAddA (aSl (aV 3) aoN (aoS (aOp fSub (aV 5) (aC (.int 1))))) (aFr (aLst (aCons (aCall 1 F__law_place (aCons (aV 0) aNil)) aNil)))) (aSl (aV 3) (aoS (aV 5)) aoN)) (agN 3)) aNext))
    (aMeth 4 mApp (aCons (aTup (aCons (aV 2) (aCons (aOp fIx (aV 3) (aC (.int 0))) (aCons (aOp fIx (aV 3) (aC (.int 1))) (aCons (aOp fIx (aV 3) (aC (.int 2))) aNil))))) aNil)))
def B__law_plan_20_b0_t1 : AS :=
  (aSeq (aAsg (aCall 2 F_draw (aCons (aV 0) (aCons (aC (.int 6)) aNil))) (agN 5))
    B__law_plan_20_b0_t2)
def B__law_plan_20_b0 : AS :=
  (aSeq (aAsg (aCall 2 F__law_sum (aCons (aV 2) (aCons (aCall 1 F__law_span (aCons (aV 0) aNil)) aNil))) (agN 2))
    B__law_plan_20_b0_t1)
def B__law_plan_20_t5 : AS :=
  (aSeq (aWhile (aTst (aOp fLt (aCB gLen (aCons (aV 4) aNil)) (aV 1))) B__law_plan_20_b0)
    (aRet (aCB gTuple (aCons (aV 4) aNil))))
def B__law_plan_20_t4 : AS :=
  (aSeq (aNew (aLst (aCons (aTup (aCons (aV 2) (aCons (aOp fIx (aV 3) (aC (.int 0))) (aCons (aOp fIx (aV 3) (aC (.int 1))) (aCons (aOp fIx (aV 3) (aC (.int 2))) aNil))))) aNil)) 4)
    B__law_plan_20_t5)
def B__law_plan_20_t3 : AS :=
  (aSeq (aAsg (aFr (aLst (aCons (aCall 1 F__law_place (aCons (aV 0) aNil)) (aCons (aCall 1 F__law_place (aCons (aV 0) aNil)) (aCons (aCall 1 F__law_place (aCons (aV 0) aNil)) aNil))))) (agN 3))
    B__law_plan_20_t4)
def B__law_plan_20_t2 : AS :=
  (aSeq (aAsg (aTup (aCons (aCall 2 F_draw (aCons (aV 0) (aCons (aC (.int 12)) aNil))) (aCons (aC (.int 1)) aNil))) (agN 2))
    B__law_plan_20_t3)
def B__law_plan_20_t1 : AS :=
  (aSeq (aIfS (aTst (aOp fEq (aCall 2 F_draw (aCons (aV 0) (aCons (aC (.int 8)) aNil))) (aC (.int 0)))) (aAsg (aOp fIx (aFr (aLst (aCons (aC (.int 7)) (aCons (aC (.int 8)) (aCons (aC (.int 9)) (aCons (aC (.int 12)) aNil)))))) (aCall 2 F_draw (aCons (aV 0) (aCons (aC (.int 4)) aNil)))) (agN 1)) aNext)
    B__law_plan_20_t2)
def B__law_plan_20 : AS :=
  (aSeq (aAsg (aOp fAddA (aC (.int 2)) (aCall 2 F_draw (aCons (aV 0) (aCons (aC (.int 4)) aNil)))) (agN 1))
    B__law_plan_20_t1)
def F__law_plan_20 : AF := aBody 6 B__law_plan_20
theorem plan20_t2 (many : Int) (z2 z3 z5 : Option AV) (z4 : Option AV) (h0 : 2 ≤ many) (h1 : many ≤ 12) {Q : PV → Prop} (h : ∀ cs, PlanM 12 6 600 cs → Q (planP cs)) :
    B__law_plan_20_t2 { nx := fun _ => Q .non, rt := Q, bk := fun _ => False, ct := fun _ => False } [some (.val .tape), some (.val (.int many)), z2, z3, z4, z5] := by
  refine ⟨rfl, draw_ok (by decide) (by decide) fun m m0 m1 => ⟨lz, ?_⟩⟩
  refine ⟨rfl, F__law_place_ok fun x hx => ⟨rfl, F__law_place_ok fun y hy => ⟨rfl, F__law_place_ok fun z hz => ⟨lz, ?_⟩⟩⟩⟩
  refine ⟨lz, lz, ?_⟩
  refine ⟨(many - 1).toNat + 1, wh_ind (fun n τ => ∃ (cs : List C4) (c : C4) (z5 : Option AV), n + (cs.length + 1) = many.toNat + 1 ∧ 1 ≤ n ∧ (∀ d ∈ cs ++ [c], CMul 6 (66 + 48 * cs.length) d) ∧ (Mul 6 60 c.2.1 ∧ Mul 6 60 c.2.2.1 ∧ Mul 6 60 c.2.2.2) ∧ Ris (cs ++ [c]) ∧
    τ = [some (.val .tape), some (.val (.int many)), some (.val (fr c.1)), some (.val (.lst [fr c.2.1, fr c.2.2.1, fr c.2.2.2])), some (.own ((cs ++ [c]).map cor)), z5]) ?_ ?_ _ _ ⟨[], ((m : Rat), x, y, z), z5, ?_, ?_, ?_, ?_, ?_, ?_⟩⟩
  · rintro τ ⟨cs, c, z5, _, hn, _⟩
    omega
  · rintro n τ R hR ⟨cs, c, z5, hn, h1', hb, h8, hr, rfl⟩
    have hlen : (((cs ++ [c]).map cor).length : Int) = (cs.length : Int) + 1 := by simp
    refine iteB (b := decide ((((cs ++ [c]).map cor).length : Int) < many)) (fun z => ?_) (fun z => ?_)
    · have z' : (((cs ++ [c]).map cor).length : Int) < many := of_decide_eq_true z
      rw [hlen] at z'
      have cb := hb c (by simp)
      refine ⟨rfl, F__law_span_okM fun s sb s0 sm => ⟨rfl, F__law_sum_ok ((cb.m.bd (n := 12) (by omega) (by decide)).mono (by omega)) (sb.mono (by omega)) ?_⟩⟩
      refine ⟨rfl, draw_ok (by decide) (by decide) fun w w0 w1 => ?_⟩
      have fin : ∀ (D' : AEnds) (x y z : Rat) (z5 : Option AV), D'.nx = R → Mul 6 60 x → Mul 6 60 y → Mul 6 60 z → aMeth 4 mApp (aCons (aTup (aCons (aV 2) (aCons (aOp fIx (aV 3) (aC (.int 0))) (aCons (aOp fIx (aV 3) (aC (.int 1))) (aCons (aOp fIx (aV 3) (aC (.int 2))) aNil))))) aNil)
          D' [some (.val .tape), some (.val (.int many)), some (.val (fr (c.1 + s))), some (.val (.lst [fr x, fr y, fr z])), some (.own ((cs ++ [c]).map cor)), z5] := by
        intro D' x y z z5 eD bx by' bz
        refine ⟨lz, ?_, ?_⟩
        · show _ < 16777216; omega
        · rw [eD]
          have mb : Mul 6 (66 + 48 * (cs.length + 1)) (c.1 + s) := (cb.m.add sm).mono (by omega)
          refine hR _ ⟨cs ++ [c], (c.1 + s, x, y, z), z5, by simp; omega, by omega, ?_, ⟨bx, by', bz⟩, ris_snoc hr ?_, ?_⟩
          · intro d hd
            rcases List.mem_append.mp hd with hd | hd
            · exact (hb d hd).mono (by simp; omega)
            · simp at hd; subst hd
              have e : (cs ++ [c]).length = cs.length + 1 := by simp
              rw [e]
              exact ⟨mb, bx.mono (by omega), by'.mono (by omega), bz.mono (by omega)⟩
          · show c.1 < c.1 + s; grind
          · rw [List.map_append (l₁ := cs ++ [c])]; rfl
      refine iteB (b := decide (3 < w)) (fun _ => ?_) (fun z3 => ?_)
      · exact ⟨rfl, F__law_place_ok fun x hx => ⟨rfl, F__law_place_ok fun y hy => ⟨rfl, F__law_place_ok fun z hz => ⟨lz, fin _ x y z _ rfl hx hy hz⟩⟩⟩⟩
      refine iteB (b := decide (0 < w)) (fun z4 => ?_) (fun z4 => ?_)
      · have a3 : ¬ 3 < w := of_decide_eq_false z3
        have a4 : 0 < w := of_decide_eq_true z4
        have hw : w = 1 ∨ w = 2 ∨ w = 3 := by omega
        rcases hw with rfl | rfl | rfl
        · exact sl_lst' ⟨rfl, F__law_place_ok fun p hp => ⟨lz, lz, sl_lst' ⟨lz, fin _ p _ _ _ rfl hp h8.2.1 h8.2.2⟩⟩⟩
        · exact sl_lst' ⟨rfl, F__law_place_ok fun p hp => ⟨lz, lz, sl_lst' ⟨lz, fin _ _ p _ _ rfl h8.1 hp h8.2.2⟩⟩⟩
        · exact sl_lst' ⟨rfl, F__law_place_ok fun p hp => ⟨lz, lz, sl_lst' ⟨lz, fin _ _ _ p _ rfl h8.1 h8.2.1 hp⟩⟩⟩
      · exact fin _ _ _ _ _ rfl h8.1 h8.2.1 h8.2.2
    · have z' : ¬ (((cs ++ [c]).map cor).length : Int) < many := of_decide_eq_false z
      rw [hlen] at z'
      refine h (cs ++ [c]) ⟨by simp; omega, by simp; omega, fun d hd => (hb d hd).mono (by omega), hr⟩
  · simp; omega
  · omega
  · intro d hd
    simp at hd; subst hd
    exact ⟨.int (by decide) (by simp; omega), hx.mono (by decide), hy.mono (by decide), hz.mono (by decide)⟩
  · exact ⟨hx, hy, hz⟩
  · exact List.pairwise_singleton _ _
  · simp only [cor, fr_int, List.nil_append, List.map_cons, List.map_nil]
    rfl
theorem plan20_ok {Q : PV → Prop} (h : ∀ cs, PlanM 12 6 600 cs → Q (planP cs)) : F__law_plan_20 [.tape] Q := by
  refine ⟨rfl, draw_ok (by decide) (by decide) fun a a0 a1 => ⟨rfl, draw_ok (by decide) (by decide) fun b b0 b1 => ?_⟩⟩
  refine iteB (b := decide (b = 0)) (fun _ => ?_) (fun _ => ?_)
  · refine ⟨lz, rfl, draw_ok (by decide) (by decide) fun c c0 c1 => ?_⟩
    have hc : c = 0 ∨ c = 1 ∨ c = 2 ∨ c = 3 := by omega
    rcases hc with rfl | rfl | rfl | rfl
    · exact plan20_t2 7 _ _ _ _ (by omega) (by omega) h
    · exact plan20_t2 8 _ _ _ _ (by omega) (by omega) h
    · exact plan20_t2 9 _ _ _ _ (by omega) (by omega) h
    · exact plan20_t2 12 _ _ _ _ (by omega) (by omega) h
  · exact plan20_t2 (2 + a) _ _ _ _ (by omega) (by omega) h
abbrev B__law_moved_20 : AS :=
  (aRet (aCB gTuple (aCons (aFr (aComp (aiQ (aV 0)) 1 [1, 2] (agN 0) aYes (aOp fAddA (aTup (aCons (aCall 2 F__law_sum (aCons (aOp fIx (aV 0) (aC (.int 0))) (aCons (aV 1) aNil))) aNil)) (aCB gTuple (aCons (aFr (aComp (aiR1 (aCons (aC (.int 3)) aNil)) 1 [0, 2] (agN 0) aYes (aCall 2 F__law_sum (aCons (aOp fIx (aV 1) (aOp fAddA (aV 0) (aC (.int 1)))) (aCons (aOp fIx (aV 2) (aV 0)) aNil))))) aNil))))) aNil)))
def F__law_moved_20 : AF := aBody 3 B__law_moved_20
theorem s_F__law_moved_20 {x0 x1 x2 : PV} {Q : PV → Prop} (h : B__law_moved_20 ⟨fun _ => Q .non, Q, fun _ => False, fun _ => False⟩ [some (.val x0), some (.val x1), some (.val x2)]) : F__law_moved_20 [x0, x1, x2] Q := h
abbrev B__law_apart : AS :=
  (aSeq (aAsg (aFr (aLst (aCons (aTup (aCons (aC (.int 1)) (aCons (aC (.int 1)) aNil))) (aCons (aTup (aCons (aC (.int 2)) (aCons (aC (.int 1)) aNil))) (aCons (aTup (aCons (aC (.int 3)) (aCons (aC (.int 2)) aNil))) (aCons (aTup (aCons (aC (.int 1)) (aCons (aC (.int 3)) aNil))) (aCons (aTup (aCons (aC (.int 5)) (aCons (aC (.int 1)) aNil))) aNil))))))) (agN 1))
    (aRet (aTup (aCons (aOp fIx (aV 1) (aCall 2 F_draw (aCons (aV 0) (aCons (aC (.int 5)) aNil)))) (aCons (aOp fIx (aV 1) (aCall 2 F_draw (aCons (aV 0) (aCons (aC (.int 5)) aNil)))) aNil)))))
def F__law_apart : AF := aBody 2 B__law_apart
theorem s_F__law_apart {x0 : PV} {Q : PV → Prop} (h : B__law_apart ⟨fun _ => Q .non, Q, fun _ => False, fun _ => False⟩ [some (.val x0), none]) : F__law_apart [x0] Q := h
theorem ix_any {xs : List PV} {k : Int} {R : PV → Prop} (h0 : 0 ≤ k) (h1 : k < xs.length) (h : ∀ x ∈ xs, R x) : fIx (.lst xs) (.int k) R := by
  show onO (atI xs k) R
  have hk : xs[k.toNat]? = some (xs[k.toNat]'(by omega)) := List.getElem?_eq_getElem (by omega)
  have e := atI_nat hk
  rw [show ((k.toNat : Nat) : Int) = k by omega] at e
  rw [e]
  exact h _ (List.getElem_mem _)
theorem ix_frs {xs : List Rat} {k : Int} {R : PV → Prop} (h0 : 0 ≤ k) (h1 : k < xs.length) (h : ∀ x ∈ xs, R (fr x)) : fIx (.lst (xs.map fr)) (.int k) R := by
  refine ix_any h0 (by simpa using h1) fun x hx => ?_
  obtain ⟨y, hy, rfl⟩ := List.mem_map.mp hx
  exact h y hy
theorem sm8 {r : Rat} (h : r.num.natAbs < 2 ^ 8 := by decide +kernel) (h2 : r.den < 2 ^ 8 := by decide +kernel) : Bd 8 r := ⟨h, h2⟩
theorem apart_ok {Q : PV → Prop} (q : ∀ d : Rat × Rat, Bd 8 d.1 → Bd 8 d.2 → 1 / 3 ≤ d.1 → 1 / 3 ≤ d.2 → Q (.tup [fr d.1, fr d.2])) : F__law_apart [.tape] Q := by
  apply s_F__law_apart
  have all : ∀ x ∈ [(1 : Rat), 2, 3/2, 1/3, 5], Bd 8 x ∧ 1 / 3 ≤ x := by
    intro x hx
    simp only [List.mem_cons, List.not_mem_nil, or_false] at hx
    rcases hx with rfl | rfl | rfl | rfl | rfl <;> exact ⟨sm8, by decide +kernel⟩
  repeat' array_mem_dec
  refine ix_frs (xs := [(1 : Rat), 2, 3/2, 1/3, 5]) (by omega) (by show _ < (5 : Int); omega) fun x hx => ?_
  repeat' array_mem_dec
  refine ix_frs (xs := [(1 : Rat), 2, 3/2, 1/3, 5]) (by omega) (by show _ < (5 : Int); omega) fun y hy => ?_
  repeat' array_mem_dec
  exact q (x, y) (all x hx).1 (all y hy).1 (all x hx).2 (all y hy).2
theorem cmp_all {g : AG} {te : AE} {τ0 : ASt} {Q : List PV → Prop} (P K : PV → Prop)
    (hs : ∀ x, P x → ∀ R : PV → Prop, (∀ y, K y → R y) → g x τ0 fun τ1 => te τ1 R) :
    ∀ (xs acc : List PV), (∀ x ∈ xs, P x) → (∀ y ∈ acc, K y) → (∀ ys, ys.length = acc.length + xs.length → (∀ y ∈ ys, K y) → Q ys) → cmpGo g aYes te τ0 Q xs acc
  | [], acc, _, ha, h => h acc (by simp) ha
  | x :: xs, acc, hp, ha, h => by
    refine hs x (hp x (by simp)) (fun y => cmpGo g aYes te τ0 Q xs (acc ++ [y])) fun y hy => ?_
    refine cmp_all P K hs xs _ (fun b hb => hp b (by simp [hb])) (fun z hz => ?_) fun ys hl hy => h ys (by simp at hl ⊢; omega) hy
    rcases List.mem_append.mp hz with hz | hz
    · exact ha z hz
    · simp at hz; subst hz; exact hy
abbrev movC (t : Rat) (o : T3) (c : C4) : C4 := (c.1 + t, c.2.1 + o.1, c.2.2.1 + o.2.1, c.2.2.2 + o.2.2)
theorem moved20_ok {cs : List C4} {t : Rat} {o : T3} {v : PV} {B m : Nat} (hv : v = .lst [fr o.1, fr o.2.1, fr o.2.2]) (hl : cs.length ≤ 100) (hc : ∀ c ∈ cs, CBd B c) (bt : Bd m t) (bo : TBd m o) (hB : B ≤ 4000) (hm : m ≤ 4000) {Q : PV → Prop} (q : Q (planP (cs.map (movC t o)))) : F__law_moved_20 [planP cs, fr t, v] Q := by
  subst hv
  have bx := bo.x
  have by' := bo.y
  have bz := bo.z
  apply s_F__law_moved_20
  repeat' array_mem_dec
  refine cmp_map cor cor (movC t o) (CBd B) (fun c bc R hR => ?_) cs [] hc ?_
  · repeat' array_mem_dec
    rw [show rng 0 (Int.toNat 3) = [.int 0, .int 1, .int 2] from rfl]
    repeat' array_get_dec
    rw [show (0 : Int) + 1 = 1 from rfl]
    repeat' array_get_dec
    rw [show (1 : Int) + 1 = 2 from rfl]
    repeat' array_get_dec
    rw [show (2 : Int) + 1 = 3 from rfl]
    repeat' array_get_dec
    exact hR
  repeat' array_mem_dec
  exact q
instance w_iZR {ta tb : AE} {τ : ASt} {QL : List PV → Prop} : Wp (aiZR ta tb τ QL) (ta τ fun x => tb τ fun y => match x, y with | .tup xs, .tup ys => xs.length = ys.length ∧ QL (zipP xs ys.reverse) | _, _ => False) := ⟨id⟩
section
variable {τ : ASt}
instance w_put20 {i : Nat} {ti ta : AE} {nx bk ct : ASt → Prop} {rt : PV → Prop} : Wp (aPut i ti ta ⟨nx, rt, bk, ct⟩ τ) (ta τ fun y => aOwn i τ fun xs => ti τ fun k => onI k fun k => onN (ixN xs.length k) fun j => setA τ i (.own (xs.set j y)) nx) := ⟨id⟩
instance w_own20 {i : Nat} {xs : List PV} {P : List PV → Prop} [h : Nth τ i (.own xs)] : Wp (aOwn i τ P) (P xs) := ⟨fun k => by unfold aOwn; rw [h.e]; exact k⟩
end
instance w_sh1b {c : C4} {Q : PV → Prop} : Wp (fSl (cor c) none (some 1) Q) (Q (.tup [fr c.1])) := ⟨fun h => sl_tup' h⟩
abbrev B__law_beside_b0 : AS :=
  (aSeq (aAsg (aCall 1 F__law_plan_20 (aCons (aV 0) aNil)) (agN 6))
    (aRet (aCall 3 F__law_moved_20 (aCons (aV 6) (aCons (aCall 2 F__law_off (aCons (aOp fIx (aOp fIx (aV 1) (aUn fNeg (aC (.int 1)))) (aC (.int 0))) (aCons (aOp fIx (aOp fIx (aV 6) (aC (.int 0))) (aC (.int 0))) aNil))) (aCons (aFr (aLst (aCons (aTup (aCons (aC (.int 0)) (aCons (aC (.int 1)) aNil))) (aCons (aTup (aCons (aC (.int 0)) (aCons (aC (.int 1)) aNil))) (aCons (aTup (aCons (aC (.int 0)) (aCons (aC (.int 1)) aNil))) aNil))))) aNil))))))
abbrev B__law_beside_b1_t1 : AS :=
  (aSeq (aAsg (aTup (aCons (aCall 1 F__law_place (aCons (aV 0) aNil)) (aCons (aCall 1 F__law_place (aCons (aV 0) aNil)) (aCons (aCall 1 F__law_place (aCons (aV 0) aNil)) aNil)))) (agN 8))
    (aRet (aOp fAddA (aOp fAddA (aSl (aV 1) aoN (aoS (aV 7))) (aTup (aCons (aOp fAddA (aSl (aOp fIx (aV 1) (aV 7)) aoN (aoS (aC (.int 1)))) (aV 8)) aNil))) (aSl (aV 1) (aoS (aOp fAddA (aV 7) (aC (.int 1)))) aoN))))
abbrev B__law_beside_b1 : AS :=
  (aSeq (aAsg (aCall 2 F_draw (aCons (aV 0) (aCons (aCB gLen (aCons (aV 1) aNil)) aNil))) (agN 7))
    B__law_beside_b1_t1)
abbrev B__law_beside_b2 : AS :=
  (aSeq (aAsg (aSl (aOp fIx (aV 1) (aCall 2 F_draw (aCons (aV 0) (aCons (aCB gLen (aCons (aV 1) aNil)) aNil)))) (aoS (aC (.int 1))) aoN) (agN 8))
    (aRet (aTup (aCons (aOp fAddA (aTup (aCons (aOp fIx (aOp fIx (aV 1) (aC (.int 0))) (aC (.int 0))) aNil)) (aV 8)) (aCons (aOp fAddA (aTup (aCons (aCall 2 F__law_sum (aCons (aOp fIx (aOp fIx (aV 1) (aUn fNeg (aC (.int 1)))) (aC (.int 0))) (aCons (aCall 1 F__law_span (aCons (aV 0) aNil)) aNil))) aNil)) (aV 8)) aNil)))))
abbrev B__law_beside_t10 : AS :=
  (aSeq (aIfS (aTst (aOp fEq (aV 3) (aC (.int 6)))) B__law_beside_b2 aNext)
    (aRet (aCall 1 F__law_plan_20 (aCons (aV 0) aNil))))
abbrev B__law_beside_t9 : AS :=
  (aSeq (aIfS (aTst (aOp fEq (aV 3) (aC (.int 5)))) B__law_beside_b1 aNext)
    B__law_beside_t10)
abbrev B__law_beside_t8 : AS :=
  (aSeq (aIfS (aTst (aOp fEq (aV 3) (aC (.int 4)))) B__law_beside_b0 aNext)
    B__law_beside_t9)
abbrev B__law_beside_t7 : AS :=
  (aSeq (aIfS (aTst (aOp fEq (aV 3) (aC (.int 3)))) (aRet (aCB gTuple (aCons (aFr (aComp (aiZR (aV 1) (aV 1)) 2 [] (agQ 2 (agCons (agN 0) (agCons (agN 1) agNil))) aYes (aOp fAddA (aTup (aCons (aOp fIx (aV 0) (aC (.int 0))) aNil)) (aSl (aV 1) (aoS (aC (.int 1))) aoN)))) aNil))) aNext)
    B__law_beside_t8)
abbrev B__law_beside_t6 : AS :=
  (aSeq (aIfS (aTst (aOp fEq (aV 3) (aC (.int 2)))) (aRet (aCall 3 F__law_moved_20 (aCons (aV 1) (aCons (aOp fIx (aFr (aLst (aCons (aCall 1 F__law_span (aCons (aV 0) aNil)) (aCons (aTup (aCons (aC (.int 0)) (aCons (aC (.int 1)) aNil))) aNil)))) (aCall 2 F_draw (aCons (aV 0) (aCons (aC (.int 2)) aNil)))) (aCons (aV 4) aNil))))) aNext)
    B__law_beside_t7)
abbrev B__law_beside_t5 : AS :=
  (aSeq (aIfS (aTst (aOp fLt (aV 3) (aC (.int 2)))) (aRet (aCall 3 F__law_moved_20 (aCons (aV 1) (aCons (aTup (aCons (aC (.int 0)) (aCons (aC (.int 1)) aNil))) (aCons (aV 4) aNil))))) aNext)
    B__law_beside_t6)
abbrev B__law_beside_t4 : AS :=
  (aSeq (aIfS (aTst (aOp fEq (aV 3) (aC (.int 0)))) (aPut 4 (aV 5) (aBor (aCall 2 F__law_product (aCons (aOp fIx (aV 4) (aV 5)) (aCons (aOp fIx (aFr (aLst (aCons (aTup (aCons (aC (.int 1)) (aCons (aC (.int 2)) aNil))) (aCons (aTup (aCons (aUn fNeg (aC (.int 1))) (aCons (aC (.int 1)) aNil))) (aCons (aTup (aCons (aUn fNeg (aC (.int 1))) (aCons (aC (.int 3)) aNil))) aNil))))) (aCall 2 F_draw (aCons (aV 0) (aCons (aC (.int 3)) aNil)))) aNil))))) aNext)
    B__law_beside_t5)
abbrev B__law_beside_t3 : AS :=
  (aSeq (aPut 4 (aV 5) (aOp fIx (aV 2) (aCB gInt (aCons (aOp fEq (aV 5) (aC (.int 2))) aNil))))
    B__law_beside_t4)
abbrev B__law_beside_t2 : AS :=
  (aSeq (aAsg (aCall 2 F_draw (aCons (aV 0) (aCons (aC (.int 3)) aNil))) (agN 5))
    B__law_beside_t3)
abbrev B__law_beside_t1 : AS :=
  (aSeq (aNew (aLst (aCons (aTup (aCons (aC (.int 0)) (aCons (aC (.int 1)) aNil))) (aCons (aTup (aCons (aC (.int 0)) (aCons (aC (.int 1)) aNil))) (aCons (aTup (aCons (aC (.int 0)) (aCons (aC (.int 1)) aNil))) aNil)))) 4)
    B__law_beside_t2)
abbrev B__law_beside : AS :=
  (aSeq (aAsg (aCall 2 F_draw (aCons (aV 0) (aCons (aC (.int 9)) aNil))) (agN 3))
    B__law_beside_t1)
def F__law_beside : AF := aBody 9 B__law_beside
theorem s_F__law_beside {x0 x1 x2 : PV} {Q : PV → Prop} (h : B__law_beside ⟨fun _ => Q .non, Q, fun _ => False, fun _ => False⟩ [some (.val x0), some (.val x1), some (.val x2), none, none, none, none, none, none]) : F__law_beside [x0, x1, x2] Q := h
theorem ris_mom {cs ds : List C4} (h : Ris cs) (e : ds.map (·.1) = cs.map (·.1)) : Ris ds := by
  have h1 : (cs.map (·.1)).Pairwise (· < ·) := List.pairwise_map.mpr h
  rw [← e] at h1
  exact List.pairwise_map.mp h1
theorem zip_cor (a b : List C4) : zipP (a.map cor) (b.map cor) = (a.zip b).map fun p : C4 × C4 => .tup [cor p.1, cor p.2] := by
  unfold zipP
  rw [List.zipWith_map, List.zip, List.map_zipWith]
theorem Mul.negQ {D N : Nat} {a : Rat} (h : Mul D N a) : Mul D N (-a) := by
  obtain ⟨h0, k, rfl, hk⟩ := h
  exact ⟨h0, -k, by rw [Rat.neg_divInt], by omega⟩
theorem Mul.subQ {D N M : Nat} {a b : Rat} (ha : Mul D N a) (hb : Mul D M b) : Mul D (N + M) (a - b) := by
  rw [Rat.sub_eq_add_neg]; exact ha.add (Mul.negQ hb)
theorem mv_ok {n : Nat} {cs : List C4} {t : Rat} {o : T3} (p : PlanOk n 12 cs) (bt : Bd 20 t) (bo : TBd 20 o) : PlanOk n 40 (cs.map (movC t o)) := by
  refine ⟨by simpa using p.two, by simpa using p.few, fun c hc => ?_, ?_⟩
  · obtain ⟨d, hd, rfl⟩ := List.mem_map.mp hc
    have b := p.bd d hd
    exact ⟨(b.m.add bt).mono (by decide), (b.x.add bo.x).mono (by decide), (b.y.add bo.y).mono (by decide), (b.z.add bo.z).mono (by decide)⟩
  · refine List.pairwise_map.mpr (p.ris.imp fun {a b} h => ?_)
    show a.1 + t < b.1 + t
    grind
theorem beside_t5 {cs : List C4} {w : Int} {o : T3} {z2 z5 z6 z7 z8 : Option AV} {X Y Z : ASt → Prop} (pm : PlanM 12 6 600 cs) (bo : TBd 20 o) {Q : PV → Prop} (q : ∀ ds, PlanOk 12 40 ds → Q (planP ds)) :
    B__law_beside_t5 { nx := X, rt := Q, bk := Y, ct := Z } [some (.val .tape), some (.val (planP cs)), z2, some (.val (.int w)), some (.own [fr o.1, fr o.2.1, fr o.2.2]), z5, z6, z7, z8] := by
  have few := pm.few
  have two := pm.two
  have p12 : PlanOk 12 12 cs := pm.ok (by decide) (by decide)
  obtain ⟨a, r, l, ecs, h0, el, al⟩ := p12.open
  have el' : cs.getLast? = some l := by rw [ecs]; exact el
  have ml : l ∈ cs := List.mem_of_getLast? el'
  have bl := (p12.bd l ml).m
  have b20 := bd0.mono (n := 20) (by decide)
  have ok40 : ∀ {ds : List C4}, PlanM 12 6 600 ds → PlanOk 12 40 ds := fun p => ⟨p.two, p.few, fun c hc => (p.mu c hc).bd (by decide) (by decide), p.ris⟩
  repeat' array_mem_dec
  · exact moved20_ok rfl (by omega) p12.bd b20 bo (by decide) (by decide) (q _ (mv_ok p12 b20 bo))
  · rename_i sp bs ps k k0 k1
    refine ix_frs (xs := [sp, 0]) k0 k1 fun t ht => ?_
    have bt : Bd 20 t := by
      simp only [List.mem_cons, List.not_mem_nil, or_false] at ht
      rcases ht with rfl | rfl
      · exact bs.mono (by decide)
      · exact b20
    repeat' array_mem_dec
    exact moved20_ok rfl (by omega) p12.bd bt bo (by decide) (by decide) (q _ (mv_ok p12 bt bo))
  · show (cs.map cor).length = (cs.map cor).length ∧ _
    refine ⟨rfl, ?_⟩
    rw [← List.map_reverse, zip_cor]
    refine ⟨lt_sz (n := 12) (by simp; omega) (by decide), ?_⟩
    refine cmp_map (fun p : C4 × C4 => .tup [cor p.1, cor p.2]) cor (fun p => (p.1.1, p.2.2)) (fun _ => True) (fun p _ R hR => ?_) _ [] (by simp) ?_
    · repeat' array_mem_dec
      exact hR
    rw [List.nil_append]
    repeat' array_mem_dec
    refine q _ ⟨by simp; omega, by simp; omega, fun c hc => ?_, ?_⟩
    · obtain ⟨⟨u, v⟩, hu, rfl⟩ := List.mem_map.mp hc
      have h1 := p12.bd u (List.of_mem_zip hu).1
      have h2 := p12.bd v (List.mem_reverse.mp (List.of_mem_zip hu).2)
      exact ⟨h1.m.mono (by decide), h2.x.mono (by decide), h2.y.mono (by decide), h2.z.mono (by decide)⟩
    · refine ris_mom pm.ris ?_
      rw [List.map_map]
      have e : ((fun x : C4 => x.1) ∘ fun p : C4 × C4 => ((p.1.1, p.2.2) : C4)) = (fun x : C4 => x.1) ∘ Prod.fst := rfl
      rw [e, ← List.map_map, List.map_fst_zip (by simp)]
  · refine plan20_ok fun ds pd => ?_
    have pd12 : PlanOk 12 12 ds := pd.ok (by decide) (by decide)
    obtain ⟨a2, r2, l2, eds, h02, el2, al2⟩ := pd12.open
    have few2 := pd.few
    have ba2 := (pd12.bd a2 (by rw [eds]; simp)).m
    subst eds
    have bt : Bd 20 (l.1 - a2.1) := (Mul.subQ (pm.mu l ml).m (pd.mu a2 (by simp)).m).bd (by decide) (by decide)
    repeat' array_mem_dec
    exact moved20_ok (o := (0, 0, 0)) rfl (by omega) pd12.bd bt ⟨b20, b20, b20⟩ (by decide) (by decide) (q _ (mv_ok pd12 bt ⟨b20, b20, b20⟩))
  · rename_i k k0 k1 x bx y by' z bz c ec mc
    have bc := p12.bd c mc
    have hk : k.toNat < cs.length := by omega
    have ec' : cs[k.toNat] = c := by rw [List.getElem?_eq_getElem hk] at ec; exact Option.some.inj ec
    rw [show (k + 1).toNat = k.toNat + 1 by omega]
    refine q _ ⟨by simp; omega, by simp; omega, fun d hd => ?_, ?_⟩
    · rcases List.mem_append.mp hd with hd | hd
      · rcases List.mem_append.mp hd with hd | hd
        · exact (p12.bd d (List.mem_of_mem_take hd)).mono (by decide)
        · simp at hd; subst hd
          exact ⟨bc.m.mono (by decide), bx.mono (by decide), by'.mono (by decide), bz.mono (by decide)⟩
      · exact (p12.bd d (List.mem_of_mem_drop hd)).mono (by decide)
    · refine ris_mom pm.ris ?_
      have e : cs = cs.take k.toNat ++ [c] ++ cs.drop (k.toNat + 1) := by
        rw [List.append_assoc, List.singleton_append, ← ec', ← List.drop_eq_getElem_cons hk, List.take_append_drop]
      conv => rhs; rw [e]
      simp only [List.map_append, List.map_cons, List.map_nil]
  · rename_i k k0 k1 c ec mc c0 ec0 mc0 sp bs ps
    have bc := p12.bd c mc
    have bc0 := p12.bd c0 mc0
    have e0 : c0 = a := by rw [ecs] at ec0; exact (Option.some.inj ec0).symm
    refine q [(c0.1, c.2.1, c.2.2.1, c.2.2.2), (l.1 + sp, c.2.1, c.2.2.1, c.2.2.2)] ⟨by simp, by simp, fun d hd => ?_, ?_⟩
    · simp only [List.mem_cons, List.not_mem_nil, or_false] at hd
      rcases hd with rfl | rfl
      · exact ⟨bc0.m.mono (by decide), bc.x.mono (by decide), bc.y.mono (by decide), bc.z.mono (by decide)⟩
      · exact ⟨(bl.add bs).mono (by decide), bc.x.mono (by decide), bc.y.mono (by decide), bc.z.mono (by decide)⟩
    · refine List.pairwise_cons.mpr ⟨fun d hd => ?_, List.pairwise_singleton _ _⟩
      simp at hd; subst hd
      show c0.1 < l.1 + sp
      rw [e0]
      grind
  · exact plan20_ok fun ds pd => q ds (ok40 pd)
theorem ix3_0 {a b c : PV} : ixN [a, b, c].length 0 = some 0 := by show ixN 3 0 = _; decide
theorem ix3_1 {a b c : PV} : ixN [a, b, c].length 1 = some 1 := by show ixN 3 1 = _; decide
theorem ix3_2 {a b c : PV} : ixN [a, b, c].length 2 = some 2 := by show ixN 3 2 = _; decide
theorem third : PV.tup [.int (-1), .int 3] = fr (-1 / 3) := by
  unfold fr
  rw [show (-1 / 3 : Rat).num = -1 by decide +kernel, show (-1 / 3 : Rat).den = 3 by decide +kernel]
  rfl
theorem beside_ok {cs : List C4} {d : Rat × Rat} (p : PlanM 12 6 600 cs) (b1 : Bd 8 d.1) (b2 : Bd 8 d.2) {Q : PV → Prop} (q : ∀ ds, PlanOk 12 40 ds → Q (planP ds)) : F__law_beside [.tape, planP cs, .tup [fr d.1, fr d.2]] Q := by
  have few := p.few
  have two := p.two
  apply s_F__law_beside
  repeat' array_mem_dec
  rename_i w w0 w1 r r0 r1
  have hr : r = 0 ∨ r = 1 ∨ r = 2 := by omega
  have bz : Bd 20 (0 : Rat) := bd0.mono (by decide)
  have fac : ∀ {k : Int} {R : PV → Prop}, 0 ≤ k → k < 3 → (∀ f : Rat, Bd 8 f → R (fr f)) → fIx (.lst [fr (1 / 2), fr ((-1 : Int) : Rat), .tup [.int (-1), .int 3]]) (.int k) R := fun k0 k1 h => by
    rw [third]
    refine ix_frs (xs := [(1 / 2 : Rat), ((-1 : Int) : Rat), -1 / 3]) k0 k1 fun x hx => h x ?_
    simp only [List.mem_cons, List.not_mem_nil, or_false] at hx
    rcases hx with rfl | rfl | rfl <;> exact sm8
  rcases hr with rfl | rfl | rfl
  · repeat' array_mem_dec
    rw [show (if decide ((0 : Int) = 2) = true then (1 : Int) else 0) = 0 from rfl]
    repeat' array_mem_dec
    simp only [ix3_0, onN, List.set_cons_zero, List.set_cons_succ]
    repeat' (first | exact beside_t5 (o := (d.1, 0, 0)) p ⟨b1.mono (by decide), bz, bz⟩ q | array_mem_dec)
    refine fac (by omega) (by omega) fun f bf => ?_
    repeat' array_mem_dec
    simp only [ix3_0, onN, List.set_cons_zero, List.set_cons_succ]
    repeat' (first | exact beside_t5 (o := (d.1 * f, 0, 0)) p ⟨(b1.mul bf).mono (by decide), bz, bz⟩ q | array_mem_dec)
  · repeat' array_mem_dec
    rw [show (if decide ((1 : Int) = 2) = true then (1 : Int) else 0) = 0 from rfl]
    repeat' array_mem_dec
    simp only [ix3_1, onN, List.set_cons_zero, List.set_cons_succ]
    repeat' (first | exact beside_t5 (o := (0, d.1, 0)) p ⟨bz, b1.mono (by decide), bz⟩ q | array_mem_dec)
    refine fac (by omega) (by omega) fun f bf => ?_
    repeat' array_mem_dec
    simp only [ix3_1, onN, List.set_cons_zero, List.set_cons_succ]
    repeat' (first | exact beside_t5 (o := (0, d.1 * f, 0)) p ⟨bz, (b1.mul bf).mono (by decide), bz⟩ q | array_mem_dec)
  · repeat' array_mem_dec
    rw [show (if decide ((2 : Int) = 2) = true then (1 : Int) else 0) = 1 from rfl]
    repeat' array_mem_dec
    simp only [ix3_2, onN, List.set_cons_zero, List.set_cons_succ]
    repeat' (first | exact beside_t5 (o := (0, 0, d.2)) p ⟨bz, bz, b2.mono (by decide)⟩ q | array_mem_dec)
    refine fac (by omega) (by omega) fun f bf => ?_
    repeat' array_mem_dec
    simp only [ix3_2, onN, List.set_cons_zero, List.set_cons_succ]
    repeat' (first | exact beside_t5 (o := (0, 0, d.2 * f)) p ⟨bz, bz, (b2.mul bf).mono (by decide)⟩ q | array_mem_dec)
abbrev B__law_case_t4 : AS :=
  (aSeq (aIfS (aTst (aOp fEq (aCall 2 F_draw (aCons (aV 2) (aCons (aC (.int 2)) aNil))) (aC (.int 0)))) (aPar 4 5 (aCons (aV 5) (aCons (aV 4) aNil))) aNext)
    (aRet (aTup (aCons (aV 2) (aCons (aV 4) (aCons (aV 5) (aCons (aV 3) aNil)))))))
abbrev B__law_case_t3 : AS :=
  (aSeq (aAsg (aCall 3 F__law_beside (aCons (aV 2) (aCons (aV 4) (aCons (aV 3) aNil)))) (agN 5))
    B__law_case_t4)
abbrev B__law_case_t2 : AS :=
  (aSeq (aAsg (aCall 1 F__law_plan_20 (aCons (aV 2) aNil)) (agN 4))
    B__law_case_t3)
abbrev B__law_case_t1 : AS :=
  (aSeq (aAsg (aCall 1 F__law_apart (aCons (aV 2) aNil)) (agN 3))
    B__law_case_t2)
abbrev B__law_case : AS :=
  (aSeq (aAsg (aCall 2 F_tape (aCons (aV 0) (aCons (aV 1) aNil))) (agN 2))
    B__law_case_t1)
def F__law_case : AF := aBody 6 B__law_case
theorem s_F__law_case {x0 x1 : PV} {Q : PV → Prop} (h : B__law_case ⟨fun _ => Q .non, Q, fun _ => False, fun _ => False⟩ [some (.val x0), some (.val x1), none, none, none, none]) : F__law_case [x0, x1] Q := h
theorem case_ok {ns : List Int} {k : Nat} (hk : k ≤ 1000) {Q : PV → Prop} (q : ∀ cs ds (d : Rat × Rat), PlanOk 12 40 cs → PlanOk 12 40 ds → Bd 8 d.1 → Bd 8 d.2 → 1 / 3 ≤ d.1 → 1 / 3 ≤ d.2 → Q (.tup [.tape, planP cs, planP ds, .tup [fr d.1, fr d.2]])) : F__law_case [.scr ns, .int k] Q := by
  apply s_F__law_case
  repeat' array_mem_dec
  refine apart_ok fun d b1 b2 p1 p2 => ?_
  repeat' array_mem_dec
  refine plan20_ok fun cs pc => ?_
  repeat' array_mem_dec
  refine beside_ok pc b1 b2 fun ds pd => ?_
  have pc40 : PlanOk 12 40 cs := ⟨pc.two, pc.few, fun c hc => (pc.mu c hc).bd (by decide) (by decide), pc.ris⟩
  repeat' array_mem_dec
  · exact q ds cs d pd pc40 b1 b2 p1 p2
  · exact q cs ds d pc40 pd b1 b2 p1 p2
end PL
end
section
set_option Elab.async false
set_option linter.all false
set_option maxRecDepth 100000
set_option maxHeartbeats 400000
/-! How far apart two plans are at a moment. -/
namespace PL
open PySem L2 PyProof.Rows
abbrev B_together_t1 : AS :=
  (aSeq (aAsg (aCall 2 F_lesser (aCons (aOp fIx (aOp fIx (aV 0) (aUn fNeg (aC (.int 1)))) (aC (.int 0))) (aCons (aOp fIx (aOp fIx (aV 1) (aUn fNeg (aC (.int 1)))) (aC (.int 0))) aNil))) (agN 3))
    (aRet (aIf (aTst (aCall 2 F_before (aCons (aV 2) (aCons (aV 3) aNil)))) (aTup (aCons (aV 2) (aCons (aV 3) aNil))) (aC .non))))
abbrev B_together : AS :=
  (aSeq (aAsg (aCall 2 F__law_greater (aCons (aOp fIx (aOp fIx (aV 0) (aC (.int 0))) (aC (.int 0))) (aCons (aOp fIx (aOp fIx (aV 1) (aC (.int 0))) (aC (.int 0))) aNil))) (agN 2))
    B_together_t1)
def F_together : AF := aBody 4 B_together
theorem s_F_together {x0 x1 : PV} {Q : PV → Prop} (h : B_together ⟨fun _ => Q .non, Q, fun _ => False, fun _ => False⟩ [some (.val x0), some (.val x1), none, none]) : F_together [x0, x1] Q := h
abbrev B_offs_at_t1 : AS :=
  (aSeq (aAsg (aCall 2 F_spot_at (aCons (aV 1) (aCons (aV 3) aNil))) (agN 5))
    (aRet (aFr (aComp (aiR1 (aCons (aC (.int 3)) aNil)) 1 [2, 4, 5] (agN 0) aYes (aCall 2 F_over (aCons (aCall 2 F_minus (aCons (aOp fIx (aV 2) (aV 0)) (aCons (aOp fIx (aV 3) (aV 0)) aNil))) (aCons (aCall 2 F_size_of (aCons (aV 1) (aCons (aV 0) aNil))) aNil)))))))
abbrev B_offs_at : AS :=
  (aSeq (aAsg (aCall 2 F_spot_at (aCons (aV 0) (aCons (aV 3) aNil))) (agN 4))
    B_offs_at_t1)
def F_offs_at : AF := aBody 6 B_offs_at
theorem s_F_offs_at {x0 x1 x2 x3 : PV} {Q : PV → Prop} (h : B_offs_at ⟨fun _ => Q .non, Q, fun _ => False, fun _ => False⟩ [some (.val x0), some (.val x1), some (.val x2), some (.val x3), none, none]) : F_offs_at [x0, x1, x2, x3] Q := h
abbrev B_gap_at_t3 : AS :=
  (aSeq (aFor (aiQ (aCall 4 F_offs_at (aCons (aV 0) (aCons (aV 1) (aCons (aV 2) (aCons (aV 3) aNil)))))) (agQ 2 (agCons (agN 6) (agCons (agN 7) agNil))) (aAsg (aCall 2 F__law_greater (aCons (aV 5) (aCons (aTup (aCons (aCB gAbs (aCons (aV 6) aNil)) (aCons (aV 7) aNil))) aNil))) (agN 5)))
    (aRet (aV 5)))
abbrev B_gap_at_t2 : AS :=
  (aSeq (aAsg (aTup (aCons (aC (.int 0)) (aCons (aC (.int 1)) aNil))) (agN 5))
    B_gap_at_t3)
abbrev B_gap_at_t1 : AS :=
  (aSeq (aIfS (aOrT (aTst (aOp fIsN (aV 4) (aC .non))) (aOrT (aTst (aCall 2 F_before (aCons (aV 3) (aCons (aOp fIx (aV 4) (aC (.int 0))) aNil)))) (aNotT (aTst (aCall 2 F_before (aCons (aV 3) (aCons (aOp fIx (aV 4) (aC (.int 1))) aNil))))))) (aRet (aC .non)) aNext)
    B_gap_at_t2)
abbrev B_gap_at : AS :=
  (aSeq (aAsg (aCall 2 F_together (aCons (aV 0) (aCons (aV 1) aNil))) (agN 4))
    B_gap_at_t1)
def F_gap_at : AF := aBody 8 B_gap_at
theorem s_F_gap_at {x0 x1 x2 x3 : PV} {Q : PV → Prop} (h : B_gap_at ⟨fun _ => Q .non, Q, fun _ => False, fun _ => False⟩ [some (.val x0), some (.val x1), some (.val x2), some (.val x3), none, none, none, none]) : F_gap_at [x0, x1, x2, x3] Q := h
abbrev B__law_gap_b0 : AS :=
  (aSeq (aAsg (aCall 2 F__law_ratio (aCons (aCall 2 F__law_off (aCons (aOp fIx (aV 7) (aV 6)) (aCons (aOp fIx (aV 8) (aV 6)) aNil))) (aCons (aOp fIx (aV 2) (aCB gInt (aCons (aOp fEq (aV 6) (aC (.int 2))) aNil))) aNil))) (agN 9))
    (aIfS (aTst (aCall 2 F_before (aCons (aV 5) (aCons (aTup (aCons (aCB gAbs (aCons (aOp fIx (aV 9) (aC (.int 0))) aNil)) (aCons (aOp fIx (aV 9) (aC (.int 1))) aNil))) aNil)))) (aAsg (aTup (aCons (aCB gAbs (aCons (aOp fIx (aV 9) (aC (.int 0))) aNil)) (aCons (aOp fIx (aV 9) (aC (.int 1))) aNil))) (agN 5)) aNext))
abbrev B__law_gap_t5 : AS :=
  (aSeq (aFor (aiR1 (aCons (aC (.int 3)) aNil)) (agN 6) B__law_gap_b0)
    (aRet (aV 5)))
abbrev B__law_gap_t4 : AS :=
  (aSeq (aAsg (aTup (aCons (aC (.int 0)) (aCons (aC (.int 1)) aNil))) (agN 5))
    B__law_gap_t5)
abbrev B__law_gap_t3 : AS :=
  (aSeq (aIfS (aOrT (aTst (aOp fIsN (aV 7) (aC .non))) (aTst (aOp fIsN (aV 8) (aC .non)))) (aRet (aC .non)) aNext)
    B__law_gap_t4)
abbrev B__law_gap_t2 : AS :=
  (aSeq (aPar 7 8 (aCons (aCall 2 F__law_spot (aCons (aV 0) (aCons (aV 3) aNil))) (aCons (aCall 2 F__law_spot (aCons (aV 1) (aCons (aV 3) aNil))) aNil)))
    B__law_gap_t3)
abbrev B__law_gap_t1 : AS :=
  (aSeq (aIfS (aAndT (aNotT (aTru (aV 4))) (aOrT (aNotT (aTst (aCall 2 F_before (aCons (aV 3) (aCons (aOp fIx (aOp fIx (aV 0) (aUn fNeg (aC (.int 1)))) (aC (.int 0))) aNil))))) (aNotT (aTst (aCall 2 F_before (aCons (aV 3) (aCons (aOp fIx (aOp fIx (aV 1) (aUn fNeg (aC (.int 1)))) (aC (.int 0))) aNil))))))) (aRet (aC .non)) aNext)
    B__law_gap_t2)
abbrev B__law_gap : AS :=
  (aSeq (aIfS (aOrT (aTst (aCall 2 F_before (aCons (aV 3) (aCons (aOp fIx (aOp fIx (aV 0) (aC (.int 0))) (aC (.int 0))) aNil)))) (aTst (aCall 2 F_before (aCons (aV 3) (aCons (aOp fIx (aOp fIx (aV 1) (aC (.int 0))) (aC (.int 0))) aNil))))) (aRet (aC .non)) aNext)
    B__law_gap_t1)
def F__law_gap : AF := aBody 10 B__law_gap
theorem s_F__law_gap {x0 x1 x2 x3 x4 : PV} {Q : PV → Prop} (h : B__law_gap ⟨fun _ => Q .non, Q, fun _ => False, fun _ => False⟩ [some (.val x0), some (.val x1), some (.val x2), some (.val x3), some (.val x4), none, none, none, none, none]) : F__law_gap [x0, x1, x2, x3, x4] Q := h
def absR (r : Rat) : Rat := if r < 0 then -r else r
theorem Bd.absR {n : Nat} {r : Rat} (h : Bd n r) : Bd n (absR r) := by unfold PL.absR; split; exact h.neg; exact h
def offT (p q : T3) (d : Rat × Rat) : T3 := ((p.1 - q.1) / d.1, (p.2.1 - q.2.1) / d.1, (p.2.2 - q.2.2) / d.2)
def gapR (o : T3) : Rat := mx (mx (mx 0 (absR o.1)) (absR o.2.1)) (absR o.2.2)
/-- both are there -/
def thereB (a l a2 l2 : C4) (m : Rat) : Prop := (¬ m < a.1 ∧ ¬ m < a2.1) ∧ m < l.1 ∧ m < l2.1
instance {a l a2 l2 : C4} {m : Rat} : Decidable (thereB a l a2 l2 m) := by unfold thereB; infer_instance
def gapP : Option Rat → PV
  | none => .non
  | some r => fr r
def gapC (a l a2 l2 : C4) (cs ds : List C4) (d : Rat × Rat) (m : Rat) : Option Rat := if thereB a l a2 l2 m then some (gapR (offT ((spotC cs m).getD (0, 0, 0)) ((spotC ds m).getD (0, 0, 0)) d)) else none
theorem offs_ok {cs ds : List C4} {v w u : PV} {d : Rat × Rat} {m : Rat} {p q' : T3} (hv : PlanV cs v) (hw : PlanV ds w) (hu : AptV d u) (hc : ∀ c ∈ cs, CBd 150 c) (hc2 : ∀ c ∈ ds, CBd 150 c) (hr : Ris cs) (hr2 : Ris ds) (h0 : cs ≠ []) (h02 : ds ≠ []) (hl : cs.length ≤ 100) (hl2 : ds.length ≤ 100) (bm : Bd 200 m) (b1 : Bd 100 d.1) (b2 : Bd 100 d.2) (p1 : d.1 ≠ 0) (p2 : d.2 ≠ 0)
    (e1 : spotC cs m = some p) (e2 : spotC ds m = some q') {Q : PV → Prop} (q : Q (.lst [fr (offT p q' d).1, fr (offT p q' d).2.1, fr (offT p q' d).2.2])) : F_offs_at [v, w, u, fr m] Q := by
  have t1 := TBd.spotC bm hr hc p e1
  have t2 := TBd.spotC bm hr2 hc2 q' e2
  have x1 := t1.x
  have x2 := t1.y
  have x3 := t1.z
  have y1 := t2.x
  have y2 := t2.y
  have y3 := t2.z
  have z1 := x1.sub y1
  have z2 := x2.sub y2
  have z3 := x3.sub y3
  apply s_F_offs_at
  repeat' array_mem_dec
  refine F_spot_at_ok hv hc hr h0 (by omega) bm (by decide) ?_
  rw [e1, show spotP (some p) = .tup [fr p.1, fr p.2.1, fr p.2.2] from rfl]
  repeat' array_mem_dec
  refine F_spot_at_ok hw hc2 hr2 h02 (by omega) bm (by decide) ?_
  rw [e2, show spotP (some q') = .tup [fr q'.1, fr q'.2.1, fr q'.2.2] from rfl]
  repeat' array_mem_dec
  rw [show rng 0 (Int.toNat 3) = [.int 0, .int 1, .int 2] from rfl]
  repeat' array_get_dec
  refine apt_size hu ?_
  rw [if_neg (by decide)]
  repeat' array_get_dec
  refine apt_size hu ?_
  rw [if_neg (by decide)]
  repeat' array_get_dec
  refine apt_size hu ?_
  rw [if_pos (by decide)]
  repeat' array_get_dec
  exact q
theorem abs_fr (r : Rat) : PV.tup [.int (r.num.natAbs : Int), .int r.den] = fr (absR r) := abs_is r
theorem together_ok {a l a2 l2 : C4} {r r2 : List C4} {v w : PV} (hv : PlanV (a :: r) v) (hw : PlanV (a2 :: r2) w) (el : (a :: r).getLast? = some l) (el2 : (a2 :: r2).getLast? = some l2) (ba : Bd 3000 a.1) (bl : Bd 3000 l.1) (ba2 : Bd 3000 a2.1) (bl2 : Bd 3000 l2.1)
    {Q : PV → Prop} (q1 : mx a.1 a2.1 < mn l.1 l2.1 → Q (.tup [fr (mx a.1 a2.1), fr (mn l.1 l2.1)])) (q2 : ¬ mx a.1 a2.1 < mn l.1 l2.1 → Q .non) : F_together [v, w] Q := by
  apply s_F_together
  repeat' array_mem_dec
  refine pv0 hv fun x hx => ?_
  repeat' array_mem_dec
  refine c0 hx ?_
  repeat' array_mem_dec
  refine pv0 hw fun x hx => ?_
  repeat' array_mem_dec
  refine c0 hx ?_
  repeat' array_mem_dec
  refine pvL hv el fun x hx => ?_
  repeat' array_mem_dec
  refine c0 hx ?_
  repeat' array_mem_dec
  refine pvL hw el2 fun x hx => ?_
  repeat' array_mem_dec
  refine c0 hx ?_
  repeat' array_mem_dec
  · exact q1 ‹_›
  · exact q2 ‹_›
theorem gap_ok {a l a2 l2 : C4} {r r2 : List C4} {v w u : PV} {d : Rat × Rat} {m : Rat} (hv : PlanV (a :: r) v) (hw : PlanV (a2 :: r2) w) (hu : AptV d u) (hc : ∀ c ∈ a :: r, CBd 150 c) (hc2 : ∀ c ∈ a2 :: r2, CBd 150 c) (hr : Ris (a :: r)) (hr2 : Ris (a2 :: r2)) (h0 : r ≠ []) (h02 : r2 ≠ []) (hl : (a :: r).length ≤ 100) (hl2 : (a2 :: r2).length ≤ 100) (el : (a :: r).getLast? = some l) (el2 : (a2 :: r2).getLast? = some l2) (bm : Bd 200 m) (b1 : Bd 100 d.1) (b2 : Bd 100 d.2) (p1 : d.1 ≠ 0) (p2 : d.2 ≠ 0)
    {Q : PV → Prop} (q : Q (gapP (gapC a l a2 l2 (a :: r) (a2 :: r2) d m))) : F_gap_at [v, w, u, fr m] Q := by
  have ba := (hc a (by simp)).m
  have bl := (hc l (List.mem_of_getLast? el)).m
  have ba2 := (hc2 a2 (by simp)).m
  have bl2 := (hc2 l2 (List.mem_of_getLast? el2)).m
  have no : ¬ thereB a l a2 l2 m → Q .non := fun h => by unfold gapC at q; rw [if_neg h] at q; exact q
  have bx := (ba.mono (n := 160) (by decide)).mx (ba2.mono (by decide))
  have bn := (bl.mono (n := 160) (by decide)).mn (bl2.mono (by decide))
  apply s_F_gap_at
  repeat' array_mem_dec
  refine together_ok hv hw el el2 (ba.mono (by decide)) (bl.mono (by decide)) (ba2.mono (by decide)) (bl2.mono (by decide)) (fun hs => ?_) (fun hs => ?_)
  rotate_left
  · repeat' array_mem_dec
    refine no fun h => hs ?_
    unfold thereB at h
    unfold mx mn
    split <;> split <;> grind
  repeat' array_mem_dec
  · rename_i h
    refine no fun z => ?_
    unfold thereB at z
    unfold mx at h
    split at h <;> grind
  · rename_i h0 h
    refine no fun z => h ?_
    unfold thereB at z
    unfold mn
    split <;> grind
  rename_i h1 h2
  have th : thereB a l a2 l2 m := by
    unfold thereB
    unfold mx at h1
    unfold mn at h2
    split at h1 <;> split at h2 <;> grind
  have g1 : a.1 ≤ m ∧ m ≤ l.1 := by unfold thereB at th; exact ⟨by grind, by grind⟩
  have g2 : a2.1 ≤ m ∧ m ≤ l2.1 := by unfold thereB at th; exact ⟨by grind, by grind⟩
  obtain ⟨s1, es1⟩ := spotC_some h0 el g1.1 g1.2
  obtain ⟨s2, es2⟩ := spotC_some h02 el2 g2.1 g2.2
  have t1 := TBd.spotC bm hr hc s1 es1
  have t2 := TBd.spotC bm hr2 hc2 s2 es2
  unfold gapC at q
  rw [if_pos th, es1, es2] at q
  have q : Q (fr (gapR (offT s1 s2 d))) := q
  have o1 : Bd 2400 (absR (offT s1 s2 d).1) := (((t1.x.sub t2.x).div p1 b1).absR).mono (by decide)
  have o2 : Bd 2400 (absR (offT s1 s2 d).2.1) := (((t1.y.sub t2.y).div p1 b1).absR).mono (by decide)
  have o3 : Bd 2400 (absR (offT s1 s2 d).2.2) := (((t1.z.sub t2.z).div p2 b2).absR).mono (by decide)
  have m0 : Bd 2400 (0 : Rat) := bd0.mono (by decide)
  have m1 := m0.mx o1
  have m2 := m1.mx o2
  refine offs_ok hv hw hu hc hc2 hr hr2 (by simp) (by simp) hl hl2 bm b1 b2 p1 p2 es1 es2 ?_
  unfold gapR at q
  generalize offT s1 s2 d = o at *
  repeat' array_get_dec
  rw [abs_fr]
  repeat' array_get_dec
  rw [abs_fr]
  repeat' array_get_dec
  rw [abs_fr]
  repeat' array_get_dec
  exact q
theorem law_gap_ok {a l a2 l2 : C4} {r r2 : List C4} {d : Rat × Rat} {m : Rat} (hc : ∀ c ∈ a :: r, CBd 150 c) (hc2 : ∀ c ∈ a2 :: r2, CBd 150 c) (hr : Ris (a :: r)) (hr2 : Ris (a2 :: r2)) (h0 : r ≠ []) (h02 : r2 ≠ []) (hl : (a :: r).length ≤ 100) (hl2 : (a2 :: r2).length ≤ 100) (el : (a :: r).getLast? = some l) (el2 : (a2 :: r2).getLast? = some l2) (bm : Bd 200 m) (b1 : Bd 100 d.1) (b2 : Bd 100 d.2) (p1 : d.1 ≠ 0) (p2 : d.2 ≠ 0)
    {Q : PV → Prop} (q : Q (gapP (gapC a l a2 l2 (a :: r) (a2 :: r2) d m))) : F__law_gap [planP (a :: r), planP (a2 :: r2), .tup [fr d.1, fr d.2], fr m, .bl false] Q := by
  have ba := (hc a (by simp)).m
  have bl := (hc l (List.mem_of_getLast? el)).m
  have ba2 := (hc2 a2 (by simp)).m
  have bl2 := (hc2 l2 (List.mem_of_getLast? el2)).m
  have no : ¬ thereB a l a2 l2 m → Q .non := fun h => by unfold gapC at q; rw [if_neg h] at q; exact q
  apply s_F__law_gap
  repeat' array_mem_dec
  · exact no fun z => by unfold thereB at z; grind
  · exact no fun z => by unfold thereB at z; grind
  · exact no fun z => by unfold thereB at z; grind
  · exact no fun z => by unfold thereB at z; grind
  rename_i k1 k2 k3 k4
  have th : thereB a l a2 l2 m := by
    unfold thereB
    exact ⟨⟨by grind, by grind⟩, by grind, by grind⟩
  have g1 : a.1 ≤ m ∧ m ≤ l.1 := by unfold thereB at th; exact ⟨by grind, by grind⟩
  have g2 : a2.1 ≤ m ∧ m ≤ l2.1 := by unfold thereB at th; exact ⟨by grind, by grind⟩
  obtain ⟨s1, es1⟩ := spotC_some h0 el g1.1 g1.2
  obtain ⟨s2, es2⟩ := spotC_some h02 el2 g2.1 g2.2
  have t1 := TBd.spotC bm hr hc s1 es1
  have t2 := TBd.spotC bm hr2 hc2 s2 es2
  unfold gapC at q
  rw [if_pos th, es1, es2] at q
  have q : Q (fr (gapR (offT s1 s2 d))) := q
  have x1 := t1.x
  have x2 := t1.y
  have x3 := t1.z
  have y1 := t2.x
  have y2 := t2.y
  have y3 := t2.z
  have w1 := x1.sub y1
  have w2 := x2.sub y2
  have w3 := x3.sub y3
  have o1 : Bd 2400 (absR (offT s1 s2 d).1) := ((w1.div p1 b1).absR).mono (by decide)
  have o2 : Bd 2400 (absR (offT s1 s2 d).2.1) := ((w2.div p1 b1).absR).mono (by decide)
  have o3 : Bd 2400 (absR (offT s1 s2 d).2.2) := ((w3.div p2 b2).absR).mono (by decide)
  have m0 : Bd 2400 (0 : Rat) := bd0.mono (by decide)
  have m1 := m0.mx o1
  have m2 := m1.mx o2
  refine F__law_spot_ok hc hr (by simp) (by omega) bm (by decide) ?_
  rw [es1, show spotP (some s1) = .tup [fr s1.1, fr s1.2.1, fr s1.2.2] from rfl]
  repeat' array_mem_dec
  refine F__law_spot_ok hc2 hr2 (by simp) (by omega) bm (by decide) ?_
  rw [es2, show spotP (some s2) = .tup [fr s2.1, fr s2.2.1, fr s2.2.2] from rfl]
  repeat' array_mem_dec
  rw [show rng 0 (Int.toNat 3) = [.int 0, .int 1, .int 2] from rfl]
  unfold gapR at q
  have st : ∀ {ls : List PV} {g o : Rat} {τ : Option AV → Rat → Option AV → ASt} (k : ∀ z6 z9 g', g' = mx g (absR o) → forGo (agN 6) B__law_gap_b0 { nx := aRet (aV 5) { nx := fun x => Q PV.non, rt := Q, bk := fun x => False, ct := fun x => False }, rt := Q, bk := fun x => False, ct := fun x => False } ls (τ z6 g' z9)),
      (g < absR o → ∀ z6 z9, forGo (agN 6) B__law_gap_b0 { nx := aRet (aV 5) { nx := fun x => Q PV.non, rt := Q, bk := fun x => False, ct := fun x => False }, rt := Q, bk := fun x => False, ct := fun x => False } ls (τ z6 (absR o) z9)) ∧ (¬ g < absR o → ∀ z6 z9, forGo (agN 6) B__law_gap_b0 { nx := aRet (aV 5) { nx := fun x => Q PV.non, rt := Q, bk := fun x => False, ct := fun x => False }, rt := Q, bk := fun x => False, ct := fun x => False } ls (τ z6 g z9)) := fun k =>
    ⟨fun h z6 z9 => k z6 z9 _ (by unfold mx; rw [if_pos h]), fun h z6 z9 => k z6 z9 _ (by unfold mx; rw [if_neg h])⟩
  have d0 : (if decide ((0 : Int) = 2) = true then (1 : Int) else 0) = 0 := rfl
  have d1 : (if decide ((1 : Int) = 2) = true then (1 : Int) else 0) = 0 := rfl
  have d2 : (if decide ((2 : Int) = 2) = true then (1 : Int) else 0) = 1 := rfl
  generalize planP (a :: r) = P1 at *
  generalize planP (a2 :: r2) = P2 at *
  let S : Option AV → Rat → Option AV → ASt := fun z6 g z9 => [some (.val P1), some (.val P2), some (.val (.tup [fr d.1, fr d.2])), some (.val (fr m)), some (.val (.bl false)), some (.val (fr g)), z6, some (.val (.tup [fr s1.1, fr s1.2.1, fr s1.2.2])), some (.val (.tup [fr s2.1, fr s2.2.1, fr s2.2.2])), z9]
  have k3 : ∀ z6 z9 g, g = mx (mx (mx 0 (absR (offT s1 s2 d).1)) (absR (offT s1 s2 d).2.1)) (absR (offT s1 s2 d).2.2) → forGo (agN 6) B__law_gap_b0 { nx := aRet (aV 5) { nx := fun x => Q PV.non, rt := Q, bk := fun x => False, ct := fun x => False }, rt := Q, bk := fun x => False, ct := fun x => False } [] (S z6 g z9) := by
    intro z6 z9 g e
    subst e
    dsimp only [S]
    repeat' array_mem_dec
    exact q
  have o1' : Bd 2400 (absR ((s1.1 - s2.1) / d.1)) := o1
  have o2' : Bd 2400 (absR ((s1.2.1 - s2.2.1) / d.1)) := o2
  have o3' : Bd 2400 (absR ((s1.2.2 - s2.2.2) / d.2)) := o3
  have k2 : ∀ z6 z9 g, g = mx (mx 0 (absR (offT s1 s2 d).1)) (absR (offT s1 s2 d).2.1) → forGo (agN 6) B__law_gap_b0 { nx := aRet (aV 5) { nx := fun x => Q PV.non, rt := Q, bk := fun x => False, ct := fun x => False }, rt := Q, bk := fun x => False, ct := fun x => False } [.int 2] (S z6 g z9) := by
    intro z6 z9 g e
    subst e
    obtain ⟨t1, t2⟩ := st k3
    dsimp only [S] at t1 t2 ⊢
    refine WpU.go ?_
    repeat' array_mem_dec
    rw [d2]
    repeat' array_mem_dec
    rw [abs_fr]
    repeat' array_mem_dec
    · rename_i h
      rw [abs_fr]
      first | exact t1 h none none | exact t1 h _ _
    · rename_i h
      first | exact t2 h none none | exact t2 h _ _
  have k1 : ∀ z6 z9 g, g = mx 0 (absR (offT s1 s2 d).1) → forGo (agN 6) B__law_gap_b0 { nx := aRet (aV 5) { nx := fun x => Q PV.non, rt := Q, bk := fun x => False, ct := fun x => False }, rt := Q, bk := fun x => False, ct := fun x => False } [.int 1, .int 2] (S z6 g z9) := by
    intro z6 z9 g e
    subst e
    obtain ⟨t1, t2⟩ := st k2
    dsimp only [S] at t1 t2 ⊢
    refine WpU.go ?_
    repeat' array_mem_dec
    rw [d1]
    repeat' array_mem_dec
    rw [abs_fr]
    repeat' array_mem_dec
    · rename_i h
      rw [abs_fr]
      first | exact t1 h none none | exact t1 h _ _
    · rename_i h
      first | exact t2 h none none | exact t2 h _ _
  have k0 : ∀ z6 z9 g, g = 0 → forGo (agN 6) B__law_gap_b0 { nx := aRet (aV 5) { nx := fun x => Q PV.non, rt := Q, bk := fun x => False, ct := fun x => False }, rt := Q, bk := fun x => False, ct := fun x => False } [.int 0, .int 1, .int 2] (S z6 g z9) := by
    intro z6 z9 g e
    subst e
    obtain ⟨t1, t2⟩ := st k1
    dsimp only [S] at t1 t2 ⊢
    refine WpU.go ?_
    repeat' array_mem_dec
    rw [d0]
    repeat' array_mem_dec
    rw [abs_fr]
    repeat' array_mem_dec
    · rename_i h
      rw [abs_fr]
      first | exact t1 h none none | exact t1 h _ _
    · rename_i h
      first | exact t2 h none none | exact t2 h _ _
  exact k0 _ _ 0 rfl
end PL
end
section
set_option Elab.async false
set_option linter.all false
set_option maxRecDepth 100000
set_option maxHeartbeats 400000
namespace PL.K20
open PySem L2 PL PyProof.Rows
abbrev B__law_listed_20 (F : AF) : AS :=
  (aSeq (aIfS (aTst (aCB gIsi (aCons (aOp fIx (aV 0) (aC (.int 0))) (aCons (aC (.ty "int")) aNil)))) (aRet (aV 0)) aNext)
    (aRet (aFr (aComp (aiQ (aV 0)) 1 [] (agN 0) aYes (aCall 1 F (aCons (aV 0) aNil))))))
def F__law_listed_20 : Nat → AF
  | 0 => fun _ _ => False
  | n + 1 => aBody 1 (B__law_listed_20 (F__law_listed_20 n))
theorem s_F__law_listed_20 {m : Nat} {x0 : PV} {Q : PV → Prop} (h : B__law_listed_20 (F__law_listed_20 m) ⟨fun _ => Q .non, Q, fun _ => False, fun _ => False⟩ [some (.val x0)]) : F__law_listed_20 (m + 1) [x0] Q := h
abbrev B__law_same_20_b0 (F : AF) : AS :=
  (aSeq (aIfS (aOrT (aNotT (aTst (aCB gIsi (aCons (aV 0) (aCons (aC (.ty "tuple")) aNil))))) (aTst (aOp fNe (aCB gLen (aCons (aV 0) aNil)) (aCB gLen (aCons (aV 1) aNil))))) (aRet (aC (.bl false))) aNext)
    (aRet (aCB (gAll fun bs => bs.all id) (aCons (aFr (aComp (aiZ (aCons (aV 0) (aCons (aV 1) aNil))) 2 [] (agQ 2 (agCons (agN 0) (agCons (agN 1) agNil))) aYes (aCall 2 F (aCons (aV 0) (aCons (aV 1) aNil))))) aNil))))
abbrev B__law_same_20 (F : AF) : AS :=
  (aSeq (aIfS (aTst (aCB gIsi (aCons (aV 1) (aCons (aC (.ty "tuple")) aNil)))) (B__law_same_20_b0 F) aNext)
    (aSeq (aIfS (aOrT (aTst (aOp fIsN (aV 1) (aC .non))) (aTst (aCB gIsiS (aCons (aV 1) (aCons (aC (.ty "str")) aNil))))) (aRet (aAnd (aOp fEq (aV 0) (aV 1)) (aOp fEq (aCB gIsiS (aCons (aV 0) (aCons (aC (.ty "str")) aNil))) (aCB gIsiS (aCons (aV 1) (aCons (aC (.ty "str")) aNil)))))) aNext)
    (aRet (aAnd (aCB gIsi (aCons (aV 0) (aCons (aC (.ty "int")) aNil))) (aAnd (aUn fNot (aCB gIsi (aCons (aV 0) (aCons (aC (.ty "bool")) aNil)))) (aOp fEq (aV 0) (aV 1)))))))
def F__law_same_20 : Nat → AF
  | 0 => fun _ _ => False
  | n + 1 => aBody 2 (B__law_same_20 (F__law_same_20 n))
theorem s_F__law_same_20 {m : Nat} {x0 x1 : PV} {Q : PV → Prop} (h : B__law_same_20 (F__law_same_20 m) ⟨fun _ => Q .non, Q, fun _ => False, fun _ => False⟩ [some (.val x0), some (.val x1)]) : F__law_same_20 (m + 1) [x0, x1] Q := h
abbrev B__law_middle : AS :=
  (aRet (aCall 2 F__law_product (aCons (aCall 2 F__law_sum (aCons (aV 0) (aCons (aV 1) aNil))) (aCons (aTup (aCons (aC (.int 1)) (aCons (aC (.int 2)) aNil))) aNil))))
def F__law_middle : AF := aBody 2 B__law_middle
theorem s_F__law_middle {x0 x1 : PV} {Q : PV → Prop} (h : B__law_middle ⟨fun _ => Q .non, Q, fun _ => False, fun _ => False⟩ [some (.val x0), some (.val x1)]) : F__law_middle [x0, x1] Q := h
abbrev B__law_rising_b0 : AS :=
  (aSeq (aAsg (aBor (aCB gLen (aCons (aFr (aComp (aiQ (aV 1)) 1 [2] (agN 0) (aTst (aCall 2 F_before (aCons (aV 0) (aCons (aV 1) aNil)))) (aV 0))) aNil))) (agN 3))
    (aIfS (aBorT (aOrT (aTst (aOp fEq (aV 3) (aCB gLen (aCons (aV 1) aNil)))) (aTst (aOp fNe (aOp fIx (aV 1) (aV 3)) (aV 2))))) (aMeth 1 mIns (aCons (aV 3) (aCons (aV 2) aNil))) aNext))
abbrev B__law_rising_t1 : AS :=
  (aSeq (aFor (aiQ (aV 0)) (agN 2) B__law_rising_b0)
    (aRet (aV 1)))
abbrev B__law_rising : AS :=
  (aSeq (aNew (aLst aNil) 1)
    B__law_rising_t1)
def F__law_rising : AF := aBody 4 B__law_rising
theorem s_F__law_rising {x0 : PV} {Q : PV → Prop} (h : B__law_rising ⟨fun _ => Q .non, Q, fun _ => False, fun _ => False⟩ [some (.val x0), none, none, none]) : F__law_rising [x0] Q := h
abbrev B__law_moments_20_t3 : AS :=
  (aSeq (aAsg (aOp fIx (aV 3) (aCall 2 F_draw (aCons (aV 0) (aCons (aCB gLen (aCons (aV 3) aNil)) aNil)))) (agN 6))
    (aRet (aOp fAddA (aOp fAddA (aOp fAddA (aV 3) (aV 4)) (aV 5)) (aFr (aLst (aCons (aCall 2 F__law_off (aCons (aV 6) (aCons (aTup (aCons (aC (.int 1)) (aCons (aOp fPow (aC (.int 10)) (aC (.int 19))) aNil))) aNil))) (aCons (aCall 2 F__law_sum (aCons (aV 6) (aCons (aTup (aCons (aC (.int 1)) (aCons (aOp fPow (aC (.int 10)) (aC (.int 19))) aNil))) aNil))) aNil)))))))
abbrev B__law_moments_20_t2 : AS :=
  (aSeq (aAsg (aFr (aLst (aCons (aCall 2 F__law_off (aCons (aOp fIx (aV 3) (aC (.int 0))) (aCons (aTup (aCons (aC (.int 1)) (aCons (aC (.int 3)) aNil))) aNil))) (aCons (aCall 2 F__law_sum (aCons (aOp fIx (aV 3) (aUn fNeg (aC (.int 1)))) (aCons (aTup (aCons (aC (.int 1)) (aCons (aC (.int 2)) aNil))) aNil))) (aCons (aCall 1 F__law_place (aCons (aV 0) aNil)) (aCons (aCall 1 F__law_span (aCons (aV 0) aNil)) aNil)))))) (agN 5))
    B__law_moments_20_t3)
abbrev B__law_moments_20_t1 : AS :=
  (aSeq (aAsg (aFr (aComp (aiZ (aCons (aV 3) (aCons (aSl (aV 3) (aoS (aC (.int 1))) aoN) aNil))) 2 [] (agQ 2 (agCons (agN 0) (agCons (agN 1) agNil))) aYes (aCall 2 F__law_middle (aCons (aV 0) (aCons (aV 1) aNil))))) (agN 4))
    B__law_moments_20_t2)
abbrev B__law_moments_20 : AS :=
  (aSeq (aAsg (aCall 1 F__law_rising (aCons (aFr (aComp (aiQ (aOp fAddA (aV 1) (aV 2))) 1 [] (agN 0) aYes (aOp fIx (aV 0) (aC (.int 0))))) aNil)) (agN 3))
    B__law_moments_20_t1)
def F__law_moments_20 : AF := aBody 7 B__law_moments_20
theorem s_F__law_moments_20 {x0 x1 x2 : PV} {Q : PV → Prop} (h : B__law_moments_20 ⟨fun _ => Q .non, Q, fun _ => False, fun _ => False⟩ [some (.val x0), some (.val x1), some (.val x2), none, none, none, none]) : F__law_moments_20 [x0, x1, x2] Q := h
abbrev B_law_k20_b0_t1 : AS :=
  (aSeq (aIfS (aOrT (aNotT (aTst (aCall 2 (F__law_same_20 12) (aCons (aCall 4 F_gap_at (aCons (aV 6) (aCons (aV 7) (aCons (aV 8) (aCons (aV 4) aNil))))) (aCons (aV 9) aNil))))) (aNotT (aTst (aCall 2 (F__law_same_20 12) (aCons (aCall 4 F_gap_at (aCons (aV 7) (aCons (aV 6) (aCons (aV 8) (aCons (aV 4) aNil))))) (aCons (aV 9) aNil)))))) (aRet (aC (.bl false))) aNext)
    (aIfS (aNotT (aTst (aCall 2 (F__law_same_20 12) (aCons (aCall 4 F_gap_at (aCons (aOp fIx (aV 3) (aC (.int 0))) (aCons (aOp fIx (aV 3) (aC (.int 1))) (aCons (aOp fIx (aV 3) (aC (.int 2))) (aCons (aV 4) aNil))))) (aCons (aV 9) aNil))))) (aRet (aC (.bl false))) aNext))
abbrev B_law_k20_b0 : AS :=
  (aSeq (aAsg (aCall 5 F__law_gap (aCons (aV 6) (aCons (aV 7) (aCons (aV 8) (aCons (aV 4) (aCons (aC (.bl false)) aNil)))))) (agN 9))
    B_law_k20_b0_t1)
abbrev B_law_k20_b1_t5 : AS :=
  (aSeq (aFor (aiQ (aCall 3 F__law_moments_20 (aCons (aV 5) (aCons (aV 6) (aCons (aV 7) aNil))))) (agN 4) B_law_k20_b0)
    (aIfS (aTst (aOp fNe (aV 3) (aTup (aCons (aCall 1 (F__law_listed_20 12) (aCons (aV 6) aNil)) (aCons (aCall 1 (F__law_listed_20 12) (aCons (aV 7) aNil)) (aCons (aCall 1 (F__law_listed_20 12) (aCons (aV 8) aNil)) aNil)))))) (aRet (aC (.bl false))) aNext))
abbrev B_law_k20_b1_t4 : AS :=
  (aSeq (aAsg (aTup (aCons (aCall 1 (F__law_listed_20 12) (aCons (aV 6) aNil)) (aCons (aCall 1 (F__law_listed_20 12) (aCons (aV 7) aNil)) (aCons (aCall 1 (F__law_listed_20 12) (aCons (aV 8) aNil)) aNil)))) (agN 3))
    B_law_k20_b1_t5)
abbrev B_law_k20_b1_t3 : AS :=
  (aSeq (aIfS (aTst (aOp fEq (aCall 2 F_draw (aCons (aV 5) (aCons (aC (.int 2)) aNil))) (aC (.int 0)))) (aAsg (aTup (aCons (aCall 2 F__law_off (aCons (aOp fIx (aV 8) (aC (.int 0))) (aCons (aTup (aCons (aC (.int 1)) (aCons (aOp fPow (aC (.int 10)) (aC (.int 19))) aNil))) aNil))) (aCons (aCall 2 F__law_sum (aCons (aOp fIx (aV 8) (aC (.int 1))) (aCons (aTup (aCons (aC (.int 1)) (aCons (aOp fPow (aC (.int 10)) (aC (.int 19))) aNil))) aNil))) aNil))) (agN 8)) aNext)
    B_law_k20_b1_t4)
abbrev B_law_k20_b1_t2 : AS :=
  (aSeq (aPar 6 7 (aCons (aCall 3 F__law_moved_20 (aCons (aV 6) (aCons (aTup (aCons (aC (.int 0)) (aCons (aC (.int 1)) aNil))) (aCons (aFr (aLst (aCons (aV 2) (aCons (aV 2) (aCons (aV 2) aNil))))) aNil)))) (aCons (aCall 3 F__law_moved_20 (aCons (aV 7) (aCons (aTup (aCons (aC (.int 0)) (aCons (aC (.int 1)) aNil))) (aCons (aFr (aLst (aCons (aV 2) (aCons (aV 2) (aCons (aV 2) aNil))))) aNil)))) aNil)))
    B_law_k20_b1_t3)
abbrev B_law_k20_b1_t1 : AS :=
  (aSeq (aAsg (aOp fIx (aFr (aLst (aCons (aTup (aCons (aC (.int 0)) (aCons (aC (.int 1)) aNil))) (aCons (aTup (aCons (aC (.int 0)) (aCons (aC (.int 1)) aNil))) (aCons (aTup (aCons (aOp fPow (aC (.int 10)) (aC (.int 17))) (aCons (aC (.int 1)) aNil))) aNil))))) (aCall 2 F_draw (aCons (aV 5) (aCons (aC (.int 3)) aNil)))) (agN 2))
    B_law_k20_b1_t2)
abbrev B_law_k20_b1 : AS :=
  (aSeq (aAsg (aCall 2 F__law_case (aCons (aV 0) (aCons (aV 1) aNil))) (agQ 4 (agCons (agN 5) (agCons (agN 6) (agCons (agN 7) (agCons (agN 8) agNil))))))
    B_law_k20_b1_t1)
abbrev B_law_k20 : AS :=
  (aSeq (aFor (aiR1 (aCons (aOp fAddA (aC (.int 1)) (aCB (gI2 min) (aCons (aC (.int 3)) (aCons (aCB gLen (aCons (aV 0) aNil)) aNil)))) aNil)) (agN 1) B_law_k20_b1)
    (aRet (aC (.bl true))))
def F_law_k20 : AF := aBody 10 B_law_k20
theorem s_F_law_k20 {x0 : PV} {Q : PV → Prop} (h : B_law_k20 ⟨fun _ => Q .non, Q, fun _ => False, fun _ => False⟩ [some (.val x0), none, none, none, none, none, none, none, none, none]) : F_law_k20 [x0] Q := h
instance w_isS1 {i : Int} {Q : PV → Prop} : Wp (gIsiS [.int i, .ty "str"] Q) (Q (.bl false)) := ⟨fun h => ⟨rfl, h⟩⟩
instance w_isS2 {Q : PV → Prop} : Wp (gIsiS [.non, .ty "str"] Q) (Q (.bl false)) := ⟨fun h => ⟨rfl, h⟩⟩
instance w_eqN {Q : PV → Prop} : Wp (fEq .non .non Q) (Q (.bl true)) := ⟨fun h => h⟩
theorem listed_fr {m : Nat} {r : Rat} {Q : PV → Prop} (q : Q (fr r)) : F__law_listed_20 (m + 1) [fr r] Q := by
  apply s_F__law_listed_20
  repeat' array_mem_dec
  exact q
theorem same_int {m : Nat} {i : Int} {Q : PV → Prop} (q : Q (.bl true)) : F__law_same_20 (m + 1) [.int i, .int i] Q := by
  apply s_F__law_same_20
  repeat' array_mem_dec
  rw [decide_eq_true rfl]
  exact q
theorem same_non {m : Nat} {Q : PV → Prop} (q : Q (.bl true)) : F__law_same_20 (m + 1) [.non, .non] Q := by
  apply s_F__law_same_20
  repeat' array_mem_dec
  exact q
theorem same_fr {m : Nat} {r : Rat} {Q : PV → Prop} (q : Q (.bl true)) : F__law_same_20 (m + 2) [fr r, fr r] Q := by
  unfold fr
  apply s_F__law_same_20
  repeat' array_get_dec
  refine same_int ?_
  repeat' array_get_dec
  refine same_int ?_
  repeat' array_get_dec
  exact q
theorem listed_fr2 {m : Nat} {a b : Rat} {Q : PV → Prop} (q : Q (.lst [fr a, fr b])) : F__law_listed_20 (m + 2) [.tup [fr a, fr b]] Q := by
  apply s_F__law_listed_20
  repeat' array_get_dec
  refine listed_fr ?_
  repeat' array_get_dec
  refine listed_fr ?_
  repeat' array_get_dec
  exact q
theorem listed_cor {m : Nat} {c : C4} {Q : PV → Prop} (q : Q (corL c)) : F__law_listed_20 (m + 2) [cor c] Q := by
  apply s_F__law_listed_20
  repeat' array_get_dec
  refine listed_fr ?_
  repeat' array_get_dec
  refine listed_fr ?_
  repeat' array_get_dec
  refine listed_fr ?_
  repeat' array_get_dec
  refine listed_fr ?_
  repeat' array_get_dec
  exact q
theorem listed_plan {m : Nat} {cs : List C4} (h0 : cs ≠ []) (hl : cs.length ≤ 100) {Q : PV → Prop} (q : Q (.lst (cs.map corL))) : F__law_listed_20 (m + 3) [planP cs] Q := by
  obtain ⟨a, r, rfl⟩ := List.exists_cons_of_ne_nil h0
  apply s_F__law_listed_20
  repeat' array_mem_dec
  refine cmp_map cor corL id (fun _ => True) (fun c _ R hR => ?_) (a :: r) [] (by simp) ?_
  · repeat' array_mem_dec
    refine listed_cor ?_
    exact hR
  rw [List.map_id]
  exact q
theorem middle_ok {a b : Rat} (ba : Bd 100 a) (bb : Bd 100 b) {Q : PV → Prop} (q : Q (fr ((a + b) * (1 / 2)))) : F__law_middle [fr a, fr b] Q := by
  have h := ba.add bb
  have bh : Bd 8 (1 / 2 : Rat) := sm8
  apply s_F__law_middle
  repeat' array_mem_dec
  exact q
theorem rising_ok {ms : List Rat} {B : Nat} (hB : B ≤ 1000) (h0 : ms ≠ []) (hl : ms.length ≤ 50) (hb : ∀ m ∈ ms, Bd B m) {Q : PV → Prop} (q : ∀ rs : List Rat, rs ≠ [] → rs.length ≤ 50 → (∀ m ∈ rs, Bd B m) → Q (.lst (rs.map fr))) : F__law_rising [.lst (ms.map fr)] Q := by
  apply s_F__law_rising
  repeat' array_mem_dec
  refine for_map fr (fun us vs τ => ∃ (rs : List Rat) (z2 z3 : Option AV), (us ≠ [] → rs ≠ []) ∧ rs.length ≤ us.length ∧ (∀ m ∈ rs, Bd B m) ∧ τ = [some (.val (.lst (ms.map fr))), some (.own (rs.map fr)), z2, z3]) ?_ ?_ ⟨[], _, _, fun h => absurd rfl h, by simp, by simp, rfl⟩
  · rintro τ ⟨rs, z2, z3, h1, h2, h3, rfl⟩
    repeat' array_mem_dec
    exact q rs (h1 h0) (by omega) h3
  · rintro us m vs e τ R hR ⟨rs, z2, z3, h1, h2, h3, rfl⟩
    have ul : us.length ≤ 50 := by rw [← e] at hl; simp at hl; omega
    have bm := hb m (by rw [← e]; simp)
    repeat' array_mem_dec
    refine cmp_filter fr fr (fun x => decide (x < m)) (Bd B) (fun x bx R N h1 h2 => ?_) rs [] h3 ?_
    · repeat' array_mem_dec
      · rename_i z; exact h1 (decide_eq_true z)
      · rename_i z; exact h2 (decide_eq_false z)
    have fl : (rs.filter fun x => decide (x < m)).length ≤ rs.length := List.length_filter_le _ _
    rw [List.nil_append]
    generalize (rs.filter fun x => decide (x < m)) = fs at *
    have ins : ∀ z, R [some (.val (.lst (ms.map fr))), some (.own ((rs.map fr).take fs.length ++ fr m :: (rs.map fr).drop fs.length)), some (.val (fr m)), z] := fun z => hR _ ⟨rs.take fs.length ++ m :: rs.drop fs.length, _, _, fun _ => by simp, by simp; omega, fun x hx => by
      rcases List.mem_append.mp hx with h | h
      · exact h3 x (List.mem_of_mem_take h)
      · rcases List.mem_cons.mp h with rfl | h
        · exact bm
        · exact h3 x (List.mem_of_mem_drop h), by rw [List.map_append, List.map_cons, List.map_take, List.map_drop]⟩
    repeat' array_mem_dec
    · exact ins _
    · exact ins _
    · rename_i z1 c ec mc z2
      refine hR _ ⟨rs, _, _, fun _ h => ?_, by simp; omega, h3, rfl⟩
      rw [h] at mc; cases mc
theorem last_fr {cs : List Rat} {c : Rat} {Q : PV → Prop} (e : cs.getLast? = some c) (h : Q (fr c)) : fIx (.lst (cs.map fr)) (.int (-1)) Q := by
  show onO (atI (cs.map fr) (-1)) Q
  have hne : cs ≠ [] := by intro z; subst z; cases e
  have hl : 0 < cs.length := List.length_pos_iff.mpr hne
  have q : atI (cs.map fr) (-1) = some (fr c) := by
    unfold atI ixN
    rw [List.length_map, if_neg (by decide), if_pos (by omega)]
    have e2 : (-1 + (cs.length : Int)).toNat = cs.length - 1 := by omega
    rw [Option.bind_some, e2, List.getElem?_map, ← List.getLast?_eq_getElem?, e]
    rfl
  rw [q]; exact h
theorem ten19 : PV.tup [.int 1, .int (10 ^ Int.toNat 19)] = fr (1 / 10000000000000000000) := by
  unfold fr
  rw [show (1 / 10000000000000000000 : Rat).num = 1 by decide +kernel, show (1 / 10000000000000000000 : Rat).den = 10000000000000000000 by decide +kernel]
  rfl
theorem mom_cons {us : List PV} {vs : List PV} {B : Nat} (h1 : ∀ y ∈ us, ∃ r : Rat, y = fr r ∧ Bd B r) (h2 : ∀ y ∈ vs, ∃ r : Rat, y = fr r ∧ Bd B r) : ∀ y ∈ us ++ vs, ∃ r : Rat, y = fr r ∧ Bd B r := fun y hy => by
  rcases List.mem_append.mp hy with h | h
  · exact h1 y h
  · exact h2 y h
theorem moments_ok {cs ds : List C4} {B : Nat} (hB : B ≤ 45) (h0 : cs ≠ []) (hl : cs.length ≤ 12) (hl2 : ds.length ≤ 12) (hc : ∀ c ∈ cs, Bd B c.1) (hc2 : ∀ c ∈ ds, Bd B c.1) {Q : PV → Prop} (q : ∀ ms : List PV, (∀ y ∈ ms, ∃ r : Rat, y = fr r ∧ Bd 200 r) → Q (.lst ms)) : F__law_moments_20 [.tape, planP cs, planP ds] Q := by
  have hall : ∀ c ∈ cs ++ ds, Bd B c.1 := fun c hc' => by rcases List.mem_append.mp hc' with h | h; exact hc c h; exact hc2 c h
  apply s_F__law_moments_20
  repeat' array_mem_dec
  refine cmp_map cor fr (fun c => c.1) (fun _ => True) (fun c _ R hR => ?_) (cs ++ ds) [] (by simp) ?_
  · repeat' array_mem_dec
    exact hR
  rw [List.nil_append]
  repeat' array_mem_dec
  refine rising_ok (B := B) (by omega) (by simpa using fun h => absurd h h0) (by simp; omega) (fun m hm => by obtain ⟨c, hc, rfl⟩ := List.mem_map.mp hm; exact hall c hc) fun rs r0 rl rb => ?_
  obtain ⟨a, r, rfl⟩ := List.exists_cons_of_ne_nil r0
  obtain ⟨l, el⟩ : ∃ l, (a :: r).getLast? = some l := ⟨_, List.getLast?_eq_some_getLast (by simp)⟩
  have rl' : r.length + 1 ≤ 50 := rl
  have ba : Bd B a := rb a (by simp)
  have bl : Bd B l := rb l (List.mem_of_getLast? el)
  have b3 : Bd 8 (1 / 3 : Rat) := sm8
  have b2 : Bd 8 (1 / 2 : Rat) := sm8
  have bt : Bd 64 (1 / 10000000000000000000 : Rat) := ⟨by decide +kernel, by decide +kernel⟩
  repeat' array_mem_dec
  have zm : ∀ x ∈ zipP ((a :: r).map fr) (cutP ((a :: r).map fr) (some 1) none), ∃ p q : Rat, x = .tup [fr p, fr q] ∧ Bd B p ∧ Bd B q := fun x hx => by
    obtain ⟨i, hi⟩ := List.mem_iff_getElem?.mp hx
    obtain ⟨u, v, hu, hv, rfl⟩ := zipP_get hi
    obtain ⟨p, hp, rfl⟩ := List.mem_map.mp (List.mem_of_getElem? hu)
    obtain ⟨q, hq, rfl⟩ := List.mem_map.mp (List.mem_of_mem_drop (List.mem_of_mem_take (List.mem_of_getElem? hv)))
    exact ⟨p, q, rfl, rb p hp, rb q hq⟩
  have zl : (zipP ((a :: r).map fr) (cutP ((a :: r).map fr) (some 1) none)).length ≤ 50 := by
    unfold zipP; rw [List.length_zipWith, List.length_map]; exact Nat.le_trans (Nat.min_le_left _ _) rl
  generalize zipP ((a :: r).map fr) (cutP ((a :: r).map fr) (some 1) none) = zs at *
  refine ⟨lt_sz (n := 50) zl (by decide), ?_⟩
  refine cmp_all (fun x => ∃ p q : Rat, x = .tup [fr p, fr q] ∧ Bd B p ∧ Bd B q) (fun y => ∃ r : Rat, y = fr r ∧ Bd 200 r) ?_ _ _ zm (by simp) fun l1 n1 m1 => ?_
  · rintro x ⟨u, v, rfl, bu, bv⟩ R hR
    repeat' array_mem_dec
    refine middle_ok (bu.mono (by omega)) (bv.mono (by omega)) ?_
    exact hR _ ⟨_, rfl, ((bu.add bv).mul b2).mono (by omega)⟩
  have l1n : l1.length ≤ 50 := by simp at n1; omega
  repeat' array_mem_dec
  rename_i c ec mc
  have bc := rb c mc
  repeat' array_mem_dec
  refine last_fr el ?_
  repeat' array_mem_dec
  rename_i pl bpl sp bsp psp k k0 k1 c2 ec2 mc2
  have bc2 := rb c2 mc2
  rw [ten19]
  repeat' array_mem_dec
  rw [ten19]
  repeat' array_mem_dec
  have fr1 : ∀ {x : Rat}, Bd 200 x → ∃ r : Rat, fr x = fr r ∧ Bd 200 r := fun h => ⟨_, rfl, h⟩
  refine q _ (mom_cons (mom_cons (mom_cons ?_ m1) ?_) ?_)
  · intro y hy
    obtain ⟨x, hx, rfl⟩ := List.mem_map.mp hy
    exact fr1 ((rb x hx).mono (by omega))
  · intro y hy
    simp only [List.mem_cons, List.not_mem_nil, or_false] at hy
    rcases hy with rfl | rfl | rfl | rfl
    · exact fr1 ((bc.sub b3).mono (by omega))
    · exact fr1 ((bl.add b2).mono (by omega))
    · exact fr1 (bpl.mono (by decide))
    · exact fr1 (bsp.mono (by decide))
  · intro y hy
    simp only [List.mem_cons, List.not_mem_nil, or_false] at hy
    rcases hy with rfl | rfl
    · exact fr1 ((bc2.sub bt).mono (by omega))
    · exact fr1 ((bc2.add bt).mono (by omega))
theorem absR_neg (r : Rat) : absR (-r) = absR r := by
  unfold absR
  split <;> split <;> grind
theorem offT_sym (p q : T3) (d : Rat × Rat) : gapR (offT q p d) = gapR (offT p q d) := by
  have h : ∀ x y z : Rat, (y - x) / z = -((x - y) / z) := fun x y z => by
    rw [Rat.div_def, Rat.div_def, ← Rat.neg_mul]
    congr 1
    grind
  unfold gapR offT
  simp only [h p.1 q.1, h p.2.1 q.2.1, h p.2.2 q.2.2, absR_neg]
theorem gap_sym {a l a2 l2 : C4} {cs ds : List C4} {d : Rat × Rat} {m : Rat} : gapC a2 l2 a l ds cs d m = gapC a l a2 l2 cs ds d m := by
  unfold gapC
  have e : thereB a2 l2 a l m ↔ thereB a l a2 l2 m := by unfold thereB; constructor <;> (rintro ⟨⟨h1, h2⟩, h3, h4⟩; exact ⟨⟨h2, h1⟩, h4, h3⟩)
  by_cases h : thereB a l a2 l2 m
  · rw [if_pos h, if_pos (e.mpr h), offT_sym]
  · rw [if_neg h, if_neg (fun z => h (e.mp z))]
theorem same_gap {o : Option Rat} {Q : PV → Prop} (q : Q (.bl true)) : F__law_same_20 12 [gapP o, gapP o] Q := by
  cases o with
  | none => exact same_non (m := 11) q
  | some r => exact same_fr (m := 10) q
theorem ne_tup {xs : List PV} {Q : PV → Prop} (h : okD 30 (.tup xs) = true) (q : Q (.bl false)) : fNe (.tup xs) (.tup xs) Q := by
  show (okD 30 _ = true ∧ okD 30 _ = true) ∧ Q (.bl (!eqB _ _))
  rw [eqB_refl h]
  exact ⟨⟨h, h⟩, q⟩
theorem ok_cl (cs : List C4) : okD 29 (.lst (cs.map corL)) = true := by
  simp only [okD]
  refine okDs_all fun x hx => ?_
  obtain ⟨c, _, rfl⟩ := List.mem_map.mp hx
  rfl
theorem ok_lists (cs ds : List C4) (x y : Rat) : okD 30 (.tup [.lst (cs.map corL), .lst (ds.map corL), .lst [fr x, fr y]]) = true := by
  simp only [okD, okDs, Bool.and_true, Bool.and_eq_true]
  have h1 := ok_cl cs
  have h2 := ok_cl ds
  simp only [okD] at h1 h2
  exact ⟨h1, h2, rfl, rfl⟩
theorem turn_t4 {cs ds : List C4} {d : Rat × Rat} {z0 z1 z2 z3 z4 z9 : Option AV} {X Y Z : ASt → Prop} {B : Nat} (hB : B ≤ 45) (p : PlanOk 12 150 cs) (p2 : PlanOk 12 150 ds) (pm : ∀ c ∈ cs, Bd B c.1) (pm2 : ∀ c ∈ ds, Bd B c.1) (b1 : Bd 100 d.1) (b2 : Bd 100 d.2) (g1 : d.1 ≠ 0) (g2 : d.2 ≠ 0) (again : ∀ z1 z2 z3 z4 z5 z6 z7 z8 z9, X [z0, z1, z2, z3, z4, z5, z6, z7, z8, z9]) :
    B_law_k20_b1_t4 { nx := X, rt := fun x => x = .bl true, bk := Y, ct := Z } [z0, z1, z2, z3, z4, some (.val .tape), some (.val (planP cs)), some (.val (planP ds)), some (.val (.tup [fr d.1, fr d.2])), z9] := by
  obtain ⟨a, r, l, ecs, h0, el, al⟩ := p.open
  obtain ⟨a2, r2, l2, eds, h02, el2, al2⟩ := p2.open
  subst ecs eds
  have few := p.few
  have few2 := p2.few
  repeat' array_mem_dec
  refine listed_plan (m := 9) (by simp) (by omega) ?_
  repeat' array_mem_dec
  refine listed_plan (m := 9) (by simp) (by omega) ?_
  repeat' array_mem_dec
  refine listed_fr2 (m := 10) ?_
  repeat' array_mem_dec
  refine moments_ok hB (by simp) (by omega) (by omega) pm pm2 fun ms hms => ?_
  repeat' array_mem_dec
  refine for_any (fun τ => ∃ z4 z9, τ = [z0, z1, z2, some (.val (.tup [.lst ((a :: r).map corL), .lst ((a2 :: r2).map corL), .lst [fr d.1, fr d.2]])), z4, some (.val .tape), some (.val (planP (a :: r))), some (.val (planP (a2 :: r2))), some (.val (.tup [fr d.1, fr d.2])), z9]) ?_ ?_ ⟨_, _, rfl⟩
  · rintro τ ⟨z4, z9, rfl⟩
    repeat' array_mem_dec
    refine listed_plan (m := 9) (by simp) (by omega) ?_
    repeat' array_mem_dec
    refine listed_plan (m := 9) (by simp) (by omega) ?_
    repeat' array_mem_dec
    refine listed_fr2 (m := 10) ?_
    repeat' array_mem_dec
    refine ne_tup (ok_lists _ _ _ _) ?_
    repeat' array_mem_dec
    exact again _ _ _ _ _ _ _ _ _
  · intro v hv τ R hR hp
    obtain ⟨z4, z9, rfl⟩ := hp
    obtain ⟨m, rfl, bm⟩ := hms v hv
    have G : ∀ (v w u : PV), PlanV (a :: r) v → PlanV (a2 :: r2) w → AptV d u → ∀ {Q : PV → Prop}, Q (gapP (gapC a l a2 l2 (a :: r) (a2 :: r2) d m)) → F_gap_at [v, w, u, fr m] Q := fun v w u hv hw hu Q q => gap_ok hv hw hu p.bd p2.bd p.ris p2.ris h0 h02 (by omega) (by omega) el el2 bm b1 b2 g1 g2 q
    have G2 : ∀ (v w u : PV), PlanV (a :: r) v → PlanV (a2 :: r2) w → AptV d u → ∀ {Q : PV → Prop}, Q (gapP (gapC a l a2 l2 (a :: r) (a2 :: r2) d m)) → F_gap_at [w, v, u, fr m] Q := fun v w u hv hw hu Q q => gap_ok hw hv hu p2.bd p.bd p2.ris p.ris h02 h0 (by omega) (by omega) el2 el bm b1 b2 g1 g2 (by rw [gap_sym]; exact q)
    repeat' array_mem_dec
    refine law_gap_ok p.bd p2.bd p.ris p2.ris h0 h02 (by omega) (by omega) el el2 bm b1 b2 g1 g2 ?_
    generalize gapC a l a2 l2 (a :: r) (a2 :: r2) d m = o at *
    repeat' array_mem_dec
    refine G _ _ _ (.self _) (.self _) (.inl rfl) ?_
    repeat' array_mem_dec
    refine same_gap ?_
    repeat' array_mem_dec
    refine G2 _ _ _ (.self _) (.self _) (.inl rfl) ?_
    repeat' array_mem_dec
    refine same_gap ?_
    repeat' array_mem_dec
    refine G _ _ _ (.lists _) (.lists _) (.inr rfl) ?_
    repeat' array_mem_dec
    refine same_gap ?_
    repeat' array_mem_dec
    exact hR _ ⟨_, _, rfl⟩
theorem law_true (ns : List Int) (hn : ns.length ≤ 63) : F_law_k20 [.scr ns] fun x => x = .bl true := by
  apply s_F_law_k20
  repeat' array_get_dec
  refine for_rng (fun i τ => ∃ z1 z2 z3 z4 z5 z6 z7 z8 z9, τ = [some (.val (.scr ns)), z1, z2, z3, z4, z5, z6, z7, z8, z9]) ?_ ?_ ⟨_, _, _, _, _, _, _, _, _, rfl⟩
  · rintro τ ⟨z1, z2, z3, z4, z5, z6, z7, z8, z9, rfl⟩
    repeat' array_get_dec
  · rintro i hi τ R hR ⟨z1, z2, z3, z4, z5, z6, z7, z8, z9, rfl⟩
    have again : ∀ z1 z2 z3 z4 z5 z6 z7 z8 z9, R [some (.val (.scr ns)), z1, z2, z3, z4, z5, z6, z7, z8, z9] := fun z1 z2 z3 z4 z5 z6 z7 z8 z9 => hR _ ⟨z1, z2, z3, z4, z5, z6, z7, z8, z9, rfl⟩
    clear hR
    have e0 : (0 : Int) + i = i := by omega
    rw [e0]
    repeat' array_mem_dec
    refine case_ok (by omega) fun cs ds d p p2 b1 b2 g1 g2 => ?_
    repeat' array_mem_dec
    rename_i k k0 k1
    refine ix_frs (xs := [(0 : Rat), 0, ((10 ^ Int.toNat 17 : Int) : Rat)]) k0 k1 fun x hx => ?_
    have bx : Bd 60 x := by
      simp only [List.mem_cons, List.not_mem_nil, or_false] at hx
      rcases hx with rfl | rfl | rfl
      · exact bd0.mono (by decide)
      · exact bd0.mono (by decide)
      · exact .int (by decide) (by decide)
    have few := p.few
    have few2 := p2.few
    have mvOk : ∀ {es : List C4}, PlanOk 12 40 es → PlanOk 12 150 (es.map (movC 0 (x, x, x))) ∧ ∀ c ∈ es.map (movC 0 (x, x, x)), Bd 44 c.1 := fun {es} p => by
      refine ⟨⟨by simpa using p.two, by simpa using p.few, fun c hc => ?_, ?_⟩, fun c hc => ?_⟩
      · obtain ⟨e, he, rfl⟩ := List.mem_map.mp hc
        have b := p.bd e he
        exact ⟨(b.m.add bd0).mono (by decide), (b.x.add bx).mono (by decide), (b.y.add bx).mono (by decide), (b.z.add bx).mono (by decide)⟩
      · refine List.pairwise_map.mpr (p.ris.imp fun {a b} h => ?_)
        show a.1 + 0 < b.1 + 0
        grind
      · obtain ⟨e, he, rfl⟩ := List.mem_map.mp hc
        exact ((p.bd e he).m.add bd0).mono (by decide)
    obtain ⟨q1, m1⟩ := mvOk p
    obtain ⟨q2, m2⟩ := mvOk p2
    have b0 : Bd 60 (0 : Rat) := bd0.mono (by decide)
    repeat' array_mem_dec
    refine moved20_ok (o := (x, x, x)) rfl (by omega) p.bd b0 ⟨bx, bx, bx⟩ (by decide) (by decide) ?_
    repeat' array_mem_dec
    refine moved20_ok (o := (x, x, x)) rfl (by omega) p2.bd b0 ⟨bx, bx, bx⟩ (by decide) (by decide) ?_
    have bt : Bd 64 (1 / 10000000000000000000 : Rat) := ⟨by decide +kernel, by decide +kernel⟩
    have n1 : d.1 ≠ 0 := by grind
    have n2 : d.2 ≠ 0 := by grind
    repeat' (first | exact turn_t4 (by decide) q1 q2 m1 m2 (b1.mono (by decide)) (b2.mono (by decide)) n1 n2 again | array_mem_dec)
    rw [ten19]
    repeat' array_mem_dec
    rw [ten19]
    have n1' : d.1 - 1 / 10000000000000000000 ≠ 0 := by grind
    have n2' : d.2 + 1 / 10000000000000000000 ≠ 0 := by grind
    have c1 := b1.sub bt
    have c2 := b2.add bt
    repeat' (first | exact turn_t4 (d := (d.1 - 1 / 10000000000000000000, d.2 + 1 / 10000000000000000000)) (by decide) q1 q2 m1 m2 (c1.mono (by decide)) (c2.mono (by decide)) n1' n2' again | array_mem_dec)
end PL.K20
end
section
set_option Elab.async false
set_option linter.all false
set_option maxRecDepth 100000
set_option maxHeartbeats 4000000
namespace K20
open PySem L2 PL PL.K20 PyProof.Rows
def top (i : Nat) : Stmt := PySem.Challenge.pw_skylanes_k20_gaps.main.body.getD i (.Pass ⟨0, 0, 0, 0⟩)
abbrev s__law_draw : Stmt := top 20
abbrev s__law_apart : Stmt := top 30
abbrev s__law_part : Stmt := top 21
abbrev s__law_sum : Stmt := top 23
abbrev s__law_moved : Stmt := top 32
abbrev s__law_off : Stmt := top 24
abbrev s__law_place : Stmt := top 27
abbrev s__law_span : Stmt := top 28
abbrev s__law_plan : Stmt := top 29
abbrev s__law_product : Stmt := top 25
abbrev s__law_beside : Stmt := top 33
abbrev s__law_tape : Stmt := top 19
abbrev s__law_case : Stmt := top 34
abbrev s__law_less : Stmt := top 22
abbrev s__law_ratio : Stmt := top 26
abbrev s__law_spot : Stmt := top 31
abbrev s__law_gap : Stmt := top 35
abbrev s__law_listed : Stmt := top 39
abbrev s__law_middle : Stmt := top 37
abbrev s__law_rising : Stmt := top 36
abbrev s__law_moments : Stmt := top 40
abbrev s__law_same : Stmt := top 38
abbrev s_before : Stmt := top 7
abbrev s_greater : Stmt := top 9
abbrev s_common : Stmt := top 1
abbrev s_part : Stmt := top 2
abbrev s_minus : Stmt := top 4
abbrev s_over : Stmt := top 6
abbrev s_size_of : Stmt := top 15
abbrev s_plus : Stmt := top 3
abbrev s_times : Stmt := top 5
abbrev s_spot_between : Stmt := top 11
abbrev s_spot_at : Stmt := top 12
abbrev s_offs_at : Stmt := top 16
abbrev s_lesser : Stmt := top 8
abbrev s_together : Stmt := top 14
abbrev s_gap_at : Stmt := top 17
abbrev s_law : Stmt := top 41
section
variable {P : Program} {w : World} {K : PySem.W.Frag} {mg : Str → Option Value} {base : Heap}
theorem sc__law_draw : FnScope ["_law_tape_here", "_law_many", "_law_once", "_law_found"] ["_law_tape_here", "_law_many"] (defScope s__law_draw) := ⟨rfl, rfl, rfl, by decide +kernel, rfl, by decide +kernel, by decide +kernel⟩
theorem ok__law_draw {n : Nat} {f : Addr} {fd : FuncData} (F : Fun K "_law_draw" "_law_draw" s__law_draw f fd) :
    FnOk P w K mg base CX0 (n + 1) f fd ["_law_tape_here", "_law_many"] (spA K 2 F_draw) := by
  have nd := sc__law_draw.nd
  refine F.ok sc__law_draw (fun vs H Q E h => ?_) (fun cdv A outer s H vs Q E hr h => ?_)
  · obtain ⟨T, M, xs, AQ, _, _, r, hl, _⟩ := h
    rw [r.length, hl] <;> rfl
  obtain ⟨T, M, xs, AQ, va, _, r, hl, hF, hQ⟩ := h
  unfold F_draw at hF
  split at hF <;> first | exact hF.elim | skip
  rename_i m
  obtain ⟨⟨m0, m1⟩, hF⟩ := hF
  cases r with
  | cons r rr =>
  cases rr with
  | cons r2 rr =>
  cases rr
  cases r2
  cases r with
  | tape tp =>
  rename_i p
  obtain ⟨d, x, hp, d0, x0, x1⟩ := va.tp p tp
  refine ⟨_, (pss_cons (ps_if (pt_cmpR op_gt (pe_ix ix_list (pv 0) pe_int (fun _ _ => rfl)) pe_int (nomark _)) (pss_cons (ps_set (i := 3) nd rfl (Or.inl rfl) (pe_op op_mod (pe_ix ix_list (pv 0) pe_int (fun _ _ => rfl)) (pv 1)))
    (pss_cons (ps_asg (pe_op op_fdivG (pe_ix ix_list (pv 0) pe_int (fun _ _ => rfl)) (pv 1)) (pg_sub (pv 0) pe_int set_list))
    (pss_one (ps_ret (pv 3))))) pss_nil)
    (pss_cons (ps_asg (pe_op op_mod (pe_op op_add (pe_op op_mulG (pe_ix ix_list (pv 0) pe_int (fun _ _ => rfl)) pe_int) pe_int) pe_int) (pg_sub (pv 0) pe_int set_list))
    (pss_cons (ps_set (i := 2) nd rfl (Or.inl rfl) (pe_op op_mod (pe_op op_mulG (pe_ix ix_list (pv 0) pe_int (fun _ _ => rfl)) (pe_op op_add (pe_op op_mod (pe_ix ix_list (pv 0) pe_int (fun _ _ => rfl)) pe_int) pe_int)) pe_int))
    (pss_one (ps_ret (pe_op op_mod (pe_op op_mod (pe_op op_mulG (pv 2) (pe_op op_add (pe_op op_mod (pv 2) pe_int) pe_int)) pe_int) (pv 1))))))), ?_⟩
  have fin : ∀ (r d' x' : Int) , 0 ≤ r → r < m → 0 ≤ d' → 0 ≤ x' → x' < 2147483647 → Q (.int r) (upd H p (.lst [.int d', .int x'])) := fun r d' x' r0 r1 a b c =>
    hQ _ (.int r) T _ (tape_put va.tp tp a b c) (.int r) (hF r r0 r1)
  refine ⟨_, rfl, p, _, _, _, rfl, rfl, SqL.of hp, rfl, _, _, rfl, rfl, _, rfl, ?_⟩
  refine ite2 (fun c => ?_) (fun c => ?_)
  · refine ⟨_, rfl, p, _, _, _, rfl, rfl, SqL.of hp, rfl, _, rfl, _, _, rfl, rfl, m0, ?_⟩
    refine ⟨_, rfl, p, _, _, _, rfl, rfl, SqL.of hp, rfl, _, rfl, _, _, rfl, rfl, ⟨m0, by omega⟩, ?_⟩
    refine ⟨_, rfl, p, _, _, _, rfl, rfl, hp, rfl, ?_⟩
    exact ⟨_, rfl, fin _ _ _ (Int.emod_nonneg _ (by omega)) (Int.emod_lt_of_pos _ m0) (Int.ediv_nonneg d0 (by omega)) x0 x1⟩
  · refine ⟨_, rfl, p, _, _, _, rfl, rfl, SqL.of hp, rfl, _, _, rfl, rfl, .inl (.inr ⟨by decide, by decide⟩), _, _, rfl, rfl, _, _, rfl, rfl, (show (0 : Int) < 2147483647 by decide), ?_⟩
    refine ⟨_, rfl, p, _, _, _, rfl, rfl, hp, rfl, ?_⟩
    have y0 : 0 ≤ (x * 48271 + 12345) % 2147483647 := Int.emod_nonneg _ (by decide)
    have y1 : (x * 48271 + 12345) % 2147483647 < 2147483647 := Int.emod_lt_of_pos _ (by decide)
    have hp1 : upd H p (.lst ([V.int d, V.int x].set (Int.toNat 1) (V.int ((x * 48271 + 12345) % 2147483647)))) p = some (.lst [.int d, .int ((x * 48271 + 12345) % 2147483647)]) := upd_same
    have z0 : 0 ≤ (x * 48271 + 12345) % 2147483647 * ((x * 48271 + 12345) % 2147483647 % 1009 + 3) % 2147483629 := Int.emod_nonneg _ (by decide)
    have z1 : (x * 48271 + 12345) % 2147483647 * ((x * 48271 + 12345) % 2147483647 % 1009 + 3) % 2147483629 < 2147483629 := Int.emod_lt_of_pos _ (by decide)
    refine ⟨_, rfl, p, _, _, _, rfl, rfl, SqL.of hp1, rfl, _, rfl, p, _, _, _, rfl, rfl, SqL.of hp1, rfl, _, _, rfl, rfl, (show (0 : Int) < 1009 by decide), _, _, rfl, rfl, _, _, rfl, rfl, .inl (.inl (small_cmul y0 y1)), _, _, rfl, rfl, (show (0 : Int) < 2147483629 by decide), ?_⟩
    refine ⟨_, rfl, _, rfl, _, _, rfl, rfl, (show (0 : Int) < 997 by decide), _, _, rfl, rfl, _, _, rfl, rfl, .inl (.inl (small_cmul z0 (Int.lt_trans z1 (by decide)))), _, _, rfl, rfl, (show (0 : Int) < 998244353 by decide), _, rfl, _, _, rfl, rfl, m0, ?_⟩
    exact fin _ _ _ (Int.emod_nonneg _ (by omega)) (Int.emod_lt_of_pos _ m0) d0 y0 y1
theorem sc__law_apart : FnScope ["_law_tape_here", "_law_some"] ["_law_tape_here"] (defScope s__law_apart) := ⟨rfl, rfl, rfl, by decide +kernel, rfl, by decide +kernel, by decide +kernel⟩
theorem ok__law_apart {n : Nat} {f : Addr} {fd : FuncData} (F : Fun K "_law_apart" "_law_apart" s__law_apart f fd) (D_law_draw : Has P w K mg base n "_law_draw" ["_law_tape_here", "_law_many"] (spA K 2 F_draw)) :
    FnOk P w K mg base CX0 (n + 1) f fd ["_law_tape_here"] (spA K 1 F__law_apart) := by
  have nd := sc__law_apart.nd
  exact fn_pure F sc__law_apart rfl fun cdv A outer s H E hr => (ss_cons (ss_set (i := 1) nd rfl (Or.inl rfl) (se_f (sf_lst (sa_cons (se_tup (sa_cons se_int (sa_cons se_int sa_nil))) (sa_cons (se_tup (sa_cons se_int (sa_cons se_int sa_nil))) (sa_cons (se_tup (sa_cons se_int (sa_cons se_int sa_nil))) (sa_cons (se_tup (sa_cons se_int (sa_cons se_int sa_nil))) (sa_cons (se_tup (sa_cons se_int (sa_cons se_int sa_nil))) sa_nil))))))))
    (ss_one (ss_ret (se_tup (sa_cons (se_ix so_ix (se_v 1) (se_call D_law_draw hr rfl (sa_cons (se_v 0) (sa_cons se_int sa_nil))) (fun _ _ => rfl)) (sa_cons (se_ix so_ix (se_v 1) (se_call D_law_draw hr rfl (sa_cons (se_v 0) (sa_cons se_int sa_nil))) (fun _ _ => rfl)) sa_nil))))))
theorem sc__law_part : FnScope ["_law_top", "_law_bottom", "_law_sign", "_law_one", "_law_other"] ["_law_top", "_law_bottom"] (defScope s__law_part) := ⟨rfl, rfl, rfl, by decide +kernel, rfl, by decide +kernel, by decide +kernel⟩
theorem ok__law_part {n : Nat} {f : Addr} {fd : FuncData} (F : Fun K "_law_part" "_law_part" s__law_part f fd) (z_abs : mg "abs" = none) (z_int : mg "int" = none) :
    FnOk P w K mg base CX0 (n + 1) f fd ["_law_top", "_law_bottom"] (spA K 2 F__law_part) := by
  have nd := sc__law_part.nd
  exact fn_pure F sc__law_part rfl fun cdv A outer s H E hr => (ss_cons (ss_par (i := 3) (j := 4) rfl nd rfl rfl (by decide) rfl rfl (sa_cons (se_callB sb_abs rfl z_abs boot_abs (sa_cons (se_v 0) sa_nil)) (sa_cons (se_callB sb_abs rfl z_abs boot_abs (sa_cons (se_v 1) sa_nil)) sa_nil)) rfl)
    (ss_cons (ss_while PassesOwn.never (st_cmp so_gt (se_v 4) se_int (nomark _)) (ss_one (ss_par (i := 3) (j := 4) rfl nd rfl rfl (by decide) rfl rfl (sa_cons (se_v 4) (sa_cons (se_op so_mod (se_v 3) (se_v 4)) sa_nil)) rfl)))
    (ss_cons (ss_set (i := 2) nd rfl (Or.inl rfl) (se_op so_sub se_int (se_op so_mul se_int (se_callTy sb_int rfl z_int PyProof.Rows.boot_int (sa_cons (se_cmp so_lt (se_v 1) se_int (nomark _)) sa_nil)))))
    (ss_one (ss_ret (se_tup (sa_cons (se_op so_fdiv (se_op so_mul (se_v 2) (se_v 0)) (se_v 3)) (sa_cons (se_op so_fdiv (se_op so_mul (se_v 2) (se_v 1)) (se_v 3)) sa_nil))))))))
theorem sc__law_sum : FnScope ["_law_one", "_law_other"] ["_law_one", "_law_other"] (defScope s__law_sum) := ⟨rfl, rfl, rfl, by decide +kernel, rfl, by decide +kernel, by decide +kernel⟩
theorem ok__law_sum {n : Nat} {f : Addr} {fd : FuncData} (F : Fun K "_law_sum" "_law_sum" s__law_sum f fd) (D_law_part : Has P w K mg base n "_law_part" ["_law_top", "_law_bottom"] (spA K 2 F__law_part)) :
    FnOk P w K mg base CX0 (n + 1) f fd ["_law_one", "_law_other"] (spA K 2 F__law_sum) := by
  have nd := sc__law_sum.nd
  exact fn_pure F sc__law_sum rfl fun cdv A outer s H E hr => (ss_one (ss_ret (se_call D_law_part hr rfl (sa_cons (se_op so_addA (se_op so_mul (se_ix so_ix (se_v 0) se_int (fun _ _ => rfl)) (se_ix so_ix (se_v 1) se_int (fun _ _ => rfl))) (se_op so_mul (se_ix so_ix (se_v 1) se_int (fun _ _ => rfl)) (se_ix so_ix (se_v 0) se_int (fun _ _ => rfl)))) (sa_cons (se_op so_mul (se_ix so_ix (se_v 0) se_int (fun _ _ => rfl)) (se_ix so_ix (se_v 1) se_int (fun _ _ => rfl))) sa_nil)))))
theorem sc__law_moved : FnScope ["_law_plan_here", "_law_late", "_law_by"] ["_law_plan_here", "_law_late", "_law_by"] (defScope s__law_moved) := ⟨rfl, rfl, rfl, by decide +kernel, rfl, by decide +kernel, by decide +kernel⟩
theorem ok__law_moved {n : Nat} {f : Addr} {fd : FuncData} (F : Fun K "_law_moved" "_law_moved" s__law_moved f fd) (D_law_sum : Has P w K mg base n "_law_sum" ["_law_one", "_law_other"] (spA K 2 F__law_sum)) (z_range : mg "range" = none) (z_tuple : mg "tuple" = none) :
    FnOk P w K mg base CX0 (n + 1) f fd ["_law_plan_here", "_law_late", "_law_by"] (spA K 3 F__law_moved_20) := by
  have nd := sc__law_moved.nd
  have nd0 : (["_law_one", "_law_late", "_law_by"] : List Str).Nodup := by decide +kernel
  have nd1 : (["_law_k", "_law_one", "_law_by"] : List Str).Nodup := by decide +kernel
  exact fn_pure F sc__law_moved rfl fun cdv A outer s H E hr => (ss_one (ss_ret (se_callTy sb_tuple rfl z_tuple PyProof.Rows.boot_tuple (sa_cons (se_f (sf_compC rfl (si_q (se_v 0)) (comp_sC (own := 1) (ix := [1, 2]) (N := ["_law_one", "_law_late", "_law_by"]) "_law_one" rfl rfl (fun _ _ => rfl) (fun _ => rfl) rfl rfl rfl rfl rfl (fun _ _ _ _ _ _ => (sk_name (i := 0) nd0 rfl (Or.inr rfl) (by decide))) (fun _ _ _ _ _ _ => sif_nil) (fun _ _ _ _ _ _ => (se_op so_addA (se_tup (sa_cons (se_call D_law_sum hr rfl (sa_cons (se_ix so_ix (se_v 0) se_int (fun _ _ => rfl)) (sa_cons (se_v 1) sa_nil))) sa_nil)) (se_callTy sb_tuple rfl z_tuple PyProof.Rows.boot_tuple (sa_cons (se_f (sf_comp rfl (si_r1 rfl z_range (sa_cons se_int sa_nil)) (comp_s (own := 1) (ix := [0, 2]) (N := ["_law_k", "_law_one", "_law_by"]) rfl rfl rfl rfl rfl rfl (fun _ _ _ _ _ _ => (sk_name (i := 0) nd1 rfl (Or.inl rfl) (by decide))) (fun _ _ _ _ _ _ => sif_nil) (fun _ _ _ _ _ _ => (se_call D_law_sum hr rfl (sa_cons (se_ix so_ix (se_v 1) (se_op so_addA (se_v 0) se_int) (fun _ _ => rfl)) (sa_cons (se_ix so_ix (se_v 2) (se_v 0) (fun _ _ => rfl)) sa_nil))))))) sa_nil))))))) sa_nil))))
theorem sc__law_off : FnScope ["_law_one", "_law_other"] ["_law_one", "_law_other"] (defScope s__law_off) := ⟨rfl, rfl, rfl, by decide +kernel, rfl, by decide +kernel, by decide +kernel⟩
theorem ok__law_off {n : Nat} {f : Addr} {fd : FuncData} (F : Fun K "_law_off" "_law_off" s__law_off f fd) (D_law_part : Has P w K mg base n "_law_part" ["_law_top", "_law_bottom"] (spA K 2 F__law_part)) :
    FnOk P w K mg base CX0 (n + 1) f fd ["_law_one", "_law_other"] (spA K 2 F__law_off) := by
  have nd := sc__law_off.nd
  exact fn_pure F sc__law_off rfl fun cdv A outer s H E hr => (ss_one (ss_ret (se_call D_law_part hr rfl (sa_cons (se_op so_sub (se_op so_mul (se_ix so_ix (se_v 0) se_int (fun _ _ => rfl)) (se_ix so_ix (se_v 1) se_int (fun _ _ => rfl))) (se_op so_mul (se_ix so_ix (se_v 1) se_int (fun _ _ => rfl)) (se_ix so_ix (se_v 0) se_int (fun _ _ => rfl)))) (sa_cons (se_op so_mul (se_ix so_ix (se_v 0) se_int (fun _ _ => rfl)) (se_ix so_ix (se_v 1) se_int (fun _ _ => rfl))) sa_nil)))))
theorem sc__law_place : FnScope ["_law_tape_here", "_law_kind"] ["_law_tape_here"] (defScope s__law_place) := ⟨rfl, rfl, rfl, by decide +kernel, rfl, by decide +kernel, by decide +kernel⟩
theorem ok__law_place {n : Nat} {f : Addr} {fd : FuncData} (F : Fun K "_law_place" "_law_place" s__law_place f fd) (D_law_draw : Has P w K mg base n "_law_draw" ["_law_tape_here", "_law_many"] (spA K 2 F_draw)) (D_law_part : Has P w K mg base n "_law_part" ["_law_top", "_law_bottom"] (spA K 2 F__law_part)) :
    FnOk P w K mg base CX0 (n + 1) f fd ["_law_tape_here"] (spA K 1 F__law_place) := by
  have nd := sc__law_place.nd
  exact fn_pure F sc__law_place rfl fun cdv A outer s H E hr => (ss_cons (ss_set (i := 1) nd rfl (Or.inl rfl) (se_call D_law_draw hr rfl (sa_cons (se_v 0) (sa_cons se_int sa_nil))))
    (ss_cons (ss_if (st_cmp so_lt (se_v 1) se_int (nomark _)) (ss_one (ss_ret (se_tup (sa_cons (se_op so_sub (se_call D_law_draw hr rfl (sa_cons (se_v 0) (sa_cons se_int sa_nil))) se_int) (sa_cons se_int sa_nil))))) ss_nil)
    (ss_cons (ss_if (st_cmp (so_eq hr) (se_v 1) se_int (nomark _)) (ss_one (ss_ret (se_call D_law_part hr rfl (sa_cons (se_op so_sub (se_call D_law_draw hr rfl (sa_cons (se_v 0) (sa_cons se_int sa_nil))) se_int) (sa_cons se_int sa_nil))))) ss_nil)
    (ss_one (ss_ret (se_call D_law_part hr rfl (sa_cons (se_op so_sub (se_call D_law_draw hr rfl (sa_cons (se_v 0) (sa_cons se_int sa_nil))) se_int) (sa_cons se_int sa_nil))))))))
theorem sc__law_span : FnScope ["_law_tape_here", "_law_way"] ["_law_tape_here"] (defScope s__law_span) := ⟨rfl, rfl, rfl, by decide +kernel, rfl, by decide +kernel, by decide +kernel⟩
theorem ok__law_span {n : Nat} {f : Addr} {fd : FuncData} (F : Fun K "_law_span" "_law_span" s__law_span f fd) (D_law_draw : Has P w K mg base n "_law_draw" ["_law_tape_here", "_law_many"] (spA K 2 F_draw)) (D_law_part : Has P w K mg base n "_law_part" ["_law_top", "_law_bottom"] (spA K 2 F__law_part)) :
    FnOk P w K mg base CX0 (n + 1) f fd ["_law_tape_here"] (spA K 1 F__law_span) := by
  have nd := sc__law_span.nd
  exact fn_pure F sc__law_span rfl fun cdv A outer s H E hr => (ss_cons (ss_set (i := 1) nd rfl (Or.inl rfl) (se_call D_law_draw hr rfl (sa_cons (se_v 0) (sa_cons se_int sa_nil))))
    (ss_cons (ss_if (st_cmp so_lt (se_v 1) se_int (nomark _)) (ss_one (ss_ret (se_tup (sa_cons (se_op so_addA se_int (se_call D_law_draw hr rfl (sa_cons (se_v 0) (sa_cons se_int sa_nil)))) (sa_cons se_int sa_nil))))) ss_nil)
    (ss_one (ss_ret (se_call D_law_part hr rfl (sa_cons (se_op so_addA se_int (se_call D_law_draw hr rfl (sa_cons (se_v 0) (sa_cons se_int sa_nil)))) (sa_cons (se_op so_sub (se_v 1) se_int) sa_nil)))))))
theorem sc__law_plan : FnScope ["_law_tape_here", "_law_many", "_law_m", "_law_spot_here", "_law_corners", "_law_way"] ["_law_tape_here"] (defScope s__law_plan) := ⟨rfl, rfl, rfl, by decide +kernel, rfl, by decide +kernel, by decide +kernel⟩
theorem ok__law_plan {n : Nat} {f : Addr} {fd : FuncData} (F : Fun K "_law_plan" "_law_plan" s__law_plan f fd) (D_law_draw : Has P w K mg base n "_law_draw" ["_law_tape_here", "_law_many"] (spA K 2 F_draw)) (D_law_place : Has P w K mg base n "_law_place" ["_law_tape_here"] (spA K 1 F__law_place)) (D_law_span : Has P w K mg base n "_law_span" ["_law_tape_here"] (spA K 1 F__law_span)) (D_law_sum : Has P w K mg base n "_law_sum" ["_law_one", "_law_other"] (spA K 2 F__law_sum)) (z_len : mg "len" = none) (z_tuple : mg "tuple" = none) :
    FnOk P w K mg base CX0 (n + 1) f fd ["_law_tape_here"] (spA K 1 F__law_plan_20) := by
  have nd := sc__law_plan.nd
  exact fn_pure F sc__law_plan rfl fun cdv A outer s H E hr => (ss_cons (ss_set (i := 1) nd rfl (Or.inl rfl) (se_op so_addA se_int (se_call D_law_draw hr rfl (sa_cons (se_v 0) (sa_cons se_int sa_nil)))))
    (ss_cons (ss_if (st_cmp (so_eq hr) (se_call D_law_draw hr rfl (sa_cons (se_v 0) (sa_cons se_int sa_nil))) se_int (nomark _)) (ss_one (ss_set (i := 1) nd rfl (Or.inl rfl) (se_ix so_ix (se_f (sf_lst (sa_cons se_int (sa_cons se_int (sa_cons se_int (sa_cons se_int sa_nil)))))) (se_call D_law_draw hr rfl (sa_cons (se_v 0) (sa_cons se_int sa_nil))) (fun _ _ => rfl)))) ss_nil)
    (ss_cons (ss_set (i := 2) nd rfl (Or.inl rfl) (se_tup (sa_cons (se_call D_law_draw hr rfl (sa_cons (se_v 0) (sa_cons se_int sa_nil))) (sa_cons se_int sa_nil))))
    (ss_cons (ss_set (i := 3) nd rfl (Or.inl rfl) (se_f (sf_lst (sa_cons (se_call D_law_place hr rfl (sa_cons (se_v 0) sa_nil)) (sa_cons (se_call D_law_place hr rfl (sa_cons (se_v 0) sa_nil)) (sa_cons (se_call D_law_place hr rfl (sa_cons (se_v 0) sa_nil)) sa_nil))))))
    (ss_cons (ss_new (i := 4) nd rfl (Or.inl rfl) (sf_lst (sa_cons (se_tup (sa_cons (se_v 2) (sa_cons (se_ix so_ix (se_v 3) se_int (fun _ _ => rfl)) (sa_cons (se_ix so_ix (se_v 3) se_int (fun _ _ => rfl)) (sa_cons (se_ix so_ix (se_v 3) se_int (fun _ _ => rfl)) sa_nil))))) sa_nil)))
    (ss_cons (ss_while PassesOwn.never (st_cmp so_lt (se_callB sb_len rfl z_len PySem.boot_len (sa_cons (se_v 4) sa_nil)) (se_v 1) (nomark _)) (ss_cons (ss_set (i := 2) nd rfl (Or.inl rfl) (se_call D_law_sum hr rfl (sa_cons (se_v 2) (sa_cons (se_call D_law_span hr rfl (sa_cons (se_v 0) sa_nil)) sa_nil))))
    (ss_cons (ss_set (i := 5) nd rfl (Or.inl rfl) (se_call D_law_draw hr rfl (sa_cons (se_v 0) (sa_cons se_int sa_nil))))
    (ss_cons (ss_if (st_cmp so_gt (se_v 5) se_int (nomark _)) (ss_one (ss_set (i := 3) nd rfl (Or.inl rfl) (se_f (sf_lst (sa_cons (se_call D_law_place hr rfl (sa_cons (se_v 0) sa_nil)) (sa_cons (se_call D_law_place hr rfl (sa_cons (se_v 0) sa_nil)) (sa_cons (se_call D_law_place hr rfl (sa_cons (se_v 0) sa_nil)) sa_nil))))))) (ss_one (ss_if (st_cmp so_gt (se_v 5) se_int (nomark _)) (ss_one (ss_set (i := 3) nd rfl (Or.inl rfl) (se_op so_addA (se_op so_addA (se_sl (se_v 3) soN (soS (se_op so_sub (se_v 5) se_int))) (se_f (sf_lst (sa_cons (se_call D_law_place hr rfl (sa_cons (se_v 0) sa_nil)) sa_nil)))) (se_sl (se_v 3) (soS (se_v 5)) soN)))) ss_nil)))
    (ss_one (ss_meth (i := 4) PySem.F.slot_list_append PySem.F.type_list_append sm_append (sa_cons (se_tup (sa_cons (se_v 2) (sa_cons (se_ix so_ix (se_v 3) se_int (fun _ _ => rfl)) (sa_cons (se_ix so_ix (se_v 3) se_int (fun _ _ => rfl)) (sa_cons (se_ix so_ix (se_v 3) se_int (fun _ _ => rfl)) sa_nil))))) sa_nil)))))))
    (ss_one (ss_ret (se_callTy sb_tuple rfl z_tuple PyProof.Rows.boot_tuple (sa_cons (se_v 4) sa_nil))))))))))
theorem sc__law_product : FnScope ["_law_one", "_law_other"] ["_law_one", "_law_other"] (defScope s__law_product) := ⟨rfl, rfl, rfl, by decide +kernel, rfl, by decide +kernel, by decide +kernel⟩
theorem ok__law_product {n : Nat} {f : Addr} {fd : FuncData} (F : Fun K "_law_product" "_law_product" s__law_product f fd) (D_law_part : Has P w K mg base n "_law_part" ["_law_top", "_law_bottom"] (spA K 2 F__law_part)) :
    FnOk P w K mg base CX0 (n + 1) f fd ["_law_one", "_law_other"] (spA K 2 F__law_product) := by
  have nd := sc__law_product.nd
  exact fn_pure F sc__law_product rfl fun cdv A outer s H E hr => (ss_one (ss_ret (se_call D_law_part hr rfl (sa_cons (se_op so_mul (se_ix so_ix (se_v 0) se_int (fun _ _ => rfl)) (se_ix so_ix (se_v 1) se_int (fun _ _ => rfl))) (sa_cons (se_op so_mul (se_ix so_ix (se_v 0) se_int (fun _ _ => rfl)) (se_ix so_ix (se_v 1) se_int (fun _ _ => rfl))) sa_nil)))))
theorem sc__law_beside : FnScope ["_law_tape_here", "_law_plan_here", "_law_apart_here", "_law_way", "_law_by", "_law_side", "_law_other", "_law_k", "_law_spot_here"] ["_law_tape_here", "_law_plan_here", "_law_apart_here"] (defScope s__law_beside) := ⟨rfl, rfl, rfl, by decide +kernel, rfl, by decide +kernel, by decide +kernel⟩
theorem ok__law_beside {n : Nat} {f : Addr} {fd : FuncData} (F : Fun K "_law_beside" "_law_beside" s__law_beside f fd) (D_law_draw : Has P w K mg base n "_law_draw" ["_law_tape_here", "_law_many"] (spA K 2 F_draw)) (D_law_moved : Has P w K mg base n "_law_moved" ["_law_plan_here", "_law_late", "_law_by"] (spA K 3 F__law_moved_20)) (D_law_off : Has P w K mg base n "_law_off" ["_law_one", "_law_other"] (spA K 2 F__law_off)) (D_law_place : Has P w K mg base n "_law_place" ["_law_tape_here"] (spA K 1 F__law_place)) (D_law_plan : Has P w K mg base n "_law_plan" ["_law_tape_here"] (spA K 1 F__law_plan_20)) (D_law_product : Has P w K mg base n "_law_product" ["_law_one", "_law_other"] (spA K 2 F__law_product)) (D_law_span : Has P w K mg base n "_law_span" ["_law_tape_here"] (spA K 1 F__law_span)) (D_law_sum : Has P w K mg base n "_law_sum" ["_law_one", "_law_other"] (spA K 2 F__law_sum)) (z_int : mg "int" = none) (z_len : mg "len" = none) (z_reversed : mg "reversed" = none) (z_tuple : mg "tuple" = none) (z_zip : mg "zip" = none) :
    FnOk P w K mg base CX0 (n + 1) f fd ["_law_tape_here", "_law_plan_here", "_law_apart_here"] (spA K 3 F__law_beside) := by
  have nd := sc__law_beside.nd
  have nd0 : (["_law_one", "_law_other"] : List Str).Nodup := by decide +kernel
  exact fn_pure F sc__law_beside rfl fun cdv A outer s H E hr => (ss_cons (ss_set (i := 3) nd rfl (Or.inl rfl) (se_call D_law_draw hr rfl (sa_cons (se_v 0) (sa_cons se_int sa_nil))))
    (ss_cons (ss_new (i := 4) nd rfl (Or.inl rfl) (sf_lst (sa_cons (se_tup (sa_cons se_int (sa_cons se_int sa_nil))) (sa_cons (se_tup (sa_cons se_int (sa_cons se_int sa_nil))) (sa_cons (se_tup (sa_cons se_int (sa_cons se_int sa_nil))) sa_nil)))))
    (ss_cons (ss_set (i := 5) nd rfl (Or.inl rfl) (se_call D_law_draw hr rfl (sa_cons (se_v 0) (sa_cons se_int sa_nil))))
    (ss_cons (ss_put (i := 4) (se_v 5) (se_ix so_ix (se_v 2) (se_callTy sb_int rfl z_int PyProof.Rows.boot_int (sa_cons (se_cmp (so_eq hr) (se_v 5) se_int (nomark _)) sa_nil)) (fun _ _ => rfl)))
    (ss_cons (ss_if (st_cmp (so_eq hr) (se_v 3) se_int (nomark _)) (ss_one (ss_put (i := 4) (se_v 5) (se_bor (se_call D_law_product hr rfl (sa_cons (se_ix so_ix (se_v 4) (se_v 5) (fun _ _ => rfl)) (sa_cons (se_ix so_ix (se_f (sf_lst (sa_cons (se_tup (sa_cons se_int (sa_cons se_int sa_nil))) (sa_cons (se_tup (sa_cons (se_neg se_int) (sa_cons se_int sa_nil))) (sa_cons (se_tup (sa_cons (se_neg se_int) (sa_cons se_int sa_nil))) sa_nil))))) (se_call D_law_draw hr rfl (sa_cons (se_v 0) (sa_cons se_int sa_nil))) (fun _ _ => rfl)) sa_nil)))))) ss_nil)
    (ss_cons (ss_if (st_cmp so_lt (se_v 3) se_int (nomark _)) (ss_one (ss_ret (se_call D_law_moved hr rfl (sa_cons (se_v 1) (sa_cons (se_tup (sa_cons se_int (sa_cons se_int sa_nil))) (sa_cons (se_v 4) sa_nil)))))) ss_nil)
    (ss_cons (ss_if (st_cmp (so_eq hr) (se_v 3) se_int (nomark _)) (ss_one (ss_ret (se_call D_law_moved hr rfl (sa_cons (se_v 1) (sa_cons (se_ix so_ix (se_f (sf_lst (sa_cons (se_call D_law_span hr rfl (sa_cons (se_v 0) sa_nil)) (sa_cons (se_tup (sa_cons se_int (sa_cons se_int sa_nil))) sa_nil)))) (se_call D_law_draw hr rfl (sa_cons (se_v 0) (sa_cons se_int sa_nil))) (fun _ _ => rfl)) (sa_cons (se_v 4) sa_nil)))))) ss_nil)
    (ss_cons (ss_if (st_cmp (so_eq hr) (se_v 3) se_int (nomark _)) (ss_one (ss_ret (se_callTy sb_tuple rfl z_tuple PyProof.Rows.boot_tuple (sa_cons (se_f (sf_comp rfl (si_zR rfl z_zip rfl z_reversed (se_v 1) (se_v 1)) (comp_s (own := 2) (ix := []) (N := ["_law_one", "_law_other"]) rfl rfl rfl rfl rfl rfl (fun _ _ _ _ _ _ => (sk_seq (n := 2) rfl (sks_cons (sk_name (i := 0) nd0 rfl (Or.inl rfl) (by decide)) (sks_cons (sk_name (i := 1) nd0 rfl (Or.inl rfl) (by decide)) sks_nil)))) (fun _ _ _ _ _ _ => sif_nil) (fun _ _ _ _ _ _ => (se_op so_addA (se_tup (sa_cons (se_ix so_ix (se_v 0) se_int (fun _ _ => rfl)) sa_nil)) (se_sl (se_v 1) (soS se_int) soN)))))) sa_nil)))) ss_nil)
    (ss_cons (ss_if (st_cmp (so_eq hr) (se_v 3) se_int (nomark _)) (ss_cons (ss_set (i := 6) nd rfl (Or.inl rfl) (se_call D_law_plan hr rfl (sa_cons (se_v 0) sa_nil)))
    (ss_one (ss_ret (se_call D_law_moved hr rfl (sa_cons (se_v 6) (sa_cons (se_call D_law_off hr rfl (sa_cons (se_ix so_ix (se_ix so_ix (se_v 1) (se_neg se_int) (fun _ _ => rfl)) se_int (fun _ _ => rfl)) (sa_cons (se_ix so_ix (se_ix so_ix (se_v 6) se_int (fun _ _ => rfl)) se_int (fun _ _ => rfl)) sa_nil))) (sa_cons (se_f (sf_lst (sa_cons (se_tup (sa_cons se_int (sa_cons se_int sa_nil))) (sa_cons (se_tup (sa_cons se_int (sa_cons se_int sa_nil))) (sa_cons (se_tup (sa_cons se_int (sa_cons se_int sa_nil))) sa_nil))))) sa_nil))))))) ss_nil)
    (ss_cons (ss_if (st_cmp (so_eq hr) (se_v 3) se_int (nomark _)) (ss_cons (ss_set (i := 7) nd rfl (Or.inl rfl) (se_call D_law_draw hr rfl (sa_cons (se_v 0) (sa_cons (se_callB sb_len rfl z_len PySem.boot_len (sa_cons (se_v 1) sa_nil)) sa_nil))))
    (ss_cons (ss_set (i := 8) nd rfl (Or.inl rfl) (se_tup (sa_cons (se_call D_law_place hr rfl (sa_cons (se_v 0) sa_nil)) (sa_cons (se_call D_law_place hr rfl (sa_cons (se_v 0) sa_nil)) (sa_cons (se_call D_law_place hr rfl (sa_cons (se_v 0) sa_nil)) sa_nil)))))
    (ss_one (ss_ret (se_op so_addA (se_op so_addA (se_sl (se_v 1) soN (soS (se_v 7))) (se_tup (sa_cons (se_op so_addA (se_sl (se_ix so_ix (se_v 1) (se_v 7) (fun _ _ => rfl)) soN (soS se_int)) (se_v 8)) sa_nil))) (se_sl (se_v 1) (soS (se_op so_addA (se_v 7) se_int)) soN)))))) ss_nil)
    (ss_cons (ss_if (st_cmp (so_eq hr) (se_v 3) se_int (nomark _)) (ss_cons (ss_set (i := 8) nd rfl (Or.inl rfl) (se_sl (se_ix so_ix (se_v 1) (se_call D_law_draw hr rfl (sa_cons (se_v 0) (sa_cons (se_callB sb_len rfl z_len PySem.boot_len (sa_cons (se_v 1) sa_nil)) sa_nil))) (fun _ _ => rfl)) (soS se_int) soN))
    (ss_one (ss_ret (se_tup (sa_cons (se_op so_addA (se_tup (sa_cons (se_ix so_ix (se_ix so_ix (se_v 1) se_int (fun _ _ => rfl)) se_int (fun _ _ => rfl)) sa_nil)) (se_v 8)) (sa_cons (se_op so_addA (se_tup (sa_cons (se_call D_law_sum hr rfl (sa_cons (se_ix so_ix (se_ix so_ix (se_v 1) (se_neg se_int) (fun _ _ => rfl)) se_int (fun _ _ => rfl)) (sa_cons (se_call D_law_span hr rfl (sa_cons (se_v 0) sa_nil)) sa_nil))) sa_nil)) (se_v 8)) sa_nil)))))) ss_nil)
    (ss_one (ss_ret (se_call D_law_plan hr rfl (sa_cons (se_v 0) sa_nil)))))))))))))))
theorem sc__law_tape : FnScope ["_law_script", "_law_k", "_law_cell", "_law_digits"] ["_law_script", "_law_k"] (defScope s__law_tape) := ⟨rfl, rfl, rfl, by decide +kernel, rfl, by decide +kernel, by decide +kernel⟩
theorem ok__law_tape {n : Nat} {f : Addr} {fd : FuncData} (F : Fun K "_law_tape" "_law_tape" s__law_tape f fd) (z_abs : mg "abs" = none) (z_int : mg "int" = none) (z_len : mg "len" = none) :
    FnOk P w K mg base CX0 (n + 1) f fd ["_law_script", "_law_k"] (spA K 2 F_tape) := by
  have nd := sc__law_tape.nd
  refine F.ok sc__law_tape (fun vs H Q E h => ?_) (fun cdv A outer s H vs Q E hr h => ?_)
  · obtain ⟨T, M, xs, AQ, _, _, r, hl, _⟩ := h
    rw [r.length, hl] <;> rfl
  obtain ⟨T, M, xs, AQ, va, _, r, hl, hF, hQ⟩ := h
  unfold F_tape at hF
  split at hF <;> first | exact hF.elim | skip
  rename_i ns k
  obtain ⟨⟨k0, k1⟩, hF⟩ := hF
  cases r with
  | cons r rr =>
  cases rr with
  | cons r2 rr =>
  cases rr
  cases r2
  obtain ⟨a, rfl, hS⟩ := scr_or r
  refine ⟨_, (pss_cons (ps_set (i := 2) nd rfl (Or.inl rfl) pe_int)
    (pss_cons (ps_if (pt_cmpR op_lt (pv 1) (pe_callB call_len_seq rfl z_len PySem.boot_len (pa_cons (pv 0) pa_nil)) (nomark _)) (pss_one (ps_set (i := 2) nd rfl (Or.inl rfl) (pe_ix ix_list (pv 0) (pv 1) (fun _ _ => rfl)))) pss_nil)
    (pss_cons (ps_set (i := 3) nd rfl (Or.inl rfl) (pe_op op_mulG (pe_callB call_abs rfl z_abs boot_abs (pa_cons (pv 2) pa_nil)) (pe_callTy call_int1 rfl z_int PyProof.Rows.boot_int (pa_cons (pe_cmpR op_ge (pe_callB call_abs rfl z_abs boot_abs (pa_cons (pv 2) pa_nil)) (pe_op op_pow pe_int pe_int) (nomark _)) pa_nil))))
    (pss_one (ps_ret (pe_lst (pa_cons (pv 3) (pa_cons (pe_op op_mod (pe_op op_mulG (pe_op op_mod (pe_op op_add (pe_op op_add (pv 2) (pe_op op_mulG pe_int (pv 1))) pe_int) pe_int) pe_int) pe_int) pa_nil)))))))), ?_⟩
  have hl : (ns.map V.int).length = ns.length := List.length_map _
  have fin : ∀ (c : Int) (p : Addr), H p = none → Q (.ref p) (upd H p (.lst [.int ((if c < 0 then -c else c) * (if decide ((10 : Int) ^ 18 ≤ (if c < 0 then -c else c)) then 1 else 0)), .int ((c + 7919 * k + 1) % 2147483647 * 48271 % 2147483647)])) := fun c p hp =>
    hQ _ .tape (fun b => T b ∨ b = p) _ (tape_new va.tp hp (Int.mul_nonneg (by split <;> omega) (b01 _)) (Int.emod_nonneg _ (by decide)) (Int.emod_lt_of_pos _ (by decide))) (.tape (.inr rfl)) hF
  refine ⟨_, rfl, _, rfl, a, _, rfl, .inl hS, _, _, rfl, rfl, _, rfl, ?_⟩
  refine ite2 (fun c => ?_) (fun c => ?_)
  · have c' : k < (((ns.map V.int).length : Nat) : Int) := of_decide_eq_true c
    rw [hl] at c'
    have hk : k.toNat < ns.length := by omega
    have hv : atI (ns.map V.int) k = some (.int ns[k.toNat]) := by
      have q : atI (ns.map V.int) ((k.toNat : Nat) : Int) = some (.int ns[k.toNat]) := atI_nat (by rw [List.getElem?_map, List.getElem?_eq_getElem hk] <;> rfl)
      rwa [show ((k.toNat : Nat) : Int) = k by omega] at q
    refine ⟨_, rfl, _, rfl, a, _, _, _, rfl, rfl, hS, hv, ?_⟩
    refine ⟨_, rfl, _, rfl, _, rfl, _, rfl, _, _, rfl, rfl, ⟨by decide, by decide, by decide⟩, _, _, rfl, rfl, .inr ⟨_, rfl, _, _, rfl, rfl, .inl (.inr (b64 _)), ?_⟩⟩
    exact ⟨_, rfl, _, rfl, _, rfl, _, _, rfl, rfl, .inl (.inl ⟨by decide, by decide⟩), _, _, rfl, rfl, _, _, rfl, rfl, _, _, rfl, rfl, (show (0 : Int) < 2147483647 by decide), _, _, rfl, rfl, .inl (.inr ⟨by decide, by decide⟩), _, _, rfl, rfl, (show (0 : Int) < 2147483647 by decide), (show 2 ≤ sizeLine by decide), fun p hp => fin _ p hp⟩
  · refine ⟨_, rfl, _, rfl, _, rfl, _, rfl, _, _, rfl, rfl, ⟨by decide, by decide, by decide⟩, _, _, rfl, rfl, .inr ⟨_, rfl, _, _, rfl, rfl, .inl (.inr (b64 _)), ?_⟩⟩
    exact ⟨_, rfl, _, rfl, _, rfl, _, _, rfl, rfl, .inl (.inl ⟨by decide, by decide⟩), _, _, rfl, rfl, _, _, rfl, rfl, _, _, rfl, rfl, (show (0 : Int) < 2147483647 by decide), _, _, rfl, rfl, .inl (.inr ⟨by decide, by decide⟩), _, _, rfl, rfl, (show (0 : Int) < 2147483647 by decide), (show 2 ≤ sizeLine by decide), fun p hp => fin 0 p hp⟩
theorem sc__law_case : FnScope ["_law_script", "_law_k", "_law_tape_here", "_law_apart_here", "_law_one", "_law_other"] ["_law_script", "_law_k"] (defScope s__law_case) := ⟨rfl, rfl, rfl, by decide +kernel, rfl, by decide +kernel, by decide +kernel⟩
theorem ok__law_case {n : Nat} {f : Addr} {fd : FuncData} (F : Fun K "_law_case" "_law_case" s__law_case f fd) (D_law_apart : Has P w K mg base n "_law_apart" ["_law_tape_here"] (spA K 1 F__law_apart)) (D_law_beside : Has P w K mg base n "_law_beside" ["_law_tape_here", "_law_plan_here", "_law_apart_here"] (spA K 3 F__law_beside)) (D_law_draw : Has P w K mg base n "_law_draw" ["_law_tape_here", "_law_many"] (spA K 2 F_draw)) (D_law_plan : Has P w K mg base n "_law_plan" ["_law_tape_here"] (spA K 1 F__law_plan_20)) (D_law_tape : Has P w K mg base n "_law_tape" ["_law_script", "_law_k"] (spA K 2 F_tape)) :
    FnOk P w K mg base CX0 (n + 1) f fd ["_law_script", "_law_k"] (spA K 2 F__law_case) := by
  have nd := sc__law_case.nd
  exact fn_pure F sc__law_case rfl fun cdv A outer s H E hr => (ss_cons (ss_set (i := 2) nd rfl (Or.inl rfl) (se_call D_law_tape hr rfl (sa_cons (se_v 0) (sa_cons (se_v 1) sa_nil))))
    (ss_cons (ss_set (i := 3) nd rfl (Or.inl rfl) (se_call D_law_apart hr rfl (sa_cons (se_v 2) sa_nil)))
    (ss_cons (ss_set (i := 4) nd rfl (Or.inl rfl) (se_call D_law_plan hr rfl (sa_cons (se_v 2) sa_nil)))
    (ss_cons (ss_set (i := 5) nd rfl (Or.inl rfl) (se_call D_law_beside hr rfl (sa_cons (se_v 2) (sa_cons (se_v 4) (sa_cons (se_v 3) sa_nil)))))
    (ss_cons (ss_if (st_cmp (so_eq hr) (se_call D_law_draw hr rfl (sa_cons (se_v 2) (sa_cons se_int sa_nil))) se_int (nomark _)) (ss_one (ss_par (i := 4) (j := 5) rfl nd rfl rfl (by decide) rfl rfl (sa_cons (se_v 5) (sa_cons (se_v 4) sa_nil)) rfl)) ss_nil)
    (ss_one (ss_ret (se_tup (sa_cons (se_v 2) (sa_cons (se_v 4) (sa_cons (se_v 5) (sa_cons (se_v 3) sa_nil))))))))))))
theorem sc__law_less : FnScope ["_law_one", "_law_other"] ["_law_one", "_law_other"] (defScope s__law_less) := ⟨rfl, rfl, rfl, by decide +kernel, rfl, by decide +kernel, by decide +kernel⟩
theorem ok__law_less {n : Nat} {f : Addr} {fd : FuncData} (F : Fun K "_law_less" "_law_less" s__law_less f fd) :
    FnOk P w K mg base CX0 (n + 1) f fd ["_law_one", "_law_other"] (spA K 2 F_before) := by
  have nd := sc__law_less.nd
  exact fn_pure F sc__law_less rfl fun cdv A outer s H E hr => (ss_one (ss_ret (se_cmp so_lt (se_op so_mul (se_ix so_ix (se_v 0) se_int (fun _ _ => rfl)) (se_ix so_ix (se_v 1) se_int (fun _ _ => rfl))) (se_op so_mul (se_ix so_ix (se_v 1) se_int (fun _ _ => rfl)) (se_ix so_ix (se_v 0) se_int (fun _ _ => rfl))) (nomark _))))
theorem sc__law_ratio : FnScope ["_law_one", "_law_other"] ["_law_one", "_law_other"] (defScope s__law_ratio) := ⟨rfl, rfl, rfl, by decide +kernel, rfl, by decide +kernel, by decide +kernel⟩
theorem ok__law_ratio {n : Nat} {f : Addr} {fd : FuncData} (F : Fun K "_law_ratio" "_law_ratio" s__law_ratio f fd) (D_law_part : Has P w K mg base n "_law_part" ["_law_top", "_law_bottom"] (spA K 2 F__law_part)) :
    FnOk P w K mg base CX0 (n + 1) f fd ["_law_one", "_law_other"] (spA K 2 F__law_ratio) := by
  have nd := sc__law_ratio.nd
  exact fn_pure F sc__law_ratio rfl fun cdv A outer s H E hr => (ss_one (ss_ret (se_call D_law_part hr rfl (sa_cons (se_op so_mul (se_ix so_ix (se_v 0) se_int (fun _ _ => rfl)) (se_ix so_ix (se_v 1) se_int (fun _ _ => rfl))) (sa_cons (se_op so_mul (se_ix so_ix (se_v 0) se_int (fun _ _ => rfl)) (se_ix so_ix (se_v 1) se_int (fun _ _ => rfl))) sa_nil)))))
theorem sc__law_spot : FnScope ["_law_plan_here", "_law_m", "_law_one", "_law_other", "_law_share", "_law_gone"] ["_law_plan_here", "_law_m"] (defScope s__law_spot) := ⟨rfl, rfl, rfl, by decide +kernel, rfl, by decide +kernel, by decide +kernel⟩
theorem ok__law_spot {n : Nat} {f : Addr} {fd : FuncData} (F : Fun K "_law_spot" "_law_spot" s__law_spot f fd) (D_law_less : Has P w K mg base n "_law_less" ["_law_one", "_law_other"] (spA K 2 F_before)) (D_law_off : Has P w K mg base n "_law_off" ["_law_one", "_law_other"] (spA K 2 F__law_off)) (D_law_product : Has P w K mg base n "_law_product" ["_law_one", "_law_other"] (spA K 2 F__law_product)) (D_law_ratio : Has P w K mg base n "_law_ratio" ["_law_one", "_law_other"] (spA K 2 F__law_ratio)) (D_law_sum : Has P w K mg base n "_law_sum" ["_law_one", "_law_other"] (spA K 2 F__law_sum)) (z_range : mg "range" = none) (z_tuple : mg "tuple" = none) (z_zip : mg "zip" = none) :
    FnOk P w K mg base CX0 (n + 1) f fd ["_law_plan_here", "_law_m"] (spA K 2 F__law_spot) := by
  have nd := sc__law_spot.nd
  have nd0 : (["_law_k", "_law_share", "_law_other", "_law_one"] : List Str).Nodup := by decide +kernel
  have nd1 : (["_law_k", "_law_one", "_law_gone"] : List Str).Nodup := by decide +kernel
  exact fn_pure F sc__law_spot rfl fun cdv A outer s H E hr => (ss_cons (ss_if (st_w (sw_or (st_val (se_call D_law_less hr rfl (sa_cons (se_v 1) (sa_cons (se_ix so_ix (se_ix so_ix (se_v 0) se_int (fun _ _ => rfl)) se_int (fun _ _ => rfl)) sa_nil)))) (sw_or1 (st_val (se_call D_law_less hr rfl (sa_cons (se_ix so_ix (se_ix so_ix (se_v 0) (se_neg se_int) (fun _ _ => rfl)) se_int (fun _ _ => rfl)) (sa_cons (se_v 1) sa_nil))))))) (ss_one (ss_ret se_non)) ss_nil)
    (ss_cons (ss_for PassesOwn.never rfl (si_z rfl z_zip (sa_cons (se_v 0) (sa_cons (se_sl (se_v 0) (soS se_int) soN) sa_nil))) (sg_seq (n := 2) rfl (sgs_cons (sg_name (i := 2) nd rfl (Or.inr rfl)) (sgs_cons (sg_name (i := 3) nd rfl (Or.inr rfl)) sgs_nil))) (ss_one (ss_if (st_not (st_val (se_call D_law_less hr rfl (sa_cons (se_ix so_ix (se_v 3) se_int (fun _ _ => rfl)) (sa_cons (se_v 1) sa_nil))))) (ss_cons (ss_set (i := 4) nd rfl (Or.inr rfl) (se_call D_law_ratio hr rfl (sa_cons (se_call D_law_off hr rfl (sa_cons (se_v 1) (sa_cons (se_ix so_ix (se_v 2) se_int (fun _ _ => rfl)) sa_nil))) (sa_cons (se_call D_law_off hr rfl (sa_cons (se_ix so_ix (se_v 3) se_int (fun _ _ => rfl)) (sa_cons (se_ix so_ix (se_v 2) se_int (fun _ _ => rfl)) sa_nil))) sa_nil))))
    (ss_cons (ss_set (i := 5) nd rfl (Or.inr rfl) (se_f (sf_comp rfl (si_q (se_tup (sa_cons se_int (sa_cons se_int (sa_cons se_int sa_nil))))) (comp_s (own := 1) (ix := [4, 3, 2]) (N := ["_law_k", "_law_share", "_law_other", "_law_one"]) rfl rfl rfl rfl rfl rfl (fun _ _ _ _ _ _ => (sk_name (i := 0) nd0 rfl (Or.inl rfl) (by decide))) (fun _ _ _ _ _ _ => sif_nil) (fun _ _ _ _ _ _ => (se_call D_law_product hr rfl (sa_cons (se_v 1) (sa_cons (se_call D_law_off hr rfl (sa_cons (se_ix so_ix (se_v 2) (se_v 0) (fun _ _ => rfl)) (sa_cons (se_ix so_ix (se_v 3) (se_v 0) (fun _ _ => rfl)) sa_nil))) sa_nil))))))))
    (ss_one (ss_ret (se_callTy sb_tuple rfl z_tuple PyProof.Rows.boot_tuple (sa_cons (se_f (sf_comp rfl (si_r1 rfl z_range (sa_cons se_int sa_nil)) (comp_s (own := 1) (ix := [2, 5]) (N := ["_law_k", "_law_one", "_law_gone"]) rfl rfl rfl rfl rfl rfl (fun _ _ _ _ _ _ => (sk_name (i := 0) nd1 rfl (Or.inl rfl) (by decide))) (fun _ _ _ _ _ _ => sif_nil) (fun _ _ _ _ _ _ => (se_call D_law_sum hr rfl (sa_cons (se_ix so_ix (se_v 1) (se_op so_addA (se_v 0) se_int) (fun _ _ => rfl)) (sa_cons (se_ix so_ix (se_v 2) (se_v 0) (fun _ _ => rfl)) sa_nil))))))) sa_nil)))))) ss_nil)))
    (ss_one (ss_ret se_non))))
theorem sc__law_gap : FnScope ["_law_one", "_law_other", "_law_apart_here", "_law_m", "_law_end", "_law_found", "_law_k", "_law_here", "_law_there", "_law_off_here"] ["_law_one", "_law_other", "_law_apart_here", "_law_m", "_law_end"] (defScope s__law_gap) := ⟨rfl, rfl, rfl, by decide +kernel, rfl, by decide +kernel, by decide +kernel⟩
theorem ok__law_gap {n : Nat} {f : Addr} {fd : FuncData} (F : Fun K "_law_gap" "_law_gap" s__law_gap f fd) (D_law_less : Has P w K mg base n "_law_less" ["_law_one", "_law_other"] (spA K 2 F_before)) (D_law_off : Has P w K mg base n "_law_off" ["_law_one", "_law_other"] (spA K 2 F__law_off)) (D_law_ratio : Has P w K mg base n "_law_ratio" ["_law_one", "_law_other"] (spA K 2 F__law_ratio)) (D_law_spot : Has P w K mg base n "_law_spot" ["_law_plan_here", "_law_m"] (spA K 2 F__law_spot)) (z_abs : mg "abs" = none) (z_int : mg "int" = none) (z_range : mg "range" = none) :
    FnOk P w K mg base CX0 (n + 1) f fd ["_law_one", "_law_other", "_law_apart_here", "_law_m", "_law_end"] (spA K 5 F__law_gap) := by
  have nd := sc__law_gap.nd
  exact fn_pure F sc__law_gap rfl fun cdv A outer s H E hr => (ss_cons (ss_if (st_w (sw_or (st_val (se_call D_law_less hr rfl (sa_cons (se_v 3) (sa_cons (se_ix so_ix (se_ix so_ix (se_v 0) se_int (fun _ _ => rfl)) se_int (fun _ _ => rfl)) sa_nil)))) (sw_or1 (st_val (se_call D_law_less hr rfl (sa_cons (se_v 3) (sa_cons (se_ix so_ix (se_ix so_ix (se_v 1) se_int (fun _ _ => rfl)) se_int (fun _ _ => rfl)) sa_nil))))))) (ss_one (ss_ret se_non)) ss_nil)
    (ss_cons (ss_if (st_w (sw_and (st_not (st_tru (se_v 4))) (sw_and1 (st_w (sw_or (st_not (st_val (se_call D_law_less hr rfl (sa_cons (se_v 3) (sa_cons (se_ix so_ix (se_ix so_ix (se_v 0) (se_neg se_int) (fun _ _ => rfl)) se_int (fun _ _ => rfl)) sa_nil))))) (sw_or1 (st_not (st_val (se_call D_law_less hr rfl (sa_cons (se_v 3) (sa_cons (se_ix so_ix (se_ix so_ix (se_v 1) (se_neg se_int) (fun _ _ => rfl)) se_int (fun _ _ => rfl)) sa_nil))))))))))) (ss_one (ss_ret se_non)) ss_nil)
    (ss_cons (ss_par (i := 7) (j := 8) rfl nd rfl rfl (by decide) rfl rfl (sa_cons (se_call D_law_spot hr rfl (sa_cons (se_v 0) (sa_cons (se_v 3) sa_nil))) (sa_cons (se_call D_law_spot hr rfl (sa_cons (se_v 1) (sa_cons (se_v 3) sa_nil))) sa_nil)) rfl)
    (ss_cons (ss_if (st_w (sw_or (st_cmp so_isN (se_v 7) se_non (nomark _)) (sw_or1 (st_cmp so_isN (se_v 8) se_non (nomark _))))) (ss_one (ss_ret se_non)) ss_nil)
    (ss_cons (ss_set (i := 5) nd rfl (Or.inl rfl) (se_tup (sa_cons se_int (sa_cons se_int sa_nil))))
    (ss_cons (ss_for PassesOwn.never rfl (si_r1 rfl z_range (sa_cons se_int sa_nil)) (sg_name (i := 6) nd rfl (Or.inl rfl)) (ss_cons (ss_set (i := 9) nd rfl (Or.inl rfl) (se_call D_law_ratio hr rfl (sa_cons (se_call D_law_off hr rfl (sa_cons (se_ix so_ix (se_v 7) (se_v 6) (fun _ _ => rfl)) (sa_cons (se_ix so_ix (se_v 8) (se_v 6) (fun _ _ => rfl)) sa_nil))) (sa_cons (se_ix so_ix (se_v 2) (se_callTy sb_int rfl z_int PyProof.Rows.boot_int (sa_cons (se_cmp (so_eq hr) (se_v 6) se_int (nomark _)) sa_nil)) (fun _ _ => rfl)) sa_nil))))
    (ss_one (ss_if (st_val (se_call D_law_less hr rfl (sa_cons (se_v 5) (sa_cons (se_tup (sa_cons (se_callB sb_abs rfl z_abs boot_abs (sa_cons (se_ix so_ix (se_v 9) se_int (fun _ _ => rfl)) sa_nil)) (sa_cons (se_ix so_ix (se_v 9) se_int (fun _ _ => rfl)) sa_nil))) sa_nil)))) (ss_one (ss_set (i := 5) nd rfl (Or.inl rfl) (se_tup (sa_cons (se_callB sb_abs rfl z_abs boot_abs (sa_cons (se_ix so_ix (se_v 9) se_int (fun _ _ => rfl)) sa_nil)) (sa_cons (se_ix so_ix (se_v 9) se_int (fun _ _ => rfl)) sa_nil))))) ss_nil))))
    (ss_one (ss_ret (se_v 5)))))))))
theorem sc__law_listed : FnScope ["_law_thing"] ["_law_thing"] (defScope s__law_listed) := ⟨rfl, rfl, rfl, by decide +kernel, rfl, by decide +kernel, by decide +kernel⟩
theorem ok__law_listed {n m : Nat} {f : Addr} {fd : FuncData} (F : Fun K "_law_listed" "_law_listed" s__law_listed f fd) (D_law_listed : Has P w K mg base n "_law_listed" ["_law_thing"] (spA K 1 (F__law_listed_20 m))) (z_int : mg "int" = none) (z_isinstance : mg "isinstance" = none) :
    FnOk P w K mg base CX0 (n + 1) f fd ["_law_thing"] (spA K 1 (F__law_listed_20 (m + 1))) := by
  have nd := sc__law_listed.nd
  have nd0 : (["_law_piece"] : List Str).Nodup := by decide +kernel
  exact fn_pure F sc__law_listed rfl fun cdv A outer s H E hr => (ss_cons (ss_if (st_val (se_callB sb_isi rfl z_isinstance boot_isinstance (sa_cons (se_ix so_ix (se_v 0) se_int (fun _ _ => rfl)) (sa_cons (se_ty (n := "int") rfl z_int PyProof.Rows.boot_int rfl) sa_nil)))) (ss_one (ss_ret (se_v 0))) ss_nil)
    (ss_one (ss_ret (se_f (sf_comp rfl (si_q (se_v 0)) (comp_s (own := 1) (ix := []) (N := ["_law_piece"]) rfl rfl rfl rfl rfl rfl (fun _ _ _ _ _ _ => (sk_name (i := 0) nd0 rfl (Or.inl rfl) (by decide))) (fun _ _ _ _ _ _ => sif_nil) (fun _ _ _ _ _ _ => (se_call D_law_listed hr rfl (sa_cons (se_v 0) sa_nil)))))))))
theorem sc__law_middle : FnScope ["_law_one", "_law_other"] ["_law_one", "_law_other"] (defScope s__law_middle) := ⟨rfl, rfl, rfl, by decide +kernel, rfl, by decide +kernel, by decide +kernel⟩
theorem ok__law_middle {n : Nat} {f : Addr} {fd : FuncData} (F : Fun K "_law_middle" "_law_middle" s__law_middle f fd) (D_law_product : Has P w K mg base n "_law_product" ["_law_one", "_law_other"] (spA K 2 F__law_product)) (D_law_sum : Has P w K mg base n "_law_sum" ["_law_one", "_law_other"] (spA K 2 F__law_sum)) :
    FnOk P w K mg base CX0 (n + 1) f fd ["_law_one", "_law_other"] (spA K 2 F__law_middle) := by
  have nd := sc__law_middle.nd
  exact fn_pure F sc__law_middle rfl fun cdv A outer s H E hr => (ss_one (ss_ret (se_call D_law_product hr rfl (sa_cons (se_call D_law_sum hr rfl (sa_cons (se_v 0) (sa_cons (se_v 1) sa_nil))) (sa_cons (se_tup (sa_cons se_int (sa_cons se_int sa_nil))) sa_nil)))))
theorem sc__law_rising : FnScope ["_law_moments_here", "_law_found", "_law_m", "_law_at"] ["_law_moments_here"] (defScope s__law_rising) := ⟨rfl, rfl, rfl, by decide +kernel, rfl, by decide +kernel, by decide +kernel⟩
theorem ok__law_rising {n : Nat} {f : Addr} {fd : FuncData} (F : Fun K "_law_rising" "_law_rising" s__law_rising f fd) (D_law_less : Has P w K mg base n "_law_less" ["_law_one", "_law_other"] (spA K 2 F_before)) (z_len : mg "len" = none) :
    FnOk P w K mg base CX0 (n + 1) f fd ["_law_moments_here"] (spA K 1 F__law_rising) := by
  have nd := sc__law_rising.nd
  have nd0 : (["_law_one", "_law_m"] : List Str).Nodup := by decide +kernel
  exact fn_pure F sc__law_rising rfl fun cdv A outer s H E hr => (ss_cons (ss_new (i := 1) nd rfl (Or.inl rfl) (sf_lst sa_nil))
    (ss_cons (ss_for PassesOwn.never rfl (si_q (se_v 0)) (sg_name (i := 2) nd rfl (Or.inr rfl)) (ss_cons (ss_set (i := 3) nd rfl (Or.inl rfl) (se_bor (se_callB sb_len rfl z_len PySem.boot_len (sa_cons (se_f (sf_comp rfl (si_q (se_v 1)) (comp_s (own := 1) (ix := [2]) (N := ["_law_one", "_law_m"]) rfl rfl rfl rfl rfl rfl (fun _ _ _ _ _ _ => (sk_name (i := 0) nd0 rfl (Or.inl rfl) (by decide))) (fun _ _ _ _ _ _ => (sif_one (st_val (se_call D_law_less hr rfl (sa_cons (se_v 0) (sa_cons (se_v 1) sa_nil)))))) (fun _ _ _ _ _ _ => (se_v 0))))) sa_nil))))
    (ss_one (ss_if (st_bor (st_w (sw_or (st_cmp (so_eq hr) (se_v 3) (se_callB sb_len rfl z_len PySem.boot_len (sa_cons (se_v 1) sa_nil)) (nomark _)) (sw_or1 (st_cmp (so_ne hr) (se_ix so_ix (se_v 1) (se_v 3) (fun _ _ => rfl)) (se_v 2) (nomark _)))))) (ss_one (ss_meth (i := 1) PySem.F.slot_list_insert PySem.F.type_list_insert sm_insert (sa_cons (se_v 3) (sa_cons (se_v 2) sa_nil)))) ss_nil))))
    (ss_one (ss_ret (se_v 1)))))
theorem sc__law_moments : FnScope ["_law_tape_here", "_law_one", "_law_other", "_law_found", "_law_inner", "_law_far", "_law_m"] ["_law_tape_here", "_law_one", "_law_other"] (defScope s__law_moments) := ⟨rfl, rfl, rfl, by decide +kernel, rfl, by decide +kernel, by decide +kernel⟩
theorem ok__law_moments {n : Nat} {f : Addr} {fd : FuncData} (F : Fun K "_law_moments" "_law_moments" s__law_moments f fd) (D_law_draw : Has P w K mg base n "_law_draw" ["_law_tape_here", "_law_many"] (spA K 2 F_draw)) (D_law_middle : Has P w K mg base n "_law_middle" ["_law_one", "_law_other"] (spA K 2 F__law_middle)) (D_law_off : Has P w K mg base n "_law_off" ["_law_one", "_law_other"] (spA K 2 F__law_off)) (D_law_place : Has P w K mg base n "_law_place" ["_law_tape_here"] (spA K 1 F__law_place)) (D_law_rising : Has P w K mg base n "_law_rising" ["_law_moments_here"] (spA K 1 F__law_rising)) (D_law_span : Has P w K mg base n "_law_span" ["_law_tape_here"] (spA K 1 F__law_span)) (D_law_sum : Has P w K mg base n "_law_sum" ["_law_one", "_law_other"] (spA K 2 F__law_sum)) (z_len : mg "len" = none) (z_zip : mg "zip" = none) :
    FnOk P w K mg base CX0 (n + 1) f fd ["_law_tape_here", "_law_one", "_law_other"] (spA K 3 F__law_moments_20) := by
  have nd := sc__law_moments.nd
  have nd0 : (["_law_corner"] : List Str).Nodup := by decide +kernel
  have nd1 : (["_law_m", "_law_further"] : List Str).Nodup := by decide +kernel
  exact fn_pure F sc__law_moments rfl fun cdv A outer s H E hr => (ss_cons (ss_set (i := 3) nd rfl (Or.inl rfl) (se_call D_law_rising hr rfl (sa_cons (se_f (sf_comp rfl (si_q (se_op so_addA (se_v 1) (se_v 2))) (comp_s (own := 1) (ix := []) (N := ["_law_corner"]) rfl rfl rfl rfl rfl rfl (fun _ _ _ _ _ _ => (sk_name (i := 0) nd0 rfl (Or.inl rfl) (by decide))) (fun _ _ _ _ _ _ => sif_nil) (fun _ _ _ _ _ _ => (se_ix so_ix (se_v 0) se_int (fun _ _ => rfl)))))) sa_nil)))
    (ss_cons (ss_compV (i := 4) rfl nd rfl (Or.inl rfl) (si_z rfl z_zip (sa_cons (se_v 3) (sa_cons (se_sl (se_v 3) (soS se_int) soN) sa_nil))) (comp_s (own := 2) (ix := []) (N := ["_law_m", "_law_further"]) rfl rfl rfl rfl rfl rfl (fun _ _ _ _ _ _ => (sk_seq (n := 2) rfl (sks_cons (sk_name (i := 0) nd1 rfl (Or.inl rfl) (by decide)) (sks_cons (sk_name (i := 1) nd1 rfl (Or.inl rfl) (by decide)) sks_nil)))) (fun _ _ _ _ _ _ => sif_nil) (fun _ _ _ _ _ _ => (se_call D_law_middle hr rfl (sa_cons (se_v 0) (sa_cons (se_v 1) sa_nil))))))
    (ss_cons (ss_set (i := 5) nd rfl (Or.inl rfl) (se_f (sf_lst (sa_cons (se_call D_law_off hr rfl (sa_cons (se_ix so_ix (se_v 3) se_int (fun _ _ => rfl)) (sa_cons (se_tup (sa_cons se_int (sa_cons se_int sa_nil))) sa_nil))) (sa_cons (se_call D_law_sum hr rfl (sa_cons (se_ix so_ix (se_v 3) (se_neg se_int) (fun _ _ => rfl)) (sa_cons (se_tup (sa_cons se_int (sa_cons se_int sa_nil))) sa_nil))) (sa_cons (se_call D_law_place hr rfl (sa_cons (se_v 0) sa_nil)) (sa_cons (se_call D_law_span hr rfl (sa_cons (se_v 0) sa_nil)) sa_nil)))))))
    (ss_cons (ss_set (i := 6) nd rfl (Or.inl rfl) (se_ix so_ix (se_v 3) (se_call D_law_draw hr rfl (sa_cons (se_v 0) (sa_cons (se_callB sb_len rfl z_len PySem.boot_len (sa_cons (se_v 3) sa_nil)) sa_nil))) (fun _ _ => rfl)))
    (ss_one (ss_ret (se_op so_addA (se_op so_addA (se_op so_addA (se_v 3) (se_v 4)) (se_v 5)) (se_f (sf_lst (sa_cons (se_call D_law_off hr rfl (sa_cons (se_v 6) (sa_cons (se_tup (sa_cons se_int (sa_cons (se_op so_pow se_int se_int) sa_nil))) sa_nil))) (sa_cons (se_call D_law_sum hr rfl (sa_cons (se_v 6) (sa_cons (se_tup (sa_cons se_int (sa_cons (se_op so_pow se_int se_int) sa_nil))) sa_nil))) sa_nil)))))))))))
theorem sc__law_same : FnScope ["_law_found", "_law_due"] ["_law_found", "_law_due"] (defScope s__law_same) := ⟨rfl, rfl, rfl, by decide +kernel, rfl, by decide +kernel, by decide +kernel⟩
theorem ok__law_same {n m : Nat} {f : Addr} {fd : FuncData} (F : Fun K "_law_same" "_law_same" s__law_same f fd) (D_law_same : Has P w K mg base n "_law_same" ["_law_found", "_law_due"] (spA K 2 (F__law_same_20 m))) (z_all : mg "all" = none) (z_bool : mg "bool" = none) (z_int : mg "int" = none) (z_isinstance : mg "isinstance" = none) (z_len : mg "len" = none) (z_str : mg "str" = none) (z_tuple : mg "tuple" = none) (z_zip : mg "zip" = none) :
    FnOk P w K mg base CX0 (n + 1) f fd ["_law_found", "_law_due"] (spA K 2 (F__law_same_20 (m + 1))) := by
  have nd := sc__law_same.nd
  have nd0 : (["_law_piece", "_law_mate"] : List Str).Nodup := by decide +kernel
  exact fn_pure F sc__law_same rfl fun cdv A outer s H E hr => (ss_cons (ss_if (st_val (se_callB sb_isi rfl z_isinstance boot_isinstance (sa_cons (se_v 1) (sa_cons (se_ty (n := "tuple") rfl z_tuple PyProof.Rows.boot_tuple rfl) sa_nil)))) (ss_cons (ss_if (st_w (sw_or (st_not (st_val (se_callB sb_isi rfl z_isinstance boot_isinstance (sa_cons (se_v 0) (sa_cons (se_ty (n := "tuple") rfl z_tuple PyProof.Rows.boot_tuple rfl) sa_nil))))) (sw_or1 (st_cmp (so_ne hr) (se_callB sb_len rfl z_len PySem.boot_len (sa_cons (se_v 0) sa_nil)) (se_callB sb_len rfl z_len PySem.boot_len (sa_cons (se_v 1) sa_nil)) (nomark _))))) (ss_one (ss_ret se_bl)) ss_nil)
    (ss_one (ss_ret (se_callB (sb_all rfl) rfl z_all boot_all (sa_cons (se_f (sf_comp rfl (si_z rfl z_zip (sa_cons (se_v 0) (sa_cons (se_v 1) sa_nil))) (comp_s (own := 2) (ix := []) (N := ["_law_piece", "_law_mate"]) rfl rfl rfl rfl rfl rfl (fun _ _ _ _ _ _ => (sk_seq (n := 2) rfl (sks_cons (sk_name (i := 0) nd0 rfl (Or.inl rfl) (by decide)) (sks_cons (sk_name (i := 1) nd0 rfl (Or.inl rfl) (by decide)) sks_nil)))) (fun _ _ _ _ _ _ => sif_nil) (fun _ _ _ _ _ _ => (se_call D_law_same hr rfl (sa_cons (se_v 0) (sa_cons (se_v 1) sa_nil))))))) sa_nil))))) ss_nil)
    (ss_cons (ss_if (st_w (sw_or (st_cmp so_isN (se_v 1) se_non (nomark _)) (sw_or1 (st_val (se_callB sb_isiS rfl z_isinstance boot_isinstance (sa_cons (se_v 1) (sa_cons (se_ty (n := "str") rfl z_str PyProof.Rows.boot_str rfl) sa_nil))))))) (ss_one (ss_ret (se_and (se_cmp (so_eq hr) (se_v 0) (se_v 1) (nomark _)) (se_one (se_cmp (so_eq hr) (se_callB sb_isiS rfl z_isinstance boot_isinstance (sa_cons (se_v 0) (sa_cons (se_ty (n := "str") rfl z_str PyProof.Rows.boot_str rfl) sa_nil))) (se_callB sb_isiS rfl z_isinstance boot_isinstance (sa_cons (se_v 1) (sa_cons (se_ty (n := "str") rfl z_str PyProof.Rows.boot_str rfl) sa_nil))) (nomark _)))))) ss_nil)
    (ss_one (ss_ret (se_and (se_callB sb_isi rfl z_isinstance boot_isinstance (sa_cons (se_v 0) (sa_cons (se_ty (n := "int") rfl z_int PyProof.Rows.boot_int rfl) sa_nil))) (se_and (se_not (se_callB sb_isi rfl z_isinstance boot_isinstance (sa_cons (se_v 0) (sa_cons (se_ty (n := "bool") rfl z_bool PyProof.Rows.boot_bool rfl) sa_nil)))) (se_one (se_cmp (so_eq hr) (se_v 0) (se_v 1) (nomark _)))))))))
theorem sc_before : FnScope ["one", "other"] ["one", "other"] (defScope s_before) := ⟨rfl, rfl, rfl, by decide +kernel, rfl, by decide +kernel, by decide +kernel⟩
theorem ok_before {n : Nat} {f : Addr} {fd : FuncData} (F : Fun K "before" "before" s_before f fd) :
    FnOk P w K mg base CX0 (n + 1) f fd ["one", "other"] (spA K 2 F_before) := by
  have nd := sc_before.nd
  exact fn_pure F sc_before rfl fun cdv A outer s H E hr => (ss_one (ss_ret (se_cmp so_lt (se_op so_mul (se_ix so_ix (se_v 0) se_int (fun _ _ => rfl)) (se_ix so_ix (se_v 1) se_int (fun _ _ => rfl))) (se_op so_mul (se_ix so_ix (se_v 1) se_int (fun _ _ => rfl)) (se_ix so_ix (se_v 0) se_int (fun _ _ => rfl))) (nomark _))))
theorem sc_greater : FnScope ["one", "other"] ["one", "other"] (defScope s_greater) := ⟨rfl, rfl, rfl, by decide +kernel, rfl, by decide +kernel, by decide +kernel⟩
theorem ok_greater {n : Nat} {f : Addr} {fd : FuncData} (F : Fun K "greater" "greater" s_greater f fd) (Dbefore : Has P w K mg base n "before" ["one", "other"] (spA K 2 F_before)) :
    FnOk P w K mg base CX0 (n + 1) f fd ["one", "other"] (spA K 2 F__law_greater) := by
  have nd := sc_greater.nd
  exact fn_pure F sc_greater rfl fun cdv A outer s H E hr => (ss_one (ss_ret (se_if (st_val (se_call Dbefore hr rfl (sa_cons (se_v 0) (sa_cons (se_v 1) sa_nil)))) (se_v 1) (se_v 0))))
theorem sc_common : FnScope ["one", "other"] ["one", "other"] (defScope s_common) := ⟨rfl, rfl, rfl, by decide +kernel, rfl, by decide +kernel, by decide +kernel⟩
theorem ok_common {n : Nat} {f : Addr} {fd : FuncData} (F : Fun K "common" "common" s_common f fd) :
    FnOk P w K mg base CX0 (n + 1) f fd ["one", "other"] (spA K 2 F_common) := by
  have nd := sc_common.nd
  exact fn_pure F sc_common rfl fun cdv A outer s H E hr => (ss_cons (ss_while PassesOwn.never (st_cmp (so_ne hr) (se_v 1) se_int (nomark _)) (ss_one (ss_par (i := 0) (j := 1) rfl nd rfl rfl (by decide) rfl rfl (sa_cons (se_v 1) (sa_cons (se_op so_mod (se_v 0) (se_v 1)) sa_nil)) rfl)))
    (ss_one (ss_ret (se_v 0))))
theorem sc_part : FnScope ["top", "bottom", "shared"] ["top", "bottom"] (defScope s_part) := ⟨rfl, rfl, rfl, by decide +kernel, rfl, by decide +kernel, by decide +kernel⟩
theorem ok_part {n : Nat} {f : Addr} {fd : FuncData} (F : Fun K "part" "part" s_part f fd) (Dcommon : Has P w K mg base n "common" ["one", "other"] (spA K 2 F_common)) (z_abs : mg "abs" = none) :
    FnOk P w K mg base CX0 (n + 1) f fd ["top", "bottom"] (spA K 2 F_part) := by
  have nd := sc_part.nd
  exact fn_pure F sc_part rfl fun cdv A outer s H E hr => (ss_cons (ss_set (i := 2) nd rfl (Or.inl rfl) (se_call Dcommon hr rfl (sa_cons (se_callB sb_abs rfl z_abs boot_abs (sa_cons (se_v 0) sa_nil)) (sa_cons (se_callB sb_abs rfl z_abs boot_abs (sa_cons (se_v 1) sa_nil)) sa_nil))))
    (ss_cons (ss_if (st_cmp so_lt (se_v 1) se_int (nomark _)) (ss_one (ss_set (i := 2) nd rfl (Or.inl rfl) (se_neg (se_v 2)))) ss_nil)
    (ss_one (ss_ret (se_tup (sa_cons (se_op so_fdiv (se_v 0) (se_v 2)) (sa_cons (se_op so_fdiv (se_v 1) (se_v 2)) sa_nil)))))))
theorem sc_minus : FnScope ["one", "other"] ["one", "other"] (defScope s_minus) := ⟨rfl, rfl, rfl, by decide +kernel, rfl, by decide +kernel, by decide +kernel⟩
theorem ok_minus {n : Nat} {f : Addr} {fd : FuncData} (F : Fun K "minus" "minus" s_minus f fd) (Dpart : Has P w K mg base n "part" ["top", "bottom"] (spA K 2 F_part)) :
    FnOk P w K mg base CX0 (n + 1) f fd ["one", "other"] (spA K 2 F_minus) := by
  have nd := sc_minus.nd
  exact fn_pure F sc_minus rfl fun cdv A outer s H E hr => (ss_one (ss_ret (se_call Dpart hr rfl (sa_cons (se_op so_sub (se_op so_mul (se_ix so_ix (se_v 0) se_int (fun _ _ => rfl)) (se_ix so_ix (se_v 1) se_int (fun _ _ => rfl))) (se_op so_mul (se_ix so_ix (se_v 1) se_int (fun _ _ => rfl)) (se_ix so_ix (se_v 0) se_int (fun _ _ => rfl)))) (sa_cons (se_op so_mul (se_ix so_ix (se_v 0) se_int (fun _ _ => rfl)) (se_ix so_ix (se_v 1) se_int (fun _ _ => rfl))) sa_nil)))))
theorem sc_over : FnScope ["one", "other"] ["one", "other"] (defScope s_over) := ⟨rfl, rfl, rfl, by decide +kernel, rfl, by decide +kernel, by decide +kernel⟩
theorem ok_over {n : Nat} {f : Addr} {fd : FuncData} (F : Fun K "over" "over" s_over f fd) (Dpart : Has P w K mg base n "part" ["top", "bottom"] (spA K 2 F_part)) :
    FnOk P w K mg base CX0 (n + 1) f fd ["one", "other"] (spA K 2 F_over) := by
  have nd := sc_over.nd
  exact fn_pure F sc_over rfl fun cdv A outer s H E hr => (ss_one (ss_ret (se_call Dpart hr rfl (sa_cons (se_op so_mul (se_ix so_ix (se_v 0) se_int (fun _ _ => rfl)) (se_ix so_ix (se_v 1) se_int (fun _ _ => rfl))) (sa_cons (se_op so_mul (se_ix so_ix (se_v 0) se_int (fun _ _ => rfl)) (se_ix so_ix (se_v 1) se_int (fun _ _ => rfl))) sa_nil)))))
theorem sc_size_of : FnScope ["apart", "side"] ["apart", "side"] (defScope s_size_of) := ⟨rfl, rfl, rfl, by decide +kernel, rfl, by decide +kernel, by decide +kernel⟩
theorem ok_size_of {n : Nat} {f : Addr} {fd : FuncData} (F : Fun K "size_of" "size_of" s_size_of f fd) :
    FnOk P w K mg base CX0 (n + 1) f fd ["apart", "side"] (spA K 2 F_size_of) := by
  have nd := sc_size_of.nd
  exact fn_pure F sc_size_of rfl fun cdv A outer s H E hr => (ss_one (ss_ret (se_if (st_cmp (so_eq hr) (se_v 1) se_int (nomark _)) (se_ix so_ix (se_v 0) se_int (fun _ _ => rfl)) (se_ix so_ix (se_v 0) se_int (fun _ _ => rfl)))))
theorem sc_plus : FnScope ["one", "other"] ["one", "other"] (defScope s_plus) := ⟨rfl, rfl, rfl, by decide +kernel, rfl, by decide +kernel, by decide +kernel⟩
theorem ok_plus {n : Nat} {f : Addr} {fd : FuncData} (F : Fun K "plus" "plus" s_plus f fd) (Dpart : Has P w K mg base n "part" ["top", "bottom"] (spA K 2 F_part)) :
    FnOk P w K mg base CX0 (n + 1) f fd ["one", "other"] (spA K 2 F_plus) := by
  have nd := sc_plus.nd
  exact fn_pure F sc_plus rfl fun cdv A outer s H E hr => (ss_one (ss_ret (se_call Dpart hr rfl (sa_cons (se_op so_addA (se_op so_mul (se_ix so_ix (se_v 0) se_int (fun _ _ => rfl)) (se_ix so_ix (se_v 1) se_int (fun _ _ => rfl))) (se_op so_mul (se_ix so_ix (se_v 1) se_int (fun _ _ => rfl)) (se_ix so_ix (se_v 0) se_int (fun _ _ => rfl)))) (sa_cons (se_op so_mul (se_ix so_ix (se_v 0) se_int (fun _ _ => rfl)) (se_ix so_ix (se_v 1) se_int (fun _ _ => rfl))) sa_nil)))))
theorem sc_times : FnScope ["one", "other"] ["one", "other"] (defScope s_times) := ⟨rfl, rfl, rfl, by decide +kernel, rfl, by decide +kernel, by decide +kernel⟩
theorem ok_times {n : Nat} {f : Addr} {fd : FuncData} (F : Fun K "times" "times" s_times f fd) (Dpart : Has P w K mg base n "part" ["top", "bottom"] (spA K 2 F_part)) :
    FnOk P w K mg base CX0 (n + 1) f fd ["one", "other"] (spA K 2 F_times) := by
  have nd := sc_times.nd
  exact fn_pure F sc_times rfl fun cdv A outer s H E hr => (ss_one (ss_ret (se_call Dpart hr rfl (sa_cons (se_op so_mul (se_ix so_ix (se_v 0) se_int (fun _ _ => rfl)) (se_ix so_ix (se_v 1) se_int (fun _ _ => rfl))) (sa_cons (se_op so_mul (se_ix so_ix (se_v 0) se_int (fun _ _ => rfl)) (se_ix so_ix (se_v 1) se_int (fun _ _ => rfl))) sa_nil)))))
theorem sc_spot_between : FnScope ["former", "latter", "m", "share"] ["former", "latter", "m"] (defScope s_spot_between) := ⟨rfl, rfl, rfl, by decide +kernel, rfl, by decide +kernel, by decide +kernel⟩
theorem ok_spot_between {n : Nat} {f : Addr} {fd : FuncData} (F : Fun K "spot_between" "spot_between" s_spot_between f fd) (Dminus : Has P w K mg base n "minus" ["one", "other"] (spA K 2 F_minus)) (Dover : Has P w K mg base n "over" ["one", "other"] (spA K 2 F_over)) (Dplus : Has P w K mg base n "plus" ["one", "other"] (spA K 2 F_plus)) (Dtimes : Has P w K mg base n "times" ["one", "other"] (spA K 2 F_times)) (z_tuple : mg "tuple" = none) (z_zip : mg "zip" = none) :
    FnOk P w K mg base CX0 (n + 1) f fd ["former", "latter", "m"] (spA K 3 F_spot_between) := by
  have nd := sc_spot_between.nd
  have nd0 : (["low", "high", "share"] : List Str).Nodup := by decide +kernel
  exact fn_pure F sc_spot_between rfl fun cdv A outer s H E hr => (ss_cons (ss_set (i := 3) nd rfl (Or.inr rfl) (se_call Dover hr rfl (sa_cons (se_call Dminus hr rfl (sa_cons (se_v 2) (sa_cons (se_ix so_ix (se_v 0) se_int (fun _ _ => rfl)) sa_nil))) (sa_cons (se_call Dminus hr rfl (sa_cons (se_ix so_ix (se_v 1) se_int (fun _ _ => rfl)) (sa_cons (se_ix so_ix (se_v 0) se_int (fun _ _ => rfl)) sa_nil))) sa_nil))))
    (ss_one (ss_ret (se_callTy sb_tuple rfl z_tuple PyProof.Rows.boot_tuple (sa_cons (se_f (sf_comp rfl (si_z rfl z_zip (sa_cons (se_sl (se_v 0) (soS se_int) soN) (sa_cons (se_sl (se_v 1) (soS se_int) soN) sa_nil))) (comp_s (own := 2) (ix := [3]) (N := ["low", "high", "share"]) rfl rfl rfl rfl rfl rfl (fun _ _ _ _ _ _ => (sk_seq (n := 2) rfl (sks_cons (sk_name (i := 0) nd0 rfl (Or.inl rfl) (by decide)) (sks_cons (sk_name (i := 1) nd0 rfl (Or.inl rfl) (by decide)) sks_nil)))) (fun _ _ _ _ _ _ => sif_nil) (fun _ _ _ _ _ _ => (se_call Dplus hr rfl (sa_cons (se_v 0) (sa_cons (se_call Dtimes hr rfl (sa_cons (se_v 2) (sa_cons (se_call Dminus hr rfl (sa_cons (se_v 1) (sa_cons (se_v 0) sa_nil))) sa_nil))) sa_nil))))))) sa_nil)))))
theorem sc_spot_at : FnScope ["plan", "m", "at"] ["plan", "m"] (defScope s_spot_at) := ⟨rfl, rfl, rfl, by decide +kernel, rfl, by decide +kernel, by decide +kernel⟩
theorem ok_spot_at {n : Nat} {f : Addr} {fd : FuncData} (F : Fun K "spot_at" "spot_at" s_spot_at f fd) (Dbefore : Has P w K mg base n "before" ["one", "other"] (spA K 2 F_before)) (Dspot_between : Has P w K mg base n "spot_between" ["former", "latter", "m"] (spA K 3 F_spot_between)) (z_len : mg "len" = none) (z_range : mg "range" = none) :
    FnOk P w K mg base CX0 (n + 1) f fd ["plan", "m"] (spA K 2 F_spot_at) := by
  have nd := sc_spot_at.nd
  exact fn_pure F sc_spot_at rfl fun cdv A outer s H E hr => (ss_cons (ss_if (st_val (se_call Dbefore hr rfl (sa_cons (se_v 1) (sa_cons (se_ix so_ix (se_ix so_ix (se_v 0) se_int (fun _ _ => rfl)) se_int (fun _ _ => rfl)) sa_nil)))) (ss_one (ss_ret se_non)) ss_nil)
    (ss_cons (ss_for PassesOwn.never rfl (si_r2 rfl z_range (sa_cons se_int (sa_cons (se_callB sb_len rfl z_len PySem.boot_len (sa_cons (se_v 0) sa_nil)) sa_nil))) (sg_name (i := 2) nd rfl (Or.inl rfl)) (ss_one (ss_if (st_not (st_val (se_call Dbefore hr rfl (sa_cons (se_ix so_ix (se_ix so_ix (se_v 0) (se_v 2) (fun _ _ => rfl)) se_int (fun _ _ => rfl)) (sa_cons (se_v 1) sa_nil))))) (ss_one (ss_ret (se_call Dspot_between hr rfl (sa_cons (se_ix so_ix (se_v 0) (se_op so_sub (se_v 2) se_int) (fun _ _ => rfl)) (sa_cons (se_ix so_ix (se_v 0) (se_v 2) (fun _ _ => rfl)) (sa_cons (se_v 1) sa_nil)))))) ss_nil)))
    (ss_one (ss_ret se_non))))
theorem sc_offs_at : FnScope ["one", "other", "apart", "m", "here", "there"] ["one", "other", "apart", "m"] (defScope s_offs_at) := ⟨rfl, rfl, rfl, by decide +kernel, rfl, by decide +kernel, by decide +kernel⟩
theorem ok_offs_at {n : Nat} {f : Addr} {fd : FuncData} (F : Fun K "offs_at" "offs_at" s_offs_at f fd) (Dminus : Has P w K mg base n "minus" ["one", "other"] (spA K 2 F_minus)) (Dover : Has P w K mg base n "over" ["one", "other"] (spA K 2 F_over)) (Dsize_of : Has P w K mg base n "size_of" ["apart", "side"] (spA K 2 F_size_of)) (Dspot_at : Has P w K mg base n "spot_at" ["plan", "m"] (spA K 2 F_spot_at)) (z_range : mg "range" = none) :
    FnOk P w K mg base CX0 (n + 1) f fd ["one", "other", "apart", "m"] (spA K 4 F_offs_at) := by
  have nd := sc_offs_at.nd
  have nd0 : (["side", "apart", "here", "there"] : List Str).Nodup := by decide +kernel
  exact fn_pure F sc_offs_at rfl fun cdv A outer s H E hr => (ss_cons (ss_set (i := 4) nd rfl (Or.inr rfl) (se_call Dspot_at hr rfl (sa_cons (se_v 0) (sa_cons (se_v 3) sa_nil))))
    (ss_cons (ss_set (i := 5) nd rfl (Or.inr rfl) (se_call Dspot_at hr rfl (sa_cons (se_v 1) (sa_cons (se_v 3) sa_nil))))
    (ss_one (ss_ret (se_f (sf_comp rfl (si_r1 rfl z_range (sa_cons se_int sa_nil)) (comp_s (own := 1) (ix := [2, 4, 5]) (N := ["side", "apart", "here", "there"]) rfl rfl rfl rfl rfl rfl (fun _ _ _ _ _ _ => (sk_name (i := 0) nd0 rfl (Or.inl rfl) (by decide))) (fun _ _ _ _ _ _ => sif_nil) (fun _ _ _ _ _ _ => (se_call Dover hr rfl (sa_cons (se_call Dminus hr rfl (sa_cons (se_ix so_ix (se_v 2) (se_v 0) (fun _ _ => rfl)) (sa_cons (se_ix so_ix (se_v 3) (se_v 0) (fun _ _ => rfl)) sa_nil))) (sa_cons (se_call Dsize_of hr rfl (sa_cons (se_v 1) (sa_cons (se_v 0) sa_nil))) sa_nil)))))))))))
theorem sc_lesser : FnScope ["one", "other"] ["one", "other"] (defScope s_lesser) := ⟨rfl, rfl, rfl, by decide +kernel, rfl, by decide +kernel, by decide +kernel⟩
theorem ok_lesser {n : Nat} {f : Addr} {fd : FuncData} (F : Fun K "lesser" "lesser" s_lesser f fd) (Dbefore : Has P w K mg base n "before" ["one", "other"] (spA K 2 F_before)) :
    FnOk P w K mg base CX0 (n + 1) f fd ["one", "other"] (spA K 2 F_lesser) := by
  have nd := sc_lesser.nd
  exact fn_pure F sc_lesser rfl fun cdv A outer s H E hr => (ss_one (ss_ret (se_if (st_val (se_call Dbefore hr rfl (sa_cons (se_v 1) (sa_cons (se_v 0) sa_nil)))) (se_v 1) (se_v 0))))
theorem sc_together : FnScope ["one", "other", "begin", "end"] ["one", "other"] (defScope s_together) := ⟨rfl, rfl, rfl, by decide +kernel, rfl, by decide +kernel, by decide +kernel⟩
theorem ok_together {n : Nat} {f : Addr} {fd : FuncData} (F : Fun K "together" "together" s_together f fd) (Dbefore : Has P w K mg base n "before" ["one", "other"] (spA K 2 F_before)) (Dgreater : Has P w K mg base n "greater" ["one", "other"] (spA K 2 F__law_greater)) (Dlesser : Has P w K mg base n "lesser" ["one", "other"] (spA K 2 F_lesser)) :
    FnOk P w K mg base CX0 (n + 1) f fd ["one", "other"] (spA K 2 F_together) := by
  have nd := sc_together.nd
  exact fn_pure F sc_together rfl fun cdv A outer s H E hr => (ss_cons (ss_set (i := 2) nd rfl (Or.inl rfl) (se_call Dgreater hr rfl (sa_cons (se_ix so_ix (se_ix so_ix (se_v 0) se_int (fun _ _ => rfl)) se_int (fun _ _ => rfl)) (sa_cons (se_ix so_ix (se_ix so_ix (se_v 1) se_int (fun _ _ => rfl)) se_int (fun _ _ => rfl)) sa_nil))))
    (ss_cons (ss_set (i := 3) nd rfl (Or.inl rfl) (se_call Dlesser hr rfl (sa_cons (se_ix so_ix (se_ix so_ix (se_v 0) (se_neg se_int) (fun _ _ => rfl)) se_int (fun _ _ => rfl)) (sa_cons (se_ix so_ix (se_ix so_ix (se_v 1) (se_neg se_int) (fun _ _ => rfl)) se_int (fun _ _ => rfl)) sa_nil))))
    (ss_one (ss_ret (se_if (st_val (se_call Dbefore hr rfl (sa_cons (se_v 2) (sa_cons (se_v 3) sa_nil)))) (se_tup (sa_cons (se_v 2) (sa_cons (se_v 3) sa_nil))) se_non)))))
theorem sc_gap_at : FnScope ["one", "other", "apart", "m", "span", "gap", "top", "bottom"] ["one", "other", "apart", "m"] (defScope s_gap_at) := ⟨rfl, rfl, rfl, by decide +kernel, rfl, by decide +kernel, by decide +kernel⟩
theorem ok_gap_at {n : Nat} {f : Addr} {fd : FuncData} (F : Fun K "gap_at" "gap_at" s_gap_at f fd) (Dbefore : Has P w K mg base n "before" ["one", "other"] (spA K 2 F_before)) (Dgreater : Has P w K mg base n "greater" ["one", "other"] (spA K 2 F__law_greater)) (Doffs_at : Has P w K mg base n "offs_at" ["one", "other", "apart", "m"] (spA K 4 F_offs_at)) (Dtogether : Has P w K mg base n "together" ["one", "other"] (spA K 2 F_together)) (z_abs : mg "abs" = none) :
    FnOk P w K mg base CX0 (n + 1) f fd ["one", "other", "apart", "m"] (spA K 4 F_gap_at) := by
  have nd := sc_gap_at.nd
  exact fn_pure F sc_gap_at rfl fun cdv A outer s H E hr => (ss_cons (ss_set (i := 4) nd rfl (Or.inl rfl) (se_call Dtogether hr rfl (sa_cons (se_v 0) (sa_cons (se_v 1) sa_nil))))
    (ss_cons (ss_if (st_w (sw_or (st_cmp so_isN (se_v 4) se_non (nomark _)) (sw_or (st_val (se_call Dbefore hr rfl (sa_cons (se_v 3) (sa_cons (se_ix so_ix (se_v 4) se_int (fun _ _ => rfl)) sa_nil)))) (sw_or1 (st_not (st_val (se_call Dbefore hr rfl (sa_cons (se_v 3) (sa_cons (se_ix so_ix (se_v 4) se_int (fun _ _ => rfl)) sa_nil))))))))) (ss_one (ss_ret se_non)) ss_nil)
    (ss_cons (ss_set (i := 5) nd rfl (Or.inl rfl) (se_tup (sa_cons se_int (sa_cons se_int sa_nil))))
    (ss_cons (ss_for PassesOwn.never rfl (si_q (se_call Doffs_at hr rfl (sa_cons (se_v 0) (sa_cons (se_v 1) (sa_cons (se_v 2) (sa_cons (se_v 3) sa_nil)))))) (sg_seq (n := 2) rfl (sgs_cons (sg_name (i := 6) nd rfl (Or.inl rfl)) (sgs_cons (sg_name (i := 7) nd rfl (Or.inl rfl)) sgs_nil))) (ss_one (ss_set (i := 5) nd rfl (Or.inl rfl) (se_call Dgreater hr rfl (sa_cons (se_v 5) (sa_cons (se_tup (sa_cons (se_callB sb_abs rfl z_abs boot_abs (sa_cons (se_v 6) sa_nil)) (sa_cons (se_v 7) sa_nil))) sa_nil))))))
    (ss_one (ss_ret (se_v 5)))))))
theorem sc_law : FnScope ["_law_script", "_law_k", "_law_off_here", "_law_lists", "_law_m", "_law_tape_here", "_law_one", "_law_other", "_law_apart_here", "_law_due"] ["_law_script"] (defScope s_law) := ⟨rfl, rfl, rfl, by decide +kernel, rfl, by decide +kernel, by decide +kernel⟩
theorem ok_law {n : Nat} {f : Addr} {fd : FuncData} (F : Fun K "law" "law" s_law f fd) (D_law_case : Has P w K mg base n "_law_case" ["_law_script", "_law_k"] (spA K 2 F__law_case)) (D_law_draw : Has P w K mg base n "_law_draw" ["_law_tape_here", "_law_many"] (spA K 2 F_draw)) (D_law_gap : Has P w K mg base n "_law_gap" ["_law_one", "_law_other", "_law_apart_here", "_law_m", "_law_end"] (spA K 5 F__law_gap)) (D_law_listed : Has P w K mg base n "_law_listed" ["_law_thing"] (spA K 1 (F__law_listed_20 12))) (D_law_moments : Has P w K mg base n "_law_moments" ["_law_tape_here", "_law_one", "_law_other"] (spA K 3 F__law_moments_20)) (D_law_moved : Has P w K mg base n "_law_moved" ["_law_plan_here", "_law_late", "_law_by"] (spA K 3 F__law_moved_20)) (D_law_off : Has P w K mg base n "_law_off" ["_law_one", "_law_other"] (spA K 2 F__law_off)) (D_law_same : Has P w K mg base n "_law_same" ["_law_found", "_law_due"] (spA K 2 (F__law_same_20 12))) (D_law_sum : Has P w K mg base n "_law_sum" ["_law_one", "_law_other"] (spA K 2 F__law_sum)) (Dgap_at : Has P w K mg base n "gap_at" ["one", "other", "apart", "m"] (spA K 4 F_gap_at)) (z_len : mg "len" = none) (z_min : mg "min" = none) (z_range : mg "range" = none) :
    FnOk P w K mg base CX0 (n + 1) f fd ["_law_script"] (spA K 1 F_law_k20) := by
  have nd := sc_law.nd
  exact fn_pure F sc_law rfl fun cdv A outer s H E hr => (ss_cons (ss_for PassesOwn.never rfl (si_r1 rfl z_range (sa_cons (se_op so_addA se_int (se_callB (sb_min rfl) rfl z_min boot_min (sa_cons se_int (sa_cons (se_callB sb_len rfl z_len PySem.boot_len (sa_cons (se_v 0) sa_nil)) sa_nil)))) sa_nil)) (sg_name (i := 1) nd rfl (Or.inl rfl)) (ss_cons (ss_asg (se_call D_law_case hr rfl (sa_cons (se_v 0) (sa_cons (se_v 1) sa_nil))) (sg_seq (n := 4) rfl (sgs_cons (sg_name (i := 5) nd rfl (Or.inl rfl)) (sgs_cons (sg_name (i := 6) nd rfl (Or.inl rfl)) (sgs_cons (sg_name (i := 7) nd rfl (Or.inl rfl)) (sgs_cons (sg_name (i := 8) nd rfl (Or.inl rfl)) sgs_nil))))))
    (ss_cons (ss_set (i := 2) nd rfl (Or.inl rfl) (se_ix so_ix (se_f (sf_lst (sa_cons (se_tup (sa_cons se_int (sa_cons se_int sa_nil))) (sa_cons (se_tup (sa_cons se_int (sa_cons se_int sa_nil))) (sa_cons (se_tup (sa_cons (se_op so_pow se_int se_int) (sa_cons se_int sa_nil))) sa_nil))))) (se_call D_law_draw hr rfl (sa_cons (se_v 5) (sa_cons se_int sa_nil))) (fun _ _ => rfl)))
    (ss_cons (ss_par (i := 6) (j := 7) rfl nd rfl rfl (by decide) rfl rfl (sa_cons (se_call D_law_moved hr rfl (sa_cons (se_v 6) (sa_cons (se_tup (sa_cons se_int (sa_cons se_int sa_nil))) (sa_cons (se_f (sf_lst (sa_cons (se_v 2) (sa_cons (se_v 2) (sa_cons (se_v 2) sa_nil))))) sa_nil)))) (sa_cons (se_call D_law_moved hr rfl (sa_cons (se_v 7) (sa_cons (se_tup (sa_cons se_int (sa_cons se_int sa_nil))) (sa_cons (se_f (sf_lst (sa_cons (se_v 2) (sa_cons (se_v 2) (sa_cons (se_v 2) sa_nil))))) sa_nil)))) sa_nil)) rfl)
    (ss_cons (ss_if (st_cmp (so_eq hr) (se_call D_law_draw hr rfl (sa_cons (se_v 5) (sa_cons se_int sa_nil))) se_int (nomark _)) (ss_one (ss_set (i := 8) nd rfl (Or.inl rfl) (se_tup (sa_cons (se_call D_law_off hr rfl (sa_cons (se_ix so_ix (se_v 8) se_int (fun _ _ => rfl)) (sa_cons (se_tup (sa_cons se_int (sa_cons (se_op so_pow se_int se_int) sa_nil))) sa_nil))) (sa_cons (se_call D_law_sum hr rfl (sa_cons (se_ix so_ix (se_v 8) se_int (fun _ _ => rfl)) (sa_cons (se_tup (sa_cons se_int (sa_cons (se_op so_pow se_int se_int) sa_nil))) sa_nil))) sa_nil))))) ss_nil)
    (ss_cons (ss_set (i := 3) nd rfl (Or.inl rfl) (se_tup (sa_cons (se_call D_law_listed hr rfl (sa_cons (se_v 6) sa_nil)) (sa_cons (se_call D_law_listed hr rfl (sa_cons (se_v 7) sa_nil)) (sa_cons (se_call D_law_listed hr rfl (sa_cons (se_v 8) sa_nil)) sa_nil)))))
    (ss_cons (ss_for PassesOwn.never rfl (si_q (se_call D_law_moments hr rfl (sa_cons (se_v 5) (sa_cons (se_v 6) (sa_cons (se_v 7) sa_nil))))) (sg_name (i := 4) nd rfl (Or.inl rfl)) (ss_cons (ss_set (i := 9) nd rfl (Or.inl rfl) (se_call D_law_gap hr rfl (sa_cons (se_v 6) (sa_cons (se_v 7) (sa_cons (se_v 8) (sa_cons (se_v 4) (sa_cons se_bl sa_nil)))))))
    (ss_cons (ss_if (st_w (sw_or (st_not (st_val (se_call D_law_same hr rfl (sa_cons (se_call Dgap_at hr rfl (sa_cons (se_v 6) (sa_cons (se_v 7) (sa_cons (se_v 8) (sa_cons (se_v 4) sa_nil))))) (sa_cons (se_v 9) sa_nil))))) (sw_or1 (st_not (st_val (se_call D_law_same hr rfl (sa_cons (se_call Dgap_at hr rfl (sa_cons (se_v 7) (sa_cons (se_v 6) (sa_cons (se_v 8) (sa_cons (se_v 4) sa_nil))))) (sa_cons (se_v 9) sa_nil)))))))) (ss_one (ss_ret se_bl)) ss_nil)
    (ss_one (ss_if (st_not (st_val (se_call D_law_same hr rfl (sa_cons (se_call Dgap_at hr rfl (sa_cons (se_ix so_ix (se_v 3) se_int (fun _ _ => rfl)) (sa_cons (se_ix so_ix (se_v 3) se_int (fun _ _ => rfl)) (sa_cons (se_ix so_ix (se_v 3) se_int (fun _ _ => rfl)) (sa_cons (se_v 4) sa_nil))))) (sa_cons (se_v 9) sa_nil))))) (ss_one (ss_ret se_bl)) ss_nil)))))
    (ss_one (ss_if (st_cmp (so_ne hr) (se_v 3) (se_tup (sa_cons (se_call D_law_listed hr rfl (sa_cons (se_v 6) sa_nil)) (sa_cons (se_call D_law_listed hr rfl (sa_cons (se_v 7) sa_nil)) (sa_cons (se_call D_law_listed hr rfl (sa_cons (se_v 8) sa_nil)) sa_nil)))) (nomark _)) (ss_one (ss_ret se_bl)) ss_nil)))))))))
    (ss_one (ss_ret se_bl)))
end
theorem has_of {P : Program} {w : World} {K : PySem.W.Frag} {mg : Str → Option Value} {base : Heap} {k : Nat} {x : Str} {st : Stmt} {ps : List Str} {sp : Sp} {f : Addr} {fd : FuncData} (F : Fun K x x st f fd) (b : Binds K fd ps []) (m : mg x = some (.ref f)) (G : FnOk P w K mg base CX0 k f fd ps sp) : Has P w K mg base k x ps sp := ⟨f, fd, m, F.kp, b, G⟩
theorem all__law_listed {P : Program} {w : World} {K : PySem.W.Frag} {mg : Str → Option Value} {base : Heap} {k0 : Nat} {f : Addr} {fd : FuncData} (F : Fun K "_law_listed" "_law_listed" s__law_listed f fd) (b : Binds K fd ["_law_thing"] []) (m : mg "_law_listed" = some (.ref f)) (z_int : mg "int" = none) (z_isinstance : mg "isinstance" = none) :
    ∀ n : Nat, FnOk P w K mg base CX0 (k0 + n) f fd ["_law_thing"] (spA K 1 (F__law_listed_20 n))
  | 0 => by
    have no : ∀ vs H Q E, ¬ spA K 1 (F__law_listed_20 0) vs H Q E := fun vs H Q E h => by
      obtain ⟨_, _, _, _, _, _, _, _, h, _⟩ := h
      exact h
    exact ⟨fun vs H Q E h => absurd h (no vs H Q E), fun A outer s H args us vs Q E _ _ _ _ h => absurd h (no vs H Q E)⟩
  | n + 1 => ok__law_listed (n := k0 + n) F (has_of F b m (all__law_listed F b m z_int z_isinstance n)) z_int z_isinstance
theorem all__law_same {P : Program} {w : World} {K : PySem.W.Frag} {mg : Str → Option Value} {base : Heap} {k0 : Nat} {f : Addr} {fd : FuncData} (F : Fun K "_law_same" "_law_same" s__law_same f fd) (b : Binds K fd ["_law_found", "_law_due"] []) (m : mg "_law_same" = some (.ref f)) (z_all : mg "all" = none) (z_bool : mg "bool" = none) (z_int : mg "int" = none) (z_isinstance : mg "isinstance" = none) (z_len : mg "len" = none) (z_str : mg "str" = none) (z_tuple : mg "tuple" = none) (z_zip : mg "zip" = none) :
    ∀ n : Nat, FnOk P w K mg base CX0 (k0 + n) f fd ["_law_found", "_law_due"] (spA K 2 (F__law_same_20 n))
  | 0 => by
    have no : ∀ vs H Q E, ¬ spA K 2 (F__law_same_20 0) vs H Q E := fun vs H Q E h => by
      obtain ⟨_, _, _, _, _, _, _, _, h, _⟩ := h
      exact h
    exact ⟨fun vs H Q E h => absurd h (no vs H Q E), fun A outer s H args us vs Q E _ _ _ _ h => absurd h (no vs H Q E)⟩
  | n + 1 => ok__law_same (n := k0 + n) F (has_of F b m (all__law_same F b m z_all z_bool z_int z_isinstance z_len z_str z_tuple z_zip n)) z_all z_bool z_int z_isinstance z_len z_str z_tuple z_zip
theorem lenE1 {us : List Value} (hl : us.length = 1) : ∃ x0 : Value, us = [x0] := by
  match us, hl with | [x0], _ => exact ⟨_, rfl⟩
theorem lenE2 {us : List Value} (hl : us.length = 2) : ∃ x0 x1 : Value, us = [x0, x1] := by
  match us, hl with | [x0, x1], _ => exact ⟨_, _, rfl⟩
theorem lenE3 {us : List Value} (hl : us.length = 3) : ∃ x0 x1 x2 : Value, us = [x0, x1, x2] := by
  match us, hl with | [x0, x1, x2], _ => exact ⟨_, _, _, rfl⟩
theorem lenE4 {us : List Value} (hl : us.length = 4) : ∃ x0 x1 x2 x3 : Value, us = [x0, x1, x2, x3] := by
  match us, hl with | [x0, x1, x2, x3], _ => exact ⟨_, _, _, _, rfl⟩
theorem lenE5 {us : List Value} (hl : us.length = 5) : ∃ x0 x1 x2 x3 x4 : Value, us = [x0, x1, x2, x3, x4] := by
  match us, hl with | [x0, x1, x2, x3, x4], _ => exact ⟨_, _, _, _, _, rfl⟩
theorem all_mk {l : PySem.W.OpenLaw} {w : World} {K : PySem.W.Frag} {h : Heap} {mg : Str → Option Value} {fa f1 f2 f3 f4 f5 f6 f7 f8 f9 f10 f11 f12 f13 f14 f15 f16 f17 f18 f19 f20 f21 f22 f23 f24 f25 f26 f27 f28 f29 f30 f31 f32 f33 f34 f35 f36 f37 f38 : Addr} (X : K.In h) (G : h.Ns mainGlobals mg) (hfa : mg "law" = some (.ref fa))
    {od1 an1 od2 an2 od3 an3 od4 an4 od5 an5 od6 an6 od7 an7 od8 an8 od9 an9 od10 an10 od11 an11 od12 an12 od13 an13 od14 an14 od15 an15 od16 an16 od17 an17 od18 an18 od19 an19 od20 an20 od21 an21 od22 an22 od23 an23 od24 an24 od25 an25 od26 an26 od27 an27 od28 an28 od29 an29 od30 an30 od31 an31 od32 an32 od33 an33 od34 an34 od35 an35 od36 an36 od37 an37 od38 an38 : Option Addr} {sl1 sl2 sl3 sl4 sl5 sl6 sl7 sl8 sl9 sl10 sl11 sl12 sl13 sl14 sl15 sl16 sl17 sl18 sl19 sl20 sl21 sl22 sl23 sl24 sl25 sl26 sl27 sl28 sl29 sl30 sl31 sl32 sl33 sl34 sl35 sl36 sl37 sl38 : Array (Option Value)} {oc1 kV1 dc1 pm1 cd1 ct1 oc2 kV2 dc2 pm2 cd2 ct2 oc3 kV3 dc3 pm3 cd3 ct3 oc4 kV4 dc4 pm4 cd4 ct4 oc5 kV5 dc5 pm5 cd5 ct5 oc6 kV6 dc6 pm6 cd6 ct6 oc7 kV7 dc7 pm7 cd7 ct7 oc8 kV8 dc8 pm8 cd8 ct8 oc9 kV9 dc9 pm9 cd9 ct9 oc10 kV10 dc10 pm10 cd10 ct10 oc11 kV11 dc11 pm11 cd11 ct11 oc12 kV12 dc12 pm12 cd12 ct12 oc13 kV13 dc13 pm13 cd13 ct13 oc14 kV14 dc14 pm14 cd14 ct14 oc15 kV15 dc15 pm15 cd15 ct15 oc16 kV16 dc16 pm16 cd16 ct16 oc17 kV17 dc17 pm17 cd17 ct17 oc18 kV18 dc18 pm18 cd18 ct18 oc19 kV19 dc19 pm19 cd19 ct19 oc20 kV20 dc20 pm20 cd20 ct20 oc21 kV21 dc21 pm21 cd21 ct21 oc22 kV22 dc22 pm22 cd22 ct22 oc23 kV23 dc23 pm23 cd23 ct23 oc24 kV24 dc24 pm24 cd24 ct24 oc25 kV25 dc25 pm25 cd25 ct25 oc26 kV26 dc26 pm26 cd26 ct26 oc27 kV27 dc27 pm27 cd27 ct27 oc28 kV28 dc28 pm28 cd28 ct28 oc29 kV29 dc29 pm29 cd29 ct29 oc30 kV30 dc30 pm30 cd30 ct30 oc31 kV31 dc31 pm31 cd31 ct31 oc32 kV32 dc32 pm32 cd32 ct32 oc33 kV33 dc33 pm33 cd33 ct33 oc34 kV34 dc34 pm34 cd34 ct34 oc35 kV35 dc35 pm35 cd35 ct35 oc36 kV36 dc36 pm36 cd36 ct36 oc37 kV37 dc37 pm37 cd37 ct37 oc38 kV38 dc38 pm38 cd38 ct38 : Value}
    (a1 : PySem.W.nsIn K mainGlobals "_law_draw" = some (some (.ref f1))) (l1 : K.lookup f1 = some ⟨oc1, od1, .func (PySem.W.fnOf "_law_draw" "_law_draw" (defArgs s__law_draw) (defBody s__law_draw) (defScope s__law_draw) .none kV1 dc1 pm1 an1 cd1 ct1), sl1⟩) (c1 : PySem.W.codeIn K cd1 "_law_draw" = true) (k1 : PySem.W.keepIn K (.ref f1) = true)
    (a2 : PySem.W.nsIn K mainGlobals "_law_apart" = some (some (.ref f2))) (l2 : K.lookup f2 = some ⟨oc2, od2, .func (PySem.W.fnOf "_law_apart" "_law_apart" (defArgs s__law_apart) (defBody s__law_apart) (defScope s__law_apart) .none kV2 dc2 pm2 an2 cd2 ct2), sl2⟩) (c2 : PySem.W.codeIn K cd2 "_law_apart" = true) (k2 : PySem.W.keepIn K (.ref f2) = true)
    (a3 : PySem.W.nsIn K mainGlobals "_law_part" = some (some (.ref f3))) (l3 : K.lookup f3 = some ⟨oc3, od3, .func (PySem.W.fnOf "_law_part" "_law_part" (defArgs s__law_part) (defBody s__law_part) (defScope s__law_part) .none kV3 dc3 pm3 an3 cd3 ct3), sl3⟩) (c3 : PySem.W.codeIn K cd3 "_law_part" = true) (k3 : PySem.W.keepIn K (.ref f3) = true)
    (a4 : PySem.W.nsIn K mainGlobals "_law_sum" = some (some (.ref f4))) (l4 : K.lookup f4 = some ⟨oc4, od4, .func (PySem.W.fnOf "_law_sum" "_law_sum" (defArgs s__law_sum) (defBody s__law_sum) (defScope s__law_sum) .none kV4 dc4 pm4 an4 cd4 ct4), sl4⟩) (c4 : PySem.W.codeIn K cd4 "_law_sum" = true) (k4 : PySem.W.keepIn K (.ref f4) = true)
    (a5 : PySem.W.nsIn K mainGlobals "_law_moved" = some (some (.ref f5))) (l5 : K.lookup f5 = some ⟨oc5, od5, .func (PySem.W.fnOf "_law_moved" "_law_moved" (defArgs s__law_moved) (defBody s__law_moved) (defScope s__law_moved) .none kV5 dc5 pm5 an5 cd5 ct5), sl5⟩) (c5 : PySem.W.codeIn K cd5 "_law_moved" = true) (k5 : PySem.W.keepIn K (.ref f5) = true)
    (a6 : PySem.W.nsIn K mainGlobals "_law_off" = some (some (.ref f6))) (l6 : K.lookup f6 = some ⟨oc6, od6, .func (PySem.W.fnOf "_law_off" "_law_off" (defArgs s__law_off) (defBody s__law_off) (defScope s__law_off) .none kV6 dc6 pm6 an6 cd6 ct6), sl6⟩) (c6 : PySem.W.codeIn K cd6 "_law_off" = true) (k6 : PySem.W.keepIn K (.ref f6) = true)
    (a7 : PySem.W.nsIn K mainGlobals "_law_place" = some (some (.ref f7))) (l7 : K.lookup f7 = some ⟨oc7, od7, .func (PySem.W.fnOf "_law_place" "_law_place" (defArgs s__law_place) (defBody s__law_place) (defScope s__law_place) .none kV7 dc7 pm7 an7 cd7 ct7), sl7⟩) (c7 : PySem.W.codeIn K cd7 "_law_place" = true) (k7 : PySem.W.keepIn K (.ref f7) = true)
    (a8 : PySem.W.nsIn K mainGlobals "_law_span" = some (some (.ref f8))) (l8 : K.lookup f8 = some ⟨oc8, od8, .func (PySem.W.fnOf "_law_span" "_law_span" (defArgs s__law_span) (defBody s__law_span) (defScope s__law_span) .none kV8 dc8 pm8 an8 cd8 ct8), sl8⟩) (c8 : PySem.W.codeIn K cd8 "_law_span" = true) (k8 : PySem.W.keepIn K (.ref f8) = true)
    (a9 : PySem.W.nsIn K mainGlobals "_law_plan" = some (some (.ref f9))) (l9 : K.lookup f9 = some ⟨oc9, od9, .func (PySem.W.fnOf "_law_plan" "_law_plan" (defArgs s__law_plan) (defBody s__law_plan) (defScope s__law_plan) .none kV9 dc9 pm9 an9 cd9 ct9), sl9⟩) (c9 : PySem.W.codeIn K cd9 "_law_plan" = true) (k9 : PySem.W.keepIn K (.ref f9) = true)
    (a10 : PySem.W.nsIn K mainGlobals "_law_product" = some (some (.ref f10))) (l10 : K.lookup f10 = some ⟨oc10, od10, .func (PySem.W.fnOf "_law_product" "_law_product" (defArgs s__law_product) (defBody s__law_product) (defScope s__law_product) .none kV10 dc10 pm10 an10 cd10 ct10), sl10⟩) (c10 : PySem.W.codeIn K cd10 "_law_product" = true) (k10 : PySem.W.keepIn K (.ref f10) = true)
    (a11 : PySem.W.nsIn K mainGlobals "_law_beside" = some (some (.ref f11))) (l11 : K.lookup f11 = some ⟨oc11, od11, .func (PySem.W.fnOf "_law_beside" "_law_beside" (defArgs s__law_beside) (defBody s__law_beside) (defScope s__law_beside) .none kV11 dc11 pm11 an11 cd11 ct11), sl11⟩) (c11 : PySem.W.codeIn K cd11 "_law_beside" = true) (k11 : PySem.W.keepIn K (.ref f11) = true)
    (a12 : PySem.W.nsIn K mainGlobals "_law_tape" = some (some (.ref f12))) (l12 : K.lookup f12 = some ⟨oc12, od12, .func (PySem.W.fnOf "_law_tape" "_law_tape" (defArgs s__law_tape) (defBody s__law_tape) (defScope s__law_tape) .none kV12 dc12 pm12 an12 cd12 ct12), sl12⟩) (c12 : PySem.W.codeIn K cd12 "_law_tape" = true) (k12 : PySem.W.keepIn K (.ref f12) = true)
    (a13 : PySem.W.nsIn K mainGlobals "_law_case" = some (some (.ref f13))) (l13 : K.lookup f13 = some ⟨oc13, od13, .func (PySem.W.fnOf "_law_case" "_law_case" (defArgs s__law_case) (defBody s__law_case) (defScope s__law_case) .none kV13 dc13 pm13 an13 cd13 ct13), sl13⟩) (c13 : PySem.W.codeIn K cd13 "_law_case" = true) (k13 : PySem.W.keepIn K (.ref f13) = true)
    (a14 : PySem.W.nsIn K mainGlobals "_law_less" = some (some (.ref f14))) (l14 : K.lookup f14 = some ⟨oc14, od14, .func (PySem.W.fnOf "_law_less" "_law_less" (defArgs s__law_less) (defBody s__law_less) (defScope s__law_less) .none kV14 dc14 pm14 an14 cd14 ct14), sl14⟩) (c14 : PySem.W.codeIn K cd14 "_law_less" = true) (k14 : PySem.W.keepIn K (.ref f14) = true)
    (a15 : PySem.W.nsIn K mainGlobals "_law_ratio" = some (some (.ref f15))) (l15 : K.lookup f15 = some ⟨oc15, od15, .func (PySem.W.fnOf "_law_ratio" "_law_ratio" (defArgs s__law_ratio) (defBody s__law_ratio) (defScope s__law_ratio) .none kV15 dc15 pm15 an15 cd15 ct15), sl15⟩) (c15 : PySem.W.codeIn K cd15 "_law_ratio" = true) (k15 : PySem.W.keepIn K (.ref f15) = true)
    (a16 : PySem.W.nsIn K mainGlobals "_law_spot" = some (some (.ref f16))) (l16 : K.lookup f16 = some ⟨oc16, od16, .func (PySem.W.fnOf "_law_spot" "_law_spot" (defArgs s__law_spot) (defBody s__law_spot) (defScope s__law_spot) .none kV16 dc16 pm16 an16 cd16 ct16), sl16⟩) (c16 : PySem.W.codeIn K cd16 "_law_spot" = true) (k16 : PySem.W.keepIn K (.ref f16) = true)
    (a17 : PySem.W.nsIn K mainGlobals "_law_gap" = some (some (.ref f17))) (l17 : K.lookup f17 = some ⟨oc17, od17, .func (PySem.W.fnOf "_law_gap" "_law_gap" (defArgs s__law_gap) (defBody s__law_gap) (defScope s__law_gap) .none kV17 dc17 pm17 an17 cd17 ct17), sl17⟩) (c17 : PySem.W.codeIn K cd17 "_law_gap" = true) (k17 : PySem.W.keepIn K (.ref f17) = true)
    (a18 : PySem.W.nsIn K mainGlobals "_law_listed" = some (some (.ref f18))) (l18 : K.lookup f18 = some ⟨oc18, od18, .func (PySem.W.fnOf "_law_listed" "_law_listed" (defArgs s__law_listed) (defBody s__law_listed) (defScope s__law_listed) .none kV18 dc18 pm18 an18 cd18 ct18), sl18⟩) (c18 : PySem.W.codeIn K cd18 "_law_listed" = true) (k18 : PySem.W.keepIn K (.ref f18) = true)
    (a19 : PySem.W.nsIn K mainGlobals "_law_middle" = some (some (.ref f19))) (l19 : K.lookup f19 = some ⟨oc19, od19, .func (PySem.W.fnOf "_law_middle" "_law_middle" (defArgs s__law_middle) (defBody s__law_middle) (defScope s__law_middle) .none kV19 dc19 pm19 an19 cd19 ct19), sl19⟩) (c19 : PySem.W.codeIn K cd19 "_law_middle" = true) (k19 : PySem.W.keepIn K (.ref f19) = true)
    (a20 : PySem.W.nsIn K mainGlobals "_law_rising" = some (some (.ref f20))) (l20 : K.lookup f20 = some ⟨oc20, od20, .func (PySem.W.fnOf "_law_rising" "_law_rising" (defArgs s__law_rising) (defBody s__law_rising) (defScope s__law_rising) .none kV20 dc20 pm20 an20 cd20 ct20), sl20⟩) (c20 : PySem.W.codeIn K cd20 "_law_rising" = true) (k20 : PySem.W.keepIn K (.ref f20) = true)
    (a21 : PySem.W.nsIn K mainGlobals "_law_moments" = some (some (.ref f21))) (l21 : K.lookup f21 = some ⟨oc21, od21, .func (PySem.W.fnOf "_law_moments" "_law_moments" (defArgs s__law_moments) (defBody s__law_moments) (defScope s__law_moments) .none kV21 dc21 pm21 an21 cd21 ct21), sl21⟩) (c21 : PySem.W.codeIn K cd21 "_law_moments" = true) (k21 : PySem.W.keepIn K (.ref f21) = true)
    (a22 : PySem.W.nsIn K mainGlobals "_law_same" = some (some (.ref f22))) (l22 : K.lookup f22 = some ⟨oc22, od22, .func (PySem.W.fnOf "_law_same" "_law_same" (defArgs s__law_same) (defBody s__law_same) (defScope s__law_same) .none kV22 dc22 pm22 an22 cd22 ct22), sl22⟩) (c22 : PySem.W.codeIn K cd22 "_law_same" = true) (k22 : PySem.W.keepIn K (.ref f22) = true)
    (a23 : PySem.W.nsIn K mainGlobals "before" = some (some (.ref f23))) (l23 : K.lookup f23 = some ⟨oc23, od23, .func (PySem.W.fnOf "before" "before" (defArgs s_before) (defBody s_before) (defScope s_before) .none kV23 dc23 pm23 an23 cd23 ct23), sl23⟩) (c23 : PySem.W.codeIn K cd23 "before" = true) (k23 : PySem.W.keepIn K (.ref f23) = true)
    (a24 : PySem.W.nsIn K mainGlobals "greater" = some (some (.ref f24))) (l24 : K.lookup f24 = some ⟨oc24, od24, .func (PySem.W.fnOf "greater" "greater" (defArgs s_greater) (defBody s_greater) (defScope s_greater) .none kV24 dc24 pm24 an24 cd24 ct24), sl24⟩) (c24 : PySem.W.codeIn K cd24 "greater" = true) (k24 : PySem.W.keepIn K (.ref f24) = true)
    (a25 : PySem.W.nsIn K mainGlobals "common" = some (some (.ref f25))) (l25 : K.lookup f25 = some ⟨oc25, od25, .func (PySem.W.fnOf "common" "common" (defArgs s_common) (defBody s_common) (defScope s_common) .none kV25 dc25 pm25 an25 cd25 ct25), sl25⟩) (c25 : PySem.W.codeIn K cd25 "common" = true) (k25 : PySem.W.keepIn K (.ref f25) = true)
    (a26 : PySem.W.nsIn K mainGlobals "part" = some (some (.ref f26))) (l26 : K.lookup f26 = some ⟨oc26, od26, .func (PySem.W.fnOf "part" "part" (defArgs s_part) (defBody s_part) (defScope s_part) .none kV26 dc26 pm26 an26 cd26 ct26), sl26⟩) (c26 : PySem.W.codeIn K cd26 "part" = true) (k26 : PySem.W.keepIn K (.ref f26) = true)
    (a27 : PySem.W.nsIn K mainGlobals "minus" = some (some (.ref f27))) (l27 : K.lookup f27 = some ⟨oc27, od27, .func (PySem.W.fnOf "minus" "minus" (defArgs s_minus) (defBody s_minus) (defScope s_minus) .none kV27 dc27 pm27 an27 cd27 ct27), sl27⟩) (c27 : PySem.W.codeIn K cd27 "minus" = true) (k27 : PySem.W.keepIn K (.ref f27) = true)
    (a28 : PySem.W.nsIn K mainGlobals "over" = some (some (.ref f28))) (l28 : K.lookup f28 = some ⟨oc28, od28, .func (PySem.W.fnOf "over" "over" (defArgs s_over) (defBody s_over) (defScope s_over) .none kV28 dc28 pm28 an28 cd28 ct28), sl28⟩) (c28 : PySem.W.codeIn K cd28 "over" = true) (k28 : PySem.W.keepIn K (.ref f28) = true)
    (a29 : PySem.W.nsIn K mainGlobals "size_of" = some (some (.ref f29))) (l29 : K.lookup f29 = some ⟨oc29, od29, .func (PySem.W.fnOf "size_of" "size_of" (defArgs s_size_of) (defBody s_size_of) (defScope s_size_of) .none kV29 dc29 pm29 an29 cd29 ct29), sl29⟩) (c29 : PySem.W.codeIn K cd29 "size_of" = true) (k29 : PySem.W.keepIn K (.ref f29) = true)
    (a30 : PySem.W.nsIn K mainGlobals "plus" = some (some (.ref f30))) (l30 : K.lookup f30 = some ⟨oc30, od30, .func (PySem.W.fnOf "plus" "plus" (defArgs s_plus) (defBody s_plus) (defScope s_plus) .none kV30 dc30 pm30 an30 cd30 ct30), sl30⟩) (c30 : PySem.W.codeIn K cd30 "plus" = true) (k30 : PySem.W.keepIn K (.ref f30) = true)
    (a31 : PySem.W.nsIn K mainGlobals "times" = some (some (.ref f31))) (l31 : K.lookup f31 = some ⟨oc31, od31, .func (PySem.W.fnOf "times" "times" (defArgs s_times) (defBody s_times) (defScope s_times) .none kV31 dc31 pm31 an31 cd31 ct31), sl31⟩) (c31 : PySem.W.codeIn K cd31 "times" = true) (k31 : PySem.W.keepIn K (.ref f31) = true)
    (a32 : PySem.W.nsIn K mainGlobals "spot_between" = some (some (.ref f32))) (l32 : K.lookup f32 = some ⟨oc32, od32, .func (PySem.W.fnOf "spot_between" "spot_between" (defArgs s_spot_between) (defBody s_spot_between) (defScope s_spot_between) .none kV32 dc32 pm32 an32 cd32 ct32), sl32⟩) (c32 : PySem.W.codeIn K cd32 "spot_between" = true) (k32 : PySem.W.keepIn K (.ref f32) = true)
    (a33 : PySem.W.nsIn K mainGlobals "spot_at" = some (some (.ref f33))) (l33 : K.lookup f33 = some ⟨oc33, od33, .func (PySem.W.fnOf "spot_at" "spot_at" (defArgs s_spot_at) (defBody s_spot_at) (defScope s_spot_at) .none kV33 dc33 pm33 an33 cd33 ct33), sl33⟩) (c33 : PySem.W.codeIn K cd33 "spot_at" = true) (k33 : PySem.W.keepIn K (.ref f33) = true)
    (a34 : PySem.W.nsIn K mainGlobals "offs_at" = some (some (.ref f34))) (l34 : K.lookup f34 = some ⟨oc34, od34, .func (PySem.W.fnOf "offs_at" "offs_at" (defArgs s_offs_at) (defBody s_offs_at) (defScope s_offs_at) .none kV34 dc34 pm34 an34 cd34 ct34), sl34⟩) (c34 : PySem.W.codeIn K cd34 "offs_at" = true) (k34 : PySem.W.keepIn K (.ref f34) = true)
    (a35 : PySem.W.nsIn K mainGlobals "lesser" = some (some (.ref f35))) (l35 : K.lookup f35 = some ⟨oc35, od35, .func (PySem.W.fnOf "lesser" "lesser" (defArgs s_lesser) (defBody s_lesser) (defScope s_lesser) .none kV35 dc35 pm35 an35 cd35 ct35), sl35⟩) (c35 : PySem.W.codeIn K cd35 "lesser" = true) (k35 : PySem.W.keepIn K (.ref f35) = true)
    (a36 : PySem.W.nsIn K mainGlobals "together" = some (some (.ref f36))) (l36 : K.lookup f36 = some ⟨oc36, od36, .func (PySem.W.fnOf "together" "together" (defArgs s_together) (defBody s_together) (defScope s_together) .none kV36 dc36 pm36 an36 cd36 ct36), sl36⟩) (c36 : PySem.W.codeIn K cd36 "together" = true) (k36 : PySem.W.keepIn K (.ref f36) = true)
    (a37 : PySem.W.nsIn K mainGlobals "gap_at" = some (some (.ref f37))) (l37 : K.lookup f37 = some ⟨oc37, od37, .func (PySem.W.fnOf "gap_at" "gap_at" (defArgs s_gap_at) (defBody s_gap_at) (defScope s_gap_at) .none kV37 dc37 pm37 an37 cd37 ct37), sl37⟩) (c37 : PySem.W.codeIn K cd37 "gap_at" = true) (k37 : PySem.W.keepIn K (.ref f37) = true)
    (a38 : PySem.W.nsIn K mainGlobals "law" = some (some (.ref f38))) (l38 : K.lookup f38 = some ⟨oc38, od38, .func (PySem.W.fnOf "law" "law" (defArgs s_law) (defBody s_law) (defScope s_law) .none kV38 dc38 pm38 an38 cd38 ct38), sl38⟩) (c38 : PySem.W.codeIn K cd38 "law" = true) (k38 : PySem.W.keepIn K (.ref f38) = true)
    (y_abs : PySem.W.nsIn K mainGlobals "abs" = some none) (y_all : PySem.W.nsIn K mainGlobals "all" = some none) (y_bool : PySem.W.nsIn K mainGlobals "bool" = some none) (y_int : PySem.W.nsIn K mainGlobals "int" = some none) (y_isinstance : PySem.W.nsIn K mainGlobals "isinstance" = some none) (y_len : PySem.W.nsIn K mainGlobals "len" = some none) (y_min : PySem.W.nsIn K mainGlobals "min" = some none) (y_range : PySem.W.nsIn K mainGlobals "range" = some none) (y_reversed : PySem.W.nsIn K mainGlobals "reversed" = some none) (y_str : PySem.W.nsIn K mainGlobals "str" = some none) (y_tuple : PySem.W.nsIn K mainGlobals "tuple" = some none) (y_zip : PySem.W.nsIn K mainGlobals "zip" = some none) :
    ∃ fd : FuncData, (∀ (s : Shared) (v : Value), BindsTo s fd ⟨[v], []⟩ [("_law_script", v)]) ∧ ∀ base : Heap, K.In base → base.Ns mainGlobals mg → FnOk l.prog w K mg base CX0 13 fa fd ["_law_script"] (spA K 1 F_law_k20) := by
  have e := hfa.symm.trans (PySem.W.mg_of X G a38)
  cases e
  have F1 := fun_mk (st := s__law_draw) l1 c1 k1
  have b1 := F1.binds (ps := ["_law_tape_here", "_law_many"]) fun _ _ _ _ _ _ us hl => by obtain ⟨_, _, rfl⟩ := lenE2 hl; rfl
  have m1 := PySem.W.mg_of X G a1
  have F2 := fun_mk (st := s__law_apart) l2 c2 k2
  have b2 := F2.binds (ps := ["_law_tape_here"]) fun _ _ _ _ _ _ us hl => by obtain ⟨_, rfl⟩ := lenE1 hl; rfl
  have m2 := PySem.W.mg_of X G a2
  have F3 := fun_mk (st := s__law_part) l3 c3 k3
  have b3 := F3.binds (ps := ["_law_top", "_law_bottom"]) fun _ _ _ _ _ _ us hl => by obtain ⟨_, _, rfl⟩ := lenE2 hl; rfl
  have m3 := PySem.W.mg_of X G a3
  have F4 := fun_mk (st := s__law_sum) l4 c4 k4
  have b4 := F4.binds (ps := ["_law_one", "_law_other"]) fun _ _ _ _ _ _ us hl => by obtain ⟨_, _, rfl⟩ := lenE2 hl; rfl
  have m4 := PySem.W.mg_of X G a4
  have F5 := fun_mk (st := s__law_moved) l5 c5 k5
  have b5 := F5.binds (ps := ["_law_plan_here", "_law_late", "_law_by"]) fun _ _ _ _ _ _ us hl => by obtain ⟨_, _, _, rfl⟩ := lenE3 hl; rfl
  have m5 := PySem.W.mg_of X G a5
  have F6 := fun_mk (st := s__law_off) l6 c6 k6
  have b6 := F6.binds (ps := ["_law_one", "_law_other"]) fun _ _ _ _ _ _ us hl => by obtain ⟨_, _, rfl⟩ := lenE2 hl; rfl
  have m6 := PySem.W.mg_of X G a6
  have F7 := fun_mk (st := s__law_place) l7 c7 k7
  have b7 := F7.binds (ps := ["_law_tape_here"]) fun _ _ _ _ _ _ us hl => by obtain ⟨_, rfl⟩ := lenE1 hl; rfl
  have m7 := PySem.W.mg_of X G a7
  have F8 := fun_mk (st := s__law_span) l8 c8 k8
  have b8 := F8.binds (ps := ["_law_tape_here"]) fun _ _ _ _ _ _ us hl => by obtain ⟨_, rfl⟩ := lenE1 hl; rfl
  have m8 := PySem.W.mg_of X G a8
  have F9 := fun_mk (st := s__law_plan) l9 c9 k9
  have b9 := F9.binds (ps := ["_law_tape_here"]) fun _ _ _ _ _ _ us hl => by obtain ⟨_, rfl⟩ := lenE1 hl; rfl
  have m9 := PySem.W.mg_of X G a9
  have F10 := fun_mk (st := s__law_product) l10 c10 k10
  have b10 := F10.binds (ps := ["_law_one", "_law_other"]) fun _ _ _ _ _ _ us hl => by obtain ⟨_, _, rfl⟩ := lenE2 hl; rfl
  have m10 := PySem.W.mg_of X G a10
  have F11 := fun_mk (st := s__law_beside) l11 c11 k11
  have b11 := F11.binds (ps := ["_law_tape_here", "_law_plan_here", "_law_apart_here"]) fun _ _ _ _ _ _ us hl => by obtain ⟨_, _, _, rfl⟩ := lenE3 hl; rfl
  have m11 := PySem.W.mg_of X G a11
  have F12 := fun_mk (st := s__law_tape) l12 c12 k12
  have b12 := F12.binds (ps := ["_law_script", "_law_k"]) fun _ _ _ _ _ _ us hl => by obtain ⟨_, _, rfl⟩ := lenE2 hl; rfl
  have m12 := PySem.W.mg_of X G a12
  have F13 := fun_mk (st := s__law_case) l13 c13 k13
  have b13 := F13.binds (ps := ["_law_script", "_law_k"]) fun _ _ _ _ _ _ us hl => by obtain ⟨_, _, rfl⟩ := lenE2 hl; rfl
  have m13 := PySem.W.mg_of X G a13
  have F14 := fun_mk (st := s__law_less) l14 c14 k14
  have b14 := F14.binds (ps := ["_law_one", "_law_other"]) fun _ _ _ _ _ _ us hl => by obtain ⟨_, _, rfl⟩ := lenE2 hl; rfl
  have m14 := PySem.W.mg_of X G a14
  have F15 := fun_mk (st := s__law_ratio) l15 c15 k15
  have b15 := F15.binds (ps := ["_law_one", "_law_other"]) fun _ _ _ _ _ _ us hl => by obtain ⟨_, _, rfl⟩ := lenE2 hl; rfl
  have m15 := PySem.W.mg_of X G a15
  have F16 := fun_mk (st := s__law_spot) l16 c16 k16
  have b16 := F16.binds (ps := ["_law_plan_here", "_law_m"]) fun _ _ _ _ _ _ us hl => by obtain ⟨_, _, rfl⟩ := lenE2 hl; rfl
  have m16 := PySem.W.mg_of X G a16
  have F17 := fun_mk (st := s__law_gap) l17 c17 k17
  have b17 := F17.binds (ps := ["_law_one", "_law_other", "_law_apart_here", "_law_m", "_law_end"]) fun _ _ _ _ _ _ us hl => by obtain ⟨_, _, _, _, _, rfl⟩ := lenE5 hl; rfl
  have m17 := PySem.W.mg_of X G a17
  have F18 := fun_mk (st := s__law_listed) l18 c18 k18
  have b18 := F18.binds (ps := ["_law_thing"]) fun _ _ _ _ _ _ us hl => by obtain ⟨_, rfl⟩ := lenE1 hl; rfl
  have m18 := PySem.W.mg_of X G a18
  have F19 := fun_mk (st := s__law_middle) l19 c19 k19
  have b19 := F19.binds (ps := ["_law_one", "_law_other"]) fun _ _ _ _ _ _ us hl => by obtain ⟨_, _, rfl⟩ := lenE2 hl; rfl
  have m19 := PySem.W.mg_of X G a19
  have F20 := fun_mk (st := s__law_rising) l20 c20 k20
  have b20 := F20.binds (ps := ["_law_moments_here"]) fun _ _ _ _ _ _ us hl => by obtain ⟨_, rfl⟩ := lenE1 hl; rfl
  have m20 := PySem.W.mg_of X G a20
  have F21 := fun_mk (st := s__law_moments) l21 c21 k21
  have b21 := F21.binds (ps := ["_law_tape_here", "_law_one", "_law_other"]) fun _ _ _ _ _ _ us hl => by obtain ⟨_, _, _, rfl⟩ := lenE3 hl; rfl
  have m21 := PySem.W.mg_of X G a21
  have F22 := fun_mk (st := s__law_same) l22 c22 k22
  have b22 := F22.binds (ps := ["_law_found", "_law_due"]) fun _ _ _ _ _ _ us hl => by obtain ⟨_, _, rfl⟩ := lenE2 hl; rfl
  have m22 := PySem.W.mg_of X G a22
  have F23 := fun_mk (st := s_before) l23 c23 k23
  have b23 := F23.binds (ps := ["one", "other"]) fun _ _ _ _ _ _ us hl => by obtain ⟨_, _, rfl⟩ := lenE2 hl; rfl
  have m23 := PySem.W.mg_of X G a23
  have F24 := fun_mk (st := s_greater) l24 c24 k24
  have b24 := F24.binds (ps := ["one", "other"]) fun _ _ _ _ _ _ us hl => by obtain ⟨_, _, rfl⟩ := lenE2 hl; rfl
  have m24 := PySem.W.mg_of X G a24
  have F25 := fun_mk (st := s_common) l25 c25 k25
  have b25 := F25.binds (ps := ["one", "other"]) fun _ _ _ _ _ _ us hl => by obtain ⟨_, _, rfl⟩ := lenE2 hl; rfl
  have m25 := PySem.W.mg_of X G a25
  have F26 := fun_mk (st := s_part) l26 c26 k26
  have b26 := F26.binds (ps := ["top", "bottom"]) fun _ _ _ _ _ _ us hl => by obtain ⟨_, _, rfl⟩ := lenE2 hl; rfl
  have m26 := PySem.W.mg_of X G a26
  have F27 := fun_mk (st := s_minus) l27 c27 k27
  have b27 := F27.binds (ps := ["one", "other"]) fun _ _ _ _ _ _ us hl => by obtain ⟨_, _, rfl⟩ := lenE2 hl; rfl
  have m27 := PySem.W.mg_of X G a27
  have F28 := fun_mk (st := s_over) l28 c28 k28
  have b28 := F28.binds (ps := ["one", "other"]) fun _ _ _ _ _ _ us hl => by obtain ⟨_, _, rfl⟩ := lenE2 hl; rfl
  have m28 := PySem.W.mg_of X G a28
  have F29 := fun_mk (st := s_size_of) l29 c29 k29
  have b29 := F29.binds (ps := ["apart", "side"]) fun _ _ _ _ _ _ us hl => by obtain ⟨_, _, rfl⟩ := lenE2 hl; rfl
  have m29 := PySem.W.mg_of X G a29
  have F30 := fun_mk (st := s_plus) l30 c30 k30
  have b30 := F30.binds (ps := ["one", "other"]) fun _ _ _ _ _ _ us hl => by obtain ⟨_, _, rfl⟩ := lenE2 hl; rfl
  have m30 := PySem.W.mg_of X G a30
  have F31 := fun_mk (st := s_times) l31 c31 k31
  have b31 := F31.binds (ps := ["one", "other"]) fun _ _ _ _ _ _ us hl => by obtain ⟨_, _, rfl⟩ := lenE2 hl; rfl
  have m31 := PySem.W.mg_of X G a31
  have F32 := fun_mk (st := s_spot_between) l32 c32 k32
  have b32 := F32.binds (ps := ["former", "latter", "m"]) fun _ _ _ _ _ _ us hl => by obtain ⟨_, _, _, rfl⟩ := lenE3 hl; rfl
  have m32 := PySem.W.mg_of X G a32
  have F33 := fun_mk (st := s_spot_at) l33 c33 k33
  have b33 := F33.binds (ps := ["plan", "m"]) fun _ _ _ _ _ _ us hl => by obtain ⟨_, _, rfl⟩ := lenE2 hl; rfl
  have m33 := PySem.W.mg_of X G a33
  have F34 := fun_mk (st := s_offs_at) l34 c34 k34
  have b34 := F34.binds (ps := ["one", "other", "apart", "m"]) fun _ _ _ _ _ _ us hl => by obtain ⟨_, _, _, _, rfl⟩ := lenE4 hl; rfl
  have m34 := PySem.W.mg_of X G a34
  have F35 := fun_mk (st := s_lesser) l35 c35 k35
  have b35 := F35.binds (ps := ["one", "other"]) fun _ _ _ _ _ _ us hl => by obtain ⟨_, _, rfl⟩ := lenE2 hl; rfl
  have m35 := PySem.W.mg_of X G a35
  have F36 := fun_mk (st := s_together) l36 c36 k36
  have b36 := F36.binds (ps := ["one", "other"]) fun _ _ _ _ _ _ us hl => by obtain ⟨_, _, rfl⟩ := lenE2 hl; rfl
  have m36 := PySem.W.mg_of X G a36
  have F37 := fun_mk (st := s_gap_at) l37 c37 k37
  have b37 := F37.binds (ps := ["one", "other", "apart", "m"]) fun _ _ _ _ _ _ us hl => by obtain ⟨_, _, _, _, rfl⟩ := lenE4 hl; rfl
  have m37 := PySem.W.mg_of X G a37
  have F38 := fun_mk (st := s_law) l38 c38 k38
  have b38 := F38.binds (ps := ["_law_script"]) fun _ _ _ _ _ _ us hl => by obtain ⟨_, rfl⟩ := lenE1 hl; rfl
  have m38 := PySem.W.mg_of X G a38
  have z_abs := PySem.W.mg_none_of X G y_abs
  have z_all := PySem.W.mg_none_of X G y_all
  have z_bool := PySem.W.mg_none_of X G y_bool
  have z_int := PySem.W.mg_none_of X G y_int
  have z_isinstance := PySem.W.mg_none_of X G y_isinstance
  have z_len := PySem.W.mg_none_of X G y_len
  have z_min := PySem.W.mg_none_of X G y_min
  have z_range := PySem.W.mg_none_of X G y_range
  have z_reversed := PySem.W.mg_none_of X G y_reversed
  have z_str := PySem.W.mg_none_of X G y_str
  have z_tuple := PySem.W.mg_none_of X G y_tuple
  have z_zip := PySem.W.mg_none_of X G y_zip
  refine ⟨PySem.W.fnOf "law" "law" (defArgs s_law) (defBody s_law) (defScope s_law) .none kV38 dc38 pm38 an38 cd38 ct38, fun s v => .of_eq rfl, fun base _ _ => ?_⟩
  have H1 := has_of F1 b1 m1 (ok__law_draw (P := l.prog) (w := w) (base := base) (n := 0) F1)
  have H2 := has_of F2 b2 m2 (ok__law_apart (P := l.prog) (w := w) (base := base) (n := 1) F2 (H1.mono (by decide)))
  have H3 := has_of F3 b3 m3 (ok__law_part (P := l.prog) (w := w) (base := base) (n := 0) F3 z_abs z_int)
  have H4 := has_of F4 b4 m4 (ok__law_sum (P := l.prog) (w := w) (base := base) (n := 1) F4 (H3.mono (by decide)))
  have H5 := has_of F5 b5 m5 (ok__law_moved (P := l.prog) (w := w) (base := base) (n := 2) F5 (H4.mono (by decide)) z_range z_tuple)
  have H6 := has_of F6 b6 m6 (ok__law_off (P := l.prog) (w := w) (base := base) (n := 1) F6 (H3.mono (by decide)))
  have H7 := has_of F7 b7 m7 (ok__law_place (P := l.prog) (w := w) (base := base) (n := 1) F7 (H1.mono (by decide)) (H3.mono (by decide)))
  have H8 := has_of F8 b8 m8 (ok__law_span (P := l.prog) (w := w) (base := base) (n := 1) F8 (H1.mono (by decide)) (H3.mono (by decide)))
  have H9 := has_of F9 b9 m9 (ok__law_plan (P := l.prog) (w := w) (base := base) (n := 2) F9 (H1.mono (by decide)) (H7.mono (by decide)) (H8.mono (by decide)) (H4.mono (by decide)) z_len z_tuple)
  have H10 := has_of F10 b10 m10 (ok__law_product (P := l.prog) (w := w) (base := base) (n := 1) F10 (H3.mono (by decide)))
  have H11 := has_of F11 b11 m11 (ok__law_beside (P := l.prog) (w := w) (base := base) (n := 3) F11 (H1.mono (by decide)) (H5.mono (by decide)) (H6.mono (by decide)) (H7.mono (by decide)) (H9.mono (by decide)) (H10.mono (by decide)) (H8.mono (by decide)) (H4.mono (by decide)) z_int z_len z_reversed z_tuple z_zip)
  have H12 := has_of F12 b12 m12 (ok__law_tape (P := l.prog) (w := w) (base := base) (n := 0) F12 z_abs z_int z_len)
  have H13 := has_of F13 b13 m13 (ok__law_case (P := l.prog) (w := w) (base := base) (n := 4) F13 (H2.mono (by decide)) (H11.mono (by decide)) (H1.mono (by decide)) (H9.mono (by decide)) (H12.mono (by decide)))
  have H14 := has_of F14 b14 m14 (ok__law_less (P := l.prog) (w := w) (base := base) (n := 0) F14)
  have H15 := has_of F15 b15 m15 (ok__law_ratio (P := l.prog) (w := w) (base := base) (n := 1) F15 (H3.mono (by decide)))
  have H16 := has_of F16 b16 m16 (ok__law_spot (P := l.prog) (w := w) (base := base) (n := 2) F16 (H14.mono (by decide)) (H6.mono (by decide)) (H10.mono (by decide)) (H15.mono (by decide)) (H4.mono (by decide)) z_range z_tuple z_zip)
  have H17 := has_of F17 b17 m17 (ok__law_gap (P := l.prog) (w := w) (base := base) (n := 3) F17 (H14.mono (by decide)) (H6.mono (by decide)) (H15.mono (by decide)) (H16.mono (by decide)) z_abs z_int z_range)
  have H18 := has_of (P := l.prog) (w := w) (base := base) F18 b18 m18 (all__law_listed (k0 := 0) F18 b18 m18 z_int z_isinstance 12)
  have H19 := has_of F19 b19 m19 (ok__law_middle (P := l.prog) (w := w) (base := base) (n := 2) F19 (H10.mono (by decide)) (H4.mono (by decide)))
  have H20 := has_of F20 b20 m20 (ok__law_rising (P := l.prog) (w := w) (base := base) (n := 1) F20 (H14.mono (by decide)) z_len)
  have H21 := has_of F21 b21 m21 (ok__law_moments (P := l.prog) (w := w) (base := base) (n := 3) F21 (H1.mono (by decide)) (H19.mono (by decide)) (H6.mono (by decide)) (H7.mono (by decide)) (H20.mono (by decide)) (H8.mono (by decide)) (H4.mono (by decide)) z_len z_zip)
  have H22 := has_of (P := l.prog) (w := w) (base := base) F22 b22 m22 (all__law_same (k0 := 0) F22 b22 m22 z_all z_bool z_int z_isinstance z_len z_str z_tuple z_zip 12)
  have H23 := has_of F23 b23 m23 (ok_before (P := l.prog) (w := w) (base := base) (n := 0) F23)
  have H24 := has_of F24 b24 m24 (ok_greater (P := l.prog) (w := w) (base := base) (n := 1) F24 (H23.mono (by decide)))
  have H25 := has_of F25 b25 m25 (ok_common (P := l.prog) (w := w) (base := base) (n := 0) F25)
  have H26 := has_of F26 b26 m26 (ok_part (P := l.prog) (w := w) (base := base) (n := 1) F26 (H25.mono (by decide)) z_abs)
  have H27 := has_of F27 b27 m27 (ok_minus (P := l.prog) (w := w) (base := base) (n := 2) F27 (H26.mono (by decide)))
  have H28 := has_of F28 b28 m28 (ok_over (P := l.prog) (w := w) (base := base) (n := 2) F28 (H26.mono (by decide)))
  have H29 := has_of F29 b29 m29 (ok_size_of (P := l.prog) (w := w) (base := base) (n := 0) F29)
  have H30 := has_of F30 b30 m30 (ok_plus (P := l.prog) (w := w) (base := base) (n := 2) F30 (H26.mono (by decide)))
  have H31 := has_of F31 b31 m31 (ok_times (P := l.prog) (w := w) (base := base) (n := 2) F31 (H26.mono (by decide)))
  have H32 := has_of F32 b32 m32 (ok_spot_between (P := l.prog) (w := w) (base := base) (n := 3) F32 (H27.mono (by decide)) (H28.mono (by decide)) (H30.mono (by decide)) (H31.mono (by decide)) z_tuple z_zip)
  have H33 := has_of F33 b33 m33 (ok_spot_at (P := l.prog) (w := w) (base := base) (n := 4) F33 (H23.mono (by decide)) (H32.mono (by decide)) z_len z_range)
  have H34 := has_of F34 b34 m34 (ok_offs_at (P := l.prog) (w := w) (base := base) (n := 5) F34 (H27.mono (by decide)) (H28.mono (by decide)) (H29.mono (by decide)) (H33.mono (by decide)) z_range)
  have H35 := has_of F35 b35 m35 (ok_lesser (P := l.prog) (w := w) (base := base) (n := 1) F35 (H23.mono (by decide)))
  have H36 := has_of F36 b36 m36 (ok_together (P := l.prog) (w := w) (base := base) (n := 2) F36 (H23.mono (by decide)) (H24.mono (by decide)) (H35.mono (by decide)))
  have H37 := has_of F37 b37 m37 (ok_gap_at (P := l.prog) (w := w) (base := base) (n := 6) F37 (H23.mono (by decide)) (H24.mono (by decide)) (H34.mono (by decide)) (H36.mono (by decide)) z_abs)
  exact ok_law (P := l.prog) (w := w) (base := base) (n := 12) F38 (H13.mono (by decide)) (H1.mono (by decide)) (H17.mono (by decide)) (H18.mono (by decide)) (H21.mono (by decide)) (H5.mono (by decide)) (H6.mono (by decide)) (H22.mono (by decide)) (H4.mono (by decide)) (H37.mono (by decide)) z_len z_min z_range
theorem walk {l : PySem.W.OpenLaw} {q : Program} {loose : List Str} {XP : (Str → Option Value) → Heap → Prop} {YP : World → Heap → Prop} {d : DefRec} {K : Params → PySem.W.Frag} (hn : l.most = some 63) (hdf : d.params.defaults = [])
    (hY : ∀ (w : World) (h : Heap), YP w h → (K w.params).In h)
    (F : ∀ (w : World) (mg : Str → Option Value) (fa : Addr) (h : Heap), (K w.params).In h → h.Ns mainGlobals mg → mg d.name = some (.ref fa) →
      ∃ fd : FuncData, (∀ (s : Shared) (u : Value), BindsTo s fd ⟨[u], []⟩ [("_law_script", u)]) ∧ ∀ base : Heap, (K w.params).In base → base.Ns mainGlobals mg → FnOk l.prog w (K w.params) mg base CX0 13 fa fd ["_law_script"] (spA (K w.params) 1 F_law_k20)) :
    PySem.W.WalkO q loose XP YP l.row.toRowW d [] (fun f vs => PySem.call f vs) :=
  L2.walk_of (n := 63) (k := 13) (x := "_law_script") (CX := fun _ => CX0) (sp := fun w => spA (K w.params) 1 F_law_k20) hn (by decide) hdf ⟨rfl, by decide, by decide, rfl⟩ hY F (fun _ _ a ns hl _ hS => PL.law_sp hS (law_true ns hl)) fun _ _ _ _ _ z => z
end K20
open PySem PySem.W PyProof.Rows
set_option maxRecDepth 100000 in
set_option maxHeartbeats 0 in
theorem PySem.Challenge.cw_skylanes_k20_gaps_holds : PySem.Challenge.rw_skylanes_k20_gaps.Holds := by
  w_on; o_law; k_head; (case hw => w_witness2)
  k_fill
  refine K20.walk (l := PySem.Challenge.rw_skylanes_k20_gaps) rfl rfl (fun w h Y => PySem.W.kIn_of Y) ?F
  case F =>
    intro w mg fa h KX G hmg
    refine' K20.all_mk KX G hmg ?a1 ?l1 ?c1 ?k1 ?a2 ?l2 ?c2 ?k2 ?a3 ?l3 ?c3 ?k3 ?a4 ?l4 ?c4 ?k4 ?a5 ?l5 ?c5 ?k5 ?a6 ?l6 ?c6 ?k6 ?a7 ?l7 ?c7 ?k7 ?a8 ?l8 ?c8 ?k8 ?a9 ?l9 ?c9 ?k9 ?a10 ?l10 ?c10 ?k10 ?a11 ?l11 ?c11 ?k11 ?a12 ?l12 ?c12 ?k12 ?a13 ?l13 ?c13 ?k13 ?a14 ?l14 ?c14 ?k14 ?a15 ?l15 ?c15 ?k15 ?a16 ?l16 ?c16 ?k16 ?a17 ?l17 ?c17 ?k17 ?a18 ?l18 ?c18 ?k18 ?a19 ?l19 ?c19 ?k19 ?a20 ?l20 ?c20 ?k20 ?a21 ?l21 ?c21 ?k21 ?a22 ?l22 ?c22 ?k22 ?a23 ?l23 ?c23 ?k23 ?a24 ?l24 ?c24 ?k24 ?a25 ?l25 ?c25 ?k25 ?a26 ?l26 ?c26 ?k26 ?a27 ?l27 ?c27 ?k27 ?a28 ?l28 ?c28 ?k28 ?a29 ?l29 ?c29 ?k29 ?a30 ?l30 ?c30 ?k30 ?a31 ?l31 ?c31 ?k31 ?a32 ?l32 ?c32 ?k32 ?a33 ?l33 ?c33 ?k33 ?a34 ?l34 ?c34 ?k34 ?a35 ?l35 ?c35 ?k35 ?a36 ?l36 ?c36 ?k36 ?a37 ?l37 ?c37 ?k37 ?a38 ?l38 ?c38 ?k38 ?y_abs ?y_all ?y_bool ?y_int ?y_isinstance ?y_len ?y_min ?y_range ?y_reversed ?y_str ?y_tuple ?y_zip 
    (case a1 => k_is); (case l1 => k_is); (case c1 => k_is); (case k1 => k_is)
    (case a2 => k_is); (case l2 => k_is); (case c2 => k_is); (case k2 => k_is)
    (case a3 => k_is); (case l3 => k_is); (case c3 => k_is); (case k3 => k_is)
    (case a4 => k_is); (case l4 => k_is); (case c4 => k_is); (case k4 => k_is)
    (case a5 => k_is); (case l5 => k_is); (case c5 => k_is); (case k5 => k_is)
    (case a6 => k_is); (case l6 => k_is); (case c6 => k_is); (case k6 => k_is)
    (case a7 => k_is); (case l7 => k_is); (case c7 => k_is); (case k7 => k_is)
    (case a8 => k_is); (case l8 => k_is); (case c8 => k_is); (case k8 => k_is)
    (case a9 => k_is); (case l9 => k_is); (case c9 => k_is); (case k9 => k_is)
    (case a10 => k_is); (case l10 => k_is); (case c10 => k_is); (case k10 => k_is)
    (case a11 => k_is); (case l11 => k_is); (case c11 => k_is); (case k11 => k_is)
    (case a12 => k_is); (case l12 => k_is); (case c12 => k_is); (case k12 => k_is)
    (case a13 => k_is); (case l13 => k_is); (case c13 => k_is); (case k13 => k_is)
    (case a14 => k_is); (case l14 => k_is); (case c14 => k_is); (case k14 => k_is)
    (case a15 => k_is); (case l15 => k_is); (case c15 => k_is); (case k15 => k_is)
    (case a16 => k_is); (case l16 => k_is); (case c16 => k_is); (case k16 => k_is)
    (case a17 => k_is); (case l17 => k_is); (case c17 => k_is); (case k17 => k_is)
    (case a18 => k_is); (case l18 => k_is); (case c18 => k_is); (case k18 => k_is)
    (case a19 => k_is); (case l19 => k_is); (case c19 => k_is); (case k19 => k_is)
    (case a20 => k_is); (case l20 => k_is); (case c20 => k_is); (case k20 => k_is)
    (case a21 => k_is); (case l21 => k_is); (case c21 => k_is); (case k21 => k_is)
    (case a22 => k_is); (case l22 => k_is); (case c22 => k_is); (case k22 => k_is)
    (case a23 => k_is); (case l23 => k_is); (case c23 => k_is); (case k23 => k_is)
    (case a24 => k_is); (case l24 => k_is); (case c24 => k_is); (case k24 => k_is)
    (case a25 => k_is); (case l25 => k_is); (case c25 => k_is); (case k25 => k_is)
    (case a26 => k_is); (case l26 => k_is); (case c26 => k_is); (case k26 => k_is)
    (case a27 => k_is); (case l27 => k_is); (case c27 => k_is); (case k27 => k_is)
    (case a28 => k_is); (case l28 => k_is); (case c28 => k_is); (case k28 => k_is)
    (case a29 => k_is); (case l29 => k_is); (case c29 => k_is); (case k29 => k_is)
    (case a30 => k_is); (case l30 => k_is); (case c30 => k_is); (case k30 => k_is)
    (case a31 => k_is); (case l31 => k_is); (case c31 => k_is); (case k31 => k_is)
    (case a32 => k_is); (case l32 => k_is); (case c32 => k_is); (case k32 => k_is)
    (case a33 => k_is); (case l33 => k_is); (case c33 => k_is); (case k33 => k_is)
    (case a34 => k_is); (case l34 => k_is); (case c34 => k_is); (case k34 => k_is)
    (case a35 => k_is); (case l35 => k_is); (case c35 => k_is); (case k35 => k_is)
    (case a36 => k_is); (case l36 => k_is); (case c36 => k_is); (case k36 => k_is)
    (case a37 => k_is); (case l37 => k_is); (case c37 => k_is); (case k37 => k_is)
    (case a38 => k_is); (case l38 => k_is); (case c38 => k_is); (case k38 => k_is)
    (case y_abs => k_is); (case y_all => k_is); (case y_bool => k_is); (case y_int => k_is); (case y_isinstance => k_is); (case y_len => k_is); (case y_min => k_is); (case y_range => k_is); (case y_reversed => k_is); (case y_str => k_is); (case y_tuple => k_is); (case y_zip => k_is)
end