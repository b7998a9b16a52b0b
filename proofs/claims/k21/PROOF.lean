import PyProof.Rows.All
import Wide.All
import OpenK.AllK
import Wide.FinOn
import PyProof.EqAt
import PyProof.EqKinds
import PyProof.TupleCall
import Lean
import PyProof.IsiTupleAll
import PySem.Challenge.RW_skylanes_k21_nearest
set_option Elab.async false
set_option linter.all false
set_option maxRecDepth 100000
set_option maxHeartbeats 4000000
section
namespace PySem
open Sem (wp)
abbrev FK:=(Int×Int)×Int
section
variable {prog:Program} {w:World}
def HE (prog:Program) (w:World) (h:Heap) (k:FK) (a:Addr):Prop:=∃o items n b u,h.get? a=some o/\o.cls= .type "tuple" /\o.data= .seq items n/\items.toList= [.ref b, .int k.2 u] /\IsTupleKey (intKind prog w) h [k.1.1,k.1.2] b
theorem HE.typeIs {s:Shared} {k:FK} {a:Addr} (x:HE prog w s.heap k a):s.TypeIs (.ref a) "tuple" :=let ⟨o,_,_,_,_,ho,hc,_⟩:=x;⟨o,ho,hc⟩
theorem HE.inj {h:Heap} {a:Addr} {x y:FK} (hx:HE prog w h x a) (hy:HE prog w h y a):x=y:=by
 obtain ⟨o,items,n,b,u,ho,_,hd,hi,hk⟩:=hx
 obtain ⟨o',items',n',b',u',Q8,_,aW,VO,pP⟩:=hy
 obtain rfl:o=o':=Option.some.inj (ho.symm.trans Q8)
 rw [hd] at aW
 injection aW with h1 _
 subst h1
 rw [hi] at VO
 injection VO with h1 h2
 injection h1 with h1
 subst h1
 injection h2 with h2 _
 injection h2 with h2 _
 have:=hk.inj pP
 obtain ⟨⟨x1,x2⟩,x3⟩:=x
 obtain ⟨⟨y1,y2⟩,y3⟩:=y
 injection this with e1 e2
 injection e2 with e2 _
 simp only at h2 e1 e2
 subst h2;subst e1;subst e2
 rfl
theorem HE.keeps {h h':Heap} {k:FK} {a d:Addr} {o:Obj} {es ep} (x:HE prog w h k a) (ho:h.get? d=some o) (hd:o.data= .dict es ep) (hs:Heap.SameBut d h h'):HE prog w h' k a:=by
 obtain ⟨o',items,n,b,u,Q8,hc,aW,hi,hk⟩:=x
 have YX:a≠d:=by
  rintro rfl
  obtain rfl:o'=o:=Option.some.inj (Q8.symm.trans ho)
  rw [hd] at aW;exact nomatch aW
 exact ⟨o',items,n,b,u,(hs.2 a YX).trans Q8,hc,aW,hi,hk.keeps ho hd hs⟩
def SL (prog:Program) (w:World) (k:FK):Int:=reduceHash (Builtin.Tuple.tupleHashOf [tupleKeyHash (intKind prog w) [k.1.1,k.1.2],hashInt k.2])
variable {A:Around} {E:Value->Shared->Prop} {s:Shared}
theorem LD {k:FK} {a:Addr} {Q:Int->Shared->Prop} (hu:A.units+1<cLine) (hk:HE prog w s.heap k a) (h:Q (SL prog w k) {s with toks:=s.toks+5}):
 wpAny (model prog w) A (pyHash (.ref a)) Q E s:=by
 have hT:=hk.typeIs
 obtain ⟨o,items,n,b,u,ho,_,hd,hi,jd⟩:=hk
 unfold pyHash
 first | unfold pyHashByItsType|skip
 first | refine wpAny_bind (wpAny_cRoomFor_or (.inr (by omega)) ?_)|skip
 refine wpAny_bind (wpAny_specialOf hT F.slot_tuple_hash.lookup ?_)
 show wpAny _ _ (if (some (Value.builtin "tuple.__hash__")==some Value.none)=true then _ else _) Q E s
 rw [if_neg (by rw [beq_builtin_none];exact Bool.false_ne_true)]
 refine wpAny_bind (wpAny_specialOf hT F.slot_tuple_hash.lookup ?_)
 show wpAny _ _ (callSpecialIfBoundUnlessNone? (.ref a) "__hash__" _ >>= _) Q E s
 refine wpAny_bind (wpAny_callSpecialIfBoundUnlessNone?_slot hT F.slot_tuple_hash (wpAny_call_entry F.slot_tuple_hash hT F.entry_tuple_hash ?_ (F.args_tuple_hash_1 _)))
 show wpAny _ _ (Builtin.Tuple.tupleItemsOf (.ref a) >>= _) _ _ s
 refine wpAny_bind (wpAny_tupleItemsOf ho hd ?_)
 refine wpAny_bind ?_
 rw [<-Array.forIn_toList,hi]
 refine wpAny_forIn_list _
  (λrest (r:Array Int) s'=>(rest= [.ref b, .int k.2 u] /\r.toList= [] /\s'=s)\/(rest= [.int k.2 u] /\r.toList= [tupleKeyHash (intKind prog w) [k.1.1,k.1.2]] /\s'={s with toks:=s.toks+3})\/
    (rest= [] /\r.toList= [tupleKeyHash (intKind prog w) [k.1.1,k.1.2],hashInt k.2] /\s'={s with toks:=s.toks+4}))
  _ ?_ ?_ _ _ (.inl ⟨rfl,rfl,rfl⟩)
 ·rintro x rest r s' (⟨e1,e2,rfl⟩|⟨e1,e2,rfl⟩|⟨e1,_⟩)
  ·cases e1
   refine wpAny_bind (wpAny_pyHash_tuple (knd:=intKind prog w) (by first | exact hu|omega) jd ?_)
   exact wpAny_pure (.inr (.inl ⟨rfl,by simp [e2],rfl⟩))
  ·cases e1
   refine wpAny_bind (wpAny_pyHash_int ?_)
   exact wpAny_pure (.inr (.inr ⟨rfl,by simp [e2],by simp [Nat.add_assoc]⟩))
  ·cases e1
 ·rintro r s' (⟨e1,_⟩|⟨e1,_⟩|⟨_,e2,rfl⟩)
  ·cases e1
  ·cases e1
  ·show wpAny _ _ (retInt (Builtin.Tuple.tupleHashOf r.toList)) _ _ _
   rw [e2]
   refine wpAny_ret_mkInt ?_
   show wpAny _ _ (if (decide (-(2:Int)^63<=Builtin.Tuple.tupleHashOf [tupleKeyHash (intKind prog w) [k.1.1,k.1.2],hashInt k.2])&&decide (Builtin.Tuple.tupleHashOf [tupleKeyHash (intKind prog w) [k.1.1,k.1.2],hashInt k.2] < 2^63))=true then _ else _) Q E _
   unfold SL reduceHash at h
   by_cases hr:(decide (-(2:Int)^63<=Builtin.Tuple.tupleHashOf [tupleKeyHash (intKind prog w) [k.1.1,k.1.2],hashInt k.2])&&decide (Builtin.Tuple.tupleHashOf [tupleKeyHash (intKind prog w) [k.1.1,k.1.2],hashInt k.2] < 2^63))=true
   ·rw [if_pos hr]
    rw [if_pos hr] at h
    exact wpAny_pure (by simpa [Nat.add_assoc] using h)
   ·rw [if_neg hr]
    rw [if_neg hr] at h
    exact wpAny_bind (wpAny_rule (wpAny_pure (by simpa [Nat.add_assoc] using h)))
theorem SM {x y:FK} {a b:Addr} {P:Fin->Shared->Prop} (hu:A.units<cLine) (hx:HE prog w s.heap x a) (hy:HE prog w s.heap y b) (h:P (.done (.ret (.bool (decide (x=y))))) s):
 wpAny (model prog w) A (Builtin.«tuple.__eq__» ⟨[.ref a, .ref b], []⟩) P E s:=by
 have pJ:=hy.typeIs
 obtain ⟨oa,xs,na,ba,ua,pe,_,pM,mD,pR⟩:=hx
 obtain ⟨ob,ys,nb,bb,ub,pf,_,hdb,mE,pS⟩:=hy
 have sx:xs.size=2:=by rw [<-Array.length_toList,mD];rfl
 have sy:ys.size=2:=by rw [<-Array.length_toList,mE];rfl
 obtain ⟨⟨x1,x2⟩,x3⟩:=x
 obtain ⟨⟨y1,y2⟩,y3⟩:=y
 show wpAny _ _ (isInstance (.ref b) (.type "tuple") >>= _) _ _ s
 refine wpAny_bind (wpAny_isInstance pJ isSubtype_tuple_tuple ?_)
 simp only [Bool.not_true,Bool.false_eq_true,if_false]
 refine wpAny_bind (wpAny_tupleItemsOf pe pM ?_)
 refine wpAny_bind (wpAny_tupleItemsOf pf hdb ?_)
 refine wpAny_bind ?_
 rw [mD,mE]
 refine wpAny_forIn_list _
  (λrest r s'=>r.1=none/\s'=s/\(rest= [(.ref ba, .ref bb),(.int x3 ua, .int y3 ub)] \/(rest= [(.int x3 ua, .int y3 ub)] /\x1=y1/\x2=y2)\/(rest= [] /\x1=y1/\x2=y2/\x3=y3)))
  _ ?_ ?_ _ _ ⟨rfl,rfl, .inl rfl⟩
 ·rintro ⟨u,v⟩ rest r s' ⟨hr,rfl,(hz|⟨hz,e1,e2⟩|⟨hz,_⟩)⟩
  ·cases hz
   refine wpAny_bind (wpAny_eqBool_tuple (knd:=intKind prog w) (by first | exact hu|omega) pR pS ?_)
   by_cases hk:x1=y1/\x2=y2
   ·rw [decide_eq_true (by rw [hk.1,hk.2])]
    simp only [Bool.not_true,Bool.false_eq_true,if_false]
    exact wpAny_pure ⟨rfl,rfl, .inr (.inl ⟨by first | trivial|rfl,hk⟩)⟩
   ·rw [decide_eq_false (by intro z;injection z with z1 z2;injection z2 with z2 _;exact hk ⟨z1,z2⟩)]
    simp only [Bool.not_false,if_true]
    have hf:decide ((((x1,x2),x3):FK)=((y1,y2),y3))=false:=by
     apply decide_eq_false
     intro z
     injection z with z1 z2
     injection z1 with z3 z4
     exact hk ⟨z3,z4⟩
    rw [hf] at h
    exact wpAny_bind (wpAny_pure (wpAny_pure (wpAny_pure h)))
  ·cases hz
   refine wpAny_bind (wpAny_eqBool_int ?_)
   by_cases hk:x3=y3
   ·rw [show (x3==y3)=true by simp [hk]]
    simp only [Bool.not_true,Bool.false_eq_true,if_false]
    exact wpAny_pure ⟨rfl,rfl, .inr (.inr ⟨by first | trivial|rfl,e1,e2,hk⟩)⟩
   ·rw [show (x3==y3)=false by simp [hk]]
    simp only [Bool.not_false,if_true]
    have hf:decide ((((x1,x2),x3):FK)=((y1,y2),y3))=false:=by
     apply decide_eq_false
     intro z
     injection z with z1 z2
     exact hk z2
    rw [hf] at h
    exact wpAny_bind (wpAny_pure (wpAny_pure (wpAny_pure h)))
  ·cases hz
 ·rintro ⟨r1,r2⟩ s' ⟨hr,rfl,(hz|⟨hz,_⟩|⟨_,e1,e2,e3⟩)⟩
  ·cases hz
  ·cases hz
  ·simp only at hr
   subst hr
   refine wpAny_pure ?_
   show P (.done (.ret (.bool (xs.size==ys.size)))) s'
   rw [sx,sy]
   rw [decide_eq_true (by rw [e1,e2,e3])] at h
   exact h
theorem LC {x y:FK} {a b:Addr} {Q:Bool->Shared->Prop} (hu:A.units+1<cLine) (hx:HE prog w s.heap x a) (hy:HE prog w s.heap y b) (h:Q (decide (x=y)) s):
 wpAny (model prog w) A (eqBool (.ref a) (.ref b)) Q E s:=by
 unfold eqBool
 try with_reducible refine wpAny_holding ?_
 show wpAny _ _ (if (Value.ref a==Value.ref b)=true then _ else _) Q E s
 by_cases jU:(Value.ref a==Value.ref b)=true
 ·rw [if_pos jU]
  have e:a=b:=by have:=eq_of_beq jU;injection this
  subst e
  obtain rfl:=hx.inj hy
  exact wpAny_bind (wpAny_rule (wpAny_pure (by simpa using h)))
 ·rw [if_neg jU]
  exact wpAny_bind (wpAny_richCompare_same_room (op:= .Eq) hx.typeIs hy.typeIs F.slot_tuple_eq
   (wpAny_call_entry F.slot_tuple_eq hx.typeIs F.entry_tuple_eq (SM (by first | exact hu|omega) hx hy ⟨_,rfl,(λe=>nomatch e),wpAny_truthy_bool h⟩) (F.args_tuple_eq_2 _ _)) (by omega))
theorem FY {K:Type} [DecidableEq K] {knd:KeyKind prog w K} {ks:List K} {a:Addr} {Q:Bool->Shared->Prop} (m:Nat) (hk:IsTupleKey knd s.heap ks a) (h:Q true s):wpAny (model prog w) A (eqIsQuiet (m+1) (.ref a)) Q E s:=by
 have hT:=hk.typeIs
 obtain ⟨o,items,n,ho,_,hd,hi⟩:=hk
 unfold eqIsQuiet
 refine wpAny_bind (wpAny_specialOf hT F.slot_tuple_eq.lookup ?_)
 show wpAny _ _ (isInstance (.ref a) (.type "tuple") >>= _) _ _ s
 refine wpAny_bind (wpAny_isInstance hT isSubtype_tuple_tuple ?_)
 simp only [Bool.not_true,Bool.false_eq_true,if_false]
 refine wpAny_bind (wpAny_seqItems ho hd ?_)
 refine wpAny_bind ?_
 show wpAny _ _ (forIn items _ _) _ _ s
 rw [<-Array.forIn_toList]
 refine wpAny_forIn_list _ (λrest r s'=>r.1=none/\s'=s/\∀v∈rest,carriedByValue v=true) _ ?_ ?_ _ _ ⟨rfl,rfl,hi.byValue⟩
 ·rintro v rest r s' ⟨hr,rfl,VM⟩
  rw [eqIsQuiet_byValue _ (VM v List.mem_cons_self)]
  refine wpAny_bind (wpAny_pure ?_)
  simp only [Bool.not_true,Bool.false_eq_true,if_false]
  exact wpAny_pure ⟨rfl,rfl,λu pp=>VM u (List.mem_cons_of_mem _ pp)⟩
 ·rintro ⟨r1,r2⟩ s' ⟨hr,rfl,_⟩
  simp only at hr
  subst hr
  exact wpAny_pure h
theorem Ha {k:FK} {a:Addr} {Q:Bool->Shared->Prop} (hk:HE prog w s.heap k a) (h:Q true s):wpAny (model prog w) A (eqIsQuiet 8 (.ref a)) Q E s:=by
 have hT:=hk.typeIs
 obtain ⟨o,items,n,b,u,ho,_,hd,hi,jd⟩:=hk
 unfold eqIsQuiet
 refine wpAny_bind (wpAny_specialOf hT F.slot_tuple_eq.lookup ?_)
 show wpAny _ _ (isInstance (.ref a) (.type "tuple") >>= _) _ _ s
 refine wpAny_bind (wpAny_isInstance hT isSubtype_tuple_tuple ?_)
 simp only [Bool.not_true,Bool.false_eq_true,if_false]
 refine wpAny_bind (wpAny_seqItems ho hd ?_)
 refine wpAny_bind ?_
 show wpAny _ _ (forIn items _ _) _ _ s
 rw [<-Array.forIn_toList,hi]
 refine wpAny_forIn_list _ (λrest r s'=>r.1=none/\s'=s/\(rest= [.ref b, .int k.2 u] \/rest= [.int k.2 u] \/rest= [])) _ ?_ ?_ _ _ ⟨rfl,rfl, .inl rfl⟩
 ·rintro v rest r s' ⟨hr,rfl,(hz|hz|hz)⟩
  ·cases hz
   refine wpAny_bind (FY (knd:=intKind prog w) 6 jd ?_)
   simp only [Bool.not_true,Bool.false_eq_true,if_false]
   exact wpAny_pure ⟨rfl,rfl, .inr (.inl (by first | trivial|rfl))⟩
  ·cases hz
   rw [eqIsQuiet_byValue _ rfl]
   refine wpAny_bind (wpAny_pure ?_)
   simp only [Bool.not_true,Bool.false_eq_true,if_false]
   exact wpAny_pure ⟨rfl,rfl, .inr (.inr (by first | trivial|rfl))⟩
  ·cases hz
 ·rintro ⟨r1,r2⟩ s' ⟨hr,rfl,_⟩
  simp only at hr
  subst hr
  exact wpAny_pure h
end
def fkKind (prog:Program) (w:World):HeapKind prog w FK where
 is:=HE prog w
 hash:=SL prog w
 draws:=λ_=>5
 room:=λA=>A.units+1<cLine
 inj:=λhx hy=>hx.inj hy
 keeps:=λx ho hd hs=>x.keeps ho hd hs
 pyHash:=λhu hk h=>LD hu hk h
 eqBool:=λhu hx hy h=>LC hu hx hy h
 quiet:=λhk h=>Ha hk h
end PySem
end
namespace L2
open PySem PySem.Spec PyProof.Rows
abbrev Er:=Sum Int Str
def ah:Er->Value->Bool
 | .inl k,v=>Value.isInt k v
 | .inr x,v=>Value.isStrOf x v
def jy (w:World):Er->Int
 | .inl k=>hashInt k
 | .inr x=>hashStr w x
theorem Bf:∀{k:Er} {v:Value},ah k v=true->(∃i t,k=Sum.inl i/\v=Value.int i t)\/(∃x t,k=Sum.inr x/\v=Value.str x t)
 | .inl i,v,h=>by
   obtain ⟨t,e⟩:=Value.isInt_shape (k:=i) (v:=v) h
   exact .inl ⟨i,t,rfl,e⟩
 | .inr x,v,h=>by
   obtain ⟨t,e⟩:=Value.isStrOf_shape (x:=x) (v:=v) h
   exact .inr ⟨x,t,rfl,e⟩
theorem cQ (a b:Int):decide ((Sum.inl a:Er)=Sum.inl b)=(a==b):=by
 by_cases e:a=b
 ·subst e;simp
 ·have h:¬(Sum.inl a:Er)=Sum.inl b:=λq=>e (Sum.inl.inj q)
  rw [decide_eq_false h]
  exact (beq_eq_false_iff_ne.mpr e).symm
theorem cT (a b:Str):decide ((Sum.inr a:Er)=Sum.inr b)=decide (a=b):=by
 by_cases e:a=b
 ·subst e;simp
 ·have h:¬(Sum.inr a:Er)=Sum.inr b:=λq=>e (Sum.inr.inj q)
  rw [decide_eq_false h,decide_eq_false e]
theorem cR (a:Int) (b:Str):decide ((Sum.inl a:Er)=Sum.inr b)=false:=decide_eq_false (λq=>nomatch q)
theorem cS (a:Str) (b:Int):decide ((Sum.inr a:Er)=Sum.inl b)=false:=decide_eq_false (λq=>nomatch q)
def UA (prog:Program) (w:World):PySem.KeyKind prog w Er where
 is:=ah
 hash:=jy w
 inj:=λv a b ha hb=>by
  rcases Bf ha with ⟨i,t,rfl,rfl⟩|⟨x,t,rfl,rfl⟩
  ·rcases Bf hb with ⟨j,u,rfl,e⟩|⟨y,u,rfl,e⟩
   ·injection e with e1 _;rw [e1]
   ·exact nomatch e
  ·rcases Bf hb with ⟨j,u,rfl,e⟩|⟨y,u,rfl,e⟩
   ·exact nomatch e
   ·injection e with e1 _;rw [e1]
 byValue:=λk v h=>by
  rcases Bf h with ⟨i,t,rfl,rfl⟩|⟨x,t,rfl,rfl⟩ <;> rfl
 pyHash:=λhv h=>by
  rcases Bf hv with ⟨i,t,rfl,rfl⟩|⟨x,t,rfl,rfl⟩
  ·exact wpAny_pyHash_int h
  ·exact wpAny_pyHash_str h
 eqBool:=λhu hv h=>by
  rcases Bf hu with ⟨i,t,rfl,rfl⟩|⟨x,t,rfl,rfl⟩
  ·rcases Bf hv with ⟨j,u,rfl,rfl⟩|⟨y,u,rfl,rfl⟩
   ·rw [cQ] at h;exact wpAny_eqBool_int h
   ·rw [cR] at h;exact SeqAt.EqAt.int_str i t y u _ _ _ _ h
  ·rcases Bf hv with ⟨j,u,rfl,rfl⟩|⟨y,u,rfl,rfl⟩
   ·rw [cS] at h;exact SeqAt.EqAt.str_int x t j u _ _ _ _ h
   ·rw [cT] at h;exact wpAny_eqBool_str h
 «strs»:=λk x t v h=>by
  rcases Bf h with ⟨i,u,rfl,e⟩|⟨y,u,rfl,e⟩
  ·exact nomatch e
  ·injection e with e1 _
   subst e1
   cases v <;> rfl
end L2
namespace L2
open PySem PySem.Spec PyProof.Rows
inductive V where
 | non|bl (b:Bool)|int (i:Int)|str (x:Str)|byt (b:Array UInt8)|flt (b:UInt64)|ref (a:Addr)|ty (n:String)
 deriving DecidableEq
def RelV:V->Value->Prop
 | .non,u=>u=Value.none
 | .bl b,u=>u=Value.bool b
 | .int i,u=>∃t,u=Value.int i t
 | .str x,u=>∃t,u=Value.str x t
 | .byt b,u=>∃t,u=Value.bytes b t
 | .flt b,u=>∃t,u=Value.float b t
 | .ref a,u=>u=Value.ref a
 | .ty n,u=>u=Value.type n
abbrev Au:List V->List Value->Prop:=Paired RelV
theorem Au.length {xs:List V} {us:List Value} (r:Au xs us):xs.length=us.length:=Paired.length r
theorem Au.get:∀{xs:List V} {us:List Value} {i:Nat} {x:V},Au xs us->xs[i]? =some x->∃u,us[i]? =some u/\RelV x u
 | _,_,_,_, .nil,e=>by simp at e
 | _,_,0,_, .cons r _,e=>by simp at e;subst e;exact ⟨_,rfl,r⟩
 | _,_,i+1,x, .cons _ t,e=>by
   obtain ⟨u,h1,h2⟩:=Au.get (i:=i) (x:=x) t (by simpa using e)
   exact ⟨u,by simpa using h1,h2⟩
theorem Au.set {x:V} {u:Value} (r:RelV x u):∀{xs:List V} {us:List Value} (i:Nat),Au xs us->Au (xs.set i x) (us.set i u)
 | _,_,_, .nil=> .nil
 | _,_,0, .cons _ t=> .cons r t
 | _,_,i+1, .cons q t=> .cons q (Au.set r i t)
theorem Au.append:∀{xs ys:List V} {us ws:List Value},Au xs us->Au ys ws->Au (xs++ys) (us++ws)
 | _,_,_,_, .nil,s=>s
 | _,_,_,_, .cons r t,s=> .cons r (Au.append t s)
theorem Au.take:∀{xs:List V} {us:List Value} (n:Nat),Au xs us->Au (xs.take n) (us.take n)
 | _,_,0,_=> .nil
 | _,_,_+1, .nil=> .nil
 | _,_,n+1, .cons r t=> .cons r (Au.take n t)
theorem Au.drop:∀{xs:List V} {us:List Value} (n:Nat),Au xs us->Au (xs.drop n) (us.drop n)
 | _,_,0,r=>r
 | _,_,_+1, .nil=> .nil
 | _,_,n+1, .cons _ t=>Au.drop n t
theorem Au.none_of:∀{xs:List V} {us:List Value} {i:Nat},Au xs us->xs[i]? =none->us[i]? =none:=λ{xs us i} r e=>by
 have h1:=r.length
 have h2:xs.length<=i:=List.getElem?_eq_none_iff.mp e
 exact List.getElem?_eq_none_iff.mpr (by omega)
def L0:Option V->Option Value->Prop
 | some v,some u=>RelV v u
 | none,none=>True
 | _,_=>False
def KV {κ:Type}:List (κ×V)->List (κ×Value)->Prop:=Paired λ(p:κ×V) (q:κ×Value)=>p.1=q.1/\RelV p.2 q.2
def kV:Er->V
 | .inl i=> .int i
 | .inr x=> .str x
inductive HO where
 | lst (xs:List V)
 | tup (xs:List V)
 | dK (kvs:List (Er×V))|dT (kvs:List (List Er×V))|dN (K:PySem.W.Frag) (kvs:List (PySem.FK×V))
 | set (S:Int->Bool) (n:Nat)
 | ins (C dx:Addr) (fs:List (Str×V))
 | own (x:Addr)
 | xd (fs:List (Str×V))
 | met (f x:Addr)
 | rng (lo hi:Int)
 | frz (o:Obj) (u:HO)
 | tbl (ps:Array Value)
 | ext (φ:Heap->Prop)
abbrev Hp:=Addr->Option HO
def upd (H:Hp) (a:Addr) (o:HO):Hp:=λb=>if b=a then some o else H b
theorem A6 {H:Hp} {a:Addr} {o:HO}:upd H a o a=some o:=by unfold upd;rw [if_pos rfl]
theorem Ak {H:Hp} {a b:Addr} {o:HO} (h:b≠a):upd H a o b=H b:=by unfold upd;rw [if_neg h]
theorem BE {H:Hp} {a b:Addr} {o:HO} (h:H a=some o) (h':H b=none):a≠b:=by
 intro e;subst e;rw [h] at h';cases h'
def jI (K:PySem.W.Frag) (H:Hp) (b:Addr) (t d:Int):Prop:=H b=some (.tup [.int t, .int d])\/∃(o:Obj) (its:Array Value) (n:Nat),K.lookup b=some o/\o.cls= .type "tuple" /\o.data= .seq its n/\Au [.int t, .int d] its.toList
def Ut (K:PySem.W.Frag) (H:Hp) (a:Addr) (k:PySem.FK):Prop:=∃b,H a=some (.tup [.ref b, .int k.2])/\jI K H b k.1.1 k.1.2
theorem Ut.stay {K:PySem.W.Frag} {H H':Hp} {a:Addr} {k:PySem.FK} (x:Ut K H a k) (ht:∀b xs,H b=some (.tup xs)->H' b=some (.tup xs)):Ut K H' a k:=let ⟨b,h1,h2⟩:=x;⟨b,ht _ _ h1,h2.elim (λz=> .inl (ht _ _ z)) .inr⟩
section
variable (P:Program) (w:World)
def ES (H:Hp) (h:Heap) (a:Addr):HO->Prop
 | .lst xs=>xs.length<=sizeLine/\∃(its:List Value) (n:Nat),Au xs its/\h.get? a=some {cls:= .type "list",data:= .seq its.toArray n}
 | .tup xs=>xs.length<=sizeLine/\∃its:List Value,Au xs its/\IsTup h a its.toArray
 | .dK kvs=>kvs.length<=sizeLine/\(a==sysModules)=false/\∃vs,KV kvs vs/\h.DictOf (UA P w) a vs
 | .dT kvs=>kvs.length<=sizeLine/\(a==sysModules)=false/\∃xs:List (List Er×Addr×Value),
     Paired (λ(p:List Er×V) (q:List Er×Addr×Value)=>p.1=q.1/\H q.2.1=some (.tup (p.1.map kV))/\RelV p.2 q.2.2) kvs xs/\
     ∃o es ep,h.get? a=some o/\o.ExactDict/\o.data= .dict es ep/\es.toList=xs.map (entryOfKey (tupleKind (UA P w)))/\(xs.map (·.1)).Nodup
 | .dN K kvs=>kvs.length<=sizeLine/\(a==sysModules)=false/\∃xs:List (PySem.FK×Addr×Value),Paired (λ(p:PySem.FK×V) (q:PySem.FK×Addr×Value)=>p.1=q.1/\Ut K H q.2.1 p.1/\RelV p.2 q.2.2) kvs xs/\∃o es ep,h.get? a=some o/\o.ExactDict/\o.data= .dict es ep/\es.toList=xs.map (entryOfKey (PySem.fkKind P w))/\(xs.map (·.1)).Nodup
 | .set S n=>h.SetOf (intKind P w) a S n
 | .ins C dx fs=>H dx=some (.own a)/\fs.length<=1000/\dx≠a/\h.get? a=some (PySem.W.instObj C dx)/\
     ∃mA,h.Ns1 dx mA/\(∀f,L0 (fs.lookup f) (mA f))/\PySem.Within mA (fs.map (·.1))
 | .own _=>∃o,h.get? a=some o
 | .xd fs=>∃mA,h.Ns1 a mA/\∀f,L0 (fs.lookup f) (mA f)
 | .rng lo hi=>∃t u v,h.get? a=some {cls:= .type "range",data:= .fields #[.int lo t, .int hi u, .int 1 v] }
 | .frz o u=>h.get? a=some o/\ES H h a u
 | .tbl ps=>h.get? a=some {cls:= .none,data:= .fields ps}
 | .met f x=>h.get? a=some (PySem.W.methodObj (.ref f) (.ref x))
 | .ext φ=>φ h/\(∃o,h.get? a=some o)/\∀h1 h2:Heap,φ h1->(∀o,h1.get? a=some o->h2.get? a=some o)->φ h2
def Ly (H:Hp) (h:Heap):Prop:=∀a o,H a=some o->ES P w H h a o
end
section
variable {P:Program} {w:World} {H H':Hp} {h h':Heap} {a:Addr} {o:HO}
theorem ES.lt (x:ES P w H h a o):a<h.objs.size:=by
 cases o with
 | lst xs=>obtain ⟨_,_,_,_,e⟩:=x;exact Heap.lt_size e
 | tup xs=>obtain ⟨_,_,_,p⟩:=x;exact p.lt
 | dK kvs=>obtain ⟨_,_,_,_,o,_,_,e,_⟩:=x;exact Heap.lt_size e
 | dT kvs=>obtain ⟨_,_,_,_,o,_,_,e,_⟩:=x;exact Heap.lt_size e
 | dN K kvs=>obtain ⟨_,_,_,_,o,_,_,e,_⟩:=x;exact Heap.lt_size e
 | set S n=>obtain ⟨o,_,_,_,e,_⟩:=x;exact Heap.lt_size e
 | ins C dx fs=>obtain ⟨_,_,_,e,_⟩:=x;exact Heap.lt_size e
 | own y=>obtain ⟨_,e⟩:=x;exact Heap.lt_size e
 | xd fs=>obtain ⟨_,⟨_,_,_,e,_⟩,_⟩:=x;exact Heap.lt_size e
 | rng lo hi=>obtain ⟨_,_,_,e⟩:=x;exact Heap.lt_size e
 | frz ob u=>obtain ⟨e,_⟩:=x;exact Heap.lt_size e
 | tbl ps=>exact Heap.lt_size (show h.get? a=some _ from x)
 | met f y=>exact Heap.lt_size (show h.get? a=some _ from x)
 | ext φ=>obtain ⟨_,⟨_,e⟩,_⟩:=x;exact Heap.lt_size e
theorem Paired.mapP {α β:Type} {F G:α->β->Prop}:∀{l₁:List α} {l₂:List β},Paired F l₁ l₂->(∀a b,F a b->G a b)->Paired G l₁ l₂
 | _,_, .nil,_=> .nil
 | _,_, .cons r t,f=> .cons (f _ _ r) (Paired.mapP t f)
theorem ES.stay (x:ES P w H h a o) (k:∀b u,(b=a\/H b=some (.own a))->h.get? b=some u->h'.get? b=some u)
 (ho:∀b,H b=some (.own a)->H' b=some (.own a)) (ht:∀b xs,H b=some (.tup xs)->H' b=some (.tup xs)):ES P w H' h' a o:=by
 induction o with
 | lst xs=>obtain ⟨z,its,n,r,e⟩:=x;exact ⟨z,its,n,r,k _ _ (.inl rfl) e⟩
 | tup xs=>obtain ⟨z,its,r,ob,e,c⟩:=x;exact ⟨z,its,r,ob,k _ _ (.inl rfl) e,c⟩
 | dK kvs=>obtain ⟨z,y,vs,r,ob,es,ep,e,c⟩:=x;exact ⟨z,y,vs,r,ob,es,ep,k _ _ (.inl rfl) e,c⟩
 | dT kvs=>
   obtain ⟨z,y,xs,r,ob,es,ep,e,c⟩:=x
   exact ⟨z,y,xs,Paired.mapP r λp q z=>⟨z.1,ht _ _ z.2.1,z.2.2⟩,ob,es,ep,k _ _ (.inl rfl) e,c⟩
 | dN K kvs=>
   obtain ⟨z,y,xs,r,ob,es,ep,e,c⟩:=x
   exact ⟨z,y,xs,Paired.mapP r λp q z=>⟨z.1,z.2.1.stay ht,z.2.2⟩,ob,es,ep,k _ _ (.inl rfl) e,c⟩
 | set S n=>obtain ⟨ob,es,ep,t,e,c⟩:=x;exact ⟨ob,es,ep,t,k _ _ (.inl rfl) e,c⟩
 | ins C dx fs=>
   obtain ⟨d,z,ne,e,mA,⟨od,es,ep,e2,c⟩,r⟩:=x
   exact ⟨ho _ d,z,ne,k _ _ (.inl rfl) e,mA,⟨od,es,ep,k _ _ (.inr d) e2,c⟩,r⟩
 | own y=>obtain ⟨ob,e⟩:=x;exact ⟨ob,k _ _ (.inl rfl) e⟩
 | xd fs=>obtain ⟨mA,⟨od,es,ep,e,c⟩,r⟩:=x;exact ⟨mA,⟨od,es,ep,k _ _ (.inl rfl) e,c⟩,r⟩
 | rng lo hi=>obtain ⟨t,u,v,e⟩:=x;exact ⟨t,u,v,k _ _ (.inl rfl) e⟩
 | frz ob u ih=>obtain ⟨e,q⟩:=x;exact ⟨k _ _ (.inl rfl) e,ih q⟩
 | tbl ps=>
   have e:h.get? a=some {cls:= .none,data:= .fields ps}:=x
   show h'.get? a=some {cls:= .none,data:= .fields ps}
   exact k a _ (.inl rfl) e
 | met f y=>
   have e:h.get? a=some (PySem.W.methodObj (.ref f) (.ref y)):=x
   show h'.get? a=some (PySem.W.methodObj (.ref f) (.ref y))
   exact k a _ (.inl rfl) e
 | ext φ=>obtain ⟨p,⟨o,e⟩,st⟩:=x;exact ⟨st _ _ p λo q=>k _ _ (.inl rfl) q,⟨o,k _ _ (.inl rfl) e⟩,st⟩
theorem Ly.lt (x:Ly P w H h) (e:H a=some o):a<h.objs.size:=(x a o e).lt
theorem Ly.fresh (x:Ly P w H h) (e:h.objs.size<=a):H a=none:=by
 cases q:H a with
 | none=>rfl
 | some u=>exact absurd (Nat.lt_of_lt_of_le (x.lt q) e) (Nat.lt_irrefl _)
theorem Ly.kept (x:Ly P w H h) (k:∀b u,h.get? b=some u->h'.get? b=some u):Ly P w H h':=λa o e=>
 (x a o e).stay (λb u _ q=>k b u q) (λ_ q=>q) λ_ _ q=>q
theorem Ly.laid (x:Ly P w H h) (k:∀b u,h.get? b=some u->h'.get? b=some u) (hp:h.objs.size<=a) (new:ES P w (upd H a o) h' a o):Ly P w (upd H a o) h':=λb u e=>by
 have hn:=x.fresh hp
 by_cases hb:b=a
 ·subst hb;rw [A6] at e;cases e;exact new
 ·rw [Ak hb] at e
  exact (x b u e).stay (λc v _ q=>k c v q) (λc q=>by rw [Ak (BE q hn)];exact q) λc xs q=>by rw [Ak (BE q hn)];exact q
end
def Rd (H:Hp) (a:Addr) (u:HO):Prop:=H a=some u\/∃o,H a=some (.frz o u)
theorem Rd.of {H:Hp} {a:Addr} {u:HO} (h:H a=some u):Rd H a u:= .inl h
theorem Rd.ok {P:Program} {w:World} {H:Hp} {h:Heap} {a:Addr} {u:HO} (r:Rd H a u) (x:Ly P w H h):ES P w H h a u:=by
 rcases r with r|⟨o,r⟩
 ·exact x a u r
 ·obtain ⟨_,q⟩:=x a _ r
  exact q
def iL:Option HO->Prop
 | some (.lst _)=>True
 | some (.dK _)=>True
 | some (.dT _)=>True
 | some (.dN _ _)=>True
 | some (.set _ _)=>True
 | some (.ins _ _ _)=>True
 | some (.ext _)=>True
 | _=>False
section
variable {P:Program} {w:World} {H:Hp} {h h':Heap} {x e:Addr} {o':HO}
theorem Ly.write (ok:Ly P w H h) (mu:iL (H x)) (he:e=x\/H e=some (.own x)) (k:∀b u,b≠e->h.get? b=some u->h'.get? b=some u) (eI:∃u,h'.get? e=some u)
 (new:ES P w (upd H x o') h' x o'):Ly P w (upd H x o') h':=λb u q=>by
 have nown:∀c y,H c=some (.own y)->c≠x:=λc y r z=>by subst z;rw [r] at mu;exact mu
 have ntup:∀c xs,H c=some (.tup xs)->c≠x:=λc xs r z=>by subst z;rw [r] at mu;exact mu
 by_cases hb:b=x
 ·subst hb;rw [A6] at q;cases q;exact new
 ·rw [Ak hb] at q
  by_cases Tq:b=e
  ·have q':H b=some (.own x):=by
    rcases he with z|z
    ·exact absurd (Tq.trans z) hb
    ·rw [Tq];exact z
   rw [q] at q';cases q'
   obtain ⟨v,hv⟩:=eI
   exact ⟨v,by rw [Tq];exact hv⟩
  ·refine (ok b u q).stay (λc v hc r=>k c v ?_ r) (λc r=>by rw [Ak (nown c b r)];exact r) λc xs r=>by rw [Ak (ntup c xs r)];exact r
   rcases hc with rfl|hc
   ·exact Tq
   ·rintro rfl
    rcases he with z|z
    ·exact nown c b hc z
    ·rw [hc] at z;cases z;exact hb rfl
end
structure Un (fs ex:List Addr) (H H':Hp) (h h':Heap):Prop where
 keep:∀b o,h.get? b=some o->H b=none->b ∉ fs->b ∉ ex->h'.get? b=some o
 slot:∀b o,h.get? b=some o->H b=none->b∈fs->b ∉ ex->∃sl,h'.get? b=some {o with slots:=sl}
 free:∀b o,h.get? b=some o->H b=none->b ∉ ex->H' b=none
 there:∀b o,h.get? b=some o->b ∉ ex->∃o',h'.get? b=some o'
 tups:∀b xs,H b=some (.tup xs)->H' b=some (.tup xs)
 frzs:∀b o u,H b=some (.frz o u)->H' b=some (.frz o u)
 tbls:∀b ps,H b=some (.tbl ps)->∃more,H' b=some (.tbl (ps++more))
section
variable {fs fs' ex ex':List Addr} {H H1 H2:Hp} {h h1 h2 h':Heap} {a x e:Addr} {o:HO}
theorem Un.any (u:Un fs ex H H1 h h1) {b:Addr} {ob:Obj} (q:h.get? b=some ob) (n:H b=none) (hx:b ∉ ex):∃sl,h1.get? b=some {ob with slots:=sl}:=by
 by_cases hb:b∈fs
 ·exact u.slot b ob q n hb hx
 ·exact ⟨ob.slots,u.keep b ob q n hb hx⟩
theorem Un.trans (a:Un fs ex H H1 h h1) (b:Un fs ex H1 H2 h1 h2):Un fs ex H H2 h h2 where
 keep:=λc ob q n hc hx=>b.keep c ob (a.keep c ob q n hc hx) (a.free c ob q n hx) hc hx
 slot:=λc ob q n hc hx=>by
  obtain ⟨sl,e1⟩:=a.slot c ob q n hc hx
  obtain ⟨sl',e2⟩:=b.slot c _ e1 (a.free c ob q n hx) hc hx
  exact ⟨sl',e2⟩
 free:=λc ob q n hx=>by
  obtain ⟨o',e1⟩:=a.there c ob q hx
  exact b.free c o' e1 (a.free c ob q n hx) hx
 there:=λc ob q hx=>by
  obtain ⟨o',e1⟩:=a.there c ob q hx
  exact b.there c o' e1 hx
 tups:=λc xs q=>b.tups c xs (a.tups c xs q)
 frzs:=λc ob xs q=>b.frzs c ob xs (a.frzs c ob xs q)
 tbls:=λc ps q=>by
  obtain ⟨m1,e1⟩:=a.tbls c ps q
  obtain ⟨m2,e2⟩:=b.tbls c _ e1
  exact ⟨m1++m2,by rw [e2,Array.append_assoc]⟩
theorem Un.kept (k:∀b u,h.get? b=some u->h'.get? b=some u):Un fs ex H H h h':=
 ⟨λb ob q _ _ _=>k b ob q,λb ob q _ _ _=>⟨ob.slots,k b ob q⟩,λ_ _ _ n _=>n,λb ob q _=>⟨ob,k b ob q⟩,λ_ _ q=>q,λ_ _ _ q=>q,λ_ ps q=>⟨#[],by rw [q];simp⟩⟩
theorem Un.refl:Un fs ex H H h h:=Un.kept λ_ _ q=>q
theorem Un.laid (k:∀b u,h.get? b=some u->h'.get? b=some u) (hp:h.objs.size<=a) (hn:H a=none):Un fs ex H (upd H a o) h h' where
 keep:=λb u q _ _ _=>k b u q
 slot:=λb u q _ _ _=>⟨u.slots,k b u q⟩
 free:=λb u q n _=>by rw [Ak (Nat.ne_of_lt (Nat.lt_of_lt_of_le (Heap.lt_size q) hp))];exact n
 there:=λb u q _=>⟨u,k b u q⟩
 tups:=λb xs q=>by rw [Ak (BE q hn)];exact q
 frzs:=λb u xs q=>by rw [Ak (BE q hn)];exact q
 tbls:=λb ps q=>⟨#[],by rw [Ak (BE q hn),q];simp⟩
theorem Un.write (mu:iL (H x)) (he:e=x\/H e=some (.own x)) (k:∀b u,b≠e->h.get? b=some u->h'.get? b=some u) (eI:∃u,h'.get? e=some u):Un fs ex H (upd H x o) h h':=by
 have hx:∀b,H b=none->b≠x:=λb n z=>by subst z;rw [n] at mu;exact mu
 have hb:∀b,H b=none->b≠e:=λb n z=>by
  subst z
  rcases he with r|r
  ·exact hx b n r
  ·rw [n] at r;cases r
 have hm:∀b u,H b=some u->¬iL (some u)->b≠x:=λb u q nm z=>by subst z;rw [q] at mu;exact nm mu
 refine ⟨λb u q n _ _=>k b u (hb b n) q,λb u q n _ _=>⟨u.slots,k b u (hb b n) q⟩,λb u q n _=>by rw [Ak (hx b n)];exact n,λb u q _=> ?_,
  λb xs q=>by rw [Ak (hm b _ q λz=>z)];exact q,λb u xs q=>by rw [Ak (hm b _ q λz=>z)];exact q,λb ps q=>⟨#[],by rw [Ak (hm b _ q λz=>z),q];simp⟩⟩
 by_cases Tq:b=e
 ·subst Tq;exact eI
 ·exact ⟨u,k b u Tq q⟩
theorem Un.mono (u:Un fs ex H H1 h h1) (hs:∀b∈fs,b∈fs') (hx:∀b∈ex,b∈ex'):Un fs' ex' H H1 h h1:=
 ⟨λb ob q n hb he=>u.keep b ob q n (λz=>hb (hs b z)) λz=>he (hx b z),λ_ _ q n _ he=>u.any q n λz=>he (hx _ z),λb ob q n he=>u.free b ob q n λz=>he (hx b z),λb ob q he=>u.there b ob q λz=>he (hx b z),u.tups,u.frzs,u.tbls⟩
end
def ip (h:Heap) (H:Hp):List Addr:=(List.range h.objs.size).filter λa=>(H a).isSome
def O7 (h:Heap) (H:Hp):Heap:=PySem.W.hideAll h (ip h H)
theorem VP (h:Heap) (H:Hp):(O7 h H).objs.size=h.objs.size:=PySem.W.hideAll_size _ _
theorem W0 {h:Heap} {H:Hp} {b:Addr} {o:Obj} (e:h.get? b=some o) (n:H b=none):(O7 h H).get? b=some o:=
 PySem.W.hideAll_get _ e λhm=>by
  have q:(H b).isSome=true:=(List.mem_filter.mp hm).2
  rw [n] at q;simp at q
theorem ZV {h:Heap} {H:Hp} {b:Addr} {o:Obj} (e:(O7 h H).get? b=some o):h.get? b=some o/\H b=none:=by
 have e':h.get? b=some o:=PySem.W.of_hideAll (ip h H) e
 refine ⟨e', ?_⟩
 cases q:H b with
 | none=>rfl
 | some x=>
   have hm:b∈ip h H:=List.mem_filter.mpr ⟨List.mem_range.mpr (Heap.lt_size e'),by simp [q]⟩
   have z:(O7 h H).get? b=none:=PySem.W.hideAll_none (ip h H) hm
   rw [z] at e;cases e
def Yw (g h:Heap) (L:Addr):List (Addr×Obj):=(List.range h.objs.size).filterMap λa=>if a=L\/(g.get? a).isSome=true then none else (h.get? a).map λo=>(a,o)
def rest (g h:Heap) (L d:Addr):List (Addr×Obj):=(Yw g h L).filter λp=>decide (p.1≠d)
end L2
namespace L2
open PySem PySem.Spec PyProof.Rows
structure Mod (K:PySem.W.Frag) (mg:Str->Option Value) (base:Heap):Prop where
 kin:K.In base
 glob:base.Ns mainGlobals mg
 blt:∃mb,base.Ns builtinsNs mb/\∀x:Str,x≠"__name__" ->mb x=bootBuiltins x
 nolimit:base.NoLimit
structure Cx where
 prog:Program
 w:World
 K:PySem.W.Frag
 mg:Str->Option Value
 base:Heap
 A:Around
 N:List Str
 s₀:Shared
 H₀:Hp
 env:Env
 outer:List Env
 stack:List Env
 ex:List Addr
 fn:Str->Bool
 calm:Bool
 pn:List (Addr×Obj)
 xe:Value->Shared->Prop
def Vy (l:List Env):List Addr:=l.filterMap (·.frame)
abbrev Cx.fs (X:Cx):List Addr:=Vy X.outer
def bS (sc:Scope) (x:Str):Prop:=sc.names.lookup x=some .local\/sc.names.lookup x=some .cell\/sc.names.lookup x=some .free
def Loc (sc:Scope) (x:Str):Prop:=sc.names.lookup x=some .local\/sc.names.lookup x=some .cell
def Look (env:Env) (h:Heap) (m:Str->Option Value) (x:Str) (u:Value):Prop:=
 (env.kindOf x=some .local/\m x=some u)\/((env.kindOf x=some .cell\/env.kindOf x=some .free)/\∃c,env.cells.lookup x=some c/\h.IsCell c (some u))
structure Cx.Ok (X:Cx):Prop where
 mod:Mod X.K X.mg X.base
 kind:X.env.scope.kind= .function
 glob:X.env.globals=mainGlobals
 blt:X.env.builtins=builtinsNs
 above:X.s₀.heap.objs.size<=X.env.locals
 inj:∀x y c,X.env.cells.lookup x=some c->X.env.cells.lookup y=some c->x=y
 has:∀x,(X.env.kindOf x=some .cell\/X.env.kindOf x=some .free)->∃c,X.env.cells.lookup x=some c
 cab:∀x c,X.fn x=true->X.env.cells.lookup x=some c->X.s₀.heap.objs.size<=c
 hd:X.calm=true->X.A.handled=none
 frames:X.A.frames=some X.stack
 stk:X.stack=X.outer\/(X.stack=X.env::X.outer/\X.env.frame=some X.env.locals)
 exf:∀b∈X.ex,b≠X.env.locals/\∀x c,X.env.cells.lookup x=some c->c≠b
 bs:∀b o,X.base.get? b=some o->X.s₀.heap.get? b=some o/\X.H₀ b=none
 bsz:X.base.objs.size<=X.s₀.heap.objs.size
 noex:∀b o,X.base.get? b=some o->b ∉ X.ex
 exfs:∀b∈X.ex,b ∉ X.fs
 funs:X.s₀.heap.FunFrames X.base X.outer
 frf:∀b∈X.fs,X.H₀ b=none
structure Inv (X:Cx) (pins:List (Addr×Obj)) (σ:List (Option V)) (H:Hp) (s:Shared):Prop where
 ok:X.Ok
 os:s.os=X.s₀.os
 bare:AllBare s.gens
 base:Un X.fs X.ex X.H₀ H X.s₀.heap s.heap
 loc:∃m,s.heap.Ns X.env.locals m/\∀(i:Nat) (x:Str) (v:V),X.N[i]? =some x->σ[i]? =some (some v)->bS X.env.scope x->∃u,RelV v u/\Look X.env s.heap m x u
 cell:∀x c,X.env.cells.lookup x=some c->∃v,s.heap.IsCell c v
 free:H X.env.locals=none
 freeC:∀x c,X.env.cells.lookup x=some c->H c=none
 pin:∀p∈X.pn++pins,s.heap.get? p.1=some p.2/\H p.1=none/\p.1≠X.env.locals/\p.1 ∉ X.fs/\∀v,p.2.data≠ .cell v
 hok:Ly X.prog X.w H s.heap
 len:σ.length=X.N.length
section
variable {X:Cx} {pins:List (Addr×Obj)} {σ:List (Option V)} {H H':Hp} {s:Shared} {h':Heap}
theorem Cx.Ok.nofr (ok:X.Ok) {b:Addr} {o:Obj} (e:X.base.get? b=some o):b ∉ X.fs:=λhb=>by
 have:=(ok.funs.mem hb).1
 rw [e] at this;cases this
theorem Inv.bs (I:Inv X pins σ H s):∀b o,X.base.get? b=some o->s.heap.get? b=some o/\H b=none:=λb o e=>
 ⟨I.base.keep b o (I.ok.bs b o e).1 (I.ok.bs b o e).2 (I.ok.nofr e) (I.ok.noex b o e),I.base.free b o (I.ok.bs b o e).1 (I.ok.bs b o e).2 (I.ok.noex b o e)⟩
theorem Inv.bk (I:Inv X pins σ H s):∀b o,X.base.get? b=some o->s.heap.get? b=some o:=λb o e=>(I.bs b o e).1
theorem Inv.mod (I:Inv X pins σ H s):Mod X.K X.mg X.base:=I.ok.mod
theorem Inv.kIn (I:Inv X pins σ H s):X.K.In s.heap:=I.ok.mod.kin.keeps I.bk
theorem Inv.nolimit (I:Inv X pins σ H s):s.heap.NoLimit:=I.ok.mod.nolimit.keeps I.bk
theorem Inv.fr (I:Inv X pins σ H s):∃m,Fr X.base X.env.locals s.heap m:=
 let ⟨m,hn,_⟩:=I.loc
 ⟨m,hn,I.bk,Nat.le_trans I.ok.bsz I.ok.above⟩
theorem Inv.lt (I:Inv X pins σ H s):X.env.locals<s.heap.objs.size:=let ⟨_,hn,_⟩:=I.loc;hn.lt
theorem Inv.sz (I:Inv X pins σ H s):X.s₀.heap.objs.size<=s.heap.objs.size:=Nat.le_trans I.ok.above (Nat.le_of_lt I.lt)
theorem Inv.nofs (I:Inv X pins σ H s) {a:Addr} (h:s.heap.objs.size<=a):a ∉ X.fs:=λhb=>by
 obtain ⟨_,o,ho,_⟩:=I.ok.funs.mem hb
 exact absurd (Nat.lt_of_lt_of_le (Heap.lt_size ho) (Nat.le_trans I.sz h)) (Nat.lt_irrefl _)
theorem Inv.cne (I:Inv X pins σ H s):∀x c,X.env.cells.lookup x=some c->c≠X.env.locals:=λx c e z=>by
 obtain ⟨v,o,ho,hd⟩:=I.cell x c e
 obtain ⟨m,⟨o',es,ep,Q8,aW,_⟩,_⟩:=I.loc
 rw [z,Q8] at ho;cases ho;rw [aW] at hd;cases hd
theorem Inv.funs (I:Inv X pins σ H s):s.heap.FunFrames X.base X.outer:=by
 have all:∀(l:List Env),(∀b∈Vy l,b∈X.fs)->X.s₀.heap.FunFrames X.base l->s.heap.FunFrames X.base l:=by
  intro l
  induction l with
  | nil=>intro _ _;trivial
  | cons env r ih=>
    intro hs hl
    obtain ⟨hk,⟨L,o,hf,hn,ho,hd⟩,hr⟩:=hl
    have hL:L∈X.fs:=hs L (by unfold Vy;rw [List.filterMap_cons,hf];exact List.mem_cons_self)
    obtain ⟨sl,e⟩:=I.base.slot L o ho (I.ok.frf L hL) hL λz=>I.ok.exfs L z hL
    exact ⟨hk,⟨L,_,hf,hn,e,hd⟩,ih (λb hb=>hs b (by unfold Vy;rw [List.filterMap_cons,hf];exact List.mem_cons_of_mem _ hb)) hr⟩
 exact all X.outer (λ_ hb=>hb) I.ok.funs
theorem Inv.stack (I:Inv X pins σ H s):s.heap.FunFrames X.base X.stack:=by
 rcases I.ok.stk with e|⟨e,hf⟩
 ·rw [e];exact I.funs
 ·rw [e]
  obtain ⟨m,hn,_⟩:=I.loc
  refine .cons (by rw [I.ok.kind];decide) hf hn ?_ I.funs
  exact Heap.get?_none_of_le (Nat.le_trans I.ok.bsz I.ok.above)
theorem Inv.stkSub (I:Inv X pins σ H s):∀b∈Vy X.stack,b∈X.env.locals::X.fs:=λb hb=>by
 rcases I.ok.stk with e|⟨e,hf⟩
 ·rw [e] at hb;exact List.mem_cons_of_mem _ hb
 ·rw [e] at hb
  unfold Vy at hb
  rw [List.filterMap_cons,hf] at hb
  exact hb
theorem Inv.stkFree (I:Inv X pins σ H s):∀b∈Vy X.stack,H b=none:=λb hb=>by
 rcases List.mem_cons.mp (I.stkSub b hb) with e|hb
 ·rw [e];exact I.free
 ·obtain ⟨_,o,ho,_⟩:=I.ok.funs.mem hb
  exact I.base.free b o ho (I.ok.frf b hb) λz=>I.ok.exfs b z hb
theorem Inv.step {g':Array GenState} {t':Nat} {d':Drawn} {ch:List Addr} (I:Inv X pins σ H s)
 (LK:∀b∈ch,(b∈X.ex\/X.s₀.heap.objs.size<=b)/\b≠X.env.locals/\(∀x c,X.env.cells.lookup x=some c->c≠b)/\∀p∈X.pn++pins,p.1≠b)
 (keep:∀b o,b≠X.env.locals->b ∉ X.fs->b ∉ ch->s.heap.get? b=some o->H b=none->h'.get? b=some o)
 (slot:∀b o,b≠X.env.locals->b∈X.fs->b ∉ ch->s.heap.get? b=some o->H b=none->∃sl,h'.get? b=some {o with slots:=sl}) (free:∀b o,b ∉ ch->s.heap.get? b=some o->H b=none->H' b=none)
 (there:∀b o,b ∉ ch->s.heap.get? b=some o->∃o',h'.get? b=some o')
 (tups:∀b xs,H b=some (.tup xs)->H' b=some (.tup xs)) (frzs:∀b o u,H b=some (.frz o u)->H' b=some (.frz o u)) (tbls:∀b ps,H b=some (.tbl ps)->∃more,H' b=some (.tbl (ps++more)))
 (ns:∀m,s.heap.Ns X.env.locals m->h'.Ns X.env.locals m) (hok:Ly X.prog X.w H' h') (hg:AllBare g'):
 Inv X pins σ H' {s with heap:=h',gens:=g',drawn:=d',toks:=t'}:=by
 have neL:∀b o,X.s₀.heap.get? b=some o->b≠X.env.locals:=λb o e=>Nat.ne_of_lt (Nat.lt_of_lt_of_le (Heap.lt_size e) I.ok.above)
 have neC:∀b o,X.s₀.heap.get? b=some o->b ∉ X.ex->b ∉ ch:=λb o e hx hb=>by
  rcases (LK b hb).1 with z|z
  ·exact hx z
  ·exact absurd (Nat.lt_of_lt_of_le (Heap.lt_size e) z) (Nat.lt_irrefl _)
 have cellK:∀x c,X.env.cells.lookup x=some c->∀v,s.heap.IsCell c v->h'.IsCell c v:=λx c e v ⟨o,ho,hd⟩=>by
  have nch:c ∉ ch:=λz=>(LK c z).2.2.1 x c e rfl
  by_cases hc:c∈X.fs
  ·obtain ⟨sl,q⟩:=slot c o (I.cne x c e) hc nch ho (I.freeC x c e)
   exact ⟨_,q,hd⟩
  ·exact ⟨o,keep c o (I.cne x c e) hc nch ho (I.freeC x c e),hd⟩
 refine ⟨I.ok,I.os,hg,⟨λb o e n hb hx=> ?_,λb o e n hb hx=> ?_,λb o e n hx=> ?_,λb o e hx=> ?_,λb xs e=>tups b xs (I.base.tups b xs e),λb o xs e=>frzs b o xs (I.base.frzs b o xs e),λb ps e=> ?_⟩, ?_,λx c e=> ?_, ?_,λx c e=> ?_,λp hp=> ?_,hok,I.len⟩
 ·exact keep b o (neL b o e) hb (neC b o e hx) (I.base.keep b o e n hb hx) (I.base.free b o e n hx)
 ·obtain ⟨sl,e1⟩:=I.base.slot b o e n hb hx
  obtain ⟨sl',e2⟩:=slot b _ (neL b o e) hb (neC b o e hx) e1 (I.base.free b o e n hx)
  exact ⟨sl',e2⟩
 ·obtain ⟨o',e1⟩:=I.base.there b o e hx
  exact free b o' (neC b o e hx) e1 (I.base.free b o e n hx)
 ·obtain ⟨o',e1⟩:=I.base.there b o e hx
  exact there b o' (neC b o e hx) e1
 ·obtain ⟨m1,e1⟩:=I.base.tbls b ps e
  obtain ⟨m2,e2⟩:=tbls b _ e1
  exact ⟨m1++m2,by rw [e2,Array.append_assoc]⟩
 ·obtain ⟨m,hn,hl⟩:=I.loc
  refine ⟨m,ns m hn,λi x v e1 e2 e3=> ?_⟩
  obtain ⟨u,r,l⟩:=hl i x v e1 e2 e3
  refine ⟨u,r, ?_⟩
  rcases l with l|⟨k,c,e,z⟩
  ·exact .inl l
  ·exact .inr ⟨k,c,e,cellK x c e _ z⟩
 ·obtain ⟨v,z⟩:=I.cell x c e
  exact ⟨v,cellK x c e v z⟩
 ·obtain ⟨m,⟨o,_,_,ho,_⟩,_⟩:=I.loc
  exact free _ o (λz=>(LK _ z).2.1 rfl) ho I.free
 ·obtain ⟨v,o,ho,hd⟩:=I.cell x c e
  exact free c o (λz=>(LK c z).2.2.1 x c e rfl) ho (I.freeC x c e)
 ·obtain ⟨e,n,ne,nf,d⟩:=I.pin p hp
  have nch:p.1 ∉ ch:=λz=>(LK p.1 z).2.2.2 p hp rfl
  exact ⟨keep p.1 p.2 ne nf nch e n,free p.1 p.2 nch e n,ne,nf,d⟩
theorem Inv.un {t':Nat} (I:Inv X pins σ H s) (u:Un X.fs [] H H' s.heap h') (hok:Ly X.prog X.w H' h'):Inv X pins σ H' {s with heap:=h',toks:=t'}:=by
 obtain ⟨m,⟨o,es,ep,ho,r⟩,_⟩:=id I.loc
 obtain ⟨sl,hL⟩:=u.any ho I.free (by simp)
 exact I.step (g':=s.gens) (d':=s.drawn) (ch:= []) (λ_ z=>nomatch z) (λb o _ hb _ e n=>u.keep b o e n hb (by simp)) (λb o _ hb _ e n=>u.slot b o e n hb (by simp)) (λb o _ e n=>u.free b o e n (by simp)) (λb o _ e=>u.there b o e (by simp)) u.tups u.frzs u.tbls (λm' hm=>by
  obtain ⟨o',es',ep',Q8,r'⟩:=hm
  rw [ho] at Q8;cases Q8
  exact ⟨_,es',ep',hL,r'⟩) hok I.bare
theorem Inv.call {g':Array GenState} {t':Nat} {d':Drawn} {ch:List Addr} (I:Inv X pins σ H s) (u:Un (Vy X.stack) ch H H' s.heap h') (hok:Ly X.prog X.w H' h') (hg:AllBare g')
 (LK:∀b∈ch,(b∈X.ex\/X.s₀.heap.objs.size<=b)/\b≠X.env.locals/\(∀x c,X.env.cells.lookup x=some c->c≠b)/\∀p∈X.pn++pins,p.1≠b):
 Inv X pins σ H' {s with heap:=h',gens:=g',drawn:=d',toks:=t'}:=by
 obtain ⟨m,⟨o,es,ep,ho,r⟩,_⟩:=id I.loc
 obtain ⟨sl,hL⟩:=u.any ho I.free λz=>(LK _ z).2.1 rfl
 exact I.step (ch:=ch) LK (λb o hL hb hc e n=>u.keep b o e n (λz=>(List.mem_cons.mp (I.stkSub b z)).elim hL hb) hc) (λb o _ _ hc e n=>u.any e n hc) (λb o hc e n=>u.free b o e n hc) (λb o hc e=>u.there b o e hc) u.tups u.frzs u.tbls (λm' hm=>by
  obtain ⟨o',es',ep',Q8,r'⟩:=hm
  rw [ho] at Q8;cases Q8
  exact ⟨_,es',ep',hL,r'⟩) hok hg
theorem Inv.turned {t':Nat} {it:Addr} (I:Inv X pins σ H s) (k:∀b o,b≠it->s.heap.get? b=some o->h'.get? b=some o) (hn:H it=none) (hL:it≠X.env.locals)
 (h1:it∈X.ex\/X.s₀.heap.objs.size<=it) (h2:∀x c,X.env.cells.lookup x=some c->c≠it) (h3:∀p∈X.pn++pins,p.1≠it):Inv X pins σ H {s with heap:=h',toks:=t'}:=by
 have nit:∀b u,H b=some u->b≠it:=λb u e z=>by rw [z,hn] at e;cases e
 refine I.step (g':=s.gens) (d':=s.drawn) (ch:= [it]) (λb hb=> ?_) (λb o _ _ hc e _=>k b o (λz=>hc (by simp [z])) e) (λb o _ _ hc e _=>⟨o.slots,k b o (λz=>hc (by simp [z])) e⟩) (λ_ _ _ _ n=>n)
  (λb o hc e=>⟨o,k b o (λz=>hc (by simp [z])) e⟩) (λ_ _ e=>e) (λ_ _ _ e=>e) (λb ps e=>⟨#[],by rw [e];simp⟩) (λm hm=> ?_) (λb u e=> ?_) I.bare
 ·have e:b=it:=by simpa using hb
  subst e
  exact ⟨h1,hL,h2,h3⟩
 ·obtain ⟨o,es,ep,ho,r⟩:=hm
  exact ⟨o,es,ep,k _ o (Ne.symm hL) ho,r⟩
 ·refine (I.hok b u e).stay (λc v hc q=>k c v ?_ q) (λ_ q=>q) λ_ _ q=>q
  rcases hc with z|z
  ·rw [z];exact nit b u e
  ·exact nit c _ z
theorem Inv.tok (I:Inv X pins σ H s) (t:Nat):Inv X pins σ H {s with toks:=t}:=I.un (h':=s.heap) (t':=t) Un.refl I.hok
theorem Inv.kept {t':Nat} (I:Inv X pins σ H s) (k:∀b u,s.heap.get? b=some u->h'.get? b=some u):Inv X pins σ H {s with heap:=h',toks:=t'}:=I.un (Un.kept k) (I.hok.kept k)
theorem Inv.laid {a:Addr} {o:HO} {t':Nat} (I:Inv X pins σ H s) (k:∀b u,s.heap.get? b=some u->h'.get? b=some u) (hp:s.heap.objs.size<=a) (new:ES X.prog X.w (upd H a o) h' a o):
 Inv X pins σ (upd H a o) {s with heap:=h',toks:=t'}:=I.un (Un.laid k hp (I.hok.fresh hp)) (I.hok.laid k hp new)
theorem Inv.write {x e:Addr} {o:HO} {t':Nat} (I:Inv X pins σ H s) (mu:iL (H x)) (he:e=x\/H e=some (.own x)) (k:∀b u,b≠e->s.heap.get? b=some u->h'.get? b=some u) (eI:∃u,h'.get? e=some u)
 (new:ES X.prog X.w (upd H x o) h' x o):Inv X pins σ (upd H x o) {s with heap:=h',toks:=t'}:=I.un (Un.write mu he k eI) (I.hok.write mu he k eI new)
theorem Inv.weak {σ':List (Option V)} (I:Inv X pins σ H s) (hl:σ'.length=σ.length) (w:∀(i:Nat) v,σ'[i]? =some (some v)->σ[i]? =some (some v)):Inv X pins σ' H s:=
 ⟨I.ok,I.os,I.bare,I.base,let ⟨m,hn,jf⟩:=I.loc;⟨m,hn,λi x v e1 e2 e3=>jf i x v e1 (w i v e2) e3⟩,I.cell,I.free,I.freeC,I.pin,I.hok,hl.trans I.len⟩
theorem Inv.pins_of {pins':List (Addr×Obj)} (I:Inv X pins σ H s) (h:∀p∈pins',s.heap.get? p.1=some p.2/\H p.1=none/\p.1≠X.env.locals/\p.1 ∉ X.fs/\∀v,p.2.data≠ .cell v):Inv X pins' σ H s:=
 ⟨I.ok,I.os,I.bare,I.base,I.loc,I.cell,I.free,I.freeC,λp hp=>(List.mem_append.mp hp).elim (λz=>I.pin p (List.mem_append_left _ z)) (h p),I.hok,I.len⟩
theorem RH {N:List Str} (hN:N.Nodup) {i j:Nat} {x:Str} (a:N[i]? =some x) (b:N[j]? =some x):i=j:=by
 obtain ⟨h1,e1⟩:=List.getElem?_eq_some_iff.mp a
 obtain ⟨h2,e2⟩:=List.getElem?_eq_some_iff.mp b
 exact (List.getElem_inj hN).mp (e1.trans e2.symm)
theorem OX {M:Model} {A:Around} {E:Value->Shared->Prop} {i:Nat} {x:Str} {v:V} {u:Value} {Q:Unit->Shared->Prop} (I:Inv X pins σ H s) (hN:X.N.Nodup) (hi:X.N[i]? =some x) (hx:Loc X.env.scope x) (r:RelV v u)
 (h:∀s',Inv X pins (σ.set i (some v)) H s'->(∃a,Heap.SameBut a s.heap s'.heap/\(a=X.env.locals\/X.env.cells.lookup x=some a))->Q () s') (hf:X.fn x=true\/X.env.scope.names.lookup x=some .local:=by first | exact .inl rfl|exact .inr rfl|assumption):wpAny M A (storeName X.env x u) Q E s:=by
 obtain ⟨m,hn,hl⟩:=id I.loc
 have jX:(X.env.scope.kind == .class||(X.env.scope.kind == .module&&X.env.locals != X.env.globals))=false:=by rw [I.ok.kind];rfl
 have hiσ:i<σ.length:=by rw [I.len];exact (List.getElem?_eq_some_iff.mp hi).1
 have cne:=I.cne
 have tracked:∀{a:Addr} {h':Heap},(∃o,s.heap.get? a=some o/\H a=none)->Heap.SameBut a s.heap h'->Ly X.prog X.w H h':=λ{a h'} ha hs b ob e=>by
  obtain ⟨_,_,aX⟩:=ha
  refine (I.hok b ob e).stay (λc w' hc q=>(hs.2 c ?_).trans q) (λ_ q=>q) λ_ _ q=>q
  rintro rfl
  rcases hc with rfl|hc
  ·rw [aX] at e;cases e
  ·rw [aX] at hc;cases hc
 rcases hx with hk|hk
 ·refine wpAny_storeName_local hk hn (λh' pW hs=> ?_) jX
  obtain ⟨oL,_,_,pZ,_⟩:=id hn
  refine h _ ⟨I.ok,I.os,I.bare,⟨λb o e n hb hx=> ?_,λb o e n hb hx=> ?_,I.base.free,λb o e hx=> ?_,I.base.tups,I.base.frzs,I.base.tbls⟩,⟨_,pW,λj y v' e1 e2 e3=> ?_⟩,λy c e=> ?_,I.free,I.freeC,λp hp=> ?_,tracked ⟨oL,pZ,I.free⟩ hs,by simpa using I.len⟩ ⟨_,hs, .inl rfl⟩
  ·exact (hs.2 b (Nat.ne_of_lt (Nat.lt_of_lt_of_le (Heap.lt_size e) I.ok.above))).trans (I.base.keep b o e n hb hx)
  ·obtain ⟨sl,e1⟩:=I.base.slot b o e n hb hx
   exact ⟨sl,(hs.2 b (Nat.ne_of_lt (Nat.lt_of_lt_of_le (Heap.lt_size e) I.ok.above))).trans e1⟩
  ·obtain ⟨o',e1⟩:=I.base.there b o e hx
   exact ⟨o',(hs.2 b (Nat.ne_of_lt (Nat.lt_of_lt_of_le (Heap.lt_size e) I.ok.above))).trans e1⟩
  ·by_cases hj:j=i
   ·subst hj
    rw [hi] at e1;cases e1
    rw [List.getElem?_set_self hiσ] at e2
    cases e2
    exact ⟨u,r, .inl ⟨hk,by simp⟩⟩
   ·rw [List.getElem?_set_ne (Ne.symm hj)] at e2
    obtain ⟨u',r',q⟩:=hl j y v' e1 e2 e3
    refine ⟨u',r', ?_⟩
    rcases q with ⟨k,e⟩|⟨k,c,e,z⟩
    ·refine .inl ⟨k, ?_⟩
     have:y≠x:=λe=>hj (RH hN e1 (e ▸ hi))
     simp [this,e]
    ·exact .inr ⟨k,c,e,z.sameBut hs (cne y c e)⟩
  ·obtain ⟨w',z⟩:=I.cell y c e
   exact ⟨w',z.sameBut hs (cne y c e)⟩
  ·obtain ⟨e,n,ne,nf,d⟩:=I.pin p hp
   exact ⟨(hs.2 p.1 ne).trans e,n,ne,nf,d⟩
 ·have jZ:X.fn x=true:=by
   rcases hf with z|z
   ·exact z
   ·rw [z] at hk;cases hk
  obtain ⟨c,hc⟩:=I.ok.has x (.inl hk)
  obtain ⟨w',z⟩:=I.cell x c hc
  refine wpAny_storeName_cell I.ok.kind hk hc z (λh' l7 hs=> ?_)
  obtain ⟨oc,mF,jm⟩:=id z
  refine h {s with heap:=h'} ⟨I.ok,I.os,I.bare,⟨λb o e n hb hx=> ?_,λb o e n hb hx=> ?_,I.base.free,λb o e hx=> ?_,I.base.tups,I.base.frzs,I.base.tbls⟩,⟨m,hn.sameBut hs (Ne.symm (cne x c hc)),λj y v' e1 e2 e3=> ?_⟩,λy c' e=> ?_,I.free,I.freeC,λp hp=> ?_,tracked ⟨oc,mF,I.freeC x c hc⟩ hs,by simpa using I.len⟩ ⟨c,hs, .inr hc⟩
  ·exact (hs.2 b (Nat.ne_of_lt (Nat.lt_of_lt_of_le (Heap.lt_size e) (I.ok.cab x c jZ hc)))).trans (I.base.keep b o e n hb hx)
  ·obtain ⟨sl,e1⟩:=I.base.slot b o e n hb hx
   exact ⟨sl,(hs.2 b (Nat.ne_of_lt (Nat.lt_of_lt_of_le (Heap.lt_size e) (I.ok.cab x c jZ hc)))).trans e1⟩
  ·obtain ⟨o',e1⟩:=I.base.there b o e hx
   exact ⟨o',(hs.2 b (Nat.ne_of_lt (Nat.lt_of_lt_of_le (Heap.lt_size e) (I.ok.cab x c jZ hc)))).trans e1⟩
  ·by_cases hj:j=i
   ·subst hj
    rw [hi] at e1;cases e1
    rw [List.getElem?_set_self hiσ] at e2
    cases e2
    exact ⟨u,r, .inr ⟨.inl hk,c,hc,l7⟩⟩
   ·rw [List.getElem?_set_ne (Ne.symm hj)] at e2
    obtain ⟨u',r',q⟩:=hl j y v' e1 e2 e3
    refine ⟨u',r', ?_⟩
    rcases q with q|⟨k,c',e,z'⟩
    ·exact .inl q
    ·refine .inr ⟨k,c',e,z'.sameBut hs ?_⟩
     rintro rfl
     exact hj (RH hN e1 (I.ok.inj _ _ _ e hc ▸ hi))
  ·by_cases l8:c'=c
   ·subst l8;exact ⟨_,l7⟩
   ·obtain ⟨w2,z2⟩:=I.cell y c' e
    exact ⟨w2,z2.sameBut hs l8⟩
  ·obtain ⟨e,n,ne,nf,d⟩:=I.pin p hp
   refine ⟨(hs.2 p.1 ?_).trans e,n,ne,nf,d⟩
   intro q
   rw [q,mF] at e
   have q':oc=p.2:=Option.some.inj e
   exact d w' (by rw [<-q'];exact jm)
theorem GT {M:Model} {A:Around} {E:Value->Shared->Prop} {i:Nat} {x:Str} {v:V} {u:Value} {Q:Unit->Shared->Prop} (I:Inv X pins σ H s) (hN:X.N.Nodup) (hi:X.N[i]? =some x) (hx:Loc X.env.scope x) (r:RelV v u)
 (h:∀s',Inv X pins (σ.set i (some v)) H s'->Q () s') (hf:X.fn x=true\/X.env.scope.names.lookup x=some .local:=by first | exact .inl rfl|exact .inr rfl|assumption):wpAny M A (storeName X.env x u) Q E s:=
 OX I hN hi hx r (λs' I' _=>h s' I') hf
theorem Inv.call' {s':Shared} {ch:List Addr} (I:Inv X pins σ H s) (ho:s'.os=s.os) (u:Un (Vy X.stack) ch H H' s.heap s'.heap) (hok:Ly X.prog X.w H' s'.heap) (hg:AllBare s'.gens)
 (LK:∀b∈ch,(b∈X.ex\/X.s₀.heap.objs.size<=b)/\b≠X.env.locals/\(∀x c,X.env.cells.lookup x=some c->c≠b)/\∀p∈X.pn++pins,p.1≠b):Inv X pins σ H' s':=by
 obtain ⟨h',g',d',t',o'⟩:=s'
 have e:o'=s.os:=ho
 subst e
 exact I.call (g':=g') (t':=t') (d':=d') u hok hg LK
end
abbrev XK:=Value->Option Addr->Hp->Prop
abbrev St:=List (Option V)
abbrev VK:=V->Hp->Prop
abbrev TE:=St->Hp->VK->Prop
abbrev TT:=St->Hp->(Bool->Hp->Prop)->Prop
abbrev TA:=St->Hp->(List V->Hp->Prop)->Prop
structure Qc where
 nx:St->Hp->Prop
 rt:VK
 bk:St->Hp->Prop:=λ_ _=>False
 ct:St->Hp->Prop:=λ_ _=>False
abbrev TS:=Qc->St->Hp->Prop
def EP (X:Cx) (pins:List (Addr×Obj)) (σ:St) (Q:VK) (u:Value) (s':Shared):Prop:=∃v H',Inv X pins σ H' s'/\RelV v u/\Q v H'
def TP (X:Cx) (pins:List (Addr×Obj)) (σ:St) (Q:Bool->Hp->Prop) (b:Bool) (s':Shared):Prop:=∃H',Inv X pins σ H' s'/\Q b H'
def AP (X:Cx) (pins:List (Addr×Obj)) (σ:St) (Q:List V->Hp->Prop) (us:List Value) (s':Shared):Prop:=∃vs H',Inv X pins σ H' s'/\Au vs us/\Q vs H'
def SP (X:Cx) (pins:List (Addr×Obj)) (D:Qc) (f:Flow) (s':Shared):Prop:=
 match f with
 | .next=>∃σ' H',Inv X pins σ' H' s'/\D.nx σ' H'
 | .brk=>∃σ' H',Inv X pins σ' H' s'/\D.bk σ' H'
 | .cont=>∃σ' H',Inv X pins σ' H' s'/\D.ct σ' H'
 | .ret u=>∃v σ' H',Inv X pins σ' H' s'/\RelV v u/\D.rt v H'
def PE (X:Cx) (e:Expr) (t:TE):Prop:=
 ∀(pins:List (Addr×Obj)) (s:Shared) (σ:St) (H:Hp) (Q:VK),Inv X pins σ H s->t σ H Q->wpAny (model X.prog X.w) X.A (eval e X.env) (EP X pins σ Q) X.xe s
def PT (X:Cx) (e:Expr) (t:TT):Prop:=
 ∀(pins:List (Addr×Obj)) (s:Shared) (σ:St) (H:Hp) (Q:Bool->Hp->Prop),Inv X pins σ H s->t σ H Q->wpAny (model X.prog X.w) X.A (isTrue e X.env (eval e X.env)) (TP X pins σ Q) X.xe s
def PW (X:Cx) (e:Expr) (t:TT):Prop:=
 ∀(whole:Sem Value) (pins:List (Addr×Obj)) (s:Shared) (σ:St) (H:Hp) (Q:Bool->Hp->Prop),Inv X pins σ H s->t σ H Q->wpAny (model X.prog X.w) X.A (isTrue e X.env whole) (TP X pins σ Q) X.xe s
theorem PW.pt {X:Cx} {e:Expr} {t:TT} (h:PW X e t):PT X e t:=h _
def PA (X:Cx) (es:List Expr) (t:TA):Prop:=
 ∀(pos:Pos) (pins:List (Addr×Obj)) (s:Shared) (σ:St) (H:Hp) (Q:List V->Hp->Prop),Inv X pins σ H s->t σ H Q->wpAny (model X.prog X.w) X.A (spliced (backTo pos (starEach es X.env))) (AP X pins σ Q) X.xe s
def PS (X:Cx) (st:Stmt) (t:TS):Prop:=
 ∀(pins:List (Addr×Obj)) (s:Shared) (σ:St) (H:Hp) (D:Qc),Inv X pins σ H s->t D σ H->wpAny (model X.prog X.w) X.A (exec st X.env) (SP X pins D) X.xe s
def TV (X:Cx) (st:List Stmt) (t:TS):Prop:=
 ∀(pins:List (Addr×Obj)) (s:Shared) (σ:St) (H:Hp) (D:Qc),Inv X pins σ H s->t D σ H->wpAny (model X.prog X.w) X.A (execs st X.env) (SP X pins D) X.xe s
theorem Bq {α:Type} {t:Sem α} {Q Q':α->Shared->Prop} {M:Model} {A:Around} {E:Value->Shared->Prop} {s:Shared} (h:wpAny M A t Q E s) (hQ:∀a s,Q a s->Q' a s):wpAny M A t Q' E s:=wpAny_mono h hQ λ_ _ x=>x
end L2
namespace L2
open PySem PySem.Spec PyProof.Rows
section
variable {X:Cx}
def dj (i:Nat):TE:=λσ H Q=>∃v,σ[i]? =some (some v)/\Q v H
def tC (v:V):TE:=λ_ H Q=>Q v H
theorem Pg {i:Nat} {x:Str} {pos:Pos} (hN:X.N[i]? =some x) (hv:bS X.env.scope x) (hd:(x==("__debug__" :Str))=false:=by decide) (NB:(x==("__classdict__" :Str))=false:=by decide):PE X (.Name x pos) (dj i):=by
 intro pins s σ H Q I h
 obtain ⟨v,e,h⟩:=h
 obtain ⟨m,hn,hl⟩:=I.loc
 obtain ⟨u,r,l⟩:=hl i x v hN e hv
 have fin:EP X pins σ Q u s:=⟨v,H,I,r,h⟩
 rcases l with ⟨hk,hm⟩|⟨hk,c,hc,Tr⟩
 ·exact wpAny_Name (wpAny_loadName_local I.ok.kind hk hn hm fin) hd
 ·rcases hk with hk|hk
  ·exact wpAny_Name (wpAny_loadName_cell I.ok.kind hk hc Tr fin) hd
  ·exact wpAny_Name (wpAny_loadName_free I.ok.kind hk hc Tr fin NB) hd
theorem BM {i j pos}:PE X (.Constant (.int i) j pos) (tC (.int i)):=λ_ _ _ H _ I h=>wpAny_Constant_int ⟨.int i,H,I.tok _,⟨_,rfl⟩,h⟩
theorem gT {b j pos}:PE X (.Constant (.bool b) j pos) (tC (.bl b)):=λ_ _ _ H _ I h=>Constant_bool ⟨.bl b,H,I,rfl,h⟩
theorem c9 {j pos}:PE X (.Constant .none j pos) (tC .non):=λ_ _ _ H _ I h=>Constant_none ⟨.non,H,I,rfl,h⟩
def Gl (X:Cx) (x:Str):Prop:=X.env.kindOf x=some .globalImplicit
theorem ZP {E:Value->Shared->Prop} {pins:List (Addr×Obj)} {s:Shared} {σ:St} {H:Hp} {x:Str} {u:Value} {pos:Pos} {Q:Value->Shared->Prop} (I:Inv X pins σ H s) (hg:Gl X x) (hm:X.mg x=some u) (h:Q u s)
 (hd:(x==("__debug__" :Str))=false:=by decide):wpAny (model X.prog X.w) X.A (eval (.Name x pos) X.env) Q E s:=
 Calls.Name_function_global I.ok.kind hg (Calls.loadGlobal_global (by rw [I.ok.glob];exact I.mod.glob.keeps I.bk) hm h) hd
theorem GD {E:Value->Shared->Prop} {pins:List (Addr×Obj)} {s:Shared} {σ:St} {H:Hp} {x:Str} {u:Value} {pos:Pos} {Q:Value->Shared->Prop} (I:Inv X pins σ H s) (hg:Gl X x) (hm:X.mg x=none) (hv:bootBuiltins x=some u) (h:Q u s)
 (hn:x≠"__name__" :=by decide) (hd:(x==("__debug__" :Str))=false:=by decide):wpAny (model X.prog X.w) X.A (eval (.Name x pos) X.env) Q E s:=by
 obtain ⟨mb,h1,h2⟩:=I.mod.blt
 exact Calls.Name_function_global I.ok.kind hg (Calls.loadGlobal_builtin (by rw [I.ok.glob];exact I.mod.glob.keeps I.bk) hm (by rw [I.ok.blt];exact h1.keeps I.bk) ((h2 x hn).trans hv) h) hd
theorem Zg {x:Str} {v:V} {u:Value} {pos:Pos} (hg:Gl X x) (hm:X.mg x=none) (hv:bootBuiltins x=some u) (r:RelV v u) (hn:x≠"__name__" :=by decide) (hd:(x==("__debug__" :Str))=false:=by decide):PE X (.Name x pos) (tC v):=
 λ_ _ _ H _ I h=>GD I hg hm hv ⟨v,H,I,r,h⟩ hn hd
variable {a b:Expr} {ta tb:TE} {pos:Pos}
def tB (t:TE):TT:=λσ H Q=>t σ H λx H1=>∃c,x= .bl c/\Q c H1
theorem dI {e:Expr} {t:TE} (h:PE X e t) (he:∀whole,isTrue e X.env whole=(do let v <-whole;standAt e.pos;holding [v] (truthy v)):=by intro _;rfl):PT X e (tB t):=by
 intro pins s σ H Q I hw
 refine isTrue_plain (Bq (h pins s σ H _ I hw) λv s1 ⟨x,H1,I1,r1,q1⟩=> ?_) (he _)
 obtain ⟨d,rfl,q⟩:=q1
 cases r1
 exact wpAny_truthy_bool ⟨H1,I1,q⟩
variable {tA tB':TT} {rest:List Expr}
def kA (t u:TT):TT:=λσ H Q=>t σ H λc H1=>if c=true then u σ H1 Q else Q false H1
def qC (t u:TT):TT:=λσ H Q=>t σ H λc H1=>if c=true then Q true H1 else u σ H1 Q
def kI (t:TT):TT:=λσ H Q=>t σ H λc H1=>Q (!c) H1
theorem Zs (ha:PT X a tA):PW X (.BoolOp .And [a] pos) tA:=by
 intro wh pins s σ H Q I h
 refine isTrue_and (Bq (ha pins s σ H Q I h) λc s1 e=> ?_)
 cases c with
 | true=>exact isTrue_and_nil e
 | false=>exact e
theorem dL (ha:PT X a tA):PW X (.BoolOp .Or [a] pos) tA:=by
 intro wh pins s σ H Q I h
 refine isTrue_or (Bq (ha pins s σ H Q I h) λc s1 e=> ?_)
 cases c with
 | false=>exact isTrue_or_nil e
 | true=>exact e
theorem dJ (ha:PT X a tA) (hb:PW X (.BoolOp .And (b::rest) pos) tB'):PW X (.BoolOp .And (a::b::rest) pos) (kA tA tB'):=by
 intro wh pins s σ H Q I h
 refine isTrue_and (Bq (ha pins s σ H _ I h) λc s1 ⟨H1,I1,q1⟩=> ?_)
 cases c with
 | true=>exact hb wh pins s1 σ H1 Q I1 q1
 | false=>exact ⟨H1,I1,q1⟩
theorem gX (ha:PT X a tA) (hb:PW X (.BoolOp .Or (b::rest) pos) tB'):PW X (.BoolOp .Or (a::b::rest) pos) (qC tA tB'):=by
 intro wh pins s σ H Q I h
 refine isTrue_or (Bq (ha pins s σ H _ I h) λc s1 ⟨H1,I1,q1⟩=> ?_)
 cases c with
 | true=>exact ⟨H1,I1,q1⟩
 | false=>exact hb wh pins s1 σ H1 Q I1 q1
theorem dH (ha:PT X a tA):PT X (.UnaryOp .Not a pos) (kI tA):=by
 intro pins s σ H Q I h
 exact isTrue_not (ha pins s σ H (λc H1=>Q (!c) H1) I h)
def hX (ta tb:TE):TE:=λσ H Q=>ta σ H λx H1=>∃c,x= .bl c/\if c=true then tb σ H1 Q else Q (.bl false) H1
def iA (ta:TE):TE:=λσ H Q=>ta σ H λx H1=>∃c,x= .bl c/\Q (.bl (!c)) H1
theorem dB {op} {t:TE} (h:PE X a t):PE X (.BoolOp op [a] pos) t:=λpins s σ H Q I hw=>BoolOp_one (h pins s σ H Q I hw)
theorem c7 (ha:PE X a ta) (hb:PE X (.BoolOp .And (b::rest) pos) tb):PE X (.BoolOp .And (a::b::rest) pos) (hX ta tb):=by
 intro pins s σ H Q I h
 refine BoolOp_and (Bq (ha pins s σ H _ I h) λv s1 ⟨x,H1,I1,r1,q1⟩=> ?_)
 obtain ⟨c,rfl,q1⟩:=q1
 cases r1
 refine wpAny_truthy_bool ?_
 cases c with
 | true=>exact hb pins s1 σ H1 Q I1 q1
 | false=>exact ⟨.bl false,H1,I1,rfl,q1⟩
theorem dA (ha:PE X a ta):PE X (.UnaryOp .Not a pos) (iA ta):=by
 intro pins s σ H Q I h
 refine UnaryOp_ (Bq (ha pins s σ H _ I h) λv s1 ⟨x,H1,I1,r1,q1⟩=> ?_)
 obtain ⟨c,rfl,q1⟩:=q1
 cases r1
 exact not_of (wpAny_truthy_bool ⟨.bl (!c),H1,I1,rfl,q1⟩)
def qB (t:TT) (ta tb:TE):TE:=λσ H Q=>t σ H λc H1=>if c=true then ta σ H1 Q else tb σ H1 Q
theorem Xc {c:Expr} (hc:PT X c tA) (ha:PE X a ta) (hb:PE X b tb):PE X (.IfExp c a b pos) (qB tA ta tb):=by
 intro pins s σ H Q I h
 refine wpAny_IfExp (Bq (hc pins s σ H _ I h) λd s1 ⟨H1,I1,q1⟩=> ?_)
 cases d with
 | true=>exact ha pins s1 σ H1 Q I1 q1
 | false=>exact hb pins s1 σ H1 Q I1 q1
end
end L2
namespace L2
open PySem PySem.Spec PyProof.Rows
def Ff (K:PySem.W.Frag) (H:Hp) (a:Addr) (xs:List V):Prop:=
 Rd H a (.lst xs)\/
  ∃(o:Obj) (its:Array Value) (n:Nat),K.lookup a=some o/\o.cls= .type "list" /\o.dict=none/\o.data= .seq its n/\its.size<=sizeLine/\Au xs its.toList
def Kx (K:PySem.W.Frag) (H:Hp) (a:Addr) (xs:List V):Prop:=
 Rd H a (.tup xs)\/
  ∃(o:Obj) (its:Array Value) (n:Nat),K.lookup a=some o/\o.cls= .type "tuple" /\o.data= .seq its n/\its.size<=sizeLine/\Au xs its.toList
def jL:Value->Option V
 | .none=>some .non
 | .bool b=>some (.bl b)
 | .int i _=>some (.int i)
 | .str x _=>some (.str x)
 | .bytes b _=>some (.byt b)
 | .float b _=>some (.flt b)
 | .ref a=>some (.ref a)
 | .type n=>some (.ty n)
 | _=>none
theorem RelV.abs {x:V} {u:Value} (r:RelV x u):jL u=some x:=by
 cases x with
 | non=>cases r;rfl
 | bl _=>cases r;rfl
 | int _=>obtain ⟨t,rfl⟩:=r;rfl
 | str _=>obtain ⟨t,rfl⟩:=r;rfl
 | byt _=>obtain ⟨t,rfl⟩:=r;rfl
 | flt _=>obtain ⟨t,rfl⟩:=r;rfl
 | ref _=>cases r;rfl
 | ty _=>cases r;rfl
theorem RelV.inj {x y:V} {u:Value} (r:RelV x u) (q:RelV y u):x=y:=Option.some.inj (r.abs.symm.trans q.abs)
theorem Au.inj:∀{xs ys:List V} {us:List Value},Au xs us->Au ys us->xs=ys
 | _,_,_, .nil, .nil=>rfl
 | _,_,_, .cons r t, .cons r' t'=>by rw [r.inj r',Au.inj t t']
section
variable {X:Cx} {pins:List (Addr×Obj)} {σ:St} {H:Hp} {s:Shared} {a:Addr} {xs ys:List V}
theorem Ff.of {K:PySem.W.Frag} (h:H a=some (.lst xs)):Ff K H a xs:= .inl (.inl h)
theorem Kx.of {K:PySem.W.Frag} (h:H a=some (.tup xs)):Kx K H a xs:= .inl (.inl h)
theorem Inv.list (I:Inv X pins σ H s) (h:Ff X.K H a xs):∃its:List Value,Au xs its/\PlainL s.heap a its.toArray/\xs.length<=sizeLine:=by
 rcases h with h|⟨o,its,n,hk,hc,hd,hs,hz,r⟩
 ·obtain ⟨z,its,n,r,e⟩:=h.ok I.hok
  exact ⟨its,r,⟨_,n,e,rfl,rfl,rfl⟩,z⟩
 ·refine ⟨its.toList,r,⟨o,n,I.kIn a o hk,hc,hd,by simpa using hs⟩, ?_⟩
  have e:=r.length
  simp only [Array.length_toList] at e
  omega
theorem Inv.tuple (I:Inv X pins σ H s) (h:Kx X.K H a xs):∃its:List Value,Au xs its/\IsTup s.heap a its.toArray/\xs.length<=sizeLine:=by
 rcases h with h|⟨o,its,n,hk,hc,hs,hz,r⟩
 ·obtain ⟨z,its,r,p⟩:=h.ok I.hok
  exact ⟨its,r,p,z⟩
 ·refine ⟨its.toList,r,⟨o,I.kIn a o hk,hc,n,by simpa using hs⟩, ?_⟩
  have e:=r.length
  simp only [Array.length_toList] at e
  omega
theorem Inv.list_inj (I:Inv X pins σ H s) (h:Ff X.K H a xs) (h':Ff X.K H a ys):xs=ys:=by
 obtain ⟨its,r,⟨o,n,e,_,_,d⟩,_⟩:=I.list h
 obtain ⟨its',r',⟨o',n',e',_,_,d'⟩,_⟩:=I.list h'
 rw [e] at e';cases e'
 rw [d] at d'
 injection d' with d1 _
 have:its=its':=by simpa using congrArg Array.toList d1
 subst this
 exact r.inj r'
theorem Inv.tuple_inj (I:Inv X pins σ H s) (h:Kx X.K H a xs) (h':Kx X.K H a ys):xs=ys:=by
 obtain ⟨its,r,⟨o,e,_,n,d⟩,_⟩:=I.tuple h
 obtain ⟨its',r',⟨o',e',_,n',d'⟩,_⟩:=I.tuple h'
 rw [e] at e';cases e'
 rw [d] at d'
 injection d' with d1 _
 have:its=its':=by simpa using congrArg Array.toList d1
 subst this
 exact r.inj r'
end
abbrev Cx.wish (X:Cx) (E:Value->Shared->Prop):Cx:={X with xe:=E}
abbrev Cx.nox (X:Cx):Cx:=X.wish λ_ _=>False
theorem Cx.Ok.wish {X:Cx} (ok:X.Ok) (E:Value->Shared->Prop):(X.wish E).Ok:=
 ⟨ok.mod,ok.kind,ok.glob,ok.blt,ok.above,ok.inj,ok.has,ok.cab,ok.hd,ok.frames,ok.stk,ok.exf,ok.bs,ok.bsz,ok.noex,ok.exfs,ok.funs,ok.frf⟩
theorem Cx.Ok.unwish {X:Cx} {E:Value->Shared->Prop} (ok:(X.wish E).Ok):X.Ok:=
 ⟨ok.mod,ok.kind,ok.glob,ok.blt,ok.above,ok.inj,ok.has,ok.cab,ok.hd,ok.frames,ok.stk,ok.exf,ok.bs,ok.bsz,ok.noex,ok.exfs,ok.funs,ok.frf⟩
section
variable {X:Cx} {pins:List (Addr×Obj)} {σ:St} {H:Hp} {s:Shared} {E:Value->Shared->Prop}
theorem Inv.wish (I:Inv X pins σ H s) (E:Value->Shared->Prop):Inv (X.wish E) pins σ H s:=⟨I.ok.wish E,I.os,I.bare,I.base,I.loc,I.cell,I.free,I.freeC,I.pin,I.hok,I.len⟩
theorem Inv.unwish (I:Inv (X.wish E) pins σ H s):Inv X pins σ H s:=⟨I.ok.unwish,I.os,I.bare,I.base,I.loc,I.cell,I.free,I.freeC,I.pin,I.hok,I.len⟩
theorem SP.unwish {D:Qc} {f:Flow} {s':Shared} (h:SP (X.wish E) pins D f s'):SP X pins D f s':=by
 cases f with
 | next=>obtain ⟨σ',H',I,q⟩:=h;exact ⟨σ',H',I.unwish,q⟩
 | brk=>obtain ⟨σ',H',I,q⟩:=h;exact ⟨σ',H',I.unwish,q⟩
 | cont=>obtain ⟨σ',H',I,q⟩:=h;exact ⟨σ',H',I.unwish,q⟩
 | ret u=>obtain ⟨v,σ',H',I,r,q⟩:=h;exact ⟨v,σ',H',I.unwish,r,q⟩
theorem PE.nox {e:Expr} {t:TE} (h:PE X.nox e t):PE X e t:=λpins s σ H Q I hw=>
 wpAny_mono (h pins s σ H Q (I.wish _) hw) (λ_ _ ⟨v,H',I',r,q⟩=>⟨v,H',I'.unwish,r,q⟩) λ_ _ z=>False.elim z
theorem PT.nox {e:Expr} {t:TT} (h:PT X.nox e t):PT X e t:=λpins s σ H Q I hw=>
 wpAny_mono (h pins s σ H Q (I.wish _) hw) (λ_ _ ⟨H',I',q⟩=>⟨H',I'.unwish,q⟩) λ_ _ z=>False.elim z
theorem TV.nox {st:List Stmt} {t:TS} (h:TV X.nox st t):TV X st t:=λpins s σ H D I hw=>
 wpAny_mono (h pins s σ H D (I.wish _) hw) (λ_ _ q=>q.unwish) λ_ _ z=>False.elim z
end
section
variable {X:Cx} {st:Stmt} {rest:List Stmt} {t u:TS} {e:Expr} {te:TE} {pos:Pos}
def h9:TS:=λD σ H=>D.nx σ H
def kM (t u:TS):TS:=λD σ H=>t {D with nx:=u D} σ H
theorem Pj:TV X [] h9:=λ_ _ σ H _ I h=>wpAny_execs_nil ⟨σ,H,I,h⟩
theorem DD (h1:PS X st t) (h2:TV X rest u):TV X (st::rest) (kM t u):=by
 intro pins s σ H D I h
 refine wpAny_execs_cons (Bq (h1 pins s σ H {D with nx:=u D} I h) λf s1 q=> ?_)
 cases f with
 | next=>
   obtain ⟨σ',H',I',q⟩:=q
   exact h2 pins s1 σ' H' D I' q
 | ret v=>exact q
 | brk=>exact q
 | cont=>exact q
theorem IS (h1:PS X st t):TV X [st] t:=by
 intro pins s σ H D I h
 refine wpAny_execs_cons (Bq (h1 pins s σ H D I h) λf s1 q=> ?_)
 cases f with
 | next=>exact wpAny_execs_nil q
 | ret v=>exact q
 | brk=>exact q
 | cont=>exact q
theorem Inv.quiet {pins:List (Addr×Obj)} {σ:St} {H:Hp} {s:Shared} (I:Inv X pins σ H s):interactive X.env=false:=by simp [interactive,I.ok.kind]
def bA (te:TE):TS:=λD σ H=>te σ H λ_ H1=>D.nx σ H1
theorem Zr (he:PE X e te) (hs:swapsWith e none pos.line X.env=pure false:=by rfl):PS X (.Expr e pos) (bA te):=by
 intro pins s σ H D I h
 exact wpAny_Expr_any (Bq (he pins s σ H _ I h) λv s1 ⟨x,H1,I1,r1,q1⟩=>⟨σ,H1,I1,q1⟩) I.quiet hs
def kK (te:TE):TS:=λD σ H=>te σ H D.rt
theorem Pi (he:PE X e te):PS X (.Return (some e) pos) (kK te):=by
 intro pins s σ H D I h
 exact wpAny_Return_some (Bq (he pins s σ H _ I h) λv s1 ⟨x,H1,I1,r1,q1⟩=>⟨x,σ,H1,I1,r1,q1⟩)
def kE (c:TT) (t u:TS):TS:=λD σ H=>c σ H λb H1=>if b=true then t D σ H1 else u D σ H1
theorem Xh {c:Expr} {a b:List Stmt} {tc:TT} (hc:PT X c tc) (ha:TV X a t) (hb:TV X b u):PS X (.If c a b pos) (kE tc t u):=by
 intro pins s σ H D I h
 refine wpAny_If (Bq (hc pins s σ H _ I h) λd s1 ⟨H1,I1,q1⟩=> ?_)
 cases d with
 | true=>exact ha pins s1 σ H1 D I1 q1
 | false=>exact hb pins s1 σ H1 D I1 q1
end
abbrev TG:=V->St->Hp->(St->Hp->Prop)->Prop
abbrev R0:=List V->St->Hp->(St->Hp->Prop)->Prop
def PG (X:Cx) (target:Expr) (t:TG):Prop:=
 ∀(pins:List (Addr×Obj)) (s:Shared) (σ:St) (H:Hp) (v:V) (u:Value) (Q:St->Hp->Prop),Inv X pins σ H s->RelV v u->t v σ H Q->
  wpAny (model X.prog X.w) X.A (assign target X.env u) (λ_ s'=>∃σ' H',Inv X pins σ' H' s'/\Q σ' H') X.xe s
def eB (X:Cx) (ts:List Expr) (t:R0):Prop:=
 ∀(pins:List (Addr×Obj)) (s:Shared) (σ:St) (H:Hp) (vs:List V) (us:List Value) (Q:St->Hp->Prop),Inv X pins σ H s->Au vs us->t vs σ H Q->
  wpAny (model X.prog X.w) X.A (assignInOrder ((assignEach ts X.env).map (·.2)) us) (λ_ s'=>∃σ' H',Inv X pins σ' H' s'/\Q σ' H') X.xe s
abbrev bR:=V->V->V->Hp->(Hp->Prop)->Prop
def fE (X:Cx) (t:bR):Prop:=
 ∀(pins:List (Addr×Obj)) (s:Shared) (σ:St) (H:Hp) (o i v:V) (ov iv u:Value) (Q:Hp->Prop),Inv X pins σ H s->RelV o ov->RelV i iv->RelV v u->t o i v H Q->
  wpAny (model X.prog X.w) X.A (setItem ov iv u) (λ_ s'=>∃H',Inv X pins σ H' s'/\Q H') X.xe s
abbrev iR:=V->V->Hp->VK->Prop
def iM (X:Cx) (op:Operator) (t:iR):Prop:=
 ∀(pins:List (Addr×Obj)) (s:Shared) (σ:St) (H:Hp) (x y:V) (v u:Value) (Q:VK),Inv X pins σ H s->RelV x v->RelV y u->t x y H Q->
  wpAny (model X.prog X.w) X.A (inplaceOp op v u) (EP X pins σ Q) X.xe s
section
variable {X:Cx} {pos:Pos}
def II (i:Nat):TG:=λv σ H Q=>Q (σ.set i (some v)) H
theorem UH {i:Nat} {x:Str} (hN:X.N.Nodup) (hi:X.N[i]? =some x) (hx:Loc X.env.scope x) (hf:X.fn x=true\/X.env.scope.names.lookup x=some .local:=by first | exact .inl rfl|exact .inr rfl|assumption):PG X (.Name x pos) (II i):=by
 intro pins s σ H v u Q I r h
 exact wpAny_assign_Name (GT I hN hi hx r (λs' I'=>⟨_,H,I',h⟩) hf)
def Wl:R0:=λvs σ H Q=>vs= [] /\Q σ H
def Qu (t:TG) (u:R0):R0:=λvs σ H Q=>∃v r,vs=v::r/\t v σ H λσ' H'=>u r σ' H' Q
theorem UI:eB X [] Wl:=by
 intro pins s σ H vs us Q I r h
 obtain ⟨e,h⟩:=h
 subst e
 cases r
 exact assignInOrder_nil ⟨σ,H,I,h⟩
theorem RS {e:Expr} {es:List Expr} {t:TG} {u:R0} (h1:PG X e t) (h2:eB X es u)
 (hs:(assignEach (e::es) X.env).map (·.2)=assign e X.env::(assignEach es X.env).map (·.2):=by rfl):eB X (e::es) (Qu t u):=by
 intro pins s σ H vs us Q I r h
 obtain ⟨v,vr,e1,h⟩:=h
 subst e1
 cases r with
 | cons r rr=>
   rw [hs]
   refine assignInOrder_cons (Bq (h1 pins s σ H _ _ _ I r h) λ_ s1 ⟨σ1,H1,I1,q1⟩=> ?_)
   exact h2 pins s1 σ1 H1 _ _ Q I1 rr q1
def jQ (to ti:TE) (t:bR):TG:=λv σ H Q=>to σ H λo H1=>ti σ H1 λi H2=>t o i v H2 λH3=>Q σ H3
theorem S1 {o i:Expr} {to ti:TE} {t:bR} (ho:PE X o to) (hi:PE X i ti) (hs:fE X t)
 (ha:∀v,assign (.Subscript o i pos) X.env v=(do
   let ov <-holding [v] (eval o X.env)
   let iv <-holding [v,ov] (eval i X.env)
   standAt pos
   holding [v,ov,iv] (setItem ov iv v)
   release [v,ov,iv] []):=by intro _;rfl):PG X (.Subscript o i pos) (jQ to ti t):=by
 intro pins s σ H v u Q I r h
 rw [ha]
 refine wpAny_bind (wpAny_holding (Bq (ho pins s σ H _ I h) λov s1 ⟨x,H1,I1,r1,q1⟩=> ?_))
 refine wpAny_bind (wpAny_holding (Bq (hi pins s1 σ H1 _ I1 q1) λiv s2 ⟨y,H2,I2,r2,q2⟩=> ?_))
 refine wpAny_bind (wpAny_standAt (wpAny_bind (wpAny_holding (Bq (hs pins s2 σ H2 x y v ov iv u _ I2 r1 r2 r q2) λ_ s3 ⟨H3,I3,q3⟩=> ?_))))
 exact wpAny_release ⟨σ,H3,I3,q3⟩
def YE (te:TE) (g:TG):TS:=λD σ H=>te σ H λx H1=>g x σ H1 D.nx
theorem Ph {tg e:Expr} {te:TE} {g:TG} (he:PE X e te) (hg:PG X tg g) (hs:swapsWithSole [tg] e pos.line X.env=pure false:=by rfl) (hw:swappedStores [tg] e X.env=pure none:=by rfl)
 (h1:(assignEach [tg] X.env).map (·.2)= [assign tg X.env] :=by rfl):PS X (.Assign [tg] e pos) (YE te g):=by
 intro pins s σ H D I h
 refine wpAny_Assign_stores (Bq (he pins s σ H _ I h) λv s1 ⟨x,H1,I1,r1,q1⟩=> ?_) hs hw
 rw [h1]
 exact Bq (hg pins s1 σ H1 x v _ I1 r1 q1) λ_ s2 q=>q
theorem HW {i:Nat} {x:Str} {e:Expr} {te:TE} {pos':Pos} (hN:X.N.Nodup) (hi:X.N[i]? =some x) (hx:Loc X.env.scope x) (he:PE X e te) (hs:swapsWith e (some (.Name x pos')) pos.line X.env=pure false:=by rfl) (hf:X.fn x=true\/X.env.scope.names.lookup x=some .local:=by first | exact .inl rfl|exact .inr rfl|assumption):
 PS X (.Assign [.Name x pos'] e pos) (YE te (II i)):=by
 intro pins s σ H D I h
 refine wpAny_Assign_Name (Bq (he pins s σ H _ I h) λv s1 ⟨y,H1,I1,r1,q1⟩=> ?_) hs
 exact GT I1 hN hi hx r1 (λs2 I2=>⟨_,H1,I2,q1⟩) hf
def kJ (i j:Nat) (ta:TA):TS:=λD σ H=>ta σ H λvs H1=>∃v w,vs= [v,w] /\D.nx ((σ.set i (some v)).set j (some w)) H1
theorem dG {i j:Nat} {x y:Str} {a b:Expr} {ta:TA} {px py pt:Pos} {kt k2 pt2} (hc:X.calm=true) (hN:X.N.Nodup) (hi:X.N[i]? =some x) (hj:X.N[j]? =some y) (jc:i≠j)
 (hx:X.env.scope.names.lookup x=some .local) (hy:X.env.scope.names.lookup y=some .local) (ha:PA X [a,b] ta)
 (hw:swappedStores [.Tuple [.Name x px, .Name y py] kt pt] (.Tuple [a,b] k2 pt2) X.env=pure (some [x,y]))
 (hs:swapsWithSole [.Tuple [.Name x px, .Name y py] kt pt] (.Tuple [a,b] k2 pt2) pos.line X.env=pure false:=by rfl):
 PS X (.Assign [.Tuple [.Name x px, .Name y py] kt pt] (.Tuple [a,b] k2 pt2) pos) (kJ i j ta):=by
 intro pins s σ H D I h
 rw [exec_Assign_arm]
 refine wpAny_bind (wpAny_standAt ?_)
 rw [hs]
 refine wpAny_bind (wpAny_pure ?_)
 rw [if_neg (by decide)]
 refine wpAny_bind (Tuple_ (Bq (ha _ pins s σ H _ I h) λus s1 ⟨vs,H1,I1,r1,q1⟩=> ?_))
 obtain ⟨v,w,e1,q1⟩:=q1
 subst e1
 obtain ⟨u1,u2,rfl,rv,rw'⟩:∃u1 u2,us= [u1,u2] /\RelV v u1/\RelV w u2:=by
  cases r1 with
  | cons p q=>
    cases q with
    | cons p' q'=>
      cases q'
      exact ⟨_,_,rfl,p,p'⟩
 refine wpAny_newObj_type ?_ (by show 2<=sizeLine;decide)
 have I2:Inv X pins σ H1 {s1 with heap:=s1.heap.push {cls:= .type "tuple",data:= .seq [u1,u2].toArray}}:=I1.kept (t':=s1.toks) λb o e=>Heap.get?_push_of_some _ e
 rw [hw]
 refine wpAny_bind (wpAny_pure ?_)
 show wpAny (model X.prog X.w) X.A (do rule "assign.swapped-stores";let items <-unpackItems (.ref s1.heap.objs.size) 2 none;assignInOrder [λv=>bindName X.env y v,λv=>bindName X.env x v] items.reverse;pure Flow.next) _ _ _
 refine wpAny_bind (wpAny_rule (wpAny_bind (unpackItems_tuple (items:= #[u1,u2]) (I.ok.hd hc) (IsTup.new s1.heap _) λh' fq=> ?_)))
 have I3:=I2.kept (h':=h') (t':=s1.toks) λb o e=>fq b o (Nat.ne_of_lt (Heap.lt_size e)) e
 show wpAny _ _ (assignInOrder [λv=>bindName X.env y v,λv=>bindName X.env x v] [u2,u1] >>= λ_=>pure Flow.next) _ _ _
 refine wpAny_bind (assignInOrder_cons (wpAny_bindName (GT I3 hN hj (.inl hy) rw' (λs2 I4=> ?_) (.inr hy))))
 refine assignInOrder_cons (wpAny_bindName (GT I4 hN hi (.inl hx) rv (λs3 I5=>assignInOrder_nil (wpAny_pure ?_)) (.inr hx)))
 rw [List.set_comm _ _ (Ne.symm jc)] at I5
 exact ⟨_,H1,I5,q1⟩
def kB (i:Nat) (te:TE) (ti:iR):TS:=λD σ H=>∃x,σ[i]? =some (some x)/\te σ H λy H1=>ti x y H1 λz H2=>D.nx (σ.set i (some z)) H2
theorem dE {i:Nat} {x:Str} {e:Expr} {te:TE} {op:Operator} {ti:iR} {pos':Pos} (hN:X.N.Nodup) (hi:X.N[i]? =some x) (hx:Loc X.env.scope x) (he:PE X e te) (ho:iM X op ti) (hf:X.fn x=true\/X.env.scope.names.lookup x=some .local:=by first | exact .inl rfl|exact .inr rfl|assumption):
 PS X (.AugAssign (.Name x pos') op e pos) (kB i te ti):=by
 intro pins s σ H D I h
 obtain ⟨v,e1,h⟩:=h
 obtain ⟨m,hn,hl⟩:=I.loc
 have vis:bS X.env.scope x:=by rcases hx with k|k;exact .inl k;exact .inr (.inl k)
 obtain ⟨u,r,l⟩:=hl i x v hi e1 vis
 refine wpAny_AugAssign_Name ?_
 have go:wpAny (model X.prog X.w) X.A (eval e X.env) (λw s₂=>wpAny (model X.prog X.w) X.A (inplaceOp op u w) (λr s₃=>wpAny (model X.prog X.w) X.A (storeName X.env x r) (λ_=>SP X pins D .next) X.xe s₃) X.xe s₂) X.xe s:=by
  refine Bq (he pins s σ H _ I h) λw s1 ⟨y,H1,I1,r1,q1⟩=> ?_
  refine Bq (ho pins s1 σ H1 v y u w _ I1 r r1 q1) λz s2 ⟨zv,H2,I2,r2,q2⟩=> ?_
  exact GT I2 hN hi hx r2 (λs3 I3=>⟨_,H2,I3,q2⟩) hf
 rcases l with ⟨hk,hm⟩|⟨hk,c,hc,Tr⟩
 ·exact wpAny_loadName_local I.ok.kind hk hn hm go
 ·rcases hk with hk|hk
  ·exact wpAny_loadName_cell I.ok.kind hk hc Tr go
  ·rcases hx with k|k
   ·have:X.env.scope.names.lookup x=some .free:=hk
    rw [k] at this;cases this
   ·have:X.env.scope.names.lookup x=some .free:=hk
    rw [k] at this;cases this
end
section
variable {X:Cx} {pos:Pos}
def dk (c:TT) (tb:TS):TS:=λD σ H=>∃W:Nat->St->Hp->Prop,(∃m,W m σ H)/\∀m σ H,W m σ H->
 c σ H λb H1=>if b=true then ∃N:St->Hp->Prop,(∀σ' H',N σ' H'->∃m',m'<m/\W m' σ' H')/\tb {D with nx:=N,ct:=N,bk:=D.nx} σ H1 else D.nx σ H1
theorem Xi {c:Expr} {body:List Stmt} {tc:TT} {tb:TS} (hp:PassesOwn (model X.prog X.w) X.A X.env X.xe) (hc:PT X c tc) (hb:TV X body tb):PS X (.While c body [] pos) (dk tc tb):=by
 intro pins s σ H D I h
 obtain ⟨W,⟨m0,w0⟩,turn⟩:=h
 refine wpAny_While (codeAny_whileLoop (λn s'=>∃σ' H',Inv X pins σ' H' s'/\W n σ' H') ?_ m0 ⟨σ,H,I,w0⟩)
 rintro n s1 ⟨σ1,H1,I1,w1⟩
 refine wpAny_passesOwn hp (Bq (hc pins s1 σ1 H1 _ I1 (turn n σ1 H1 w1)) λb s2 ⟨H2,I2,q2⟩=> ?_)
 cases b with
 | true=>
   obtain ⟨N,hN,q2⟩:=q2
   rw [if_pos rfl]
   refine wpAny_passesOwn hp (Bq (hb pins s2 σ1 H2 _ I2 q2) λf s3 q3=> ?_)
   cases f with
   | next=>
     obtain ⟨σ3,H3,I3,n3⟩:=q3
     obtain ⟨m',hm,w3⟩:=hN σ3 H3 n3
     exact ⟨m',hm,σ3,H3,I3,w3⟩
   | cont=>
     obtain ⟨σ3,H3,I3,n3⟩:=q3
     obtain ⟨m',hm,w3⟩:=hN σ3 H3 n3
     exact ⟨m',hm,σ3,H3,I3,w3⟩
   | brk=>exact q3
   | ret v=>exact q3
 | false=>
   rw [if_neg Bool.false_ne_true]
   exact wpAny_execs_nil ⟨σ1,H2,I2,q2⟩
end
structure It where
 go:Nat->Hp->Prop
 yld:Nat->Hp->V->Hp->Prop
 stop:Nat->Hp->Prop
def EO (X:Cx) (pins:List (Addr×Obj)) (H:Hp) (b:Addr):Prop:=
 H b=none/\b≠X.env.locals/\b ∉ X.fs/\(b∈X.ex\/X.s₀.heap.objs.size<=b)/\(∀x c,X.env.cells.lookup x=some c->c≠b)/\∀p∈X.pn++pins,p.1≠b
theorem Inv.fpOk {X:Cx} {pins:List (Addr×Obj)} {σ:St} {H H':Hp} {s:Shared} {b:Addr} (I:Inv X pins σ H s) (hb:s.heap.objs.size<=b) (hn:H' b=none):EO X pins H' b:=by
 refine ⟨hn,Nat.ne_of_gt (Nat.lt_of_lt_of_le I.lt hb),I.nofs hb, .inr (Nat.le_trans I.sz hb),λx c e z=> ?_,λp hp z=> ?_⟩
 ·obtain ⟨v,q⟩:=I.cell x c e
  exact absurd (Nat.lt_of_lt_of_le q.lt (by rw [z];exact hb)) (Nat.lt_irrefl _)
 ·exact absurd (Nat.lt_of_lt_of_le (Heap.lt_size (I.pin p hp).1) (by rw [z];exact hb)) (Nat.lt_irrefl _)
structure NS (P:Program) (w:World) (K:PySem.W.Frag) (tg:Expr) (J:It) (fp:List Addr) (it:Addr) (tn:Nat->Heap->Prop):Prop where
 mem:it∈fp
 obj:∀i h,tn i h->∀b∈fp,∃o,h.get? b=some o/\∀v,o.data≠ .cell v
 keep:∀i h h',tn i h->(∀b∈fp,∀o,h.get? b=some o->h'.get? b=some o)->tn i h'
 item:∀(X:Cx),X.prog=P->X.w=w->X.K=K->X.calm=true->∀(i:Nat) (pins:List (Addr×Obj)) (s:Shared) (σ:St) (H:Hp) (E:Value->Shared->Prop),Inv X pins σ H s->(∀b∈fp,EO X pins H b)->tn i s.heap->J.go i H->
  wpAny (model P w) X.A (pyNext (.ref it)) (λr s1=>∃u,r=some u/\
   wpAny (model P w) X.A (letOwnedTupleGo tg (.ref it) u) (λ_ s2=>∃x H',Inv X pins σ H' s2/\RelV x u/\J.yld i H x H'/\tn (i+1) s2.heap/\∀b∈fp,H' b=none) E s1) E s
 done:∀(X:Cx),X.prog=P->X.w=w->X.K=K->X.calm=true->∀(i:Nat) (pins:List (Addr×Obj)) (s:Shared) (σ:St) (H:Hp) (E:Value->Shared->Prop),Inv X pins σ H s->(∀b∈fp,EO X pins H b)->tn i s.heap->J.stop i H->
  wpAny (model P w) X.A (pyNext (.ref it)) (λr s1=>r=none/\Inv X pins σ H s1) E s
 self:∀(A:Around) (i:Nat) (s:Shared) (Q:Value->Shared->Prop) (E:Value->Shared->Prop),tn i s.heap->Q (.ref it) s->wpAny (model P w) A (pyIter (.ref it)) Q E s
abbrev TI:=St->Hp->(It->Hp->Prop)->Prop
def lp (X:Cx) (pins:List (Addr×Obj)) (σ:St) (tg:Expr) (R:It->Hp->Prop) (itv:Value) (s2:Shared):Prop:=
 ∃(it:Addr) (fp:List Addr) (tn:Nat->Heap->Prop) (J:It) (H':Hp),itv= .ref it/\Inv X pins σ H' s2/\NS X.prog X.w X.K tg J fp it tn/\tn 0 s2.heap/\(∀b∈fp,EO X pins H' b)/\R J H'
def PI (X:Cx) (tg iter:Expr) (wi:TI):Prop:=
 ∀(pins:List (Addr×Obj)) (s:Shared) (σ:St) (H:Hp) (R:It->Hp->Prop),Inv X pins σ H s->wi σ H R->
  wpAny (model X.prog X.w) X.A (eval iter X.env) (λv s1=>wpAny (model X.prog X.w) X.A (pyIter v) (lp X pins σ tg R) X.xe s1) X.xe s
theorem Wq {M:Model} {A:Around} {E:Value->Shared->Prop} {s:Shared} {tg:Expr} {it:Addr} {u:Value} {o:Obj} {n:String} {vs:Array Value} {Q:Unit->Shared->Prop} (ho:s.heap.get? it=some o) (hc:o.cls= .type n) (hd:o.data= .fields vs)
 (hn: ["enumerate","zip","dict_itemiterator","dict_reverseitemiterator","odict_iterator","itertools.zip_longest","itertools.pairwise"].contains n=false) (hQ:Q () s):wpAny M A (letOwnedTupleGo tg (.ref it) u) Q E s:=by
 unfold letOwnedTupleGo
 cases tg <;> first
  | exact wpAny_pure hQ
  | (cases u <;> first
      | exact wpAny_pure hQ
      | (refine wpAny_bind (wpAny_load ho ?_)
         rw [hc,hd]
         show wpAny M A (if (["enumerate","zip","dict_itemiterator","dict_reverseitemiterator","odict_iterator","itertools.zip_longest","itertools.pairwise"].contains n&&vs[0]?==some (rawInt _))=true then _ else _) Q E s
         rw [if_neg (by intro h;rw [hn,Bool.false_and] at h;cases h)]
         exact wpAny_pure hQ))
def jB (K:PySem.W.Frag) (a:Addr):It:=
 ⟨λi H=>∃xs x,Ff K H a xs/\xs[i]? =some x,λi H x H'=>H'=H/\∀xs,Ff K H a xs->xs[i]? =some x,λi H=>∃xs,Ff K H a xs/\xs.length<=i⟩
def jC (K:PySem.W.Frag) (a:Addr):It:=
 ⟨λi H=>∃xs x,Kx K H a xs/\xs[i]? =some x,λi H x H'=>H'=H/\∀xs,Kx K H a xs->xs[i]? =some x,λi H=>∃xs,Kx K H a xs/\xs.length<=i⟩
def fB (lo:Int) (n:Nat):It:=⟨λi _=>i<n,λi H x H'=>H'=H/\x= .int (lo+i),λi _=>n<=i⟩
theorem Vu {P:Program} {w:World} {K:PySem.W.Frag} {tg:Expr} (a it:Addr):NS P w K tg (jB K a) [it] it (λi h=>h.IsListIter it a i) where
 mem:=by simp
 obj:=λi h st b hb=>by
  have e:b=it:=by simpa using hb
  subst e
  obtain ⟨o,e,c,d⟩:=st
  exact ⟨o,e,λv z=>by rw [d] at z;cases z⟩
 keep:=λi h h' st k=>st.at λo e=>k it (by simp) o e
 item:=by
  intro X hP hw hK hc i pins s σ H E I hf st hg
  subst hP hw hK
  obtain ⟨xs,x,hq,hx⟩:=hg
  obtain ⟨its,rv,p,hz⟩:=I.list hq
  obtain ⟨u,hu,ru⟩:=rv.get hx
  obtain ⟨f0,f1,f2,f3,f4,f5⟩:=hf it (by simp)
  refine wpAny_pyNext_list_item st p.isList (x:=u) (by simpa using hu) λh' st' sb=> ?_
  have I1:Inv X pins σ H {s with heap:=h'}:=I.turned (t':=s.toks) (λb o hb e=>(sb.2 b hb).trans e) f0 f1 f3 f4 f5
  obtain ⟨o,e,c,d⟩:=id st'
  exact ⟨u,rfl,Wq (s:={s with heap:=h'}) e c d (by decide) ⟨x,H,I1,ru,⟨rfl,λys hy=>by rw [I.list_inj hy hq];exact hx⟩,st',λb hb=>(hf b hb).1⟩⟩
 done:=by
  intro X hP hw hK hc i pins s σ H E I hf st hg
  subst hP hw hK
  obtain ⟨xs,hq,hx⟩:=hg
  obtain ⟨its,rv,p,hz⟩:=I.list hq
  obtain ⟨f0,f1,f2,f3,f4,f5⟩:=hf it (by simp)
  have hl:=rv.length
  exact wpAny_pyNext_list_end (I.ok.hd hc) st p.isList (by simp;omega) λh' eb=>⟨rfl,I.turned (t':=s.toks) (λb o hb e=>eb b o hb e) f0 f1 f3 f4 f5⟩
 self:=λ_ _ _ _ _ st h=>wpAny_pyIter_listiter st h
theorem TK {P:Program} {w:World} {K:PySem.W.Frag} {tg:Expr} (a it:Addr):NS P w K tg (jC K a) [it] it (λi h=>h.IsTupleIter it a i) where
 mem:=by simp
 obj:=λi h st b hb=>by
  have e:b=it:=by simpa using hb
  subst e
  obtain ⟨o,e,c,d⟩:=st
  exact ⟨o,e,λv z=>by rw [d] at z;cases z⟩
 keep:=λi h h' st k=>st.at λo e=>k it (by simp) o e
 item:=by
  intro X hP hw hK hc i pins s σ H E I hf st hg
  subst hP hw hK
  obtain ⟨xs,x,hq,hx⟩:=hg
  obtain ⟨its,rv,p,hz⟩:=I.tuple hq
  obtain ⟨u,hu,ru⟩:=rv.get hx
  obtain ⟨f0,f1,f2,f3,f4,f5⟩:=hf it (by simp)
  refine wpAny_pyNext_tuple_item st (show s.heap.IsTuple a its.toArray from p) (x:=u) (by simpa using hu) λh' st' sb=> ?_
  have I1:Inv X pins σ H {s with heap:=h'}:=I.turned (t':=s.toks) (λb o hb e=>(sb.2 b hb).trans e) f0 f1 f3 f4 f5
  obtain ⟨o,e,c,d⟩:=id st'
  exact ⟨u,rfl,Wq (s:={s with heap:=h'}) e c d (by decide) ⟨x,H,I1,ru,⟨rfl,λys hy=>by rw [I.tuple_inj hy hq];exact hx⟩,st',λb hb=>(hf b hb).1⟩⟩
 done:=by
  intro X hP hw hK hc i pins s σ H E I hf st hg
  subst hP hw hK
  obtain ⟨xs,hq,hx⟩:=hg
  obtain ⟨its,rv,p,hz⟩:=I.tuple hq
  obtain ⟨f0,f1,f2,f3,f4,f5⟩:=hf it (by simp)
  have hl:=rv.length
  exact wpAny_pyNext_tuple_end (I.ok.hd hc) st (show s.heap.IsTuple a its.toArray from p) (by simp;omega) λh' eb=>⟨rfl,I.turned (t':=s.toks) (λb o hb e=>eb b o hb e) f0 f1 f3 f4 f5⟩
 self:=λ_ _ _ _ _ st h=>wpAny_pyIter_tupleiter st h
theorem TJ {P:Program} {w:World} {K:PySem.W.Frag} {tg:Expr} (it:Addr) (lo:Int) (n:Nat):NS P w K tg (fB lo n) [it] it (λi h=>IsRangeIter h it (lo+(i:Nat)*1) ((n:Int)-(i:Nat)) 1) where
 mem:=by simp
 obj:=λi h st b hb=>by
  have e:b=it:=by simpa using hb
  subst e
  exact ⟨_,st,λv z=>by
   have z':Data.fields _=Data.cell v:=z
   cases z'⟩
 keep:=λi h h' st k=>k it (by simp) _ st
 item:=by
  intro X hP hw hK hc i pins s σ H E I hf st hg
  subst hP hw hK
  obtain ⟨f0,f1,f2,f3,f4,f5⟩:=hf it (by simp)
  have W:=Walks.range (prog:=X.prog) (w:=X.w) (I.ok.hd hc) it lo 1 n
  refine W.item i s _ _ hg st λv h' tk hv st' kk=> ?_
  obtain ⟨t,rfl⟩:=hv
  have I1:Inv X pins σ H {s with heap:=h',toks:=tk}:=I.turned (λb o hb e=>kk b o (by simpa using hb) e) f0 f1 f3 f4 f5
  refine ⟨_,rfl,Wq (s:={s with heap:=h',toks:=tk}) (n:="range_iterator") st' rfl rfl (by decide) ⟨.int (lo+i),H,I1,⟨t, ?_⟩,⟨rfl,rfl⟩,st',λb hb=>(hf b hb).1⟩⟩
  rw [Int.mul_one]
 done:=by
  intro X hP hw hK hc i pins s σ H E I hf st hg
  subst hP hw hK
  obtain ⟨f0,f1,f2,f3,f4,f5⟩:=hf it (by simp)
  exact wpAny_pyNext_range_end (I.ok.hd hc) st (by have:n<=i:=hg;omega) λh' eb=>⟨rfl,I.turned (t':=s.toks) (λb o hb e=>eb b o hb e) f0 f1 f3 f4 f5⟩
 self:=λ_ _ _ _ _ st h=>wpAny_pyIter_rangeiter st h
end L2
namespace L2
open PySem PySem.Spec PyProof.Rows
section
variable {X:Cx} {tg:Expr}
theorem RT {pins:List (Addr×Obj)} {σ:St} {H:Hp} {s:Shared} {R:It->Hp->Prop} {E:Value->Shared->Prop} {lo hi:Int} {t u v:Tok} {tk:Nat} (I:Inv X pins σ H s) (h1: -(2^62)<=lo) (h2:lo<2^62) (h3: -(2^62)<=hi) (h4:hi<2^62)
 (q:R (fB lo (hi-lo).toNat) H):wpAny (model X.prog X.w) X.A (pyIter (.ref s.heap.objs.size)) (lp X pins σ tg R) E {s with heap:=s.heap.push {cls:= .type "range",data:= .fields #[.int lo t, .int hi u, .int 1 v] },toks:=tk}:=by
 refine wpAny_pyIter_range (IsRange.new ..) (small_one h1 h2 h3 h4) ?_
 have I1:Inv X pins σ H {s with heap:=s.heap.push {cls:= .type "range",data:= .fields #[.int lo t, .int hi u, .int 1 v] },toks:=tk}:=I.kept λb o e=>Heap.get?_push_of_some _ e
 refine ⟨(s.heap.push {cls:= .type "range",data:= .fields #[.int lo t, .int hi u, .int 1 v] }).objs.size, [(s.heap.push {cls:= .type "range",data:= .fields #[.int lo t, .int hi u, .int 1 v] }).objs.size],_,_,H,rfl,
  I1.kept (t':=tk) λb o e=>Heap.get?_push_of_some _ e,TJ _ lo (hi-lo).toNat, ?_,λb hb=> ?_,q⟩
 ·have e1:lo+((0:Nat):Int)*1=lo:=by simp
  have e2:(((hi-lo).toNat:Nat):Int)-((0:Nat):Int)=Builtin.Range.rangeSize lo hi 1:=by rw [rangeSize_one];split <;> omega
  show IsRangeIter _ _ (lo+((0:Nat):Int)*1) ((((hi-lo).toNat:Nat):Int)-((0:Nat):Int)) 1
  rw [e1,e2]
  exact Heap.get?_push_size _ rfl
 ·have e:b=(s.heap.push {cls:= .type "range",data:= .fields #[.int lo t, .int hi u, .int 1 v] }).objs.size:=by simpa using hb
  subst e
  exact I1.fpOk (Nat.le_refl _) (I1.hok.fresh (Nat.le_refl _))
def ft (ta:TA):TI:=λσ H R=>ta σ H λvs H1=>∃j:Int,vs= [.int j] /\ -(2^62)<=j/\j<2^62/\R (fB 0 j.toNat) H1
def fu (ta:TA):TI:=λσ H R=>ta σ H λvs H1=>∃i j:Int,vs= [.int i, .int j] /\(-(2^62)<=i/\i<2^62/\ -(2^62)<=j/\j<2^62)/\R (fB i (j-i).toNat) H1
theorem Vg {a:Expr} {ta:TA} {p pos:Pos} (hg:Gl X "range") (hm:X.mg "range" =none) (ha:PA X [a] ta) (hs:starEach [a] X.env= [(false,eval a X.env)] :=by rfl):PI X tg (.Call (.Name "range" p) [a] [] pos) (ft ta):=by
 intro pins s σ H R I h
 refine Call_ (GD I hg hm boot_range (PyProof.Rows.callWith_type1 (Bq (ha pos pins s σ H _ I h) λus s1 ⟨vs,H1,I1,r1,q1⟩=> ?_) hs rfl))
 obtain ⟨j,e,q1,q2,q⟩:=q1
 subst e
 cases r1 with
 | cons r rr=>
   cases rr
   obtain ⟨t,rfl⟩:=r
   exact call_range_1 (RT I1 (by omega) (by omega) q1 q2 (by simpa using q))
theorem Vh {a b:Expr} {ta:TA} {p pos:Pos} (hg:Gl X "range") (hm:X.mg "range" =none) (ha:PA X [a,b] ta) (hs:starEach [a,b] X.env= [(false,eval a X.env),(false,eval b X.env)] :=by rfl) (Tv:starEach [b] X.env= [(false,eval b X.env)] :=by rfl):
 PI X tg (.Call (.Name "range" p) [a,b] [] pos) (fu ta):=by
 intro pins s σ H R I h
 refine Call_ (GD I hg hm boot_range (PyProof.Rows.callWith_type1 (Bq (ha pos pins s σ H _ I h) λus s1 ⟨vs,H1,I1,r1,q1⟩=> ?_) (by rw [hs,Tv]) (by rw [Tv];rfl)))
 obtain ⟨i,j,e,⟨q1,q2,q3,q4⟩,q⟩:=q1
 subst e
 cases r1 with
 | cons r rr=>
   cases rr with
   | cons r' rr=>
     cases rr
     obtain ⟨t,rfl⟩:=r
     obtain ⟨t',rfl⟩:=r'
     exact call_range_2 (RT I1 q1 q2 q3 q4 q)
def kD (wi:TI) (g:TG) (tb:TS):TS:=λD σ H=>wi σ H λJ H1=>∃W:Nat->Nat->St->Hp->Prop,(∃m,W 0 m σ H1)/\∀i m σ H,W i m σ H->
 (J.stop i H/\D.nx σ H)\/(J.go i H/\∃N:St->Hp->Prop,(∀σ' H',N σ' H'->∃m',m'<m/\W (i+1) m' σ' H')/\∀x H',J.yld i H x H'->g x σ H' λσ2 H2=>tb {D with nx:=N,ct:=N,bk:=D.nx} σ2 H2)
def Ju (fp:List Addr) (h:Heap):List (Addr×Obj):=fp.filterMap λb=>(h.get? b).map λo=>(b,o)
theorem DS {fp:List Addr} {h:Heap} {b:Addr} {o:Obj} (hb:b∈fp) (e:h.get? b=some o):(b,o)∈Ju fp h:=List.mem_filterMap.mpr ⟨b,hb,by rw [e];rfl⟩
theorem VZ {fp:List Addr} {h:Heap} {p:Addr×Obj} (hp:p∈Ju fp h):p.1∈fp/\h.get? p.1=some p.2:=by
 obtain ⟨b,hb,e⟩:=List.mem_filterMap.mp hp
 cases q:h.get? b with
 | none=>rw [q] at e;cases e
 | some o=>
   rw [q] at e
   have e':(b,o)=p:=Option.some.inj e
   subst e'
   exact ⟨hb,q⟩
theorem Inv.pinned {pins:List (Addr×Obj)} {σ:St} {H:Hp} {s:Shared} {fp:List Addr} (I:Inv X pins σ H s) (hf:∀b∈fp,EO X pins H b) (ho:∀b∈fp,∃o,s.heap.get? b=some o/\∀v,o.data≠ .cell v):Inv X (pins++Ju fp s.heap) σ H s:=
 I.pins_of λp hp=>(List.mem_append.mp hp).elim (λz=>I.pin p (List.mem_append_right _ z)) λz=>by
   obtain ⟨hb,e⟩:=VZ z
   obtain ⟨f0,f1,f2,_⟩:=hf p.1 hb
   obtain ⟨o,e',d⟩:=ho p.1 hb
   rw [e] at e';cases e'
   exact ⟨e,f0,f1,f2,d⟩
theorem Inv.unpinned {pins pl:List (Addr×Obj)} {σ:St} {H:Hp} {s:Shared} (I:Inv X (pins++pl) σ H s):Inv X pins σ H s:=I.pins_of λp hp=>I.pin p (List.mem_append_right _ (List.mem_append_left _ hp))
theorem dF {iter:Expr} {body:List Stmt} {wi:TI} {g:TG} {tb:TS} {pos:Pos} (hp:PassesOwn (model X.prog X.w) X.A X.env X.xe) (hc:X.calm=true) (hi:PI X tg iter wi) (hg:PG X tg g) (hb:TV X body tb)
 (hs:∀x,foldedSetIterable iter X.env x=pure x:=by intro _;rfl):PS X (.For tg iter body [] pos) (kD wi g tb):=by
 intro pins s σ H D I h
 refine wpAny_For (Bq (hi pins s σ H _ I h) λv s1 h1=>Bq h1 λitv s2 h2=> ?_) hs
 obtain ⟨it,fp,tn,J,H2,e,I2,T,st2,f2,W,⟨m0,w0⟩,turn⟩:=h2
 subst e
 have stat:∀{H':Hp},(∀b∈fp,H' b=none)->∀b∈fp,EO X pins H' b:=λhn b hb=>⟨hn b hb,(f2 b hb).2⟩
 refine codeAny_forLoop_any (λn s'=>∃i σ' H',Inv X pins σ' H' s'/\tn i s'.heap/\(∀b∈fp,H' b=none)/\W i n σ' H') ?_ m0 ⟨0,σ,H2,I2,st2,λb hb=>(f2 b hb).1,w0⟩
 rintro n s3 ⟨i,σ3,H3,I3,st3,fr3,w3⟩
 rcases turn i n σ3 H3 w3 with ⟨stop,qn⟩|⟨go,N,hN,step⟩
 ·refine wpAny_passesOwn hp (Bq (T.done X rfl rfl rfl hc i pins s3 σ3 H3 X.xe I3 (stat fr3) st3 stop) λr s4 ⟨hr,I4⟩=> ?_)
  subst hr
  exact wpAny_execs_nil ⟨σ3,H3,I4,qn⟩
 ·refine wpAny_passesOwn hp (Bq (T.item X rfl rfl rfl hc i pins s3 σ3 H3 X.xe I3 (stat fr3) st3 go) λr s4 ⟨u,hr,h4⟩=> ?_)
  subst hr
  refine wpAny_passesOwn hp (Bq h4 λ_ s5 ⟨x,H5,I5,r5,y5,st5,fr5⟩=> ?_)
  have I5':=I5.pinned (stat fr5) (T.obj _ _ st5)
  refine wpAny_passesOwn hp (Bq (hg _ s5 σ3 H5 x u _ I5' r5 (step x H5 y5)) λ_ s6 ⟨σ6,H6,I6,q6⟩=> ?_)
  refine wpAny_passesOwn hp (Bq (hb _ s6 σ6 H6 _ I6 q6) λf s7 q7=> ?_)
  have again:∀{σ7:St} {H7:Hp},Inv X (pins++Ju fp s5.heap) σ7 H7 s7->N σ7 H7->∃m,m<n/\∃i σ' H',Inv X pins σ' H' s7/\tn i s7.heap/\(∀b∈fp,H' b=none)/\W i m σ' H':=λ{σ7 H7} I7 n7=>by
   obtain ⟨m',hm,w7⟩:=hN σ7 H7 n7
   refine ⟨m',hm,i+1,σ7,H7,I7.unpinned,T.keep _ _ _ st5 λb hb o e=>(I7.pin (b,o) (List.mem_append_right _ (List.mem_append_right _ (DS hb e)))).1,λb hb=> ?_,w7⟩
   obtain ⟨o,e,d⟩:=T.obj _ _ st5 b hb
   exact (I7.pin (b,o) (List.mem_append_right _ (List.mem_append_right _ (DS hb e)))).2.1
  cases f with
  | next=>obtain ⟨σ7,H7,I7,n7⟩:=q7;exact again I7 n7
  | cont=>obtain ⟨σ7,H7,I7,n7⟩:=q7;exact again I7 n7
  | brk=>obtain ⟨σ7,H7,I7,q7⟩:=q7;exact ⟨σ7,H7,I7.unpinned,q7⟩
  | ret v=>obtain ⟨x7,σ7,H7,I7,r7,q7⟩:=q7;exact ⟨x7,σ7,H7,I7.unpinned,r7,q7⟩
end
end L2
namespace L2
open PySem PySem.Spec PyProof.Rows
abbrev R2:=V->V->Hp->VK->Prop
def Dy (X:Cx) (f:Value->Value->Sem Value) (r:R2):Prop:=
 ∀(pins:List (Addr×Obj)) (s:Shared) (σ:St) (H:Hp) (x y:V) (v u:Value) (Q:VK),Inv X pins σ H s->RelV x v->RelV y u->r x y H Q->
  wpAny (model X.prog X.w) X.A (f v u) (EP X pins σ Q) X.xe s
def jJ (X:Cx) (f:Value->Sem Value) (r:V->Hp->VK->Prop):Prop:=
 ∀(pins:List (Addr×Obj)) (s:Shared) (σ:St) (H:Hp) (x:V) (v:Value) (Q:VK),Inv X pins σ H s->RelV x v->r x H Q->
  wpAny (model X.prog X.w) X.A (f v) (EP X pins σ Q) X.xe s
def Br (X:Cx) (f:Value) (r:List V->Hp->VK->Prop):Prop:=
 ∀(pins:List (Addr×Obj)) (s:Shared) (σ:St) (H:Hp) (xs:List V) (us:List Value) (Q:VK),Inv X pins σ H s->Au xs us->r xs H Q->
  wpAny (model X.prog X.w) X.A (call f us) (EP X pins σ Q) X.xe s
def iB (r:R2) (ta tb:TE):TE:=λσ H Q=>ta σ H λx H1=>tb σ H1 λy H2=>r x y H2 Q
def qE (r:V->Hp->VK->Prop) (ta:TE):TE:=λσ H Q=>ta σ H λx H1=>r x H1 Q
def rI (C:Int->Int->Prop) (g:Int->Int->V):R2:=λx y H Q=>∃i j,x= .int i/\y= .int j/\C i j/\Q (g i j) H
def S3 (g:Int->Int->V):R2:=λx y H Q=>∃i j,x= .int i/\y= .int j/\Q (g i j) H
def rU (g:Int->V):V->Hp->VK->Prop:=λx H Q=>∃i,x= .int i/\Q (g i) H
section
variable {X:Cx} {a b c:Expr} {ta tb tc:TE} {pos:Pos}
theorem bV (ha:PE X a ta) (hb:PE X b tb) {pins:List (Addr×Obj)} {s:Shared} {σ:St} {H:Hp} {R:V->V->Hp->Prop} (I:Inv X pins σ H s)
 (h:ta σ H λx H1=>tb σ H1 λy H2=>R x y H2) {Q:Value->Shared->Prop} {f:Value->Value->Sem Value}
 (hf:∀v u s2 x y H2,Inv X pins σ H2 s2->RelV x v->RelV y u->R x y H2->wpAny (model X.prog X.w) X.A (f v u) Q X.xe s2):
 wpAny (model X.prog X.w) X.A (eval a X.env) (λv s₁=>wpAny (model X.prog X.w) X.A (eval b X.env) (λu s₂=>wpAny (model X.prog X.w) X.A (f v u) Q X.xe s₂) X.xe s₁) X.xe s:=by
 refine Bq (ha pins s σ H _ I h) λv s1 ⟨x,H1,I1,r1,q1⟩=> ?_
 refine Bq (hb pins s1 σ H1 _ I1 q1) λu s2 ⟨y,H2,I2,r2,q2⟩=> ?_
 exact hf v u s2 x y H2 I2 r1 r2 q2
theorem CO {op:Operator} {r:R2} (ho:Dy X (binaryOp op) r) (ha:PE X a ta) (hb:PE X b tb):PE X (.BinOp a op b pos) (iB r ta tb):=by
 intro pins s σ H Q I h
 exact wpAny_BinOp (bV ha hb I h λv u s2 x y H2 I2 rx ry q=>ho pins s2 σ H2 x y v u Q I2 rx ry q)
theorem gW {op:UnaryOp} {r:V->Hp->VK->Prop} (ho:jJ X (unaryOp op) r) (ha:PE X a ta):PE X (.UnaryOp op a pos) (qE r ta):=by
 intro pins s σ H Q I h
 exact UnaryOp_ (Bq (ha pins s σ H _ I h) λv s1 ⟨x,H1,I1,r1,q1⟩=>ho pins s1 σ H1 x v Q I1 r1 q1)
theorem cu {f:Value->Value->Sem Value} {C:Int->Int->Prop} {g:Int->Int->Int}
 (rule:∀(i j:Int) (t u:Tok) (s:Shared) (Q:Value->Shared->Prop) (E:Value->Shared->Prop),C i j->Q (.int (g i j) s.toks) {s with toks:=s.toks+1}->wpAny (model X.prog X.w) X.A (f (.int i t) (.int j u)) Q E s):
 Dy X f (rI C λi j=> .int (g i j)):=by
 intro pins s σ H x y v u Q I rx ry h
 obtain ⟨i,j,rfl,rfl,hc,q⟩:=h
 obtain ⟨t,rfl⟩:=rx
 obtain ⟨t',rfl⟩:=ry
 exact rule i j t t' s _ _ hc ⟨.int (g i j),H,I.tok _,⟨_,rfl⟩,q⟩
theorem gO {f:Value->Value->Sem Value} {g:Int->Int->Int}
 (rule:∀(i j:Int) (t u:Tok) (s:Shared) (Q:Value->Shared->Prop) (E:Value->Shared->Prop),Q (.int (g i j) s.toks) {s with toks:=s.toks+1}->wpAny (model X.prog X.w) X.A (f (.int i t) (.int j u)) Q E s):
 Dy X f (S3 λi j=> .int (g i j)):=by
 intro pins s σ H x y v u Q I rx ry h
 obtain ⟨i,j,rfl,rfl,q⟩:=h
 obtain ⟨t,rfl⟩:=rx
 obtain ⟨t',rfl⟩:=ry
 exact rule i j t t' s _ _ ⟨.int (g i j),H,I.tok _,⟨_,rfl⟩,q⟩
theorem cr {f:Value->Value->Sem Value} {g:Int->Int->Bool}
 (rule:∀(i j:Int) (t u:Tok) (s:Shared) (Q:Value->Shared->Prop) (E:Value->Shared->Prop),Q (.bool (g i j)) s->wpAny (model X.prog X.w) X.A (f (.int i t) (.int j u)) Q E s):
 Dy X f (S3 λi j=> .bl (g i j)):=by
 intro pins s σ H x y v u Q I rx ry h
 obtain ⟨i,j,rfl,rfl,q⟩:=h
 obtain ⟨t,rfl⟩:=rx
 obtain ⟨t',rfl⟩:=ry
 exact rule i j t t' s _ _ ⟨.bl (g i j),H,I,rfl,q⟩
def Yf (i j:Int):Prop:=0<=j/\j<=1000000/\i.natAbs<2^64
def Ln (i j:Int):Prop:=(-(2^64)<i/\i<2^64)\/(-(2^64)<j/\j<2^64)
theorem Ln.ok {i j:Int} (h:Ln i j):IntMulOk i j:=by
 rcases h with ⟨h1,h2⟩|⟨h1,h2⟩
 ·exact .of_left (intBits_le_64 h1 h2)
 ·exact .of_right (intBits_le_64 h1 h2)
theorem Js:Dy X (binaryOp .Add) (S3 λi j=> .int (i+j)):=gO λ_ _ _ _ _ _ _ q=>add_int q
theorem cz:Dy X (binaryOp .Sub) (S3 λi j=> .int (i-j)):=gO λ_ _ _ _ _ _ _ q=>sub_int q
theorem FN:Dy X (binaryOp .Mod) (rI (λ_ j=>0<j) λi j=> .int (i % j)):=cu λi j _ _ _ _ _ hc q=>by
 have h1:(0:Int)<j:=hc
 exact mod_int' (by omega) (by rw [Int.fmod_eq_emod_of_nonneg i (by omega)];exact q)
theorem Ze:Dy X (binaryOp .Mod) (rI (λ_ j=>j≠0) λi j=> .int (i.fmod j)):=cu λ_ _ _ _ _ _ _ hc q=>mod_int' hc q
theorem XZ:Dy X (binaryOp .Pow) (rI Yf λi j=> .int (i^j.toNat)):=cu λ_ _ _ _ _ _ _ hc q=>pow_int_small hc.1 hc.2.1 hc.2.2 q
theorem qF {f:Value->Sem Value} {g:Int->Int}
 (rule:∀(i:Int) (t:Tok) (s:Shared) (Q:Value->Shared->Prop) (E:Value->Shared->Prop),Q (.int (g i) s.toks) {s with toks:=s.toks+1}->wpAny (model X.prog X.w) X.A (f (.int i t)) Q E s):
 jJ X f (rU λi=> .int (g i)):=by
 intro pins s σ H x v Q I rx h
 obtain ⟨i,rfl,q⟩:=h
 obtain ⟨t,rfl⟩:=rx
 exact rule i t s _ _ ⟨.int (g i),H,I.tok _,⟨_,rfl⟩,q⟩
theorem dt:jJ X (unaryOp .USub) (rU λi=> .int (-i)):=qF λ_ _ _ _ _ q=>neg_int q
end
def Zy:V->V->Bool
 | .non, .non=>true | .non, .int _=>true | .int _, .non=>true | .non, .bl _=>true | .bl _, .non=>true | .non, .str _=>true | .str _, .non=>true
 | .int _, .int _=>true | .bl _, .bl _=>true | .str _, .str _=>true | .byt _, .byt _=>true
 | .int _, .str _=>true | .str _, .int _=>true | .bl _, .str _=>true | .str _, .bl _=>true
 | _,_=>false
def mX:R2:=λx y H Q=>Zy x y=true/\Q (.bl (decide (x=y))) H
def mY:R2:=λx y H Q=>Zy x y=true/\Q (.bl (!decide (x=y))) H
theorem Tf {i j:Int}:decide (V.int i=V.int j)=(i==j):=by
 rw [Bool.eq_iff_iff]
 simp
theorem WZ {i j:Bool}:decide (V.bl i=V.bl j)=(i==j):=by
 rw [Bool.eq_iff_iff]
 simp
theorem Tg {i j:Str}:decide (V.str i=V.str j)=(i==j):=by
 rw [Bool.eq_iff_iff]
 simp
theorem Te {i j:Array UInt8}:decide (V.byt i=V.byt j)=(i.toList==j.toList):=by
 rw [Bool.eq_iff_iff]
 cases i
 cases j
 simp
section
variable {X:Cx} {a b c:Expr} {ta tb tc:TE} {pos:Pos}
theorem BD {pins:List (Addr×Obj)} {σ:St} {H:Hp} {s:Shared} {Q:VK} {k k':Bool} (I:Inv X pins σ H s) (q:Q (.bl k) H) (e:k=k'):EP X pins σ Q (.bool k') s:=by
 subst e
 exact ⟨.bl k,H,I,rfl,q⟩
theorem gP:Dy X (compareOp .Eq) mX:=by
 intro pins s σ H x y v u Q I rx ry h
 obtain ⟨hs,q⟩:=h
 cases x with
 | non=>
   cases rx
   cases y with
   | non=>cases ry;exact PySem.EqNone.eq_none_none (BD I q (by simp))
   | bl j=>cases ry;exact PySem.EqNone.eq_none_bool (BD I q (by simp))
   | int j=>obtain ⟨t',rfl⟩:=ry;exact PySem.EqNone.eq_none_int (BD I q (by simp))
   | str j=>obtain ⟨t',rfl⟩:=ry;exact PySem.EqNone.eq_none_str (BD I q (by simp))
   | _=>exact absurd (show false=true from hs) Bool.false_ne_true
 | bl i=>
   cases rx
   cases y with
   | non=>cases ry;exact PySem.EqNone.eq_bool_none (BD I q (by simp))
   | bl j=>cases ry;exact eq_bool (BD I q WZ)
   | str j=>obtain ⟨t',rfl⟩:=ry;exact PySem.EqMixed.eq_bool_str (BD I q (by simp))
   | _=>exact absurd (show false=true from hs) Bool.false_ne_true
 | int i=>
   obtain ⟨t,rfl⟩:=rx
   cases y with
   | non=>cases ry;exact PySem.EqNone.eq_int_none (BD I q (by simp))
   | int j=>obtain ⟨t',rfl⟩:=ry;exact eq_int (BD I q Tf)
   | str j=>obtain ⟨t',rfl⟩:=ry;exact PySem.EqMixed.eq_int_str (BD I q (by simp))
   | _=>exact absurd (show false=true from hs) Bool.false_ne_true
 | str i=>
   obtain ⟨t,rfl⟩:=rx
   cases y with
   | non=>cases ry;exact PySem.EqNone.eq_str_none (BD I q (by simp))
   | bl j=>cases ry;exact PySem.EqMixed.eq_str_bool (BD I q (by simp))
   | int j=>obtain ⟨t',rfl⟩:=ry;exact PySem.EqMixed.eq_str_int (BD I q (by simp))
   | str j=>obtain ⟨t',rfl⟩:=ry;exact eq_str (BD I q Tg)
   | _=>exact absurd (show false=true from hs) Bool.false_ne_true
 | byt i=>
   obtain ⟨t,rfl⟩:=rx
   cases y with
   | byt j=>obtain ⟨t',rfl⟩:=ry;exact PySem.W.eq_bytes (BD I q Te)
   | _=>exact absurd (show false=true from hs) Bool.false_ne_true
 | _=>cases y <;> exact absurd (show false=true from hs) Bool.false_ne_true
theorem gR:Dy X (compareOp .NotEq) mY:=by
 intro pins s σ H x y v u Q I rx ry h
 obtain ⟨hs,q⟩:=h
 cases x with
 | non=>
   cases rx
   cases y with
   | non=>cases ry;exact PySem.EqNone.ne_none_none (BD I q (by simp))
   | bl j=>cases ry;exact PySem.EqNone.ne_none_bool (BD I q (by simp))
   | int j=>obtain ⟨t',rfl⟩:=ry;exact PySem.EqNone.ne_none_int (BD I q (by simp))
   | str j=>obtain ⟨t',rfl⟩:=ry;exact PySem.EqNone.ne_none_str (BD I q (by simp))
   | _=>exact absurd (show false=true from hs) Bool.false_ne_true
 | bl i=>
   cases rx
   cases y with
   | non=>cases ry;exact PySem.EqNone.ne_bool_none (BD I q (by simp))
   | bl j=>cases ry;exact ne_bool (BD I q (congrArg not WZ))
   | str j=>obtain ⟨t',rfl⟩:=ry;exact PySem.EqMixed.ne_bool_str (BD I q (by simp))
   | _=>exact absurd (show false=true from hs) Bool.false_ne_true
 | int i=>
   obtain ⟨t,rfl⟩:=rx
   cases y with
   | non=>cases ry;exact PySem.EqNone.ne_int_none (BD I q (by simp))
   | int j=>obtain ⟨t',rfl⟩:=ry;exact ne_int (BD I q (congrArg not Tf))
   | str j=>obtain ⟨t',rfl⟩:=ry;exact PySem.EqMixed.ne_int_str (BD I q (by simp))
   | _=>exact absurd (show false=true from hs) Bool.false_ne_true
 | str i=>
   obtain ⟨t,rfl⟩:=rx
   cases y with
   | non=>cases ry;exact PySem.EqNone.ne_str_none (BD I q (by simp))
   | bl j=>cases ry;exact PySem.EqMixed.ne_str_bool (BD I q (by simp))
   | int j=>obtain ⟨t',rfl⟩:=ry;exact PySem.EqMixed.ne_str_int (BD I q (by simp))
   | str j=>obtain ⟨t',rfl⟩:=ry;exact ne_str (BD I q (congrArg not Tg))
   | _=>exact absurd (show false=true from hs) Bool.false_ne_true
 | byt i=>
   obtain ⟨t,rfl⟩:=rx
   cases y with
   | byt j=>obtain ⟨t',rfl⟩:=ry;exact PySem.W.ne_bytes (BD I q (congrArg not Te))
   | _=>exact absurd (show false=true from hs) Bool.false_ne_true
 | _=>cases y <;> exact absurd (show false=true from hs) Bool.false_ne_true
theorem ao:Dy X (compareOp .Lt) (S3 λi j=> .bl (decide (i<j))):=cr λ_ _ _ _ _ _ _ q=>lt_int q
theorem am:Dy X (compareOp .Gt) (S3 λi j=> .bl (decide (j<i))):=cr λ_ _ _ _ _ _ _ q=>gt_int q
theorem gQ:Dy X (compareOp .GtE) (S3 λi j=> .bl (decide (j<=i))):=cr λ_ _ _ _ _ _ _ q=>ge_int q
theorem cx:Dy X (compareOp .Is) (λx y H Q=>y= .non/\Q (.bl (decide (x= .non))) H):=by
 intro pins s σ H x y v u Q I rx ry h
 obtain ⟨rfl,q⟩:=h
 cases ry
 refine is_none_gen (BD I q ?_)
 cases x <;> first
  | (cases rx;rfl)
  | (obtain ⟨t,rfl⟩:=rx;rfl)
theorem Dy.or {f:Value->Value->Sem Value} {r r':R2} (h:Dy X f r) (h':Dy X f r'):Dy X f (λx y H Q=>r x y H Q\/r' x y H Q):=by
 intro pins s σ H x y v u Q I rx ry q
 rcases q with q|q
 ·exact h pins s σ H x y v u Q I rx ry q
 ·exact h' pins s σ H x y v u Q I rx ry q
theorem Dq (b:Expr) {op:CmpOp} (h:op≠ .In:=by decide) (h2:op≠ .NotIn:=by decide):behindInMarks op b=false:=by
 have e1:(op==CmpOp.In)=false:=by cases op <;> first | rfl|exact absurd rfl h
 have e2:(op==CmpOp.NotIn)=false:=by cases op <;> first | rfl|exact absurd rfl h2
 cases b <;> simp [behindInMarks,e1,e2]
theorem UG {op:CmpOp} {r:R2} (ho:Dy X (compareOp op) r) (ha:PE X a ta) (hb:PE X b tb) (hm:behindInMarks op b=false):PE X (.Compare a [op] [b] pos) (iB r ta tb):=by
 intro pins s σ H Q I h
 exact wpAny_Compare1 (bV ha hb I h λv u s2 x y H2 I2 rx ry q=>ho pins s2 σ H2 x y v u Q I2 rx ry q) hm
def YG (t:TE):TT:=λσ H Q=>t σ H λx H'=>∃k,x= .bl k/\Q k H'
theorem Pk {op:CmpOp} {r:R2} (ho:Dy X (compareOp op) r) (ha:PE X a ta) (hb:PE X b tb) (hm:behindInMarks op b=false):PT X (.Compare a [op] [b] pos) (YG (iB r ta tb)):=by
 intro pins s σ H Q I h
 refine wpAny_isTrue_Compare1 (Bq (ha pins s σ H _ I h) λv s1 ⟨x,H1,I1,r1,q1⟩=>Bq (hb pins s1 σ H1 _ I1 q1) λu s2 ⟨y,H2,I2,r2,q2⟩=>
  Bq (ho pins s2 σ H2 x y v u _ I2 r1 r2 q2) λc s3 ⟨z,H3,I3,r3,k,e,q3⟩=> ?_) hm
 subst e
 cases r3
 exact wpAny_truthy_bool ⟨H3,I3,q3⟩
def YF (r r':R2) (ta tb tc:TE):TE:=λσ H Q=>ta σ H λx H1=>tb σ H1 λy H2=>r x y H2 λz H3=>∃k,z= .bl k/\
 (if k=true then tc σ H3 λw' H4=>r' y w' H4 Q else Q (.bl false) H3)
theorem Xj {op op':CmpOp} {r r':R2} (ho:Dy X (compareOp op) r) (Q8:Dy X (compareOp op') r') (ha:PE X a ta) (hb:PE X b tb) (hc:PE X c tc)
 (hm:lastMarks [op,op'] [b,c] =false:=by with_unfolding_all rfl):PT X (.Compare a [op,op'] [b,c] pos) (YG (YF r r' ta tb tc)):=by
 intro pins s σ H Q I h
 refine isTrue_chain (Bq (ha pins s σ H _ I h) λv s1 ⟨x,H1,I1,r1,q1⟩=>test_link (Bq (hb pins s1 σ H1 _ I1 q1) λu s2 ⟨y,H2,I2,r2,q2⟩=>
  Bq (ho pins s2 σ H2 x y v u _ I2 r1 r2 q2) λd s3 ⟨z,H3,I3,r3,k,e,q3⟩=> ?_)) hm
 subst e
 cases r3
 refine wpAny_truthy_bool ?_
 cases k with
 | false=>
   obtain ⟨k',e',q'⟩:=q3
   cases e'
   exact ite_ff ⟨H3,I3,q'⟩
 | true=>
   refine ite_tt (test_last (Bq (hc pins s3 σ H3 _ I3 q3) λw' s4 ⟨z',H4,I4,r4,q4⟩=>Bq (Q8 pins s4 σ H4 y z' u w' _ I4 r2 r4 q4) λd' s5 ⟨z2,H5,I5,r5,k2,e2,q5⟩=> ?_))
   subst e2
   cases r5
   exact wpAny_truthy_bool ⟨H5,I5,q5⟩
theorem MO:(sizeLine:Nat)<2^63:=by rw [sizeLine_eq];decide
theorem vals1 {x:V} {us:List Value} (r:Au [x] us):∃u,us= [u] /\RelV x u:=by
 cases r with
 | cons r1 r2=>cases r2;exact ⟨_,rfl,r1⟩
theorem vals2 {x y:V} {us:List Value} (r:Au [x,y] us):∃u w',us= [u,w'] /\RelV x u/\RelV y w':=by
 cases r with
 | cons r1 r2=>
   cases r2 with
   | cons r3 r4=>cases r4;exact ⟨_,_,rfl,r1,r3⟩
theorem MB:Br X (.builtin "abs") (λxs H Q=>∃i,xs= [.int i] /\Q (.int (if i<0 then -i else i)) H):=by
 intro pins s σ H xs us Q I r h
 obtain ⟨i,rfl,q⟩:=h
 obtain ⟨u,rfl,t,rfl⟩:=vals1 r
 exact call_abs_int λu tk=>⟨.int (if i<0 then -i else i),H,I.tok _,⟨_,rfl⟩,q⟩
theorem U5 (hc:X.calm=true):Br X (.builtin "min") (λxs H Q=>∃i j,xs= [.int i, .int j] /\Q (.int (if j<i then j else i)) H):=by
 intro pins s σ H xs us Q I r h
 obtain ⟨i,j,rfl,q⟩:=h
 obtain ⟨u,w',rfl,⟨t,rfl⟩,⟨t',rfl⟩⟩:=vals2 r
 refine min_two_ints (I.ok.hd hc) λh' tk k=>⟨_,H,I.kept k, ?_,q⟩
 by_cases hj:j<i
 ·rw [if_pos hj,if_pos hj];exact ⟨_,rfl⟩
 ·rw [if_neg hj,if_neg hj];exact ⟨_,rfl⟩
theorem OB:Br X (.type "int") (λxs H Q=>(∃i,xs= [.int i] /\Q (.int i) H)\/∃k,xs= [.bl k] /\Q (.int (if k then 1 else 0)) H):=by
 intro pins s σ H xs us Q I r h
 rcases h with ⟨i,rfl,q⟩|⟨k,rfl,q⟩
 ·obtain ⟨u,rfl,t,rfl⟩:=vals1 r
  exact call_int_int ⟨.int i,H,I,⟨_,rfl⟩,q⟩
 ·obtain ⟨u,rfl,r1⟩:=vals1 r
  cases r1
  exact call_int_bool ⟨.int (if k then 1 else 0),H,I.tok _,⟨_,rfl⟩,q⟩
end
end L2
namespace L2
open PySem PySem.Spec PyProof.Rows
structure bL (h:Heap) (x dx C:Addr) (mA:Str->Option Value):Prop where
 obj:h.get? x=some (PySem.W.instObj C dx)
 ns:h.Ns1 dx mA
 ne:dx≠x
theorem VW {h:Heap} {dx:Addr} {mA:Str->Option Value} (n:h.Ns1 dx mA):∃od,h.get? dx=some od/\∀name,PySem.W.lookIn name od=some (mA name):=by
 obtain ⟨o,es,ep,ho,hd,hk,_,hm⟩:=n
 refine ⟨o,ho,λname=> ?_⟩
 have e:=hm name
 unfold nsFind findBy at e
 rw [<-Array.find?_toList] at e
 unfold PySem.W.lookIn
 rw [hd]
 dsimp only
 split
 ·rename_i y q
  rw [q] at e
  exact congrArg some e
 ·rename_i q
  rw [q] at e
  have a:es.toList.any (·.refKey)=false:=by
   rw [List.any_eq_false]
   intro y hy
   obtain ⟨z,t,je⟩:=hk y (Array.mem_toList_iff.mp hy)
   simp [DictEntry.refKey,je]
  have a':¬es.toList.any (·.refKey)=true:=by rw [a];exact Bool.false_ne_true
  rw [if_neg a']
  exact congrArg some e
theorem bL.look {h:Heap} {x dx C:Addr} {mA:Str->Option Value} (I:bL h x dx C mA):∃od,PySem.W.InstAt h x (PySem.W.instObj C dx) C (some od)/\∀name,PySem.W.lookIn name od=some (mA name):=
 let ⟨od,ho,hl⟩:=VW I.ns
 ⟨od,⟨I.obj,rfl,rfl,ho⟩,hl⟩
section
variable {prog:Program} {w:World} {A:Around} {E:Value->Shared->Prop} {s:Shared} {K:PySem.W.Frag} {x dx C f:Addr} {mA:Str->Option Value} {name:Str} {v:Value}
theorem FH {expr:Bool} {Q:Value->Shared->Prop} (X:K.In s.heap) (I:bL s.heap x dx C mA) (hg:PySem.W.plainGet K C name=true) (hh:PySem.W.hasDictIn K C=true)
 (ha:PySem.W.findIn K (.ref C) name=some none) (hv:mA name=some v) (fk:PySem.W.handedIn v=true) (h:Q v {s with toks:=s.toks+1}):
 wpAny (model prog w) A (getAttr (.ref x) name expr) Q E s:=by
 obtain ⟨od,J,hl⟩:=I.look
 exact PySem.W.get_value X J (PySem.W.plainGet_of hg).1 (PySem.W.findObj_own hh ha rfl (by rw [hl,hv])) fk h
end
theorem L0.none_of {o:Option Value} (r:L0 none o):o=none:=by
 cases o with
 | none=>rfl
 | some u=>exact (show False from r).elim
section
variable {P:Program} {w:World} {H H':Hp} {h h':Heap} {a C dx:Addr} {fs fs':List (Str×V)}
end
structure i6 (K:PySem.W.Frag) (C:Addr):Prop where
 pg:PySem.W.plainGet K C Str.empty=true
 hd:PySem.W.hasDictIn K C=true
 po:PySem.W.plainOver K C=true
 sa:PySem.W.findIn K (.ref C) "__setattr__" =some (some (.builtin "object.__setattr__"))
theorem i6.get {K:PySem.W.Frag} {C:Addr} (c:i6 K C) (f:Str):PySem.W.plainGet K C f=true:=c.pg
structure qe (K:PySem.W.Frag) (C:Addr) (f:Str) (v:V) (u:Value):Prop where
 at_:PySem.W.findIn K (.ref C) f=some (some u)
 rel:RelV v u
 get:PySem.W.specialIn K u "__get__" =some none
 cp:PySem.W.copiedNames.contains f=false
structure ox (K:PySem.W.Frag) (C:Addr) (m:Str) (f:Addr):Prop where
 at_:PySem.W.findIn K (.ref C) m=some (some (.ref f))
 fn:PySem.W.isFn K (.ref f)=true
 kp:PySem.W.keepIn K (.ref f)=true
section
variable {X:Cx} {pins:List (Addr×Obj)} {σ:St} {H:Hp} {s:Shared} {a C dx:Addr} {fs:List (Str×V)} {f:Str} {v:V} {A:Around} {E:Value->Shared->Prop}
theorem Inv.made (I:Inv X pins σ H s):Inv X pins σ (upd (upd H s.heap.objs.size (.own (s.heap.objs.size+1))) (s.heap.objs.size+1) (.ins C s.heap.objs.size []))
 {s with heap:=(s.heap.push PySem.W.emptyDict).push (PySem.W.instObj C s.heap.objs.size)}:=by
 have e1:(s.heap.push PySem.W.emptyDict).get? s.heap.objs.size=some PySem.W.emptyDict:=Heap.get?_push_size s.heap rfl
 have e2:((s.heap.push PySem.W.emptyDict).push (PySem.W.instObj C s.heap.objs.size)).get? (s.heap.objs.size+1)=some (PySem.W.instObj C s.heap.objs.size):=by
  have:=Heap.get?_push_size (s.heap.push PySem.W.emptyDict) (o:=PySem.W.instObj C s.heap.objs.size) rfl
  rwa [Heap.size_push] at this
 have e3:(s.heap.push PySem.W.emptyDict).Ns s.heap.objs.size (λ_=>none):=⟨PySem.W.emptyDict, #[],_,e1,rfl,(λe he=>absurd he (by simp)),λ_=>rfl⟩
 have I1:=I.laid (a:=s.heap.objs.size) (o:= .own (s.heap.objs.size+1)) (h':=s.heap.push PySem.W.emptyDict) (t':=s.toks) (λb u q=>Heap.get?_push_of_some _ q) (Nat.le_refl _) ⟨_,e1⟩
 refine I1.laid (a:=s.heap.objs.size+1) (o:= .ins C s.heap.objs.size []) (t':=s.toks) (λb u q=>Heap.get?_push_of_some _ q) (Nat.le_of_eq (Heap.size_push _ _)) ?_
 have ne:s.heap.objs.size≠s.heap.objs.size+1:=Nat.ne_of_lt (Nat.lt_succ_self _)
 refine ⟨by rw [Ak ne,A6],Nat.zero_le _,ne,e2,λ_=>none,(Heap.Ns1.of_empty e3).at λo q=>Heap.get?_push_of_some _ q,λ_=>True.intro,λy hy=>absurd rfl hy⟩
end
section
variable {X:Cx} {o e value:Expr} {f:Str} {pos pos' tpos:Pos} {ta tv:TE}
end
section
variable {X:Cx} {pins:List (Addr×Obj)} {σ:St} {H:Hp} {s:Shared} {A:Around} {E:Value->Shared->Prop} {Q:Value->Shared->Prop} {c:Value} {b:Bool}
inductive L1 (K:PySem.W.Frag) (H:Hp):V->Value->Prop where
 | non:L1 K H .non (.type "NoneType")
 | bl (x:Bool):L1 K H (.bl x) (.type "bool")
 | int (i:Int):L1 K H (.int i) (.type "int")
 | str (x:Str):L1 K H (.str x) (.type "str")
 | flt (x:UInt64):L1 K H (.flt x) (.type "float")
 | lst {a:Addr} {xs:List V} (e:H a=some (.lst xs)):L1 K H (.ref a) (.type "list")
 | frz {a:Addr} {o:Obj} {xs:List V} (e:H a=some (.frz o (.lst xs))):L1 K H (.ref a) (.type "list")
 | tup {a:Addr} {xs:List V} (e:H a=some (.tup xs)):L1 K H (.ref a) (.type "tuple")
 | dK {a:Addr} {kvs:List (Er×V)} (e:H a=some (.dK kvs)):L1 K H (.ref a) (.type "dict")
 | dT {a:Addr} {kvs:List (List Er×V)} (e:H a=some (.dT kvs)):L1 K H (.ref a) (.type "dict")
 | ins {a C dx:Addr} {fs:List (Str×V)} (e:H a=some (.ins C dx fs)) (cl:i6 K C) (ha:PySem.W.findIn K (.ref C) "__class__" =some (some (.builtin "object.__class__")))
    (hn:PySem.W.specialIn K (.builtin "object.__class__") "__get__" =some (some (.builtin "getset_descriptor.__get__"))) (qv:PySem.W.takesIn K (.builtin "object.__class__")=some true)
    (hm:PySem.W.mroIn K C (.type "object")=some true):L1 K H (.ref a) (.ref C)
end
end L2
namespace L2
open PySem PySem.Spec PyProof.Rows
structure Room (k:Nat) (A:Around):Prop where
 hd:A.handled=none
 dp:A.depth+3*k+5<recursionLimit
 un:A.units+16*k+200<cLine
 gd:A.guards=some []
theorem Room.mono {j k:Nat} {A:Around} (r:Room k A) (h:j<=k):Room j A:=⟨r.hd,by have:=r.dp;omega,by have:=r.un;omega,r.gd⟩
theorem Room.deeper {k:Nat} {A:Around} (r:Room (k+1) A) (env:Env):Room k (A.deeper env):=
 ⟨r.hd,by have:=r.dp;show A.depth+1+3*k+5<_;omega,by have:=r.un;show A.units+3+16*k+200<_;omega,r.gd⟩
theorem Room.in1 {k:Nat} {A:Around} (r:Room (k+1) A):Room k A.in1:=
 ⟨r.hd,by have:=r.dp;show A.depth+3*k+5<_;omega,by have:=r.un;show A.units+1+16*k+200<_;omega,r.gd⟩
theorem Sf {A:Around} {C:Addr} {us:List Value} {kw:List (Str×Value)}:(A.under (.builtin "type.__call__" ⟨.ref C::us,kw⟩)).depth=A.depth+1:=by
 first | rfl|simp [Around.under,Code.weight,Code.isCreation,Code.isGuard,Code.isCaller,Code.frames,Code.isFrame,guardIds]
theorem Sg {A:Around} {C:Addr} {us:List Value} {kw:List (Str×Value)}:(A.under (.builtin "type.__call__" ⟨.ref C::us,kw⟩)).units=A.units+1:=by
 first | rfl|simp [Around.under,Code.cUnits,Code.frames,Code.isFrame]
theorem Room.make {k:Nat} {A:Around} (r:Room (k+1) A) (C:Addr) (us:List Value) (kw:List (Str×Value)):Room k (A.under (.builtin "type.__call__" ⟨.ref C::us,kw⟩)):=
 ⟨r.hd,by have:=r.dp;rw [Sf];omega,by have:=r.un;rw [Sg];omega,by first | exact r.gd|simpa [Around.under,pushGuards,Code.guards,Code.isGuard,guardIds] using r.gd⟩
theorem Room.depth {k:Nat} {A:Around} (r:Room k A):A.depth<recursionLimit:=by have:=r.dp;omega
theorem Room.units {k:Nat} {A:Around} (r:Room k A):A.units+64<cLine:=by have:=r.un;omega
def kH:TA:=λ_ H Q=>Q [] H
def hZ (ta:TE) (tr:TA):TA:=λσ H Q=>ta σ H λx H1=>tr σ H1 λxs H2=>Q (x::xs) H2
section
variable {X:Cx} {e:Expr} {es:List Expr} {te:TE} {t:TA} {pos:Pos}
theorem Jt:PA X [] kH:=λ_ _ _ _ H Q I h=>Calls.spliced_nil ⟨[],H,I, .nil,h⟩
theorem FO (ha:PE X e te) (hr:PA X es t) (hs:starEach (e::es) X.env=(false,eval e X.env)::starEach es X.env:=by rfl):PA X (e::es) (hZ te t):=by
 intro pos pins s σ H Q I h
 rw [hs]
 show wpAny _ _ (spliced ((false,eval e X.env)::backTo pos (starEach es X.env))) _ _ s
 refine Calls.spliced_cons (Bq (ha pins s σ H _ I h) λu s1 ⟨x,H1,I1,r1,q1⟩=> ?_)
 exact Bq (hr pos pins s1 σ H1 _ I1 q1) λus s2 ⟨xs,H2,I2,r2,q2⟩=>⟨x::xs,H2,I2, .cons r1 r2,q2⟩
def kN (t:TA):TE:=λσ H Q=>t σ H λxs H1=>xs.length<=sizeLine/\∀p,H1 p=none->Q (.ref p) (upd H1 p (.tup xs))
def kF (t:TA):TE:=λσ H Q=>t σ H λxs H1=>xs.length<=sizeLine/\∀p,H1 p=none->Q (.ref p) (upd H1 p (.lst xs))
theorem dC {x1} (h:PA X es t):PE X (.Tuple es x1 pos) (kN t):=by
 intro pins s σ H Q I hq
 refine wpAny_Tuple_spliced (Bq (h pos pins s σ H _ I hq) λus s1 ⟨xs,H1,I1,r,z,q⟩=>⟨by rw [<-r.length];exact z, ?_⟩)
 have hf:H1 s1.heap.objs.size=none:=I1.hok.fresh (Nat.le_refl _)
 refine ⟨.ref s1.heap.objs.size,upd H1 s1.heap.objs.size (.tup xs),I1.laid (t':=s1.toks) (λb u e=>Heap.get?_push_of_some _ e) (Nat.le_refl _) ?_,rfl,q _ hf⟩
 exact ⟨z,us,r,⟨_,Heap.get?_push_size _ rfl,rfl,_,rfl⟩⟩
theorem Xd (h:PA X es t):PE X (.List es pos) (kF t):=by
 intro pins s σ H Q I hq
 refine wpAny_List_spliced (Bq (h pos pins s σ H _ I hq) λus s1 ⟨xs,H1,I1,r,z,q⟩=>⟨by rw [<-r.length];exact z, ?_⟩)
 have hf:H1 s1.heap.objs.size=none:=I1.hok.fresh (Nat.le_refl _)
 refine ⟨.ref s1.heap.objs.size,upd H1 s1.heap.objs.size (.lst xs),I1.laid (t':=s1.toks) (λb u e=>Heap.get?_push_of_some _ e) (Nat.le_refl _) ?_,rfl,q _ hf⟩
 exact ⟨z,us,0,r,Heap.get?_push_size _ rfl⟩
end
abbrev Sp:=List V->Hp->VK->XK->Prop
abbrev Up:=List Env->Hp->Shared->XK->Value->Shared->Prop
structure NP (P:Program) (w:World) (K:PySem.W.Frag) (mg:Str->Option Value) (base:Heap) (A:Around) (outer:List Env) (s:Shared) (H:Hp):Prop where
 frames:A.frames=some outer
 mod:Mod K mg base
 bs:∀b o,base.get? b=some o->s.heap.get? b=some o/\H b=none
 bsz:base.objs.size<=s.heap.objs.size
 funs:s.heap.FunFrames base outer
 frf:∀b∈Vy outer,H b=none
 hok:Ly P w H s.heap
 bare:AllBare s.gens
def CE (outer:List Env) (P:Program) (w:World) (H:Hp) (s:Shared) (Q:VK) (u:Value) (s':Shared):Prop:=
 ∃v H',s'.os=s.os/\AllBare s'.gens/\Un (Vy outer) [] H H' s.heap s'.heap/\Ly P w H' s'.heap/\RelV v u/\Q v H'
def CR (CX:Up) (outer:List Env) (P:Program) (w:World) (H:Hp) (s:Shared) (Q:VK) (E:XK) (r:Result) (s':Shared):Prop:=
 match r with
 | .ok (.ret u)=>CE outer P w H s Q u s'
 | .ok _=>False
 | .error e=>CX outer H s E e s'
structure A2 (P:Program) (w:World) (K:PySem.W.Frag) (mg:Str->Option Value) (base:Heap) (CX:Up) (k:Nat) (f:Addr) (fd:FuncData) (ps:List Str) (sp:Sp):Prop where
 len:∀vs H Q E,sp vs H Q E->vs.length=ps.length
 run:∀(A:Around) (outer:List Env) (s:Shared) (H:Hp) (args:Args) (us:List Value) (vs:List V) (Q:VK) (E:XK),Room k A->NP P w K mg base A outer s H->BindsTo s fd args (ps.zip us)->Au vs us->sp vs H Q E->
  codeAny (model P w) A (.call (.ref f) args) (CR CX outer P w H s Q E) s
theorem A2.mono {P:Program} {w:World} {K:PySem.W.Frag} {mg:Str->Option Value} {base:Heap} {CX:Up} {j k:Nat} {f:Addr} {fd:FuncData} {ps:List Str} {sp:Sp} (F:A2 P w K mg base CX j f fd ps sp) (h:j<=k):
 A2 P w K mg base CX k f fd ps sp:=⟨F.len,λA outer s H args us vs Q E hr=>F.run A outer s H args us vs Q E (hr.mono h)⟩
theorem A2.imp {P:Program} {w:World} {K:PySem.W.Frag} {mg:Str->Option Value} {base:Heap} {CX:Up} {k:Nat} {f:Addr} {fd:FuncData} {ps:List Str} {sp sp':Sp} (F:A2 P w K mg base CX k f fd ps sp)
 (h:∀vs H Q E,sp' vs H Q E->sp vs H Q E):A2 P w K mg base CX k f fd ps sp':=
 ⟨λvs H Q E q=>F.len vs H Q E (h _ _ _ _ q),λA outer s H args us vs Q E hr he hb hv hs=>F.run A outer s H args us vs Q E hr he hb hv (h _ _ _ _ hs)⟩
theorem NP.make {P:Program} {w:World} {K:PySem.W.Frag} {mg:Str->Option Value} {base:Heap} {A:Around} {outer:List Env} {s:Shared} {H:Hp} (e:NP P w K mg base A outer s H) (C:Addr) (us:List Value) (kw:List (Str×Value)):
 NP P w K mg base (A.under (.builtin "type.__call__" ⟨.ref C::us,kw⟩)) outer s H:=⟨by first | exact e.frames|(simpa [Around.under,Code.envs,Code.isFrame,pushEnvs] using e.frames),e.mod,e.bs,e.bsz,e.funs,e.frf,e.hok,e.bare⟩
theorem NP.in1 {P:Program} {w:World} {K:PySem.W.Frag} {mg:Str->Option Value} {base:Heap} {A:Around} {outer:List Env} {s:Shared} {H:Hp} (e:NP P w K mg base A outer s H):
 NP P w K mg base A.in1 outer s H:=⟨e.frames,e.mod,e.bs,e.bsz,e.funs,e.frf,e.hok,e.bare⟩
section
variable {X:Cx} {pins:List (Addr×Obj)} {σ:St} {H:Hp} {s s':Shared}
theorem Inv.env0 (I:Inv X pins σ H s):NP X.prog X.w X.K X.mg X.base X.A X.stack s H:=
 ⟨I.ok.frames,I.ok.mod,I.bs,Nat.le_trans I.ok.bsz I.sz,I.stack,I.stkFree,I.hok,I.bare⟩
theorem Inv.after {Q:VK} {u:Value} (I:Inv X pins σ H s) (h:CE X.stack X.prog X.w H s Q u s'):EP X pins σ Q u s':=by
 obtain ⟨v,H',os,bare,un,hok,r,q⟩:=h
 obtain ⟨hh,g,d,t,os'⟩:=s'
 obtain rfl:os'=s.os:=os
 exact ⟨v,H',I.call (h':=hh) (g':=g) (d':=d) (t':=t) (ch:= []) un hok bare (λb z=>absurd z (by simp)),r,q⟩
end
def az (sp:Sp) (dvs:List V) (E:XK) (t:TA):TE:=λσ H Q=>t σ H λvs H1=>sp (vs++dvs) H1 Q E
def Binds (K:PySem.W.Frag) (fd:FuncData) (ps:List Str) (ds:List Value):Prop:=
 ∀(s:Shared) (us:List Value),K.In s.heap->(us++ds).length=ps.length->BindsTo s fd ⟨us, []⟩ (ps.zip (us++ds))
theorem Binds.all {K:PySem.W.Frag} {fd:FuncData} {ps:List Str} (h:∀us:List Value,us.length=ps.length->bindArgs fd ⟨us, []⟩=pure (ps.zip us)):Binds K fd ps [] :=λs us _ hl=>by
 rw [List.append_nil] at hl ⊢
 exact .of_eq (h us hl)
def Passes (CX:Up) (X:Cx) (E:XK):Prop:=∀(pins:List (Addr×Obj)) (σ:St) (H:Hp) (s:Shared) (e:Value) (s':Shared),Inv X pins σ H s->CX X.stack H s E e s'->X.xe e s'
section
variable {X:Cx} {CX:Up} {k:Nat} {f C:Addr} {fd:FuncData} {ps:List Str} {sp:Sp} {dvs:List V} {ds:List Value} {E:XK} {x m:Str} {p pos apos:Pos} {e o:Expr} {es:List Expr} {ta:TE} {t:TA}
theorem dO {pins:List (Addr×Obj)} {σ:St} {H:Hp} {s:Shared} {Q:VK} {us:List Value} {vs:List V} (F:A2 X.prog X.w X.K X.mg X.base CX k f fd ps sp) (hr:Room k X.A) (hb:Binds X.K fd ps ds) (hd:Au dvs ds) (hx:Passes CX X E)
 (I:Inv X pins σ H s) (r:Au vs us) (h:sp (vs++dvs) H Q E):wpAny (model X.prog X.w) X.A (call (.ref f) us) (EP X pins σ Q) X.xe s:=by
 have r2:Au (vs++dvs) (us++ds):=r.append hd
 have hl:(us++ds).length=ps.length:=by rw [<-r2.length];exact F.len _ _ _ _ h
 refine wpAny_call (codeAny_mono (F.run X.A X.stack s H ⟨us, []⟩ (us++ds) (vs++dvs) Q E hr I.env0 (hb s us I.kIn hl) r2 h) λr s' hq=> ?_)
 cases r with
 | error e=>exact hx pins σ H s e s' I hq
 | ok fl=>
   cases fl with
   | ret u=>exact I.after hq
   | next=>exact False.elim hq
   | brk=>exact False.elim hq
   | cont=>exact False.elim hq
theorem Zh (F:A2 X.prog X.w X.K X.mg X.base CX k f fd ps sp) (hr:Room k X.A) (hg:Gl X x) (hm:X.mg x=some (.ref f)) (hk:PySem.W.keepIn X.K (.ref f)=true) (hb:Binds X.K fd ps ds) (hd:Au dvs ds) (hx:Passes CX X E)
 (ha:PA X (e::es) t) (hdb:(x==("__debug__" :Str))=false:=by decide) (he:starEach (e::es) X.env=(false,eval e X.env)::starEach es X.env:=by rfl) (hpl:(backTo pos (starEach es X.env)).any (·.1)=false:=by rfl):
 PE X (.Call (.Name x p) (e::es) [] pos) (az sp dvs E t):=by
 intro pins s σ H Q I h
 refine wpAny_Call_Name_kw (ZP I hg hm ?_ hdb)
 refine PySem.W.callWith_K (h₀:=X.base) I.ok.mod.kin hk (Bq (ha pos pins s σ H _ I h) λus s1 ⟨vs,H1,I1,r,q⟩=>⟨I1.kIn, ?_⟩) he hpl
 exact dO F hr hb hd hx I1 r q
structure Mk (K:PySem.W.Frag) (C f:Addr):Prop where
 makes:PySem.W.makesIn K C=true
 init:PySem.W.findIn K (.ref C) "__init__" =some (some (.ref f))
 fn:PySem.W.isFn K (.ref f)=true
 kp:PySem.W.keepIn K (.ref C)=true
end
section
variable {X:Cx} {CX:Up} {k:Nat} {f C:Addr} {fd:FuncData} {ps ks:List Str} {sp:Sp} {E:XK} {x m:Str} {p pos apos kpos:Pos} {e o:Expr} {es:List Expr} {kws:List Keyword} {te ta:TE} {t tk:TA} {nm:Option Str}
structure jF (K:PySem.W.Frag) (fd:FuncData) (ps ks:List Str) (g:List Value->List Value->List Value) (gV:List V->List V->List V):Prop where
 to:∀(s:Shared) (us ws:List Value),K.In s.heap->(g us ws).length=ps.length->BindsTo s fd ⟨us,ks.zip ws⟩ (ps.zip (g us ws))
 rel:∀{vs:List V} {us:List Value} {zs:List V} {ws:List Value},Au vs us->Au zs ws->Au (gV vs zs) (g us ws)
variable {g:List Value->List Value->List Value} {gV:List V->List V->List V}
end
structure AY (N P:List Str) (sc:Scope):Prop where
 kind:sc.kind= .function
 co:sc.isCoroutine=false
 gen:sc.isGenerator=false
 nd:N.Nodup
 pre:N.take P.length=P
 par:∀x∈P,sc.names.lookup x=some .local\/sc.names.lookup x=some .cell
 nofree:∀y∈sc.names,y.2≠ .free
theorem N9 {kindOf:Str->Option NameKind} {x:Str}:∀{binds:List (Str×Value)} {m:Str->Option Value},(∀v,(x,v) ∉ binds)->bindL kindOf binds m x=m x
 | [],_,_=>rfl
 | (n,v)::r,m,h=>by
   unfold bindL
   rw [N9 λw hw=>h w (List.mem_cons_of_mem _ hw)]
   split
   ·have:x≠n:=by rintro rfl;exact h v List.mem_cons_self
    simp [this]
   ·rfl
theorem N7 {kindOf:Str->Option NameKind} {x:Str}:∀{binds:List (Str×Value)} {m:Str->Option Value},(∀v,(x,v) ∉ binds)->bindC kindOf binds m x=m x
 | [],_,_=>rfl
 | (n,v)::r,m,h=>by
   unfold bindC
   rw [N7 λw hw=>h w (List.mem_cons_of_mem _ hw)]
   split
   ·rfl
   ·have:x≠n:=by rintro rfl;exact h v List.mem_cons_self
    simp [this]
theorem N8 {kindOf:Str->Option NameKind} {x:Str} {v:Value}:∀{P:List Str} {vs:List Value} {i:Nat} {m:Str->Option Value},P.Nodup->P[i]? =some x->vs[i]? =some v->kindOf x=some .local->
 bindL kindOf (P.zip vs) m x=some v
 | [],_,_,_,_,h,_,_=>by simp at h
 | _::_, [],_,_,_,_,h,_=>by simp at h
 | p::P,w::vs,0,m,nd,h1,h2,hk=>by
   simp at h1 h2;subst h1;subst h2
   show bindL kindOf ((p,w)::P.zip vs) m p=_
   unfold bindL
   rw [N9 λv hv=>(List.nodup_cons.mp nd).1 (List.of_mem_zip hv).1,if_pos hk]
   simp
 | p::P,w::vs,i+1,m,nd,h1,h2,hk=>by
   show bindL kindOf ((p,w)::P.zip vs) m x=_
   unfold bindL
   exact N8 (i:=i) (List.nodup_cons.mp nd).2 (by simpa using h1) (by simpa using h2) hk
theorem N6 {kindOf:Str->Option NameKind} {x:Str} {v:Value}:∀{P:List Str} {vs:List Value} {i:Nat} {m:Str->Option Value},P.Nodup->P[i]? =some x->vs[i]? =some v->kindOf x≠some .local->
 bindC kindOf (P.zip vs) m x=some v
 | [],_,_,_,_,h,_,_=>by simp at h
 | _::_, [],_,_,_,_,h,_=>by simp at h
 | p::P,w::vs,0,m,nd,h1,h2,hk=>by
   simp at h1 h2;subst h1;subst h2
   show bindC kindOf ((p,w)::P.zip vs) m p=_
   unfold bindC
   rw [N7 λv hv=>(List.nodup_cons.mp nd).1 (List.of_mem_zip hv).1,if_neg hk]
   simp
 | p::P,w::vs,i+1,m,nd,h1,h2,hk=>by
   show bindC kindOf ((p,w)::P.zip vs) m x=_
   unfold bindC
   exact N6 (i:=i) (List.nodup_cons.mp nd).2 (by simpa using h1) (by simpa using h2) hk
def start (N:List Str) (vs:List V):St:=vs.map some++List.replicate (N.length-vs.length) none
def SD (CX:Up) (P:Program) (w:World) (K:PySem.W.Frag) (mg:Str->Option Value) (base:Heap) (N:List Str) (qual:Str) (scope:Scope) (f:Addr) (cd:Value) (A:Around) (outer:List Env) (s:Shared) (H:Hp) (E:XK):Cx where
 prog:=P
 w:=w
 K:=K
 mg:=mg
 base:=base
 A:=A.deeper (envOfC qual scope s.heap.objs.size f cd)
 N:=N
 s₀:=s
 H₀:=H
 env:=envOfC qual scope s.heap.objs.size f cd
 outer:=outer
 stack:=envOfC qual scope s.heap.objs.size f cd::outer
 ex:= []
 calm:=true
 fn:=λ_=>true
 pn:= []
 xe:=λe s'=>wpAny (model P w) (A.deeper (envOfC qual scope s.heap.objs.size f cd)) (leaving (envOfC qual scope s.heap.objs.size f cd) e) (λ_ s''=>CX outer H s E e s'') (λe' s''=>CX outer H s E e' s'') s'
theorem Qo {sc:Scope} {n:Nat} {x:Str} (h:sc.names.lookup x=some .cell):∃c,(cellsFrom n sc.names []).lookup x=some c:=by
 have q:=PySem.W.cellsFrom_some sc.names n [] (.inl h)
 exact Option.isSome_iff_exists.mp q
theorem VS {CX:Up} {P:Program} {w:World} {K:PySem.W.Frag} {mg:Str->Option Value} {base:Heap} {N ps:List Str} {qual:Str} {scope:Scope} {f:Addr} {cd:Value} {A:Around} {outer:List Env} {s s1:Shared} {H:Hp} {E:XK} {us:List Value} {vs:List V}
 (S:AY N ps scope) (hd:A.handled=none) (e0:NP P w K mg base A outer s H) (hl:vs.length=ps.length) (r:Au vs us)
 (x:InCallC s s.heap.objs.size (bindL (envOfC qual scope s.heap.objs.size f cd).kindOf (ps.zip us) λ_=>none) (cellsFrom (s.heap.objs.size+1) scope.names []) (bindC (envOfC qual scope s.heap.objs.size f cd).kindOf (ps.zip us) λ_=>none) s1):
 Inv (SD CX P w K mg base N qual scope f cd A outer s H E) [] (start N vs) H s1:=by
 have hpl:ps.length<=N.length:=by have:=congrArg List.length S.pre;rw [List.length_take] at this;omega
 obtain ⟨h1,tk,rfl,hk⟩:=x.done
 have noA:∀b:Addr,b ∉ (SD CX P w K mg base N qual scope f cd A outer s H E).ex:=λb z=>absurd (show b∈([] :List Addr) from z) (by simp)
 refine ⟨⟨e0.mod,S.kind,rfl,rfl,Nat.le_refl _,λy z c h1 h2=> ?_,λy hy=> ?_,λy c _ h=> ?_,λ_=>hd,Around.frames_deeper e0.frames, .inr ⟨rfl,rfl⟩,λb z=>absurd z (noA b),e0.bs,e0.bsz,λb _ _=>noA b,λb z=>absurd z (noA b),e0.funs,e0.frf⟩,
  rfl,e0.bare,Un.kept hk,⟨_,x.toInCall.ns,λi y v h1 h2 h3=> ?_⟩,λy c h=>⟨_,x.cell y c h⟩,e0.hok.fresh (Nat.le_refl _),λy c h=> ?_,λp hp=>absurd (show p∈([] :List (Addr×Obj)) from hp) (by simp),e0.hok.kept hk, ?_⟩
 ·exact name_of_addr x.apart (PySem.mem_of_lookup h1) (PySem.mem_of_lookup h2)
 ·have hy:scope.names.lookup y=some .cell\/scope.names.lookup y=some .free:=hy
  rcases hy with hy|hy
  ·exact Qo hy
  ·exact absurd rfl (S.nofree _ (PySem.mem_of_lookup hy))
 ·exact Nat.le_of_lt (x.above y c (PySem.mem_of_lookup h))
 ·have hi:i<vs.length:=by
   unfold start at h2
   by_cases hi:i<vs.length
   ·exact hi
   ·rw [List.getElem?_append_right (by simpa using hi)] at h2
    rw [List.getElem?_replicate] at h2
    split at h2 <;> cases h2
  have ha:vs[i]? =some v:=by
   unfold start at h2
   rw [List.getElem?_append_left (by simpa using hi),List.getElem?_map] at h2
   cases e:vs[i]? with
   | none=>rw [e] at h2;cases h2
   | some a=>rw [e] at h2;cases h2;rfl
  obtain ⟨u,hu,rv⟩:=r.get ha
  have hp:ps[i]? =some y:=by
   rw [<-S.pre,List.getElem?_take_of_lt (by omega)];exact h1
  have ndP:ps.Nodup:=by rw [<-S.pre];exact S.nd.sublist (List.take_sublist _ _)
  refine ⟨u,rv, ?_⟩
  rcases S.par y (List.mem_of_getElem? hp) with k|k
  ·exact .inl ⟨k,N8 ndP hp hu k⟩
  ·obtain ⟨c,e⟩:=Qo (n:=s.heap.objs.size+1) k
   refine .inr ⟨.inl k,c,e, ?_⟩
   have q:=x.cell y c e
   rw [N6 ndP hp hu (by show scope.names.lookup y≠_;rw [k];decide)] at q
   exact q
 ·exact e0.hok.fresh (Nat.le_of_lt (x.above y c (PySem.mem_of_lookup h)))
 ·unfold start
  show _=N.length
  rw [List.length_append,List.length_map,List.length_replicate]
  omega
theorem fS {CX:Up} {P:Program} {w:World} {K:PySem.W.Frag} {mg:Str->Option Value} {base:Heap} {k:Nat} {f:Addr} {name qual:Str} {params:Arguments} {body:List Stmt} {scope:Scope} {dV kV doc pm cdv ct oc:Value} {an od:Option Addr}
 {osl:Array (Option Value)} {N ps:List Str} {sp:Sp} (lk:K.lookup f=some ⟨oc,od, .func (PySem.W.fnOf name qual params body scope dV kV doc pm an cdv ct),osl⟩) (NB:PySem.W.codeIn K cdv qual=true) (S:AY N ps scope)
 (len:∀vs H Q E,sp vs H Q E->vs.length=ps.length)
 (Q4:∀(A:Around) (outer:List Env) (s:Shared) (H:Hp) (vs:List V) (Q:VK) (E:XK),Room k (A.deeper (envOfC qual scope s.heap.objs.size f cdv))->sp vs H Q E->
   ∃t,TV (SD CX P w K mg base N qual scope f cdv A outer s H E) body t/\t {nx:=λ_ H'=>Q .non H',rt:=Q} (start N vs) H):
 A2 P w K mg base CX (k+1) f (PySem.W.fnOf name qual params body scope dV kV doc pm an cdv ct) ps sp:=by
 refine ⟨len,λA outer s H args us vs Q E hr e0 hb r aZ=> ?_⟩
 have hl:=len _ _ _ _ aZ
 have KX:K.In s.heap:=e0.mod.kin.keeps λb o e=>(e0.bs b o e).1
 have lim:s.heap.NoLimit:=e0.mod.nolimit.keeps λb o e=>(e0.bs b o e).1
 have fb:∀y∈ps.zip us,scope.names.lookup y.1=some .local\/(scope.names.lookup y.1=some .cell/\((cellsFrom (s.heap.objs.size+1) scope.names []).lookup y.1).isSome=true):=λ⟨n,v⟩ hy=>by
  rcases S.par n (List.of_mem_zip hy).1 with q|q
  ·exact .inl q
  ·exact .inr ⟨q,PySem.W.cellsFrom_some _ _ _ (.inl q)⟩
 refine codeAny_call_function hr.depth (KX _ _ lk) rfl S.co S.gen rfl (PySem.W.codeRec_of KX NB) (hb _ _ _ _ ?_)
 refine wpAny_newFunctionEnv_cells S.kind fb λenv he s1 x=> ?_
 subst he
 refine ⟨lim.keeps x.toInCall.keep,codeAny_func ?_⟩
 obtain ⟨t,ht,hq⟩:=Q4 A outer s H vs Q E (hr.deeper _) aZ
 have I:Inv (SD CX P w K mg base N qual scope f cdv A outer s H E) [] (start N vs) H s1:=VS S hr.hd e0 hl r x
 refine wpAny_mono (ht [] s1 (start N vs) H _ I hq) (λfl s' hs=> ?_) λe s' hs=>hs
 have fin:∀{σ':St} {H':Hp} {v:V} {u:Value},Inv (SD CX P w K mg base N qual scope f cdv A outer s H E) [] σ' H' s'->RelV v u->Q v H'->CE outer P w H s Q u s':=
  λ{σ' H' v u} J rv q=>⟨v,H',J.os,J.bare,J.base,J.hok,rv,q⟩
 cases fl with
 | ret u=>
   obtain ⟨v,σ',H',J,rv,q⟩:=hs
   exact fin J rv q
 | next=>
   obtain ⟨σ',H',J,q⟩:=hs
   exact fin (v:=V.non) (u:=Value.none) J rfl q
 | brk=>
   obtain ⟨_,_,_,q⟩:=hs
   exact False.elim q
 | cont=>
   obtain ⟨_,_,_,q⟩:=hs
   exact False.elim q
end L2
namespace L2
open PySem PySem.Spec PyProof.Rows
section
variable {X:Cx} {x:Str} {p pos:Pos} {e:Expr} {es:List Expr} {t:TA} {id T:String} {r:List V->Hp->VK->Prop}
def kC (r:List V->Hp->VK->Prop) (t:TA):TE:=λσ H Q=>t σ H λvs H1=>r vs H1 Q
theorem IR (hc:Br X (.builtin id) r) (hg:Gl X x) (hm:X.mg x=none) (hv:bootBuiltins x=some (.builtin id)) (ha:PA X (e::es) t) (hn:x≠"__name__" :=by decide) (hdb:(x==("__debug__" :Str))=false:=by decide)
 (he:starEach (e::es) X.env=(false,eval e X.env)::starEach es X.env:=by rfl) (hpl:(backTo pos (starEach es X.env)).any (·.1)=false:=by rfl):PE X (.Call (.Name x p) (e::es) [] pos) (kC r t):=by
 intro pins s σ H Q I h
 refine wpAny_Call_Name_kw (GD I hg hm hv ?_ hn hdb)
 exact PyProof.Rows.callWith_builtin1 (Bq (ha pos pins s σ H _ I h) λus s1 ⟨vs,H1,I1,r1,q1⟩=>hc pins s1 σ H1 vs us Q I1 r1 q1) he hpl
theorem OL (hc:Br X (.type T) r) (hg:Gl X x) (hm:X.mg x=none) (hv:bootBuiltins x=some (.type T)) (ha:PA X (e::es) t) (hn:x≠"__name__" :=by decide) (hdb:(x==("__debug__" :Str))=false:=by decide)
 (he:starEach (e::es) X.env=(false,eval e X.env)::starEach es X.env:=by rfl) (hpl:(backTo pos (starEach es X.env)).any (·.1)=false:=by rfl):PE X (.Call (.Name x p) (e::es) [] pos) (kC r t):=by
 intro pins s σ H Q I h
 refine wpAny_Call_Name_kw (GD I hg hm hv ?_ hn hdb)
 exact PyProof.Rows.callWith_type1 (Bq (ha pos pins s σ H _ I h) λus s1 ⟨vs,H1,I1,r1,q1⟩=>hc pins s1 σ H1 vs us Q I1 r1 q1) he hpl
end
end L2
namespace HT
open PySem PyProof.Rows
section
open PySem.SeqAt
open PySem.AutoSeq1 (wpAny_loadPart')
open PySem.MeetsSeq PySem.MeetsSeq2 PySem.MeetsSeq3
end
section
variable {prog:Program} {w:World} {A:Around} {E:Value->Shared->Prop} {s:Shared}
theorem cat_tup {t b:Addr} {vs ws:List Value} {Q:Value->Shared->Prop} (ht:IsTup s.heap t vs.toArray) (hb:IsTup s.heap b ws.toArray) (hv:vs≠ [])
 (h1:ws= [] ->Q (.ref t) s) (h2:ws≠ [] ->Q (.ref s.heap.objs.size) {s with heap:=s.heap.push {cls:= .type "tuple",data:= .seq (vs++ws).toArray}})
 (mK:vs.length+ws.length<=sizeLine):wpAny (model prog w) A (binaryOp .Add (.ref t) (.ref b)) Q E s:=by
 obtain ⟨⟨cls,dd,data,sl⟩,ho,hc,n,hd⟩:=id ht
 obtain ⟨⟨cls2,dd2,data2,sl2⟩,cI,Q5,n2,fW⟩:=id hb
 simp only at hc hd Q5 fW
 subst hc hd Q5 fW
 have e:vs.toArray++ws.toArray=(vs++ws).toArray:=by simp
 by_cases hw:ws= []
 ·exact concat_meets ⟨_,ho,rfl⟩ ⟨_,cI,rfl⟩ noFill_tuple_add seq_tuple_add PySem.F.slot_tuple_add PySem.F.entry_tuple_add (PySem.F.args_tuple_add_2 _ _)
   (tuple_addW1 t b vs.toArray ws.toArray n n2 dd dd2 sl sl2 (by simpa using hv) (by simp [hw])) ⟨ho,cI,h1 hw⟩
 ·refine concat_meets ⟨_,ho,rfl⟩ ⟨_,cI,rfl⟩ noFill_tuple_add seq_tuple_add PySem.F.slot_tuple_add PySem.F.entry_tuple_add (PySem.F.args_tuple_add_2 _ _)
   (tuple_addW2 t b vs.toArray ws.toArray n n2 dd dd2 sl sl2 (by simpa using hv) (by simpa using hw) (by rw [List.size_toArray,List.size_toArray];exact mK)) ⟨ho,cI, ?_⟩
  rw [e]
  exact h2 hw
def sIx (n d:Nat):Option Int->Nat
 | none=>d
 | some v=>if v<0 then (v+(n:Int)).toNat else min v.toNat n
theorem sIx_none (n d:Nat):sIx n d none=d:=rfl
theorem sIx_nat (n d k:Nat):sIx n d (some (k:Int))=min k n:=by
 show (if (k:Int)<0 then ((k:Int)+(n:Int)).toNat else min (k:Int).toNat n)=min k n
 rw [if_neg (by omega),Int.toNat_natCast]
theorem dP (n d:Nat) (hd:d<=n) (o:Option Int):sIx n d o<=n:=by
 cases o with
 | none=>exact hd
 | some v=>
   show (if v<0 then (v+(n:Int)).toNat else min v.toNat n)<=n
   by_cases hv:v<0
   ·rw [if_pos hv];omega
   ·rw [if_neg hv];exact Nat.min_le_right _ _
theorem Tc (v:Int) (n d:Nat):(if v<0 then max (v+(n:Int)) 0 else min v (n:Int))=((sIx n d (some v):Nat):Int):=by
 show (if v<0 then max (v+(n:Int)) 0 else min v (n:Int))=(((if v<0 then (v+(n:Int)).toNat else min v.toNat n):Nat):Int)
 by_cases hv:v<0
 ·simp only [if_pos hv];omega
 ·simp only [if_neg hv];omega
theorem R1 (lo hi:Option Int) (n:Nat):Builtin.Slice.sliceAdjust lo hi 1 (n:Int)=(((sIx n 0 lo:Nat):Int),((sIx n n hi:Nat):Int)):=by
 have h1:¬((1:Int)<0):=by omega
 unfold Builtin.Slice.sliceAdjust
 simp only [h1,if_false]
 refine Prod.ext ?_ ?_
 ·cases lo with
  | none=>rfl
  | some v=>exact Tc v n 0
 ·cases hi with
  | none=>rfl
  | some v=>exact Tc v n n
theorem S2 (i j:Nat):Builtin.Slice.slicePlaces (i:Int) (j:Int) 1=j-i:=by
 unfold Builtin.Slice.slicePlaces
 have h1:(1:Int)>0:=by omega
 simp only [h1,if_true,Int.ediv_one]
 split <;> omega
theorem Mw {v:Value} {o:Option Int} {Q:Option Int->Shared->Prop} (p:IsPart v o) (h:Q o s):wpAny (model prog w) A (Builtin.Slice.slicePartIndex v) Q E s:=by
 cases p with
 | none=>exact slicePart_none h
 | int i t=>exact slicePart_int h
theorem sliceApplied_gen {sl:Addr} {vl vu:Value} {lo hi:Option Int} {n:Nat} {Q:Int×Int×Nat->Shared->Prop} (hs:s.heap.IsSliceOf sl vl vu .none) (pl:IsPart vl lo) (pu:IsPart vu hi)
 (h:Q (((sIx n 0 lo:Nat):Int),1,sIx n n hi-sIx n 0 lo) s):wpAny (model prog w) A (Builtin.Slice.sliceApplied (.ref sl) (pure (n:Int))) Q E s:=by
 obtain ⟨os,cK,iY,fY⟩:=id hs
 unfold Builtin.Slice.sliceApplied Builtin.Slice.sliceFields
 refine wpAny_bind (wpAny_bind (wpAny_field cK fY (x:=vl) rfl (wpAny_bind (wpAny_field cK fY (x:=vu) rfl (wpAny_bind (wpAny_field cK fY (x:= .none) rfl (wpAny_pure ?_)))))))
 refine wpAny_bind (slicePart_none ?_)
 show wpAny _ _ (if ((1:Int)==0)=true then _ else _) _ _ s
 rw [if_neg (by decide)]
 refine wpAny_bind (Mw pl (wpAny_bind (Mw pu (wpAny_bind (wpAny_pure ?_)))))
 show wpAny _ _ (match Builtin.Slice.sliceAdjust lo hi 1 (n:Int) with | (lo,hi)=>pure (lo,(1:Int),Builtin.Slice.slicePlaces lo hi 1)) _ _ s
 rw [R1 lo hi n]
 show wpAny _ _ (pure (((sIx n 0 lo:Nat):Int),(1:Int),Builtin.Slice.slicePlaces ((sIx n 0 lo:Nat):Int) ((sIx n n hi:Nat):Int) 1)) _ _ s
 rw [S2]
 exact wpAny_pure h
theorem Xg (xs:Array Value) (i k:Nat):((List.range k).filterMap λ(m:Nat)=>xs[((i:Int)+(m:Int)*1).toNat]?).toArray=((xs.toList.drop i).take k).toArray:=by
 have e:(λ(m:Nat)=>xs[((i:Int)+(m:Int)*1).toNat]?)=λm=>xs[i+m]? :=by
  funext m
  have:((i:Int)+(m:Int)*1).toNat=i+m:=by omega
  rw [this]
 rw [e]
 have:=pick_run xs i k
 rw [List.filterMap_map] at this
 have e2:((λx=>xs[x]?) ∘ λx=>i+x)=λm=>xs[i+m]? :=rfl
 rw [e2] at this
 rw [this]
theorem getItem_tuple_cut {t sl:Addr} {items:Array Value} {vl vu:Value} {lo hi:Option Int} {Q:Value->Shared->Prop} (ht:IsTup s.heap t items) (hs:s.heap.IsSliceOf sl vl vu .none) (pl:IsPart vl lo) (pu:IsPart vu hi)
 (hw:¬(sIx items.size 0 lo=0/\sIx items.size items.size hi=items.size))
 (h:Q (.ref s.heap.objs.size) {s with heap:=s.heap.push {cls:= .type "tuple",data:= .seq ((items.toList.drop (sIx items.size 0 lo)).take (sIx items.size items.size hi-sIx items.size 0 lo)).toArray}})
 (mK:items.size<=sizeLine):wpAny (model prog w) A (getItem (.ref t) (.ref sl)) Q E s:=by
 have Tw:sizeOk (.seq ((items.toList.drop (sIx items.size 0 lo)).take (sIx items.size items.size hi-sIx items.size 0 lo)).toArray):=by
  show ((items.toList.drop (sIx items.size 0 lo)).take (sIx items.size items.size hi-sIx items.size 0 lo)).toArray.size<=sizeLine
  rw [List.size_toArray,List.length_take,List.length_drop,Array.length_toList]
  omega
 have hj:sIx items.size items.size hi<=items.size:=dP _ _ (Nat.le_refl _) hi
 obtain ⟨os,cK,iY,fY⟩:=id hs
 have jT:s.TypeIs (.ref sl) "slice" :=⟨os,cK,iY⟩
 unfold getItem
 try with_reducible refine wpAny_holding ?_
 first | refine wpAny_bind (wpAny_pure ?_)|skip
 refine wpAny_bind (wpAny_sequenceKey ht.typeIs (by decide) ?_)
 refine wpAny_bind (wpAny_callSpecial?_slot (name:=Str.ofString "__getitem__") ht.typeIs PyProof.Rows.slot_tuple_getitem
  (wpAny_call_entry PyProof.Rows.slot_tuple_getitem ht.typeIs entry_tuple_getitem ?_ (args_tuple_getitem _ _)))
 show wpAny _ _ (Builtin.Tuple.tupleItemsOf (.ref t) >>= _) _ _ s
 refine wpAny_bind (tupleItemsOf_ ht ?_)
 refine wpAny_bind (wpAny_typeOf jT ?_)
 rw [if_pos (by decide)]
 refine wpAny_bind (sliceApplied_gen hs pl pu ?_)
 have W2:¬((((sIx items.size 0 lo:Nat):Int)==0&&(1:Int)==1&&(sIx items.size items.size hi-sIx items.size 0 lo)==items.size)=true):=by
  intro q
  rw [Bool.and_eq_true,Bool.and_eq_true] at q
  have q1:((sIx items.size 0 lo:Nat):Int)=0:=eq_of_beq q.1.1
  have q2:sIx items.size items.size hi-sIx items.size 0 lo=items.size:=eq_of_beq q.2
  exact hw ⟨by omega,by omega⟩
 show wpAny _ _ (if (((sIx items.size 0 lo:Nat):Int)==0&&(1:Int)==1&&(sIx items.size items.size hi-sIx items.size 0 lo)==items.size)=true then _ else _) _ _ s
 rw [if_neg W2,Xg]
 first
  | exact wpAny_bind (m:=Builtin.Tuple.tupleExact _) (wpAny_newObj_type (wpAny_pure ⟨_,rfl,wpAny_pure h⟩) Tw)
  | exact wpAny_bind (m:=Builtin.Tuple.tupleExact _) (wpAny_newObj_type (wpAny_bind (wpAny_pure (wpAny_pure ⟨_,rfl,wpAny_pure h⟩))) Tw)
  | exact wpAny_bind (wpAny_bind (m:=Builtin.Tuple.tupleExact _) (wpAny_newObj_type (wpAny_pure (wpAny_pure ⟨_,rfl,wpAny_pure h⟩)) Tw))
  | exact wpAny_bind (wpAny_bind (m:=Builtin.Tuple.tupleExact _) (wpAny_newObj_type (wpAny_pure ⟨_,rfl,wpAny_pure h⟩) Tw))
end
end HT
namespace L2
open PySem PySem.Spec PyProof.Rows
abbrev TO:=St->Hp->(Option Int->Hp->Prop)->Prop
def PO (X:Cx) (e:Option Expr) (t:TO):Prop:=
 ∀(pins:List (Addr×Obj)) (s:Shared) (σ:St) (H:Hp) (Q:Option Int->Hp->Prop),Inv X pins σ H s->t σ H Q->
  wpAny (model X.prog X.w) X.A (evalPart e X.env) (λu s'=>∃o H',Inv X pins σ H' s'/\IsPart u o/\Q o H') X.xe s
def Z9:TO:=λ_ H Q=>Q none H
def iC (t:TE):TO:=λσ H Q=>t σ H λx H1=>∃i,x= .int i/\Q (some i) H1
section
variable {X:Cx} {e:Expr} {te:TE} {lo hi:Option Expr} {tl th:TO} {pos p2:Pos}
theorem Zn:PO X none Z9:=by
 intro pins s σ H Q I h
 rw [evalPart_none]
 exact wpAny_pure ⟨none,H,I, .none,h⟩
theorem Zo (h:PE X e te):PO X (some e) (iC te):=by
 intro pins s σ H Q I hw
 rw [evalPart_some]
 refine Bq (h pins s σ H _ I hw) λu s1 ⟨x,H1,I1,r1,q1⟩=> ?_
 obtain ⟨i,rfl,q⟩:=q1
 obtain ⟨t,rfl⟩:=r1
 exact ⟨some i,H1,I1, .int i t,q⟩
def aP (X:Cx) (r:V->Option Int->Option Int->Hp->VK->Prop):Prop:=
 ∀(pins:List (Addr×Obj)) (s:Shared) (σ:St) (H:Hp) (x:V) (v vl vu:Value) (lo hi:Option Int) (sl:Addr) (Q:VK),Inv X pins σ H s->RelV x v->s.heap.IsSliceOf sl vl vu .none->IsPart vl lo->IsPart vu hi->r x lo hi H Q->
  ∃T id,typeLookup (.type T) "__getitem__" =pure (some (.builtin id))/\s.TypeIs v T/\wpAny (model X.prog X.w) X.A (getItem v (.ref sl)) (EP X pins σ Q) X.xe s
theorem aP.or {r r':V->Option Int->Option Int->Hp->VK->Prop} (h:aP X r) (h':aP X r'):aP X (λx lo hi H Q=>r x lo hi H Q\/r' x lo hi H Q):=by
 intro pins s σ H x v vl vu lo hi sl Q I rx hs pl pu q
 rcases q with q|q
 ·exact h pins s σ H x v vl vu lo hi sl Q I rx hs pl pu q
 ·exact h' pins s σ H x v vl vu lo hi sl Q I rx hs pl pu q
def qD (r:V->Option Int->Option Int->Hp->VK->Prop) (te:TE) (tl th:TO):TE:=λσ H Q=>te σ H λx H1=>tl σ H1 λl H2=>th σ H2 λu H3=>r x l u H3 Q
theorem Xe {r:V->Option Int->Option Int->Hp->VK->Prop} (hr:aP X r) (he:PE X e te) (hl:PO X lo tl) (hu:PO X hi th):PE X (.Subscript e (.Slice lo hi none p2) pos) (qD r te tl th):=by
 intro pins s σ H Q I h
 refine Subscript_ (Bq (he pins s σ H _ I h) λv s1 ⟨x,H1,I1,r1,q1⟩=> ?_)
 refine wpAny_Slice (Bq (hl pins s1 σ H1 _ I1 q1) λvl s2 ⟨l,H2,I2,pl,q2⟩=>Bq (hu pins s2 σ H2 _ I2 q2) λvu s3 ⟨u,H3,I3,pu,q3⟩=> ?_)
 rw [evalPart_none]
 refine wpAny_pure ?_
 have I4:Inv X pins σ H3 {s3 with heap:=s3.heap.push {cls:= .type "slice",data:= .fields #[vl,vu, .none] }}:=I3.kept (t':=s3.toks) λb ob q=>Heap.get?_push_of_some _ q
 obtain ⟨T,id,hT,ht,hg⟩:=hr pins {s3 with heap:=s3.heap.push {cls:= .type "slice",data:= .fields #[vl,vu, .none] }} σ H3 x v vl vu l u s3.heap.objs.size Q I4 r1 (Heap.IsSliceOf.new ..) pl pu q3
 show wpAny (model X.prog X.w) X.A (subscriptTail e (.Slice lo hi none p2) v (.ref s3.heap.objs.size)) (EP X pins σ Q) X.xe {s3 with heap:=s3.heap.push {cls:= .type "slice",data:= .fields #[vl,vu, .none] }}
 exact tail_any (ops:= [.ref s3.heap.objs.size,v]) ht hT hg (by with_unfolding_all rfl)
def NX (xs:List V) (lo hi:Option Int):List V:=(xs.drop (HT.sIx xs.length 0 lo)).take (HT.sIx xs.length xs.length hi-HT.sIx xs.length 0 lo)
theorem KC (xs:List V) (lo hi:Option Int):(NX xs lo hi).length<=xs.length:=by
 unfold NX
 rw [List.length_take,List.length_drop]
 omega
def j5 (K:PySem.W.Frag):V->Option Int->Option Int->Hp->VK->Prop:=λx lo hi H Q=>∃a xs,x= .ref a/\Kx K H a xs/\
 ¬(HT.sIx xs.length 0 lo=0/\HT.sIx xs.length xs.length hi=xs.length)/\∀p,H p=none->Q (.ref p) (upd H p (.tup (NX xs lo hi)))
theorem dc:aP X (j5 X.K):=by
 intro pins s σ H x v vl vu lo hi sl Q I rx hs pl pu h
 obtain ⟨a,xs,rfl,hx,hw,q⟩:=h
 cases rx
 obtain ⟨its,r,ht,hz⟩:=I.tuple hx
 have DJ:its.toArray.size=xs.length:=by rw [List.size_toArray];exact r.length.symm
 refine ⟨"tuple",_,PyProof.Rows.slot_tuple_getitem.lookup,ht.typeIs, ?_⟩
 refine HT.getItem_tuple_cut ht hs pl pu (by rw [DJ];exact hw) ?_ (by rw [DJ];exact hz)
 rw [DJ]
 refine ⟨.ref s.heap.objs.size,_,I.laid (t':=s.toks) (o:= .tup (NX xs lo hi)) (λb ob q=>Heap.get?_push_of_some _ q) (Nat.le_refl _) ?_,rfl,q _ (I.hok.fresh (Nat.le_refl _))⟩
 exact ⟨Nat.le_trans (KC xs lo hi) hz,_,(r.drop (HT.sIx xs.length 0 lo)).take (HT.sIx xs.length xs.length hi-HT.sIx xs.length 0 lo),IsTup.new _ _⟩
def aw (K:PySem.W.Frag):R2:=λx y H Q=>∃a b xs ys,x= .ref a/\y= .ref b/\Kx K H a xs/\Kx K H b ys/\xs≠ [] /\xs.length+ys.length<=sizeLine/\
 (ys= [] ->Q (.ref a) H)/\(ys≠ [] ->∀p,H p=none->Q (.ref p) (upd H p (.tup (xs++ys))))
theorem Au.nil_iff {xs:List V} {us:List Value} (r:Au xs us):us= [] ↔xs= [] :=by
 cases r with
 | nil=>simp
 | cons _ _=>simp
theorem Zd:Dy X (binaryOp .Add) (aw X.K):=by
 intro pins s σ H x y v u Q I rx ry h
 obtain ⟨a,b,xs,ys,rfl,rfl,ha,hb,hx,hz,q1,q2⟩:=h
 cases rx
 cases ry
 obtain ⟨its,r1,p1,_⟩:=I.tuple ha
 obtain ⟨its2,r2,p2,_⟩:=I.tuple hb
 refine HT.cat_tup p1 p2 (λz=>hx (r1.nil_iff.mp z)) (λz=>⟨.ref a,H,I,rfl,q1 (r2.nil_iff.mp z)⟩) (λz=> ?_) (by rw [<-r1.length,<-r2.length];exact hz)
 refine ⟨.ref s.heap.objs.size,_,I.laid (t':=s.toks) (o:= .tup (xs++ys)) (λb ob q=>Heap.get?_push_of_some _ q) (Nat.le_refl _) ?_,rfl,q2 (λw=>z (r2.nil_iff.mpr w)) _ (I.hok.fresh (Nat.le_refl _))⟩
 exact ⟨by rw [List.length_append];exact hz,_,r1.append r2,IsTup.new _ _⟩
end
end L2
namespace L2
open PySem PySem.Spec PyProof.Rows
def RC (n:Nat) (i:Int):Option Nat:=if 0<=i then (if i<n then some i.toNat else none) else if -(n:Int)<=i then some (i+n).toNat else none
def HI {α:Type} (xs:List α) (i:Int):Option α:=(RC xs.length i).bind λj=>xs[j]?
theorem T0 {n:Nat} {i:Int} {j:Nat} (h:RC n i=some j):seqIndex? i n=some j/\j<n/\ -(n:Int)<=i/\i<n:=by
 unfold RC at h
 by_cases h0:0<=i
 ·rw [if_pos h0] at h
  by_cases h1:i<n
  ·rw [if_pos h1] at h
   have e:i.toNat=j:=Option.some.inj h
   exact ⟨by rw [seqIndex_of h0 h1,e],by omega,by omega,h1⟩
  ·rw [if_neg h1] at h;cases h
 ·rw [if_neg h0] at h
  by_cases h1: -(n:Int)<=i
  ·rw [if_pos h1] at h
   have e:(i+n).toNat=j:=Option.some.inj h
   exact ⟨by rw [seqIndex_neg (by omega) h1,e],by omega,h1,by omega⟩
  ·rw [if_neg h1] at h;cases h
theorem TX {α:Type} {xs:List α} {i:Int} {v:α} (h:HI xs i=some v):∃j,seqIndex? i xs.length=some j/\xs[j]? =some v/\j<xs.length/\ -(xs.length:Int)<=i/\i<xs.length:=by
 unfold HI at h
 cases e:RC xs.length i with
 | none=>rw [e] at h;cases h
 | some j=>
   rw [e] at h
   obtain ⟨h1,h2,h3,h4⟩:=T0 e
   exact ⟨j,h1,h,h2,h3,h4⟩
theorem CC {α:Type} {xs:List α} {j:Nat} {v:α} (h:xs[j]? =some v):HI xs (j:Int)=some v:=by
 have hj:j<xs.length:=(List.getElem?_eq_some_iff.mp h).1
 have e:RC xs.length (j:Int)=some j:=by
  unfold RC
  rw [if_pos (by omega),if_pos (by omega)];simp
 unfold HI;rw [e];exact h
def Ot (b:Expr):Prop:=∀o i,subscripted b false o i=operate [o,i] (getItem o i)
def Yo (X:Cx) (r:R2):Prop:=
 ∀(value slice:Expr) (pins:List (Addr×Obj)) (s:Shared) (σ:St) (H:Hp) (x y:V) (v u:Value) (Q:VK),Inv X pins σ H s->RelV x v->RelV y u->r x y H Q->
  subscripted slice false v u=operate [v,u] (getItem v u)->wpAny (model X.prog X.w) X.A (subscriptTail value slice v u) (EP X pins σ Q) X.xe s
def fD (X:Cx) (id:String) (r:V->List V->Hp->VK->Prop):Prop:=
 ∀(pins:List (Addr×Obj)) (s:Shared) (σ:St) (H:Hp) (x:V) (xs:List V) (v:Value) (us:List Value) (Q:VK),Inv X pins σ H s->RelV x v->Au xs us->r x xs H Q->
  wpAny (model X.prog X.w) X.A (call (.builtin id) (v::us)) (EP X pins σ Q) X.xe s
section
variable {X:Cx} {a b:Expr} {ta tb:TE} {pos:Pos}
theorem Yo.or {r r':R2} (h:Yo X r) (h':Yo X r'):Yo X (λx y H Q=>r x y H Q\/r' x y H Q):=by
 intro value slice pins s σ H x y v u Q I rx ry q hs
 rcases q with q|q
 ·exact h value slice pins s σ H x y v u Q I rx ry q hs
 ·exact h' value slice pins s σ H x y v u Q I rx ry q hs
theorem fD.or {id:String} {r r':V->List V->Hp->VK->Prop} (h:fD X id r) (h':fD X id r'):fD X id (λx xs H Q=>r x xs H Q\/r' x xs H Q):=by
 intro pins s σ H x xs v us Q I rx rs q
 rcases q with q|q
 ·exact h pins s σ H x xs v us Q I rx rs q
 ·exact h' pins s σ H x xs v us Q I rx rs q
theorem KL {r:R2} (hr:Yo X r) (ha:PE X a ta) (hb:PE X b tb) (hs:Ot b):PE X (.Subscript a b pos) (iB r ta tb):=by
 intro pins s σ H Q I h
 exact Subscript_ (bV ha hb I h λv u s2 x y H2 I2 rx ry q=>hr a b pins s2 σ H2 x y v u Q I2 rx ry q (hs _ _))
def ga (K:PySem.W.Frag):R2:=λx y H Q=>∃p xs i v,x= .ref p/\y= .int i/\Ff K H p xs/\HI xs i=some v/\Q v H
def gf (K:PySem.W.Frag):R2:=λx y H Q=>∃p xs i v,x= .ref p/\y= .int i/\Kx K H p xs/\HI xs i=some v/\Q v H
theorem EW:Yo X (ga X.K):=by
 intro value slice pins s σ H x y v u Q I rx ry h hs
 obtain ⟨p,xs,i,z,rfl,rfl,hq,he,q⟩:=h
 cases rx
 obtain ⟨t,rfl⟩:=ry
 obtain ⟨its,r,pl,hz⟩:=I.list hq
 obtain ⟨j,h1,h2,h3,h4,h5⟩:=TX he
 obtain ⟨w,ew,rw'⟩:=r.get h2
 have hl:=r.length
 have hn:=MO
 have fin:EP X pins σ Q w s:=⟨z,H,I,rw',q⟩
 by_cases h0:0<=i
 ·have hj:i.toNat=j:=by
   rw [seqIndex_of h0 h5] at h1
   exact Option.some.inj h1
  exact item_listR pl.isList h0 (by omega) (by rw [hj];simpa using ew) fin hs
 ·have hj:(i+(its.toArray.size:Int)).toNat=j:=by
   rw [seqIndex_neg (by omega) h4] at h1
   rw [List.size_toArray,<-hl]
   exact Option.some.inj h1
  exact subscriptTail_builtinR (x:=w) pl.isList.typeIs slot_list_getitem.lookup
   (wpAny_getItem_list_neg (Q:=λr s'=>r=w/\EP X pins σ Q r s') pl.isList (by omega) (by rw [List.size_toArray] <;> omega) (by omega) (by rw [hj];simpa using ew) ⟨rfl,fin⟩) hs
theorem cP:Yo X (gf X.K):=by
 intro value slice pins s σ H x y v u Q I rx ry h hs
 obtain ⟨p,xs,i,z,rfl,rfl,hq,he,q⟩:=h
 cases rx
 obtain ⟨t,rfl⟩:=ry
 obtain ⟨its,r,pl,hz⟩:=I.tuple hq
 obtain ⟨j,h1,h2,h3,h4,h5⟩:=TX he
 obtain ⟨w,ew,rw'⟩:=r.get h2
 have hl:=r.length
 have hn:=MO
 have fin:EP X pins σ Q w s:=⟨z,H,I,rw',q⟩
 exact subscriptTail_builtinR (x:=w) pl.typeIs slot_tuple_getitem.lookup
  (getItem_tuple (j:=j) (Q:=λr s'=>r=w/\EP X pins σ Q r s') pl (by omega) (by omega) (by rw [List.size_toArray,<-hl];exact h1) (by simpa using ew) ⟨rfl,fin⟩) hs
theorem Si (its:List Value) (n j:Nat) (u:Value):Obj.mapSeq (·.setIfInBounds j u) {cls:= .type "list",data:= .seq its.toArray n}={cls:= .type "list",data:= .seq (its.set j u).toArray n}:=by
 simp [Obj.mapSeq]
theorem Inv.lst {pins:List (Addr×Obj)} {σ:St} {H:Hp} {s:Shared} {p:Addr} {xs:List V} (I:Inv X pins σ H s) (h:H p=some (.lst xs)):
 ∃(its:List Value) (n:Nat),Au xs its/\s.heap.get? p=some {cls:= .type "list",data:= .seq its.toArray n}/\xs.length<=sizeLine:=by
 obtain ⟨z,its,n,r,e⟩:=I.hok p _ h
 exact ⟨its,n,r,e,z⟩
theorem Inv.lstUpd {pins:List (Addr×Obj)} {σ:St} {H:Hp} {s:Shared} {p:Addr} {xs ys:List V} {its its':List Value} {n n':Nat} {f:Obj->Obj} (I:Inv X pins σ H s) (h:H p=some (.lst xs))
 (ho:s.heap.get? p=some {cls:= .type "list",data:= .seq its.toArray n}) (hf:f {cls:= .type "list",data:= .seq its.toArray n}={cls:= .type "list",data:= .seq its'.toArray n'}) (r:Au ys its') (hz:ys.length<=sizeLine) (t:Nat):
 Inv X pins σ (upd H p (.lst ys)) {s with heap:=s.heap.update p f,toks:=t}:=by
 have e:(s.heap.update p f).get? p=some {cls:= .type "list",data:= .seq its'.toArray n'}:=by
  rw [Heap.get?_update_self f ho (by rw [hf] <;> rfl),hf]
 refine I.write (x:=p) (e:=p) (by rw [h];trivial) (.inl rfl) (λb u hb q=>(Heap.get?_update_other _ _ (Ne.symm hb)).trans q) ⟨_,e⟩ ?_
 exact ⟨hz,its',n',r,e⟩
def gi:V->V->V->Hp->(Hp->Prop)->Prop:=λo i v H Q=>∃p xs k j,o= .ref p/\i= .int k/\H p=some (.lst xs)/\RC xs.length k=some j/\Q (upd H p (.lst (xs.set j v)))
theorem Mq:fE X gi:=by
 intro pins s σ H o i v ov iv u Q I ro ri rv h
 obtain ⟨p,xs,k,j,rfl,rfl,hp,hj,q⟩:=h
 cases ro
 obtain ⟨t,rfl⟩:=ri
 obtain ⟨its,n,r,ho,hz⟩:=I.lst hp
 obtain ⟨h1,h2,h3,h4⟩:=T0 hj
 have hl:=r.length
 have hn:=MO
 have I':Inv X pins σ (upd H p (.lst (xs.set j v))) {s with heap:=s.heap.update p (Obj.mapSeq (·.setIfInBounds j u))}:=
  I.lstUpd hp ho (Si its n j u) (r.set rv j) (by rw [List.length_set];exact hz) s.toks
 by_cases h0:0<=k
 ·have hk:k.toNat=j:=by
   rw [seqIndex_of h0 h4] at h1
   exact Option.some.inj h1
  exact PySem.W.ki_setAt ho h0 (by omega) (by rw [List.size_toArray,<-hl];exact h4) (by rw [hk];exact ⟨_,I',q⟩)
 ·have hk:(k+(its.toArray.size:Int)).toNat=j:=by
   rw [seqIndex_neg (by omega) h3] at h1
   rw [List.size_toArray,<-hl]
   exact Option.some.inj h1
  exact PySem.W.ki_setBack ho (by omega) (by rw [List.size_toArray,<-hl];exact h3) (by omega) (by rw [hk];exact ⟨_,I',q⟩)
theorem P9 (lo hi:Option Int) (n:Nat):(sliceBounds lo hi none n).1=((HT.sIx n 0 lo:Nat):Int)/\(sliceBounds lo hi none n).2.1=((HT.sIx n n hi:Nat):Int)/\(sliceBounds lo hi none n).2.2=1:=by
 refine ⟨?_, ?_,rfl⟩
 ·cases lo with
  | none=>simp [sliceBounds,HT.sIx]
  | some i=>
    simp only [sliceBounds,HT.sIx,Option.getD_none,show (1:Int)>0 by decide,if_true]
    by_cases h:i<0
    ·simp only [h,if_true] <;> omega
    ·simp only [h,if_false] <;> omega
 ·cases hi with
  | none=>simp [sliceBounds,HT.sIx]
  | some i=>
    simp only [sliceBounds,HT.sIx,Option.getD_none,show (1:Int)>0 by decide,if_true]
    by_cases h:i<0
    ·simp only [h,if_true] <;> omega
    ·simp only [h,if_false] <;> omega
theorem Nv (its:List Value) (lo hi:Option Int):slicePick its.toArray lo hi none=((its.drop (HT.sIx its.length 0 lo)).take (HT.sIx its.length its.length hi-HT.sIx its.length 0 lo)).toArray:=by
 obtain ⟨h1,h2,h3⟩:=P9 lo hi its.toArray.size
 unfold slicePick
 rw [h1,h2,h3]
 simp only [sliceRange_one,pick_run,List.size_toArray] <;> rfl
def j4 (K:PySem.W.Frag):V->Option Int->Option Int->Hp->VK->Prop:=λx lo hi H Q=>∃a xs,x= .ref a/\Ff K H a xs/\∀p,H p=none->Q (.ref p) (upd H p (.lst (NX xs lo hi)))
theorem Z6:aP X (j4 X.K):=by
 intro pins s σ H x v vl vu lo hi sl Q I rx hs pl pu h
 obtain ⟨a,xs,rfl,hx,q⟩:=h
 cases rx
 obtain ⟨its,r,ht,hz⟩:=I.list hx
 have DJ:=r.length
 refine ⟨"list",_,slot_list_getitem.lookup,ht.isList.typeIs, ?_⟩
 refine wpAny_getItem_list_slice ht.isList hs pl pu .none (by simp) ?_ (by rw [List.size_toArray] <;> omega)
 rw [Nv,<-DJ]
 refine ⟨.ref s.heap.objs.size,_,I.laid (t':=s.toks) (o:= .lst (NX xs lo hi)) (λb ob q=>Heap.get?_push_of_some _ q) (Nat.le_refl _) ?_,rfl,q _ (I.hok.fresh (Nat.le_refl _))⟩
 exact ⟨Nat.le_trans (KC xs lo hi) hz,_,0,(r.drop (HT.sIx xs.length 0 lo)).take (HT.sIx xs.length xs.length hi-HT.sIx xs.length 0 lo),Heap.get?_push_size _ rfl⟩
theorem IB:Br X (.builtin "len") (λxs H Q=>∃p ys,xs= [.ref p] /\(Ff X.K H p ys\/Kx X.K H p ys)/\Q (.int ys.length) H):=by
 intro pins s σ H xs us Q I r h
 obtain ⟨p,ys,rfl,hq,q⟩:=h
 obtain ⟨u,rfl,rx⟩:=vals1 r
 cases rx
 have hn:=MO
 rcases hq with hq|hq
 ·obtain ⟨its,r',pl,hz⟩:=I.list hq
  have DJ:=r'.length
  exact Calls.call_len_list pl.isList (by simp only [List.size_toArray] <;> omega) ⟨.int ys.length,H,I.tok _,⟨s.toks+1,by rw [List.size_toArray,DJ]⟩,q⟩
 ·obtain ⟨its,r',pl,hz⟩:=I.tuple hq
  have DJ:=r'.length
  exact len_tuple pl (by simp only [List.size_toArray] <;> omega) ⟨.int ys.length,H,I.tok _,⟨s.toks+1,by rw [List.size_toArray,DJ]⟩,q⟩
theorem Br.or {f:Value} {r r':List V->Hp->VK->Prop} (h:Br X f r) (h':Br X f r'):Br X f (λxs H Q=>r xs H Q\/r' xs H Q):=by
 intro pins s σ H xs us Q I rs q
 rcases q with q|q
 ·exact h pins s σ H xs us Q I rs q
 ·exact h' pins s σ H xs us Q I rs q
theorem NW:Br X (.type "tuple") (λxs H Q=>∃p ys,xs= [.ref p] /\((Ff X.K H p ys/\∀l,H l=none->Q (.ref l) (upd H l (.tup ys)))\/(Kx X.K H p ys/\Q (.ref p) H))):=by
 intro pins s σ H xs us Q I r h
 obtain ⟨p,ys,rfl,h⟩:=h
 obtain ⟨u,rfl,rx⟩:=vals1 r
 cases rx
 rcases h with ⟨hq,q⟩|⟨hq,q⟩
 ·obtain ⟨its,r',pl,hz⟩:=I.list hq
  have DJ:=r'.length
  refine call_tuple_list pl.isList (λh' kp=> ?_) (by simp only [List.size_toArray] <;> omega)
  have I1:Inv X pins σ H {s with heap:=h'}:=I.kept (t':=s.toks) kp
  have I2:Inv X pins σ (upd H h'.objs.size (.tup ys)) {s with heap:=h'.push {cls:= .type "tuple",data:= .seq its.toArray}}:=
   I1.laid (t':=s.toks) (λb o e=>Heap.get?_push_of_some _ e) (Nat.le_refl _) (show ES X.prog X.w _ _ _ (.tup ys) from ⟨hz,its,r',IsTup.new _ _⟩)
  exact ⟨.ref h'.objs.size,_,I2,rfl,q _ (I1.hok.fresh (Nat.le_refl _))⟩
 ·obtain ⟨its,r',pl,hz⟩:=I.tuple hq
  exact call_tuple_same pl ⟨.ref p,H,I,rfl,q⟩
def me (K:PySem.W.Frag) (T:String) (x:V) (H:Hp):Prop:=match x with
 | .str _=>T="str"
 | .int _=>T="int"
 | .ref p=>(T="list" /\∃xs,Ff K H p xs)\/(T="tuple" /\∃o,K.lookup p=some o/\o.cls= .type "tuple" /\o.dict=none)\/
     (T="dict" /\((∃kvs,H p=some (.dK kvs))\/∃kvs,H p=some (.dT kvs)))\/(T="set" /\∃S n,H p=some (.set S n))
 | _=>False
theorem dm {pins:List (Addr×Obj)} {σ:St} {H:Hp} {s:Shared} {T:String} {x:V} {v:Value} (I:Inv X pins σ H s) (r:RelV x v) (ty:me X.K T x H):
 s.TypeIs v T/\∀a,v= .ref a->∃ob,s.heap.get? a=some ob/\ob.dict=none:=by
 cases x with
 | str z=>
   obtain ⟨t,rfl⟩:=r
   cases (show T="str" from ty)
   exact ⟨typeIs_str s z t,λ_ e=>nomatch e⟩
 | int i=>
   obtain ⟨t,rfl⟩:=r
   cases (show T="int" from ty)
   exact ⟨typeIs_int s i t,λ_ e=>nomatch e⟩
 | ref p=>
   cases r
   rcases ty with ⟨rfl,xs,hq⟩|⟨rfl,o,hk,hc,hd⟩|⟨rfl,hk⟩|⟨rfl,S,n,hk⟩
   ·obtain ⟨its,_,pl,_⟩:=I.list hq
    refine ⟨pl.isList.typeIs,λa e=> ?_⟩
    cases e
    obtain ⟨o,n,e,c,hd,_⟩:=pl
    exact ⟨o,e,hd⟩
   ·refine ⟨⟨o,I.kIn p o hk,hc⟩,λa e=> ?_⟩
    cases e
    exact ⟨o,I.kIn _ o hk,hd⟩
   ·have z:∃o,s.heap.get? p=some o/\o.ExactDict:=by
     rcases hk with ⟨kvs,hk⟩|⟨kvs,hk⟩
     ·obtain ⟨_,_,_,_,o,_,_,e,ex,_⟩:=I.hok p _ hk
      exact ⟨o,e,ex⟩
     ·obtain ⟨_,_,_,_,o,_,_,e,ex,_⟩:=I.hok p _ hk
      exact ⟨o,e,ex⟩
    obtain ⟨o,e,ex⟩:=z
    refine ⟨⟨o,e,ex.1⟩,λa e2=> ?_⟩
    cases e2
    exact ⟨o,e,ex.2.1⟩
   ·obtain ⟨o,_,_,_,e,ex,_⟩:=I.hok p _ hk
    refine ⟨⟨o,e,ex.1⟩,λa e2=> ?_⟩
    cases e2
    exact ⟨o,e,ex.2.1⟩
 | _=>exact False.elim ty
def mZ (K:PySem.W.Frag) (T:String) (r:V->List V->Hp->VK->Prop) (to:TE) (t:TA):TE:=λσ H Q=>to σ H λx H1=>me K T x H1/\t σ H1 λxs H2=>r x xs H2 Q
variable {o e:Expr} {es:List Expr} {to:TE} {t:TA} {name:Str} {apos cpos:Pos} {T id:String} {r:V->List V->Hp->VK->Prop}
theorem gU (pa:PlainAttrs T) (slot:Slot T name id) (js:typeOf (.builtin id)=pure (.type "method_descriptor")) (hm:fD X id r) (ho:PE X o to) (ha:PA X (e::es) t)
 (Wx:attributeBase o name X.env (eval o X.env)=eval o X.env:=by rfl)
 (cF:((backTo cpos (starEach (e::es) X.env)).all (λx=> !x.1)&&(backToKw cpos (keywordEach [] X.env)).all (λx=>x.1.isSome)
   && decide ((e::es).length+([] :List Keyword).length+(if ([] :List Keyword).isEmpty then 0 else 1)<30))=true:=by rfl)
 (Tt:(apos.endLine==cpos.line)=true:=by rfl) (hs:starEach (e::es) X.env=(false,eval e X.env)::starEach es X.env:=by rfl) (SZ:(backTo cpos (starEach es X.env)).any (·.1)=false:=by rfl):
 PE X (.Call (.Attribute o name apos) (e::es) [] cpos) (mZ X.K T r to t):=by
 intro pins s σ H Q I h
 refine wpAny_Call_method_late Wx cF Tt rfl (Bq (ho pins s σ H _ I h) λv s1 ⟨x,H1,I1,r1,ty,q1⟩=> ?_)
 obtain ⟨h1,h2⟩:=dm I1 r1 ty
 refine ⟨T,id,pa,slot,js,h1,h2, ?_⟩
 have hA:=ha cpos pins s1 σ H1 _ I1 q1
 rw [hs] at hA ⊢
 refine Calls.callWith_builtin (by show (false||(backTo cpos (starEach es X.env)).any (·.1))=false;rw [SZ] <;> rfl) (Calls.evalArgs_plain ?_)
 exact Bq hA λus s2 ⟨vs,H2,I2,r2,q2⟩=>hm pins s2 σ H2 x vs v us Q I2 r1 r2 q2
end
end L2
namespace L2
open PySem PySem.Spec PyProof.Rows
def fC (X:Cx) (id:String) (r:V->List V->Hp->VK->Prop):Prop:=
 ∀(pins:List (Addr×Obj)) (s:Shared) (σ:St) (H:Hp) (x:V) (xs:List V) (v:Value) (us:List Value) (Q:VK),Inv X pins σ H s->RelV x v->Au xs us->r x xs H Q->
  wpAny (model X.prog X.w) X.A (call (.builtin id) (v::us)) (EP X pins σ Q) X.xe s
theorem Au.one:∀{x:V} {us:List Value},Au [x] us->∃u,us= [u] /\RelV x u
 | _,_, .cons r .nil=>⟨_,rfl,r⟩
theorem Au.two:∀{x y:V} {us:List Value},Au [x,y] us->∃u v,us= [u,v] /\RelV x u/\RelV y v
 | _,_,_, .cons r (.cons q .nil)=>⟨_,_,rfl,r,q⟩
theorem Au.zero:∀{us:List Value},Au [] us->us= []
 | _, .nil=>rfl
theorem Au.dropLast {xs:List V} {us:List Value} (h:Au xs us):Au xs.dropLast us.dropLast:=by
 induction h with
 | nil=>exact .nil
 | cons r t ih=>
   cases t with
   | nil=>exact .nil
   | cons q t'=>exact .cons r ih
theorem Au.reverse {xs:List V} {us:List Value} (h:Au xs us):Au xs.reverse us.reverse:=by
 induction h with
 | nil=>exact .nil
 | cons r t ih=>rw [List.reverse_cons,List.reverse_cons];exact Au.append ih (.cons r .nil)
section
variable {X:Cx} {pins:List (Addr×Obj)} {σ:St} {H:Hp} {s:Shared} {l b:Addr} {xs ys zs:List V}
theorem Inv.lset {its its':List Value} {n:Nat} {f:Array Value->Array Value} {t':Nat} (I:Inv X pins σ H s) (hH:H l=some (.lst xs))
 (e:s.heap.get? l=some {cls:= .type "list",data:= .seq its.toArray n}) (hf:f its.toArray=its'.toArray) (hv:Au ys its') (hz:ys.length<=sizeLine):
 Inv X pins σ (upd H l (.lst ys)) {s with heap:=s.heap.update l (Obj.mapSeq f),toks:=t'}:=by
 have q:=PySem.IsL.update e f
 rw [hf] at q
 refine I.write (x:=l) (e:=l) (by rw [hH];exact trivial) (.inl rfl) (λb' u hb hu=>(Heap.get?_update_other s.heap (Obj.mapSeq f) (Ne.symm hb)).trans hu) ⟨_,q⟩ ?_
 exact ⟨hz,its',_,hv,q⟩
theorem Inv.lnew {its:List Value} {t':Nat} (I:Inv X pins σ H s) (hv:Au ys its) (hz:ys.length<=sizeLine):
 Inv X pins σ (upd H s.heap.objs.size (.lst ys)) {s with heap:=s.heap.push {cls:= .type "list",data:= .seq its.toArray},toks:=t'}:=
 I.laid (λ_ _ q=>Heap.get?_push_of_some _ q) (Nat.le_refl _) ⟨hz,its,0,hv,Heap.get?_push_size _ rfl⟩
theorem Inv.fresh (I:Inv X pins σ H s):H s.heap.objs.size=none:=I.hok.fresh (Nat.le_refl _)
theorem Inv.lstM (I:Inv X pins σ H s) (hH:H l=some (.lst xs)):xs.length<=sizeLine/\∃(its:List Value) (n:Nat),Au xs its/\xs.length=its.length/\s.heap.get? l=some {cls:= .type "list",data:= .seq its.toArray n}:=by
 obtain ⟨z,its,n,r,e⟩:=I.hok l _ hH
 exact ⟨z,its,n,r,r.length,e⟩
end
section
variable {X:Cx}
def Pm:V->List V->Hp->VK->Prop:=λx vs H Q=>∃l xs y,x= .ref l/\vs= [y] /\H l=some (.lst xs)/\xs.length<sizeLine/\Q .non (upd H l (.lst (xs ++ [y])))
theorem Jl:fC X "list.append" Pm:=by
 intro pins s σ H x vs v us Q I rx rv h
 obtain ⟨l,xs,y,rfl,rfl,hH,hz,q⟩:=h
 cases rx
 obtain ⟨u,rfl,ru⟩:=rv.one
 obtain ⟨z,its,n,r,hl,e⟩:=I.lstM hH
 refine call_meets F.slot_list_append ⟨_,e,rfl⟩ F.entry_list_append (F.args_list_append_2 _ _) (PySem.list_append l its.toArray n u (by rw [List.size_toArray];omega)) ⟨e, ?_⟩
 refine ⟨.non,_,I.lset (its':=its ++ [u]) hH e (by simp) (r.append (.cons ru .nil)) ?_,rfl,q⟩
 rw [List.length_append,List.length_singleton]
 omega
def gY:R2:=λx y H Q=>∃l b xs zs,x= .ref l/\y= .ref b/\H l=some (.lst xs)/\H b=some (.lst zs)/\xs.length+zs.length<=sizeLine/\∀p,H p=none->Q (.ref p) (upd H p (.lst (xs++zs)))
theorem cv:Dy X (binaryOp .Add) gY:=by
 intro pins s σ H x y v u Q I rx ry h
 obtain ⟨l,b,xs,zs,rfl,rfl,hH,hB,hz,q⟩:=h
 cases rx
 cases ry
 obtain ⟨z,its,n,r,hl,e⟩:=I.lstM hH
 obtain ⟨z2,its2,n2,r2,iZ,e2⟩:=I.lstM hB
 refine PySem.P.add_list e e2 ?_ (by rw [List.size_toArray,List.size_toArray];omega)
 have ea:its.toArray++its2.toArray=(its++its2).toArray:=by simp
 rw [ea]
 exact ⟨.ref _,_,I.lnew (t':=s.toks) (r.append r2) (by rw [List.length_append];omega),rfl,q _ I.fresh⟩
end
section
variable {prog:Program} {w:World} {A:Around} {E:Value->Shared->Prop} {s:Shared}
set_option maxRecDepth 100000 in
end
section
variable {X:Cx}
end
end L2
namespace Att
open PySem PySem.W PySem.Calls PyProof.Rows
theorem K2 {P:Params} {h:Heap}:∀(ns:List Int) (vs:List Value),WellAll P h vs (ns.map WData.int)->IntsAre vs ns:=by
 intro ns
 induction ns with
 | nil=>
   intro vs w
   rw [List.map_nil] at w
   cases w
   exact .nil
 | cons n ns ih=>
   intro vs w
   rw [List.map_cons] at w
   cases w with
   | cons a b=>
     cases a
     exact .cons _ _ (ih _ b)
theorem Vo {l:OpenLaw} {n:Nat} (hn:l.most=some n) {P:Params} {h:Heap} {args:List WData} {vals:List Value}
 (ZI:l.row.toRowW.claim.pre args=true) (jt:WellAll P h vals args):
 ∃a vs ns,vals= [Value.ref a] /\args= [WData.list (ns.map WData.int)] /\h.get? a=some {cls:= .type "list",data:= .seq vs.toArray}/\IntsAre vs ns/\ns.length<=n:=by
 have pk:WShape.hasAll [] args [.list .int] =true:=(pre_splitW ZI).1
 have hc:l.pre.holds [] {args:=args}=true:=(pre_splitW ZI).2
 obtain ⟨d,r,rfl,h1,h2⟩:=hasAllW_cons pk
 obtain rfl:=hasAllW_nil h2
 obtain ⟨xs,rfl,h3⟩:=hasW_list h1
 obtain ⟨ns,rfl⟩:=items_int h3
 have DJ:ns.length<=n:=by
  unfold OpenLaw.pre at hc
  have h4:(WTm.not (.lt (.lit (.int (n:Int))) (.len (.arg 0)))).holds [] {args:= [.list (ns.map .int)] }=true:=by
   have h4:=(holds_andW hc).1
   rw [hn] at h4
   exact h4
  have h5:=condW_of h4 (w_not (w_lt w_lit (w_len_list (w_arg rfl))))
  rw [List.length_map] at h5
  refine Nat.le_of_not_lt λq=> ?_
  have q':(n:Int)<((ns.length:Nat):Int):=by omega
  first
   | (rw [decide_eq_true q'] at h5;exact absurd h5 (by decide))
   | (simp at h5;omega)
 cases jt with
 | cons w1 w2=>
   cases w2
   cases w1 with
   | list ho VM=>exact ⟨_,_,ns,rfl,rfl,ho,K2 ns _ VM,DJ⟩
theorem Vj (l:OpenLaw) (args:List WData):l.row.toRowW.claim.post args (.bool true) args=true:=
 postW_of (r:=l.row.toRowW) (X:=(true==true))
  (show WShape.has [] (.bool true) .bool=true by first | rfl|decide|simp [WShape.has,WShape.arms,WShape.armsAll])
  (show (WTm.eq .res (.lit (.bool true))).value [] {args:=args,res:=some (.bool true),after:=args}=some (.bool (true==true)) from w_eq_bool (w_res rfl) w_lit) rfl
theorem attach_call {l:OpenLaw} {n:Nat} {q:Program} {loose:List Str} {XP:(Str->Option Value)->Heap->Prop} {YP:World->Heap->Prop} {d:DefRec}
 (hn:l.most=some n) (fX:d.params.defaults= [])
 (call:∀(w:World) (s₀ s₁:Shared) (mg mb:Str->Option Value) (fa:Addr) (o:Obj) (pm cd doc:Value) (a:Addr) (vs:List Value) (ns:List Int),
   Ground q loose [] XP w s₀ mg mb s₁.heap->YP w s₁.heap->
   s₁.heap.get? fa=some o->o.data= .func (docDef d.name d.params d.body d.scope pm cd doc)->s₁.heap.CodeRec cd d.name->mg d.name=some (.ref fa)->
   s₁.heap.get? a=some {cls:= .type "list",data:= .seq vs.toArray}->IntsAre vs ns->ns.length<=n->s₁.gens= #[] ->
   codeAny (model l.prog w) callerA (.call (.ref fa) ⟨[.ref a], []⟩) (λr s'=>r= .ok (.ret (.bool true))/\OldK s₁.heap s'.heap/\s'.os=s₁.os/\AllBare s'.gens) s₁):
 WalkO q loose XP YP l.row.toRowW d [] (λf vs=>PySem.call f vs):=by
 intro w s₀ s₁ mg mb G Y fa o pm cd doc dV kV ho hd NB hD fg hg args vals as ZI pU qt jt qq
 obtain rfl:dV= .none:=Dflts.none hD fX
 obtain rfl:kV= .none:=Dflts.noKw hD
 obtain ⟨a,vs,ns,rfl,rfl,cJ,W1,DJ⟩:=Vo hn ZI jt
 refine enter_call (codeAny_mono (call w s₀ s₁ mg mb fa o pm cd doc a vs ns G Y ho (fd_plain hd) NB fg cJ W1 DJ hg) λr s' hq=> ?_)
 obtain ⟨rfl,h2,h3,h4⟩:=hq
 exact ⟨.inl ⟨.bool true, .bool true, [],rfl,λ_=>rfl, .bool true,Vj l _,λ_=>⟨List.Pairwise.nil,λ_ hm=>(nomatch hm)⟩⟩,h2,h3,h4⟩
section
variable {prog:Program} {w:World} {A:Around} {E:Value->Shared->Prop} {s:Shared} {K:Frag}
def j0 (h:Heap) (L d:Addr):List (Addr×Obj):=(List.range h.objs.size).filterMap λa=>if a=L\/a=d then none else (h.get? a).map λo=>(a,o)
end
end Att
namespace L2
open PySem PySem.Spec PyProof.Rows
theorem Ob:∀{vs:List Value} {ns:List Int},IntsAre vs ns->Au (ns.map V.int) vs
 | _,_, .nil=> .nil
 | _,_, .cons n t h=> .cons ⟨t,rfl⟩ (Ob h)
def bM (H:Hp):Prop:=∀b,H b=none\/∃o xs,H b=some (.frz o (.lst xs))
theorem XB {P:Program} {w:World} {K:PySem.W.Frag} {mg mb:Str->Option Value} {CX:Up} {k:Nat} {fa a:Addr} {fd:FuncData} {x:Str} {sp:Sp} {s₁:Shared} {vs:List Value} {ns:List Int}
 (KX:K.In s₁.heap) (eJ:s₁.heap.Ns mainGlobals mg) (hb:s₁.heap.Ns builtinsNs mb) (pL:∀x:Str,x≠"__name__" ->mb x=bootBuiltins x) (ji:s₁.heap.NoLimit) (hg:s₁.gens= #[])
 (ha:s₁.heap.get? a=some {cls:= .type "list",data:= .seq vs.toArray}) (hi:IntsAre vs ns) (hl:ns.length<=sizeLine) (hr:Room k callerA)
 (F:∀base:Heap,K.In base->base.Ns mainGlobals mg->A2 P w K mg base CX k fa fd [x] sp) (fV:∀(s:Shared) (u:Value),BindsTo s fd ⟨[u], []⟩ [(x,u)])
 (aZ:∀H:Hp,bM H->Ff K H a (ns.map V.int)->sp [.ref a] H (λv _=>v= .bl true) λ_ _ _=>False)
 (jR:∀H e s',CX [] H s₁ (λ_ _ _=>False) e s'->False):
 codeAny (model P w) callerA (.call (.ref fa) ⟨[.ref a], []⟩) (λr s'=>r= .ok (.ret (.bool true))/\OldK s₁.heap s'.heap/\s'.os=s₁.os/\AllBare s'.gens) s₁:=by
 have rv:=Ob hi
 have lenV:=hi.length
 have core:∀H:Hp,bM H->Ff K H a (ns.map V.int)->Ly P w H s₁.heap->(∀b,H b≠none->b=a)->(H a≠none->K.lookup a=none)->
  codeAny (model P w) callerA (.call (.ref fa) ⟨[.ref a], []⟩) (λr s'=>r= .ok (.ret (.bool true))/\OldK s₁.heap s'.heap/\s'.os=s₁.os/\AllBare s'.gens) s₁:=by
  intro H hO hS hok hA hK
  have base_of:∀{b:Addr} {o:Obj},s₁.heap.get? b=some o->H b=none->(O7 s₁.heap H).get? b=some o:=λe n=>W0 e n
  have noA:∀{b:Addr} {o:Obj} {es:Array DictEntry} {ep:Nat},s₁.heap.get? b=some o->o.data= .dict es ep->H b=none:=λ{b o es ep} e d=>by
   cases q:H b with
   | none=>rfl
   | some u=>
     have e':b=a:=hA b (by rw [q];simp)
     subst e'
     rw [ha] at e;cases e
     have d':Data.seq vs.toArray _=Data.dict es ep:=d
     cases d'
  have nsK:∀{b:Addr} {m:Str->Option Value},s₁.heap.Ns b m->(O7 s₁.heap H).Ns b m:=λ{b m} ⟨o,es,ep,e,d,r⟩=>⟨o,es,ep,base_of e (noA e d),d,r⟩
  have l0:K.In (O7 s₁.heap H):=λb o e=>base_of (KX b o e) (by
   cases q:H b with
   | none=>rfl
   | some u=>
     have e':b=a:=hA b (by rw [q];simp)
     subst e'
     rw [hK (by rw [q];simp)] at e;cases e)
  have hM:Mod K mg (O7 s₁.heap H):=⟨l0,nsK eJ,⟨mb,nsK hb,pL⟩,let ⟨mc,h1,h2⟩:=ji;⟨mc,nsK h1,h2⟩⟩
  have e0:NP P w K mg (O7 s₁.heap H) callerA [] s₁ H:=⟨rfl,hM,λb o e=>ZV e,Nat.le_of_eq (VP _ _),trivial,λb hb=>absurd (show b∈([] :List Addr) from hb) (by simp),hok, .of_eq hg⟩
  refine codeAny_mono ((F _ l0 (nsK eJ)).run callerA [] s₁ H ⟨[.ref a], []⟩ [.ref a] [.ref a] _ _ hr e0 (fV s₁ (.ref a)) (.cons rfl .nil) (aZ H hO hS)) λr s' h=> ?_
  cases r with
  | error e=>exact (jR H e s' h).elim
  | ok fl=>
    cases fl with
    | next=>exact False.elim h
    | brk=>exact False.elim h
    | cont=>exact False.elim h
    | ret u=>
      obtain ⟨v,H',os,bare,un,jn,r',q⟩:=h
      have q':v= .bl true:=q
      subst q'
      obtain rfl:u=Value.bool true:=r'
      refine ⟨rfl,OldK.of_keep λb o e=> ?_,os,bare⟩
      cases q:H b with
      | none=>exact un.keep b o e q (by intro z;exact absurd (show b∈([] :List Addr) from z) (by simp)) (by simp)
      | some u=>
        rcases hO b with z|⟨ob,xs,z⟩
        ·rw [q] at z;cases z
        ·have z2:=un.frzs b ob _ z
         obtain ⟨e1,_⟩:=hok b _ z
         obtain ⟨e2,_⟩:=jn b _ z2
         rw [e] at e1;cases e1
         exact e2
 cases hk:K.lookup a with
 | some o=>
   have e:=KX a o hk
   rw [ha] at e
   cases e
   refine core (λ_=>none) (λ_=> .inl rfl) (.inr ⟨_,vs.toArray,_,hk,rfl,rfl,rfl,by rw [List.size_toArray,lenV];exact hl,by simpa using rv⟩) (λb u z=>by have z':(none:Option HO)=some u:=z;cases z') (λb z=>absurd rfl z) λz=>absurd rfl z
 | none=>
   refine core (λb=>if b=a then some (.frz {cls:= .type "list",data:= .seq vs.toArray} (.lst (ns.map V.int))) else none) (λb=> ?_) (.inl (.inr ⟨{cls:= .type "list",data:= .seq vs.toArray},if_pos rfl⟩)) (λb u z=> ?_) (λb z=> ?_) λ_=>hk
   ·by_cases hb:b=a
    ·exact .inr ⟨_,_,if_pos hb⟩
    ·exact .inl (if_neg hb)
   ·by_cases hb:b=a
    ·have z':=(if_pos hb).symm.trans z
     cases z'
     subst hb
     exact ⟨ha,by rw [List.length_map];exact hl,vs,_,rv,ha⟩
    ·have z':=(if_neg hb).symm.trans z
     cases z'
   ·by_cases hb:b=a
    ·exact hb
    ·exact absurd (if_neg hb) z
end L2
namespace L2
open PySem PySem.Spec PyProof.Rows
abbrev qf {K:PySem.W.Frag} {h:Heap} (_:K.In h):PySem.W.Frag:=K
theorem walk_of {l:PySem.W.OpenLaw} {n k:Nat} {q:Program} {loose:List Str} {XP:(Str->Option Value)->Heap->Prop} {YP:World->Heap->Prop} {d:DefRec} {K:Params->PySem.W.Frag} {CX:World->Up} {sp:World->Sp} {x:Str}
 (hn:l.most=some n) (pY:n<=sizeLine) (fX:d.params.defaults= []) (hr:Room k callerA)
 (hY:∀(w:World) (h:Heap),YP w h->(K w.params).In h)
 (F:∀(w:World) (mg:Str->Option Value) (fa:Addr) (h:Heap),(K w.params).In h->h.Ns mainGlobals mg->mg d.name=some (.ref fa)->
   ∃fd:FuncData,(∀(s:Shared) (u:Value),BindsTo s fd ⟨[u], []⟩ [(x,u)])/\
    ∀base:Heap,(K w.params).In base->base.Ns mainGlobals mg->A2 l.prog w (K w.params) mg base (CX w) k fa fd [x] (sp w))
 (aZ:∀(w:World) (H:Hp) (a:Addr) (ns:List Int),ns.length<=n->bM H->Ff (K w.params) H a (ns.map V.int)->sp w [.ref a] H (λv _=>v= .bl true) λ_ _ _=>False)
 (jR:∀(w:World) (H:Hp) (s:Shared) (e:Value) (s':Shared),CX w [] H s (λ_ _ _=>False) e s'->False):
 PySem.W.WalkO q loose XP YP l.row.toRowW d [] (λf vs=>PySem.call f vs):=by
 refine Att.attach_call hn fX λw s₀ s₁ mg mb fa o pm cd doc a vs ns G Y ho hd NB fg cJ W1 DJ hg=> ?_
 have KX:=hY w _ Y
 obtain ⟨fd,hb,hF⟩:=F w mg fa _ KX G.T.g fg
 exact XB KX G.T.g G.T.b G.T.builtins G.T.nolimit hg cJ W1 (Nat.le_trans DJ pY) hr hF hb (λH hO hS=>aZ w H a ns DJ hO hS) λH e s'=>jR w H s₁ e s'
end L2
namespace L2
open PySem PySem.Spec PyProof.Rows
def FF (s:Stmt):Arguments:=match s with
 | .FunctionDef _ a _ _ _ _ _ _ _ _=>a
 | _=>{posonlyargs:= [],args:= [],vararg:=none,kwonlyargs:= [],kw_defaults:= [],kwarg:=none,defaults:= [] }
def Dz (s:Stmt):List Stmt:=match s with
 | .FunctionDef _ _ b _ _ _ _ _ _ _=>b
 | _=> []
def AU (s:Stmt):Scope:=match s with
 | .FunctionDef _ _ _ _ _ _ sc _ _ _=>sc
 | _=>{kind:= .function,names:= [],isGenerator:=false,isCoroutine:=false}
abbrev Ck:Up:=λ_ _ _ _ _ _=>False
abbrev E0:XK:=λ_ _ _=>False
theorem gS {X:Cx}:Passes Ck X E0:=λ_ _ _ _ _ _ _ h=>h.elim
structure Cr (K:PySem.W.Frag) (x qual:Str) (st:Stmt) (f:Addr) (fd:FuncData):Prop where
 ex:∃(oc:Value) (od:Option Addr) (kV doc pm:Value) (an:Option Addr) (cdv ct:Value) (osl:Array (Option Value)),
  fd=PySem.W.fnOf x qual (FF st) (Dz st) (AU st) .none kV doc pm an cdv ct/\K.lookup f=some ⟨oc,od, .func fd,osl⟩/\PySem.W.codeIn K cdv qual=true
 kp:PySem.W.keepIn K (.ref f)=true
section
variable {P:Program} {w:World} {K:PySem.W.Frag} {mg:Str->Option Value} {base:Heap}
theorem Cr.ok {x qual:Str} {st:Stmt} {f:Addr} {fd:FuncData} {N ps:List Str} {k:Nat} {sp:Sp} (F:Cr K x qual st f fd) (S:AY N ps (AU st)) (len:∀vs H Q E,sp vs H Q E->vs.length=ps.length)
 (Q4:∀(cdv:Value) (A:Around) (outer:List Env) (s:Shared) (H:Hp) (vs:List V) (Q:VK) (E:XK),Room k (A.deeper (envOfC qual (AU st) s.heap.objs.size f cdv))->sp vs H Q E->
   ∃t,TV (SD Ck P w K mg base N qual (AU st) f cdv A outer s H E).nox (Dz st) t/\t {nx:=λ_ H'=>Q .non H',rt:=Q} (start N vs) H):A2 P w K mg base Ck (k+1) f fd ps sp:=by
 obtain ⟨oc,od,kV,doc,pm,an,cdv,ct,osl,rfl,lk,NB⟩:=F.ex
 refine fS lk NB S len λA outer s H vs Q E hr aZ=> ?_
 obtain ⟨t,h,q⟩:=Q4 cdv A outer s H vs Q E hr aZ
 exact ⟨t,h.nox,q⟩
theorem Cr.binds {x qual:Str} {st:Stmt} {f:Addr} {fd:FuncData} {ps:List Str} (F:Cr K x qual st f fd)
 (h:∀(kV doc pm:Value) (an:Option Addr) (cdv ct:Value) (us:List Value),us.length=ps.length->bindArgs (PySem.W.fnOf x qual (FF st) (Dz st) (AU st) .none kV doc pm an cdv ct) ⟨us, []⟩=pure (ps.zip us)):Binds K fd ps [] :=by
 obtain ⟨oc,od,kV,doc,pm,an,cdv,ct,osl,rfl,lk,NB⟩:=F.ex
 exact .all (h kV doc pm an cdv ct)
theorem Wj {x qual:Str} {st:Stmt} {f:Addr} {oc:Value} {od an:Option Addr} {osl:Array (Option Value)} {kV doc pm cdv ct:Value} (l:K.lookup f=some ⟨oc,od, .func (PySem.W.fnOf x qual (FF st) (Dz st) (AU st) .none kV doc pm an cdv ct),osl⟩)
 (c:PySem.W.codeIn K cdv qual=true) (k:PySem.W.keepIn K (.ref f)=true):Cr K x qual st f (PySem.W.fnOf x qual (FF st) (Dz st) (AU st) .none kV doc pm an cdv ct):=⟨⟨oc,od,kV,doc,pm,an,cdv,ct,osl,rfl,l,c⟩,k⟩
end
section
variable {X:Cx}
theorem pv (i:Nat) {x:Str} {pos:Pos} (hN:X.N[i]? =some x:=by rfl) (hv:bS X.env.scope x:=by first | exact Or.inl rfl|exact Or.inr (Or.inl rfl)|exact Or.inr (Or.inr rfl)) (hd:(x==("__debug__" :Str))=false:=by decide)
 (NB:(x==("__classdict__" :Str))=false:=by decide):PE X (.Name x pos) (dj i):=Pg hN hv hd NB
end
theorem fz {c A B:Prop} [Decidable c] (h1:c->A) (h2:¬c->B):if c then A else B:=by
 by_cases h:c
 ·rw [if_pos h]
  exact h1 h
 ·rw [if_neg h]
  exact h2 h
def Hz (H H':Hp):Prop:=∀b o,H b=some o->H' b=some o
theorem Hz.refl (H:Hp):Hz H H:=λ_ _ h=>h
theorem Hz.trans {H H1 H2:Hp} (a:Hz H H1) (b:Hz H1 H2):Hz H H2:=λc o h=>b c o (a c o h)
theorem Hz.free {H H':Hp} (e:Hz H H') {l:Addr} (h:H' l=Option.none):H l=Option.none:=by
 cases q:H l with
 | none=>rfl
 | some o=>
   rw [e l o q] at h
   cases h
theorem Hz.seq {K:PySem.W.Frag} {H H':Hp} {a:Addr} {xs:List V} (e:Hz H H') (h:Ff K H a xs):Ff K H' a xs:=by
 rcases h with (h|⟨o,h⟩)|h
 ·exact .inl (.inl (e _ _ h))
 ·exact .inl (.inr ⟨o,e _ _ h⟩)
 ·exact .inr h
end L2
section
namespace L2
open PySem PySem.Spec PyProof.Rows
theorem Ji {κ α:Type} [BEq κ] [LawfulBEq κ] {k:κ} {a:α}:∀{l:List (κ×α)},l.lookup k=some a->(k,a)∈l
 | [],h=>by simp at h
 | (n,b)::r,h=>by
   rw [List.lookup_cons] at h
   cases e:k==n with
   | true=>
     rw [e] at h
     have e':k=n:=by simpa using e
     have hb:b=a:=by simpa using h
     subst e' hb
     exact List.mem_cons_self
   | false=>
     rw [e] at h
     exact List.mem_cons_of_mem _ (Ji h)
theorem OG {κ α:Type} [BEq κ] [LawfulBEq κ] {k:κ} {a:α}:∀{l:List (κ×α)},(k,a)∈l->∃b,l.lookup k=some b
 | [],h=>nomatch h
 | (n,b)::r,h=>by
   rw [List.lookup_cons]
   cases e:k==n with
   | true=>exact ⟨b,rfl⟩
   | false=>
     rcases List.mem_cons.mp h with z|z
     ·have:k=n:=congrArg Prod.fst z
      rw [this] at e
      simp at e
     ·exact OG z
theorem GA {env:Env} {F:Str×NameKind->List (Str×Addr)->Sem (ForInStep (List (Str×Addr)))}
 (h1:∀n r c,env.cells.lookup n=some c->F (n, .free) r=pure (.yield ((n,c)::r)))
 (h2:∀n k r,k≠NameKind.free->F (n,k) r=pure (.yield r)):
 ∀(names:List (Str×NameKind)) (acc:List (Str×Addr)),(∀x∈names,x.2= .free->∃c,env.cells.lookup x.1=some c)->
  ∃cl,(forIn names acc F:Sem _)=pure cl/\(∀p∈cl,p∈acc\/env.cells.lookup p.1=some p.2)/\(∀p∈acc,p∈cl)/\∀x∈names,x.2= .free->∃c,(x.1,c)∈cl
 | [],acc,_=>⟨acc,rfl,λp hp=> .inl hp,λp hp=>hp,λx hx=>nomatch hx⟩
 | (n,k)::r,acc,h=>by
   by_cases hk:k= .free
   ·subst hk
    obtain ⟨c,hc⟩:=h (n, .free) List.mem_cons_self rfl
    obtain ⟨cl,e,a,b,d⟩:=GA h1 h2 r ((n,c)::acc) (λx hx=>h x (List.mem_cons_of_mem _ hx))
    refine ⟨cl, ?_,λp hp=> ?_,λp hp=>b p (List.mem_cons_of_mem _ hp),λx hx hf=> ?_⟩
    ·rw [List.forIn_cons,h1 n acc c hc]
     exact e
    ·rcases a p hp with z|z
     ·rcases List.mem_cons.mp z with z|z
      ·subst z
       exact .inr hc
      ·exact .inl z
     ·exact .inr z
    ·rcases List.mem_cons.mp hx with z|z
     ·subst z
      exact ⟨c,b _ List.mem_cons_self⟩
     ·exact d x z hf
   ·obtain ⟨cl,e,a,b,d⟩:=GA h1 h2 r acc (λx hx=>h x (List.mem_cons_of_mem _ hx))
    refine ⟨cl, ?_,a,b,λx hx hf=> ?_⟩
    ·rw [List.forIn_cons,h2 n k acc hk]
     exact e
    ·rcases List.mem_cons.mp hx with z|z
     ·subst z
      exact absurd hf hk
     ·exact d x z hf
theorem HL {env:Env} {scope:Scope} (h:∀x∈scope.names,x.2= .free->∃c,env.cells.lookup x.1=some c):
 ∃cl,closureFor scope env=pure cl/\(∀y c,cl.lookup y=some c->env.cells.lookup y=some c)/\∀y,(y,NameKind.free)∈scope.names->∃c,cl.lookup y=some c:=by
 obtain ⟨cl,e,a,_,d⟩:=GA (env:=env) (F:=λx cs=>match x with | (name,kind)=>if (kind==NameKind.free)=true then do let a <-cellOf env name;pure (ForInStep.yield ((name,a)::cs)) else pure (ForInStep.yield cs))
  (λn r c hc=>by
    show (do let a <-cellOf env n;pure (ForInStep.yield ((n,a)::r)):Sem _)=_
    unfold cellOf
    rw [hc]
    rfl)
  (λn k r hk=>by
    have:(k==NameKind.free)=false:=by simpa using hk
    simp [this]) scope.names [] h
 refine ⟨cl, ?_,λy c q=> ?_,λy hy=> ?_⟩
 ·unfold closureFor
  have e2:(forIn scope.names ([] :List (Str×Addr)) λx cs=>match x with | (name,kind)=>if (kind==NameKind.free)=true then do let a <-cellOf env name;pure (ForInStep.yield ((name,a)::cs)) else pure (ForInStep.yield cs):Sem _) >>= (λr=>pure r)=pure cl:=by
   rw [e];rfl
  exact e2
 ·rcases a _ (Ji q) with z|z
  ·exact nomatch z
  ·exact z
 ·obtain ⟨c,hc⟩:=d (y, .free) hy rfl
  exact OG hc
def HK (env:Env) (sc:Scope) (cl:List (Str×Addr)) (C:Addr):Env:=
 {scope:=sc,locals:=C,globals:=env.globals,cells:=cl,qual:=env.qual,func:=none,code:=env.code,frame:=env.frame,builtins:=env.builtins}
def blk (X:Cx) (sc:Scope) (N:List Str) (cl:List (Str×Addr)) (C:Addr) (s:Shared) (H:Hp) (ex:List Addr) (pn:List (Addr×Obj)):Cx where
 prog:=X.prog
 w:=X.w
 K:=X.K
 mg:=X.mg
 base:=X.base
 A:=X.A
 N:=N
 s₀:=s
 H₀:=H
 env:=HK X.env sc cl C
 outer:=X.stack
 stack:=X.stack
 ex:=ex
 fn:=λ_=>false
 calm:=X.calm
 pn:=pn
 xe:=λ_ _=>False
section
variable {X:Cx} {pins:List (Addr×Obj)} {σ:St} {H:Hp} {s:Shared} {fp:List Addr} {sc:Scope} {N:List Str} {cl:List (Str×Addr)}
theorem Inv.notStk (I:Inv X pins σ H s) {b:Addr} (h1:b≠X.env.locals) (h2:b ∉ X.fs):b ∉ Vy X.stack:=λz=>by
 rcases List.mem_cons.mp (I.stkSub b z) with e|e
 ·exact h1 e
 ·exact h2 e
theorem Inv.szLt (I:Inv X pins σ H s) {x:Str} {c:Addr} (e:X.env.cells.lookup x=some c):c<s.heap.objs.size:=by
 obtain ⟨v,q⟩:=I.cell x c e
 exact q.lt
theorem bX (I:Inv X pins σ H s) (hf:∀b∈fp,EO X pins H b) (FJ:∀b∈fp,b<s.heap.objs.size) (hk:sc.kind= .function)
 (h1:∀y c,cl.lookup y=some c->X.env.cells.lookup y=some c) (h2:∀y,(sc.names.lookup y=some .cell\/sc.names.lookup y=some .free)->∃c,cl.lookup y=some c):
 (blk X sc N cl s.heap.objs.size s H fp (X.pn++pins)).Ok where
 mod:=I.ok.mod
 kind:=hk
 glob:=I.ok.glob
 blt:=I.ok.blt
 above:=Nat.le_refl _
 inj:=λx y c a b=>I.ok.inj x y c (h1 x c a) (h1 y c b)
 has:=λx hx=>h2 x hx
 cab:=λx c z=>nomatch z
 hd:=I.ok.hd
 frames:=I.ok.frames
 stk:= .inl rfl
 exf:=λb hb=>⟨Nat.ne_of_lt (FJ b hb),λx c e=>(hf b hb).2.2.2.2.1 x c (h1 x c e)⟩
 bs:=I.bs
 bsz:=Nat.le_trans I.ok.bsz I.sz
 noex:=λb o e hb=>by
  rcases (hf b hb).2.2.2.1 with z|z
  ·exact I.ok.noex b o e z
  ·exact absurd (Nat.lt_of_lt_of_le (Heap.lt_size (I.ok.bs b o e).1) z) (Nat.lt_irrefl _)
 exfs:=λb hb=>I.notStk (hf b hb).2.1 (hf b hb).2.2.1
 funs:=I.stack
 frf:=I.stkFree
def Ch (own:Nat) (ix:List Nat) (σ:St):St:=List.replicate own none++ix.map λi=>(σ[i]?).getD none
theorem OA {own:Nat} {ix:List Nat} {σ:St}:(Ch own ix σ).length=own+ix.length:=by simp [Ch]
theorem FE {own:Nat} {ix:List Nat} {σ:St} {j:Nat} {v:V} (h:(Ch own ix σ)[j]? =some (some v)):own<=j/\∃i,ix[j-own]? =some i/\σ[i]? =some (some v):=by
 unfold Ch at h
 by_cases hj:j<own
 ·rw [List.getElem?_append_left (by simpa using hj),List.getElem?_replicate] at h
  simp [hj] at h
 ·have VQ:own<=j:=by omega
  rw [List.getElem?_append_right (by simpa using VQ),List.length_replicate,List.getElem?_map] at h
  refine ⟨VQ, ?_⟩
  cases e:ix[j-own]? with
  | none=>rw [e] at h;simp at h
  | some i=>
    rw [e] at h
    refine ⟨i,rfl, ?_⟩
    have h':(σ[i]?).getD none=some v:=by simpa using h
    cases e2:σ[i]? with
    | none=>rw [e2] at h';simp at h'
    | some o=>
      rw [e2] at h'
      have:o=some v:=by simpa using h'
      rw [this]
structure N1 (X:Cx) (sc:Scope) (own:Nat) (ix:List Nat) (N:List Str):Prop where
 len:N.length=own+ix.length
 out:∀j i,ix[j]? =some i->∃x,N[own+j]? =some x/\X.N[i]? =some x/\X.env.scope.names.lookup x=some .cell/\sc.names.lookup x=some .cell
theorem bW {own:Nat} {ix:List Nat} {h':Heap} {m:Str->Option Value} {t':Nat} (I:Inv X pins σ H s) (hf:∀b∈fp,EO X pins H b) (FJ:∀b∈fp,b<s.heap.objs.size) (hk:sc.kind= .function)
 (h1:∀y c,cl.lookup y=some c->X.env.cells.lookup y=some c) (h2:∀y,(sc.names.lookup y=some .cell\/sc.names.lookup y=some .free)->∃c,cl.lookup y=some c) (F:N1 X sc own ix N)
 (hn:h'.Ns s.heap.objs.size m) (k:∀b o,s.heap.get? b=some o->h'.get? b=some o):
 Inv (blk X sc N cl s.heap.objs.size s H fp (X.pn++pins)) [] (Ch own ix σ) H {s with heap:=h',toks:=t'} where
 ok:=bX I hf FJ hk h1 h2
 os:=rfl
 bare:=I.bare
 base:=Un.kept k
 loc:=by
  refine ⟨m,hn,λi x v e1 e2 e3=> ?_⟩
  obtain ⟨VQ,io,ei,es⟩:=FE e2
  obtain ⟨y,ny,ey,oy,sy⟩:=F.out _ _ ei
  have exy:x=y:=by
   have e1':N[i]? =some x:=e1
   rw [show own+(i-own)=i by omega,e1'] at ny
   exact Option.some.inj ny
  subst exy
  obtain ⟨m0,pX,jg⟩:=I.loc
  obtain ⟨u,r,l⟩:=jg io x v ey es (.inr (.inl oy))
  refine ⟨u,r, ?_⟩
  rcases l with ⟨z,_⟩|⟨_,c,ec,z⟩
  ·have z':X.env.scope.names.lookup x=some .local:=z
   rw [oy] at z'
   cases z'
  ·obtain ⟨c',ec'⟩:=h2 x (.inl sy)
   have:=h1 x c' ec'
   rw [ec] at this
   cases this
   obtain ⟨o,ho,hd⟩:=z
   exact .inr ⟨.inl sy,c,ec',o,k c o ho,hd⟩
 cell:=λx c e=>by
  obtain ⟨v,o,ho,hd⟩:=I.cell x c (h1 x c e)
  exact ⟨v,o,k c o ho,hd⟩
 free:=I.hok.fresh (Nat.le_refl _)
 freeC:=λx c e=>I.freeC x c (h1 x c e)
 pin:=λp hp=>by
  have DI:p∈X.pn++pins:=by simpa [blk] using hp
  obtain ⟨a,b,c,d,e⟩:=I.pin p DI
  exact ⟨k _ _ a,b,Nat.ne_of_lt (Heap.lt_size a),I.notStk c d,e⟩
 hok:=I.hok.kept k
 len:=by rw [OA];exact F.len.symm
theorem Y0 {own:Nat} {ix:List Nat} {σ':St} {H':Hp} {s':Shared} {pins':List (Addr×Obj)} (I:Inv X pins σ H s) (hf:∀b∈fp,EO X pins H b) (FJ:∀b∈fp,b<s.heap.objs.size)
 (B:Inv (blk X sc N cl s.heap.objs.size s H fp (X.pn++pins)) pins' σ' H' s'):Inv X pins σ H' s':=
 I.call' (ch:=fp) B.os B.base B.hok B.bare λb hb=>⟨(hf b hb).2.2.2.1,(hf b hb).2.1,(hf b hb).2.2.2.2.1,(hf b hb).2.2.2.2.2⟩
theorem Qk {H':Hp} {σ':St} {s':Shared} {C:Addr} {h':Heap} (I:Inv X pins σ H s) (hC:C=s.heap.objs.size) (I':Inv X pins σ' H' s') (hn:H' C=none) (hs:Heap.SameBut C s'.heap h'):Inv X pins σ' H' {s' with heap:=h'}:=by
 subst hC
 refine I'.turned (t':=s'.toks) (it:=s.heap.objs.size) (λb o hb e=>(hs.2 b hb).trans e) hn (Nat.ne_of_gt I.lt) (.inr I.sz) (λx c e=>Nat.ne_of_lt (I.szLt e)) λp hp=>Nat.ne_of_lt (Heap.lt_size (I.pin p hp).1)
end
def WE (X:Cx) (ifs:List Expr) (t:TT):Prop:=
 ∀(pins:List (Addr×Obj)) (s:Shared) (σ:St) (H:Hp) (Q:Bool->Hp->Prop),Inv X pins σ H s->t σ H Q->
  wpAny (model X.prog X.w) X.A (forIn ifs true λc r=>if r=true then do let ok <-isTrue c X.env (eval c X.env);pure (ForInStep.yield ok) else pure (ForInStep.yield r)) (TP X pins σ Q) X.xe s
def kO:TT:=λ_ H Q=>Q true H
theorem Zl {X:Cx}:WE X [] kO:=λ_ _ _ H _ I h=>wpAny_tests_nil ⟨H,I,h⟩
theorem Zm {X:Cx} {c:Expr} {t:TT} (hc:PT X c t):WE X [c] t:=λpins s σ H Q I h=>wpAny_tests_one (hc pins s σ H Q I h)
def Gx (own:Nat) (g:TG):Prop:=∀v σ H Q,g v σ H Q->g v σ H λσ2 H2=>Q σ2 H2/\σ2.length=σ.length/\∀j,own<=j->σ2[j]? =σ[j]?
def Lx (own:Nat) (g:R0):Prop:=∀vs σ H Q,g vs σ H Q->g vs σ H λσ2 H2=>Q σ2 H2/\σ2.length=σ.length/\∀j,own<=j->σ2[j]? =σ[j]?
theorem ZA {own i:Nat} (h:i<own):Gx own (II i):=λv σ H Q q=>⟨q,by simp,λj hj=>List.getElem?_set_ne (by omega)⟩
theorem ZB {own:Nat}:Lx own Wl:=λvs σ H Q q=>⟨q.1,q.2,rfl,λ_ _=>rfl⟩
theorem Wn {own:Nat} {t:TG} {u:R0} (h1:Gx own t) (m1:∀v σ H Q Q',(∀σ2 H2,Q σ2 H2->Q' σ2 H2)->t v σ H Q->t v σ H Q') (h2:Lx own u) (m2:∀v σ H Q Q',(∀σ2 H2,Q σ2 H2->Q' σ2 H2)->u v σ H Q->u v σ H Q'):Lx own (Qu t u):=by
 intro vs σ H Q q
 obtain ⟨v,r,e,q⟩:=q
 refine ⟨v,r,e,m1 _ _ _ _ _ (λσ2 H2 z=> ?_) (h1 _ _ _ _ q)⟩
 obtain ⟨z,l,kk⟩:=z
 refine m2 _ _ _ _ _ (λσ3 H3 z3=> ?_) (h2 _ _ _ _ z)
 obtain ⟨z3,l3,k3⟩:=z3
 exact ⟨z3,l3.trans l,λj hj=>(k3 j hj).trans (kk j hj)⟩
theorem ZC {i:Nat}:∀v σ H Q Q',(∀σ2 H2,Q σ2 H2->Q' σ2 H2)->II i v σ H Q->II i v σ H Q':=λ_ _ _ _ _ m q=>m _ _ q
theorem ZD:∀v σ H Q Q',(∀σ2 H2,Q σ2 H2->Q' σ2 H2)->Wl v σ H Q->Wl v σ H Q':=λ_ _ _ _ _ m q=>⟨q.1,m _ _ q.2⟩
theorem Wo {t:TG} {u:R0} (m1:∀v σ H Q Q',(∀σ2 H2,Q σ2 H2->Q' σ2 H2)->t v σ H Q->t v σ H Q') (m2:∀v σ H Q Q',(∀σ2 H2,Q σ2 H2->Q' σ2 H2)->u v σ H Q->u v σ H Q'):
 ∀v σ H Q Q',(∀σ2 H2,Q σ2 H2->Q' σ2 H2)->Qu t u v σ H Q->Qu t u v σ H Q':=λ_ _ _ _ _ m ⟨v,r,e,q⟩=>⟨v,r,e,m1 _ _ _ _ _ (λ_ _ z=>m2 _ _ _ _ _ m z) q⟩
def MA (J:It) (D:Addr) (σ0:St) (g:TG) (tt:TT) (te:TE) (Q:Hp->Prop) (W:Nat->Nat->Hp->Prop):Prop:=
 ∀i m H,W i m H->(J.stop i H/\Q H)\/(J.go i H/\∀x H',J.yld i H x H'->g x σ0 H' λσ2 H2=>tt σ2 H2 λok H3=>
  if ok=true then te σ2 H3 λy H4=>∃ys,H4 D=some (.lst ys)/\ys.length<sizeLine/\∃m',m'<m/\W (i+1) m' (upd H4 D (.lst (ys ++ [y]))) else ∃m',m'<m/\W (i+1) m' H3)
def Uh (wi:TI) (own:Nat) (ix:List Nat) (g:TG) (tt:TT) (te:TE):TE:=λσ H Q=>wi σ H λJ H1=>∀D,H1 D=none->
 ∃W:Nat->Nat->Hp->Prop,(∃m,W 0 m (upd H1 D (.lst [])))/\MA J D (Ch own ix σ) g tt te (Q (.ref D)) W
section
variable {X:Cx} {tg elt iter:Expr} {ifs:List Expr} {scope:Scope} {pos:Pos} {wi:TI} {own:Nat} {ix:List Nat} {N:List Str} {g:TG} {tt:TT} {te:TE}
structure JY (X:Cx) (tg elt:Expr) (ifs:List Expr) (scope:Scope) (own:Nat) (ix:List Nat) (N:List Str) (g:TG) (tt:TT) (te:TE):Prop where
 kind:scope.kind= .function
 nocell:∀y∈scope.names,y.2≠ .cell
 names:∀y∈scope.names,y.2= .local->scope.names.lookup y.1=some .local
 frees:∀y∈scope.names,y.2= .free->X.env.scope.names.lookup y.1=some .cell
 ins:N1 X (relabel scope X.env) own ix N
 keep:Gx own g
 tgt:∀cl C s H ex pn,PG (blk X (relabel scope X.env) N cl C s H ex pn) tg g
 tst:∀cl C s H ex pn,WE (blk X (relabel scope X.env) N cl C s H ex pn) ifs tt
 val:∀cl C s H ex pn,PE (blk X (relabel scope X.env) N cl C s H ex pn) elt te
theorem KM {env:Env} {y:Str} {k:NameKind} (W2:∀y∈scope.names,y.2≠ .cell) (h:(y,k)∈(relabel scope env).names) (hk:k= .cell\/k= .free):(y,NameKind.free)∈scope.names:=by
 obtain ⟨⟨n,k'⟩,hm,e⟩:=List.mem_map.mp (show (y,k)∈scope.names.map _ from h)
 dsimp only at e
 split at e
 ·rename_i hc
  cases e
  have:k'= .free:=by
   cases k' <;> simp_all
  subst this
  exact hm
 ·cases e
  rcases hk with z|z
  ·subst z
   exact absurd rfl (W2 _ hm)
  ·subst z
   exact hm
theorem U9 {pins:List (Addr×Obj)} {σ:St} {H:Hp} {s:Shared} {fp:List Addr} {cl:List (Str×Addr)} {it:Addr} {tn:Nat->Heap->Prop} {J:It} {D:Addr} {R:Result->Shared->Prop} {Qh:Hp->Prop} {W:Nat->Nat->Hp->Prop}
 (hc:X.calm=true) (O:JY X tg elt ifs scope own ix N g tt te) (T:NS X.prog X.w X.K tg J fp it tn) (I:Inv X pins σ H s) (hf:∀b∈fp,EO X pins H b) (FJ:∀b∈fp,b<s.heap.objs.size)
 (hW:MA J D (Ch own ix σ) g tt te Qh W)
 (hR:∀σ' H' s',Inv (blk X (relabel scope X.env) N cl s.heap.objs.size s H fp (X.pn++pins)) [] σ' H' s'->Qh H'->R (.ok .next) s')
 (n:Nat) (s0:Shared) (h0:∃i H',Inv (blk X (relabel scope X.env) N cl s.heap.objs.size s H fp (X.pn++pins)) [] (Ch own ix σ) H' s0/\tn i s0.heap/\(∀b∈fp,H' b=none)/\W i n H'):
 codeAny (model X.prog X.w) X.A (.compLoop (.ListComp elt [⟨tg,iter,ifs,0⟩] scope pos) 0 (.ref it) (.ref D) (HK X.env (relabel scope X.env) cl s.heap.objs.size)) R s0:=by
 refine codeAny_loop rfl (λn s'=>∃i H',Inv (blk X (relabel scope X.env) N cl s.heap.objs.size s H fp (X.pn++pins)) [] (Ch own ix σ) H' s'/\tn i s'.heap/\(∀b∈fp,H' b=none)/\W i n H') (λn s1 h1=> ?_) n h0
 obtain ⟨i,H1,B1,st1,fr1,w1⟩:=h1
 generalize hY:blk X (relabel scope X.env) N cl s.heap.objs.size s H fp (X.pn++pins)=Y at *
 have eA:Y.A=X.A:=by rw [<-hY];rfl
 have eP:Y.prog=X.prog:=by rw [<-hY];rfl
 have eW:Y.w=X.w:=by rw [<-hY];rfl
 have eK:Y.K=X.K:=by rw [<-hY];rfl
 have eE:HK X.env (relabel scope X.env) cl s.heap.objs.size=Y.env:=by rw [<-hY];rfl
 have eX:Y.xe=λ_ _=>False:=by rw [<-hY];rfl
 have eC:Y.calm=true:=by rw [<-hY];exact hc
 have hg:PG Y tg g:=by rw [<-hY];exact O.tgt _ _ _ _ _ _
 have ht:WE Y ifs tt:=by rw [<-hY];exact O.tst _ _ _ _ _ _
 have hv:PE Y elt te:=by rw [<-hY];exact O.val _ _ _ _ _ _
 have stat:∀{H':Hp},(∀b∈fp,H' b=none)->∀b∈fp,EO Y [] H' b:=λ{H'} hn b hb=>by
  obtain ⟨_,a1,a2,a3,a4,a5⟩:=hf b hb
  refine ⟨hn b hb, ?_, ?_, ?_, ?_, ?_⟩
  ·rw [<-hY];exact Nat.ne_of_lt (FJ b hb)
  ·rw [<-hY];exact I.notStk a1 a2
  ·rw [<-hY];exact .inl hb
  ·intro x c e
   exact (B1.ok.exf b (by rw [<-hY];exact hb)).2 x c e
  ·intro p hp
   have:p∈X.pn++pins:=by rw [<-hY] at hp;simpa [blk] using hp
   exact a5 p this
 rw [eE,<-eA,<-eP,<-eW]
 show wpAny _ _ ((compTurn (.ListComp elt [⟨tg,iter,ifs,0⟩] scope pos) 0 (.ref it) (.ref D) Y.env).onRaise (λx=>do noteFrame x Y.env;theTreesLotGoes x)) _ _ s1
 refine wpAny_noted ?_
 rw [compTurn_list]
 have ff:∀{α:Type} {t:Sem α} {Q:α->Shared->Prop} {E:Value->Shared->Prop} {s:Shared},wpAny (model Y.prog Y.w) Y.A t Q Y.xe s->wpAny (model Y.prog Y.w) Y.A t Q E s:=λh=>wpAny_mono h (λ_ _ q=>q) λ_ _ z=>by rw [eX] at z;exact z.elim
 refine wpAny_bind (wpAny_standAt (wpAny_bind ?_))
 rcases hW i n H1 w1 with ⟨stop,qn⟩|⟨go,step⟩
 ·have zd:=λE=>T.done Y eP eW eK eC i [] s1 _ H1 E B1 (stat fr1) st1 stop
  rw [<-eP,<-eW] at zd
  refine Bq (zd _) λr s4 ⟨hr,I4⟩=> ?_
  subst hr
  exact wpAny_pure (hR _ _ _ I4 qn)
 ·have zi:=λE=>T.item Y eP eW eK eC i [] s1 _ H1 E B1 (stat fr1) st1 go
  rw [<-eP,<-eW] at zi
  refine Bq (zi _) λr s4 ⟨u,hr,h4⟩=> ?_
  subst hr
  refine wpAny_bind (Bq h4 λ_ s5 ⟨x,H5,I5,r5,y5,st5,fr5⟩=> ?_)
  have I5':=I5.pinned (stat fr5) (T.obj _ _ st5)
  refine wpAny_bind (Bq (ff (hg _ s5 _ H5 x u _ I5' r5 (O.keep _ _ _ _ (step x H5 y5)))) λ_ s6 ⟨σ6,H6,I6,q6,l6,k6⟩=> ?_)
  refine wpAny_bind (Bq (ff (ht _ s6 σ6 H6 _ I6 q6)) λok s7 ⟨H7,I7,q7⟩=> ?_)
  have back:∀{H8:Hp} {s8:Shared} {m':Nat},Inv Y ([] ++ Ju fp s5.heap) σ6 H8 s8->m'<n->W (i+1) m' H8->
   ∃m,m<n/\∃i H',Inv Y [] (Ch own ix σ) H' s8/\tn i s8.heap/\(∀b∈fp,H' b=none)/\W i m H':=λ{H8 s8 m'} I8 hm w8=>by
   refine ⟨m',hm,i+1,H8,I8.unpinned.weak l6.symm (λj v hj=> ?_),T.keep _ _ _ st5 λb hb o e=>(I8.pin (b,o) (List.mem_append_right _ (List.mem_append_right _ (DS hb e)))).1,λb hb=> ?_,w8⟩
   ·rw [k6 j (FE hj).1]
    exact hj
   ·obtain ⟨o,e,d⟩:=T.obj _ _ st5 b hb
    exact (I8.pin (b,o) (List.mem_append_right _ (List.mem_append_right _ (DS hb e)))).2.1
  cases ok with
  | false=>
    obtain ⟨m',hm,w8⟩:=q7
    exact wpAny_pure ⟨rfl,back I7 hm w8⟩
  | true=>
    refine wpAny_bind (wpAny_bind (Bq (ff (hv _ s7 σ6 H7 _ I7 q7)) λyv s8 ⟨y,H8,I8,r8,ys,hD,hz,m',hm,w8⟩=> ?_))
    refine wpAny_bind (Bq (ff (Jl _ s8 σ6 H8 (.ref D) [y] (.ref D) [yv] (λ_ H9=>H9=upd H8 D (.lst (ys ++ [y]))) I8 rfl (.cons r8 .nil) ⟨D,ys,y,rfl,rfl,hD,hz,rfl⟩)) λ_ s9 ⟨_,H9,I9,_,e9⟩=> ?_)
    subst e9
    exact wpAny_pure (wpAny_pure ⟨rfl,back I9 hm w8⟩)
theorem Qq {pins:List (Addr×Obj)} {σ:St} {H:Hp} {s:Shared} {use:Option (Value->Sem Unit)} {Q:Value->Shared->Prop} {it:Addr} {fp:List Addr} {cl:List (Str×Addr)} {tn:Nat->Heap->Prop} {J:It} {Qd:Addr->Hp->Prop}
 (hc:X.calm=true) (O:JY X tg elt ifs scope own ix N g tt te) (T:NS X.prog X.w X.K tg J fp it tn) (I:Inv X pins σ H s) (hf:∀b∈fp,EO X pins H b) (st:tn 0 s.heap)
 (h1:∀y c,cl.lookup y=some c->X.env.cells.lookup y=some c) (h2:∀y,(y,NameKind.free)∈scope.names->∃c,cl.lookup y=some c)
 (hq:∀D,H D=none->∃W:Nat->Nat->Hp->Prop,(∃m,W 0 m (upd H D (.lst [])))/\MA J D (Ch own ix σ) g tt te (Qd D) W)
 (hR:∀D C H' s',(∃m,s'.heap.Ns C m)->Inv X pins σ H' s'->(∀σ2 s2,Inv X pins σ2 H' s2->∀h',Heap.SameBut C s2.heap h'->Inv X pins σ2 H' {s2 with heap:=h'})->C≠X.env.locals->(∀x c,X.env.cells.lookup x=some c->C≠c)->Qd D H'->
   compPost (model X.prog X.w) X.A X.xe use Q (.ref D) C (.ok .next) s'):
 wpAny (model X.prog X.w) X.A (newList []) (λacc s₃=>wpAny (model X.prog X.w) X.A (newFunctionEnv scope X.env.globals cl [] X.env.qual none .none (some X.env)) (λcenv s₄=>
  codeAny (model X.prog X.w) X.A (.compStart (.ListComp elt [⟨tg,iter,ifs,0⟩] scope pos) 0 (.ref it) acc {cenv with scope:=relabel scope X.env}) (compPost (model X.prog X.w) X.A X.xe use Q acc cenv.locals) s₄) X.xe s₃) X.xe s:=by
 refine wpAny_newObj_type ?_ (by simp [sizeOk])
 have I3:Inv X pins σ (upd H s.heap.objs.size (.lst [])) {s with heap:=s.heap.push {cls:= .type "list",data:= .seq ([] :List Value).toArray}}:=I.lnew (t':=s.toks) .nil (Nat.zero_le _)
 have VN:=I.fresh
 obtain ⟨W,⟨m0,w0⟩,hW⟩:=hq _ VN
 have cG:∀b∈fp,b<s.heap.objs.size:=λb hb=>by
  obtain ⟨o,e,_⟩:=T.obj _ _ st b hb
  exact Heap.lt_size e
 have ZH:∀b∈fp,EO X pins (upd H s.heap.objs.size (.lst [])) b:=λb hb=>by
  obtain ⟨a0,ar⟩:=hf b hb
  exact ⟨by rw [Ak (Nat.ne_of_lt (cG b hb))];exact a0,ar⟩
 generalize jq:({s with heap:=s.heap.push {cls:= .type "list",data:= .seq ([] :List Value).toArray}}:Shared)=s3 at I3
 have st3:tn 0 s3.heap:=T.keep _ _ _ st λb hb o e=>by rw [<-jq];exact Heap.get?_push_of_some _ e
 have FJ:∀b∈fp,b<s3.heap.objs.size:=λb hb=>by
  obtain ⟨o,e,_⟩:=T.obj _ _ st3 b hb
  exact Heap.lt_size e
 refine wpAny_newFunctionEnv O.nocell (by intro y hy;simp at hy) (λh₁ eJ pj=> ?_) O.kind
 have kp:∀b o,s3.heap.get? b=some o->h₁.get? b=some o:=λb o e=>pj.extBut b o (Nat.ne_of_lt (Heap.lt_size e)) (Heap.get?_push_of_some _ e)
 have jb:∀y,((relabel scope X.env).names.lookup y=some .cell\/(relabel scope X.env).names.lookup y=some .free)->∃c,cl.lookup y=some c:=λy hy=>by
  rcases hy with z|z
  ·exact h2 y (KM O.nocell (Ji z) (.inl rfl))
  ·exact h2 y (KM O.nocell (Ji z) (.inr rfl))
 have B:=bW (N:=N) (t':=s3.toks+([] :List (Str×Value)).length) I3 ZH FJ (sc:=relabel scope X.env) O.kind h1 jb O.ins eJ kp
 have st4:tn 0 h₁:=T.keep _ _ _ st3 λb hb o e=>kp b o e
 have loop:∀s4:Shared,s4={s3 with heap:=h₁,toks:=s3.toks+([] :List (Str×Value)).length}->
  codeAny (model X.prog X.w) X.A (.compLoop (.ListComp elt [⟨tg,iter,ifs,0⟩] scope pos) 0 (.ref it) (.ref s.heap.objs.size) (HK X.env (relabel scope X.env) cl s3.heap.objs.size)) (compPost (model X.prog X.w) X.A X.xe use Q (.ref s.heap.objs.size) s3.heap.objs.size) s4:=by
  rintro s4 rfl
  refine U9 (cl:=cl) (Qh:=Qd s.heap.objs.size) hc O T I3 ZH FJ hW (λσ' H' s' B' q'=> ?_) m0 _ ⟨0,_,B,st4,λb hb=>(ZH b hb).1,w0⟩
  refine hR _ _ H' s' (let ⟨m,hm,_⟩:=B'.loc;⟨m,hm⟩) (Y0 (own:=own) (ix:=ix) I3 ZH FJ B') (λσ2 s2 I2 h' hs=>Qk I3 rfl I2 B'.free hs) (Nat.ne_of_gt I3.lt) (λx c e=>Nat.ne_of_gt (I3.szLt e)) q'
 exact codeAny_compStart_list (loop _ rfl) (T.self _ 0 _ _ _ st4 (loop _ rfl))
theorem Zi (hc:X.calm=true) (hi:PI X tg iter wi) (O:JY X tg elt ifs scope own ix N g tt te) (hs:∀x,foldedSetIterable iter X.env x=pure x:=by intro _;rfl):
 PE X (.ListComp elt [⟨tg,iter,ifs,0⟩] scope pos) (Uh wi own ix g tt te):=by
 intro pins s σ H Q I h
 obtain ⟨cl,Q6,h1,h2⟩:=HL (env:=X.env) (scope:=scope) λy hy e=>I.ok.has y.1 (.inl (O.frees y hy e))
 rw [eval_ListComp]
 refine wpAny_comprehension_free (use:=none) rfl hs Q6 O.kind O.names (Bq (hi pins s σ H _ I h) λv s1 hv=>Bq hv λitv s2 fo=> ?_)
 obtain ⟨it,fp,tn,J,H2,rfl,I2,T,st2,f2,q⟩:=fo
 exact Qq (Qd:=λD H'=>Q (.ref D) H') hc O T I2 f2 st2 h1 h2 q λD C H' s' hn I' gone nl nc q'=>by
  obtain ⟨m,hm⟩:=hn
  exact ⟨m,hm,λh' hs=>⟨.ref D,H',gone σ s' I' h' hs,rfl,q'⟩⟩
theorem Zq {i:Nat} {x:Str} {pos' spos:Pos} (hc:X.calm=true) (hN:X.N.Nodup) (VO:X.N[i]? =some x) (hx:Loc X.env.scope x) (hi:PI X tg iter wi) (O:JY X tg elt ifs scope own ix N g tt te)
 (fj:swapsWith (.ListComp elt [⟨tg,iter,ifs,0⟩] scope pos) (some (.Name x pos')) spos.line X.env=pure true:=by rfl) (hs:∀x,foldedSetIterable iter X.env x=pure x:=by intro _;rfl)
 (hf:X.fn x=true\/X.env.scope.names.lookup x=some .local:=by first | exact .inl rfl|exact .inr rfl|assumption):
 PS X (.Assign [.Name x pos'] (.ListComp elt [⟨tg,iter,ifs,0⟩] scope pos) spos) (YE (Uh wi own ix g tt te) (II i)):=by
 intro pins s σ H D I h
 obtain ⟨cl,Q6,h1,h2⟩:=HL (env:=X.env) (scope:=scope) λy hy e=>I.ok.has y.1 (.inl (O.frees y hy e))
 rw [exec_Assign_Name_used _ _ _ _ fj]
 refine wpAny_bind (wpAny_standAt (wpAny_bind ?_))
 show wpAny _ _ (do let _ <-comprehension (.ListComp elt [⟨tg,iter,ifs,0⟩] scope pos) scope X.env _ (newList []) false (eval iter X.env) (some (assign (.Name x pos') X.env))) _ _ s
 refine wpAny_bind (Bq (wpAny_comprehension_free (use:=some (assign (.Name x pos') X.env)) (Q:=λ_ s'=>SP X pins D .next s') rfl hs Q6 O.kind O.names (Bq (hi pins s σ H _ I h) λv s1 hv=>Bq hv λitv s2 fo=> ?_)) λ_ s' hq=>wpAny_pure (wpAny_pure hq))
 obtain ⟨it,fp,tn,J,H2,rfl,I2,T,st2,f2,q⟩:=fo
 refine Qq (Qd:=λD' H'=>II i (.ref D') σ H' D.nx) hc O T I2 f2 st2 h1 h2 q λD' C H' s' hn I' gone nl nc q'=> ?_
 obtain ⟨m,hm⟩:=hn
 show wpAny _ _ (assign (.Name x pos') X.env (.ref D')) _ _ s'
 refine wpAny_assign_Name (OX (v:= .ref D') I' hN VO hx rfl (λs4 I4 ⟨a,sb,ha⟩=> ?_) hf)
 have pH:C≠a:=by
  rcases ha with z|z
  ·rw [z];exact nl
  ·exact nc x a z
 exact ⟨m,hm.sameBut sb pH,λh' hs=>⟨_,H',gone _ s4 I4 h' hs,q'⟩⟩
end
end L2
end
section
namespace L2
open PySem PySem.Spec PyProof.Rows
theorem IN {n k:Nat} (h:n<2^k) (hk:0<k):n.log2<k:=by
 by_cases e:n=0
 ·subst e
  simpa using hk
 ·exact (Nat.log2_lt e).mpr h
theorem GV {i:Int} {k:Nat} (h:i.natAbs<2^k):Builtin.Int.intBits i<=k:=by
 unfold Builtin.Int.intBits
 by_cases e:i=0
 ·subst e;simp
 ·have e2:(i==0)=false:=by simpa using e
  rw [e2]
  simp only [Bool.false_eq_true,if_false]
  have e3:i.natAbs≠0:=by omega
  have:=(Nat.log2_lt e3).mpr h
  omega
section
variable {X:Cx}
def i5 (i j:Int):Prop:=i.natAbs<2^8000/\j.natAbs<2^8000
def e6 (i j:Int):Prop:=Ln i j\/i5 i j
theorem GW:Dy X (binaryOp .Mult) (rI e6 λi j=> .int (i*j)):=cu λ_ _ _ _ _ _ _ hc q=>mul_int q (by
 rcases hc with z|z
 ·exact z.ok
 ·exact .of_le (GV z.1) (GV z.2) (by decide))
def e5 (_ j:Int):Prop:=0<j/\j.natAbs<2^8000
theorem XX:Dy X (binaryOp .FloorDiv) (rI e5 λi j=> .int (i/j)):=cu λi j _ _ _ _ _ hc q=>by
 have h1:(0:Int)<j:=hc.1
 refine floordiv_int (by omega) ?_ (.inl (PyProof.noPylong_of_log2 (Nat.lt_trans (IN hc.2 (by decide)) (by decide))))
 rw [Int.fdiv_eq_ediv_of_nonneg _ (Int.le_of_lt h1)]
 exact q
inductive Kd where
 | int|bl|non|str|lst|tup
 deriving DecidableEq
def ll (K:PySem.W.Frag) (x:V) (H:Hp):Kd->Prop
 | .int=>∃i,x= .int i
 | .bl=>∃b,x= .bl b
 | .non=>x= .non
 | .str=>∃z,x= .str z
 | .lst=>∃a ys,x= .ref a/\Ff K H a ys
 | .tup=>∃a ys,x= .ref a/\Kx K H a ys
def O8:Kd->String->Bool
 | .int,T=>T == "int"
 | .bl,T=>T == "bool" || T == "int"
 | .non,_=>false
 | .str,_=>false
 | .lst,T=>T == "list"
 | .tup,T=>T == "tuple"
def W5 (T:String):Prop:=T="int" \/T="bool" \/T="tuple" \/T="list"
def dM (K:PySem.W.Frag):List V->Hp->VK->Prop:=λxs H Q=>∃x T k,xs= [x, .ty T] /\W5 T/\ll K x H k/\Q (.bl (O8 k T)) H
theorem WQ:Br X (.builtin "isinstance") (dM X.K):=by
 intro pins s σ H xs us Q I r h
 obtain ⟨x,T,k,rfl,hT,hk,q⟩:=h
 cases r with
 | cons rx rr=>
 cases rr with
 | cons rt rr=>
 cases rr
 cases rt
 have yes:Q (.bl true) H->EP X pins σ Q (.bool true) s:=λz=>⟨.bl true,H,I,rfl,z⟩
 have no:Q (.bl false) H->EP X pins σ Q (.bool false) {s with toks:=s.toks+1}:=λz=>⟨.bl false,H,I.tok _,rfl,z⟩
 cases k with
 | int=>
   obtain ⟨i,rfl⟩:=hk
   obtain ⟨t,rfl⟩:=rx
   rcases hT with rfl|rfl|rfl|rfl
   ·exact IsiPair.int_int (yes q)
   ·exact IsiPair.int_bool (no q)
   ·exact IsiPair.int_tuple (no q)
   ·exact IsiPair.int_list (no q)
 | bl=>
   obtain ⟨i,rfl⟩:=hk
   cases rx
   rcases hT with rfl|rfl|rfl|rfl
   ·exact IsiPair.bool_int (yes q)
   ·exact IsiPair.bool_bool (yes q)
   ·exact IsiPair.bool_tuple (no q)
   ·exact IsiPair.bool_list (no q)
 | non=>
   have e:x= .non:=hk
   subst e
   cases rx
   rcases hT with rfl|rfl|rfl|rfl
   ·exact IsiPair.NoneType_int (no q)
   ·exact IsiPair.NoneType_bool (no q)
   ·exact IsiPair.NoneType_tuple (no q)
   ·exact IsiPair.NoneType_list (no q)
 | str=>
   obtain ⟨i,rfl⟩:=hk
   obtain ⟨t,rfl⟩:=rx
   rcases hT with rfl|rfl|rfl|rfl
   ·exact IsiPair.str_int (no q)
   ·exact IsiPair.str_bool (no q)
   ·exact IsiPair.str_tuple (no q)
   ·exact IsiPair.str_list (no q)
 | lst=>
   obtain ⟨a,ys,rfl,hq⟩:=hk
   cases rx
   obtain ⟨its,r',pl,hz⟩:=I.list hq
   rcases hT with rfl|rfl|rfl|rfl
   ·exact IsiPair.isList_int pl.isList (λ_ _ e=>e) (no q)
   ·exact IsiPair.isList_bool pl.isList (λ_ _ e=>e) (no q)
   ·exact IsiPair.isList_tuple pl.isList (λ_ _ e=>e) (no q)
   ·exact IsiPair.isList_list pl.isList (λ_ _ e=>e) (yes q)
 | tup=>
   obtain ⟨a,ys,rfl,hq⟩:=hk
   cases rx
   obtain ⟨its,r',pl,hz⟩:=I.tuple hq
   have pl':s.heap.IsTuple a its.toArray:=pl
   rcases hT with rfl|rfl|rfl|rfl
   ·exact IsiPair.isTuple_int pl' (λ_ _ e=>e) (no q)
   ·exact IsiPair.isTuple_bool pl' (λ_ _ e=>e) (no q)
   ·exact IsiPair.isTuple_tuple pl' (λ_ _ e=>e) (yes q)
   ·exact IsiPair.isTuple_list pl' (λ_ _ e=>e) (no q)
theorem Vk (bs:List Bool):(List.range bs.length).all (λi=>bs.getD i true)=bs.all id:=by
 rw [Bool.eq_iff_iff,List.all_eq_true,List.all_eq_true]
 constructor
 ·intro h b hb
  obtain ⟨i,hi,e⟩:=List.mem_iff_getElem.mp hb
  have:=h i (List.mem_range.mpr hi)
  rw [List.getD_eq_getElem?_getD,List.getElem?_eq_getElem hi] at this
  subst e
  simpa using this
 ·intro h i hi
  have VO:=List.mem_range.mp hi
  rw [List.getD_eq_getElem?_getD,List.getElem?_eq_getElem VO]
  simpa using h _ (List.getElem_mem VO)
theorem Inv.walked {pins:List (Addr×Obj)} {σ:St} {H:Hp} {s s':Shared} {o:Obj} (I:Inv X pins σ H s) (m:Moved [s.heap.objs.size] (λa b=>b=a) {s with heap:=s.heap.push o} s'):Inv X pins σ H s':=by
 obtain ⟨h',g',d',t',o'⟩:=s'
 obtain ⟨hk,hg,hd,ho,_⟩:=m
 have pQ:∀b u,s.heap.get? b=some u->h'.get? b=some u:=λb u e=>hk b u (by
  intro z
  have z':b=s.heap.objs.size:=by simpa using z
  exact absurd (Heap.lt_size e) (by rw [z'];exact Nat.lt_irrefl _)) (Heap.get?_push_of_some _ e)
 have hg:g'=s.gens:=hg
 have hd:d'=s.drawn:=hd
 have ho:o'=s.os:=ho
 subst hg hd ho
 exact I.kept (t':=t') pQ
theorem YM {bs:List Bool} {its:List Value} {A:Around} (r:Au (bs.map V.bl) its):TruthOf X.prog X.w A (λi v=>its.toArray[i]? =some v) (λi=>bs.getD i true):=by
 intro i v s Q E hv hQ
 have fk:its[i]? =some v:=by simpa using hv
 cases e:(bs.map V.bl)[i]? with
 | none=>rw [r.none_of e] at fk;cases fk
 | some x=>
   obtain ⟨u,hu,ru⟩:=r.get e
   rw [fk] at hu
   cases hu
   rw [List.getElem?_map] at e
   cases e2:bs[i]? with
   | none=>rw [e2] at e;cases e
   | some b=>
     rw [e2] at e
     cases e
     cases ru
     replace hQ:Q (bs.getD i true) s:=hQ
     rw [List.getD_eq_getElem?_getD,e2] at hQ
     unfold truthy
     exact wpAny_pure hQ
def Zt (K:PySem.W.Frag) (f:List Bool->Bool):List V->Hp->VK->Prop:=λxs H Q=>∃p bs,xs= [.ref p] /\Ff K H p (bs.map V.bl)/\Q (.bl (f bs)) H
theorem U2 (hc:X.calm=true):Br X (.builtin "all") (Zt X.K λbs=>bs.all id):=by
 intro pins s σ H xs us Q I r h
 obtain ⟨p,bs,rfl,hq,q⟩:=h
 obtain ⟨u,rfl,rx⟩:=vals1 r
 cases rx
 obtain ⟨its,r',pl,hz⟩:=I.list hq
 obtain ⟨ol,mH,jo⟩:=id pl.isList
 have YX:p≠s.heap.objs.size:=Nat.ne_of_lt (Heap.lt_size mH)
 have DJ:its.toArray.size=bs.length:=by
  have:=r'.length
  simp at this
  simp [this]
 refine call_all_walkS (wpAny_pyIter_list pl.isList ?_)
 refine ⟨_,_,_,_,_,_,_,λi=>bs.getD i true,rfl,(Walks.list (A:=X.A.in1) (show X.A.in1.handled=none from I.ok.hd hc) s.heap.objs.size p YX its.toArray).toS,⟨⟨_,Heap.get?_push_size _ rfl,rfl,rfl⟩,⟨ol,Heap.get?_push_of_some _ mH,jo⟩⟩,YM r',λs' m=> ?_⟩
 rw [DJ,Vk]
 exact ⟨.bl (bs.all id),H,I.walked m,rfl,q⟩
def ZJ (xs:List V) (k:Nat) (y:V):List V:=xs.take k++y::xs.drop k
theorem Au.ins {xs:List V} {us:List Value} {y:V} {u:Value} (r:Au xs us) (ry:RelV y u) (k:Nat):Au (ZJ xs k y) (us.take k++u::us.drop k):=Au.append (r.take k) (.cons ry (r.drop k))
def Pn:V->List V->Hp->VK->Prop:=λx vs H Q=>∃l xs i y,x= .ref l/\vs= [.int i,y] /\H l=some (.lst xs)/\0<=i/\i<=(xs.length:Int)/\xs.length<sizeLine/\Q .non (upd H l (.lst (ZJ xs i.toNat y)))
theorem VX:fC X "list.insert" Pn:=by
 intro pins s σ H x vs v us Q I rx rv h
 obtain ⟨l,xs,i,y,rfl,rfl,hH,h0,h1,hz,q⟩:=h
 cases rx
 cases rv with
 | cons ri rr=>
 cases rr with
 | cons ry rr=>
 cases rr
 rename_i uy
 obtain ⟨t,rfl⟩:=ri
 obtain ⟨z,its,n,r,hl,e⟩:=I.lstM hH
 have Tt:=MO
 have Q7:¬(!Builtin.List.listFitsIndex i)=true:=by
  have:=fitsIndex_both (k:=i) (by omega) (by omega)
  simp [this]
 refine call_meets F.slot_list_insert ⟨_,e,rfl⟩ F.entry_list_insert (F.args_list_insert_3 _ _ _) (AutoSeq1.list_insert_list_int_val_1 l its.toArray n i t uy Q7 (by rw [List.size_toArray];omega)) ⟨e, ?_⟩
 refine ⟨.non,_,I.lset (ys:=ZJ xs i.toNat y) (its':=its.take i.toNat++uy::its.drop i.toNat) hH e ?_ (r.ins ry _) ?_,rfl,q⟩
 ·dsimp only
  rw [if_neg (by omega),List.size_toArray,Nat.min_eq_left (by omega)]
  apply Array.toList_inj.mp
  simp
  exact List.take_of_length_le (by simp)
 ·unfold ZJ
  simp
  omega
end
end L2
end
section
namespace L2
open PySem PySem.Spec PyProof.Rows
def NQ:Bool->Heap->Addr->Addr->Nat->Prop
 | true,h,q,l,k=>h.IsListIter q l k
 | false,h,q,l,k=>h.IsTupleIter q l k
def LG:Bool->Heap->Addr->Array Value->Prop
 | true,h,l,xs=>h.IsList l xs
 | false,h,l,xs=>h.IsTuple l xs
theorem NQ.mv {b:Bool} {h h':Heap} {q l:Addr} {k:Nat} (x:NQ b h q l k) (e:∀o,h.get? q=some o->h'.get? q=some o):NQ b h' q l k:=by
 cases b with
 | true=>obtain ⟨o,a,r⟩:=x;exact ⟨o,e o a,r⟩
 | false=>obtain ⟨o,a,r⟩:=x;exact ⟨o,e o a,r⟩
theorem NQ.obj {b:Bool} {h:Heap} {q l:Addr} {k:Nat} (x:NQ b h q l k):∃o,h.get? q=some o/\∀v,o.data≠ .cell v:=by
 cases b with
 | true=>
   obtain ⟨o,a,_,d⟩:=x
   exact ⟨o,a,λv z=>by rw [d] at z;cases z⟩
 | false=>
   obtain ⟨o,a,_,d⟩:=x
   exact ⟨o,a,λv z=>by rw [d] at z;cases z⟩
theorem LG.mv {b:Bool} {h h':Heap} {l:Addr} {xs:Array Value} (x:LG b h l xs) (e:∀o,h.get? l=some o->h'.get? l=some o):LG b h' l xs:=by
 cases b with
 | true=>obtain ⟨o,a,r⟩:=x;exact ⟨o,e o a,r⟩
 | false=>obtain ⟨o,a,r⟩:=x;exact ⟨o,e o a,r⟩
section
variable {prog:Program} {w:World} {A:Around} {E:Value->Shared->Prop} {s:Shared}
theorem IF {b:Bool} {q l:Addr} {k:Nat} {xs:Array Value} {x:Value} {Q:Value->Shared->Prop} (hq:NQ b s.heap q l k) (hl:LG b s.heap l xs) (hx:xs[k]? =some x)
 (hQ:∀h',NQ b h' q l (k+1)->Heap.SameBut q s.heap h'->Q x {s with heap:=h'}):wpAny (model prog w) A (Builtin.SmallTypes.nextOf (.ref q)) Q E s:=by
 cases b with
 | true=>exact wpAny_nextOf_list_item hq hl hx hQ
 | false=>
   have cN:s.heap.IsTupleIter q l k:=hq
   obtain ⟨oq,gq,cq,dq⟩:=id cN
   obtain ⟨ol,gl,_,nl,dl⟩:=hl
   unfold Builtin.SmallTypes.nextOf
   refine wpAny_bind (wpAny_callSpecial?_slot (name:=Str.ofString "__next__") cN.typeIs F.slot_tuple_iterator_next (wpAny_call_entry F.slot_tuple_iterator_next cN.typeIs F.entry_tuple_iterator_next ?_ (F.args_tuple_iterator_next_1 _)))
   show wpAny _ _ (field (.ref q) 0 >>= _) _ _ _
   refine wpAny_bind (wpAny_field gq dq (x:= .ref l) rfl ?_)
   show wpAny _ _ (if (Value.ref l==Value.none)=true then _ else _) _ _ _
   rw [if_neg (by intro z;cases z)]
   show wpAny _ _ (field (.ref q) 1 >>= _) _ _ _
   refine wpAny_bind (wpAny_field gq dq (x:= .int k 0) rfl ?_)
   show wpAny _ _ (seqItems? (.ref l) >>= _) _ _ _
   refine wpAny_bind (wpAny_seqItems gl dl ?_)
   simp only [Int.toNat_natCast,hx]
   refine wpAny_bind (wpAny_setField gq dq (by simp) (wpAny_pure ⟨x,rfl,wpAny_pure (hQ _ ?_ (Heap.SameBut.update ..))⟩))
   refine ⟨_,Heap.get?_update_self _ gq (Obj.isFreed_of_fields (Obj.data_mapFields dq _)),(Obj.cls_mapFields ..).trans cq, ?_⟩
   rw [Obj.data_mapFields dq]
   simp [rawInt]
theorem Jf {b:Bool} {q l:Addr} {k:Nat} {xs:Array Value} {Q:Value->Shared->Prop} (hh:A.handled=none) (hq:NQ b s.heap q l k) (hl:LG b s.heap l xs) (hx:xs[k]? =none)
 (hE:∀h' e,Heap.ExtBut q s.heap h'->(∃o,h'.get? e=some o/\o.cls= .type "StopIteration")->E (.ref e) {s with heap:=h'}):wpAny (model prog w) A (Builtin.SmallTypes.nextOf (.ref q)) Q E s:=by
 cases b with
 | true=>exact wpAny_nextOf_list_end hh hq hl hx hE
 | false=>
   have cN:s.heap.IsTupleIter q l k:=hq
   obtain ⟨oq,gq,cq,dq⟩:=id cN
   obtain ⟨ol,gl,_,nl,dl⟩:=hl
   unfold Builtin.SmallTypes.nextOf
   refine wpAny_bind (wpAny_callSpecial?_slot (name:=Str.ofString "__next__") cN.typeIs F.slot_tuple_iterator_next (wpAny_call_entry F.slot_tuple_iterator_next cN.typeIs F.entry_tuple_iterator_next ?_ (F.args_tuple_iterator_next_1 _)))
   show wpAny _ _ (field (.ref q) 0 >>= _) _ _ _
   refine wpAny_bind (wpAny_field gq dq (x:= .ref l) rfl ?_)
   show wpAny _ _ (if (Value.ref l==Value.none)=true then _ else _) _ _ _
   rw [if_neg (by intro z;cases z)]
   show wpAny _ _ (field (.ref q) 1 >>= _) _ _ _
   refine wpAny_bind (wpAny_field gq dq (x:= .int k 0) rfl ?_)
   show wpAny _ _ (seqItems? (.ref l) >>= _) _ _ _
   refine wpAny_bind (wpAny_seqItems gl dl ?_)
   simp only [Int.toNat_natCast,hx]
   refine wpAny_bind (wpAny_rule (wpAny_bind (wpAny_setField gq dq (by simp) ?_)))
   refine wpAny_bind (m:=newExc (.type "StopIteration") []) ?_
   simp only [newExc,newTuple]
   refine wpAny_bind (wpAny_newObj_type ?_ (by size_fits))
   refine wpAny_bind (m:=firstArgMember _ _) (wpAny_of_eq (a:=Value.none) (by first | rfl|(simp only [firstArgMember];rfl)) (wpAny_newObj_type ?_ (by size_fits)))
   simp only [raiseNew]
   refine wpAny_bind (wpAny_handled ?_)
   first | rw [show A.in1.handled=none from hh] | rw [hh]
   exact wpAny_bind (wpAny_pure (wpAny_throw (hE _ _ (((Heap.SameBut.update ..).extBut.push _).push _) ⟨_,Heap.get?_push_size _ rfl,rfl⟩)))
structure bT (b c:Bool) (z TI TO i j l m:Addr) (k:Nat) (f:Value) (h:Heap):Prop where
 zip:IsZip h z TI TO f
 its:IsPair h TI (.ref i) (.ref j)
 own:∃x y,IsPair h TO x y
 one:NQ b h i l k
 two:NQ c h j m k
theorem bT.mv {b c:Bool} {z TI TO i j l m:Addr} {k:Nat} {f:Value} {h h':Heap} (Z:bT b c z TI TO i j l m k f h) (e:∀p∈ [z,TI,TO,i,j],∀o,h.get? p=some o->h'.get? p=some o):bT b c z TI TO i j l m k f h':=by
 obtain ⟨a1,a2,⟨x,y,a3⟩,a4,a5⟩:=Z
 exact ⟨e z (by simp) _ a1,e TI (by simp) _ a2,⟨x,y,e TO (by simp) _ a3⟩,a4.mv (e i (by simp)),a5.mv (e j (by simp))⟩
variable {b c:Bool} {z TI TO i j l m:Addr} {k:Nat} {xs ys:Array Value}
theorem iH {x y:Value} {Q:Value->Shared->Prop} (D:ZipApart z TI TO i j l m) (Z:bT b c z TI TO i j l m k .none s.heap) (hl:LG b s.heap l xs) (hm:LG c s.heap m ys) (hx:xs[k]? =some x) (hy:ys[k]? =some y)
 (hQ:∀h',IsZip h' z TI TO (rawInt s.heap.objs.size)->IsPair h' TI (.ref i) (.ref j)->IsPair h' TO x y->NQ b h' i l (k+1)->NQ c h' j m (k+1)->IsPair h' s.heap.objs.size x y->
   (∀p o,p≠z->p≠TO->p≠i->p≠j->s.heap.get? p=some o->h'.get? p=some o)->Q (.ref s.heap.objs.size) {s with heap:=h'}):
 wpAny (model prog w) A (Builtin.«zip.__next__» ⟨[.ref z], []⟩) (λfin s'=>∃v,fin= .done (.ret v)/\Q v s') E s:=by
 obtain ⟨zz,zi,⟨x0,y0,zo⟩,z1,z2⟩:=Z
 show wpAny _ _ (field (.ref z) 2 >>= _) _ _ _
 refine wpAny_bind (wpAny_field zz rfl (x:= .bool false) rfl ?_)
 show wpAny _ _ (field (.ref z) 3 >>= _) _ _ _
 refine wpAny_bind (wpAny_field zz rfl (x:= .ref TI) rfl (wpAny_bind (wpAny_seqItems zi rfl ?_)))
 refine wpAny_bind (m:=Builtin.SmallTypes.ownedTupleIsFree (.ref z)) ?_
 unfold Builtin.SmallTypes.ownedTupleIsFree
 refine wpAny_bind (wpAny_field zz rfl (x:= .none) rfl (wpAny_pure ?_))
 simp only [if_true]
 refine wpAny_bind (wpAny_rule (wpAny_bind (wpAny_field zz rfl (x:= .ref TO) rfl (wpAny_bind (wpAny_setField_rec zz (by simp) λg1 e1 b1=> ?_)))))
 have e1:IsZip g1 z TI TO .ellipsis:=e1
 refine wpAny_bind ?_
 simp only [List.zipIdx_cons,List.zipIdx_nil,List.forIn_cons,List.forIn_nil]
 refine wpAny_bind (wpAny_bind (wpAny_onRaise ?_))
 refine wpAny_bind (m:=Builtin.SmallTypes.nextOf (.ref i)) (IF (z1.mv λo=>b1.extBut _ o D.i1z) (hl.mv λo=>b1.extBut _ o D.l1z) hx λg2 e2 b2=>wpAny_pure ?_)
 have o2:IsPair g2 TO x0 y0:=b2.extBut _ _ D.TOi1 (b1.extBut _ _ D.TOz zo)
 refine wpAny_bind (wpAny_seqItems o2 rfl (wpAny_bind (wpAny_updateSeq_pair o2 λg3 o3 b3=>wpAny_bind (wpAny_letGo (wpAny_pure ?_)))))
 have o3:IsPair g3 TO x y0:=o3
 refine wpAny_bind (wpAny_bind (wpAny_onRaise ?_))
 refine wpAny_bind (m:=Builtin.SmallTypes.nextOf (.ref j)) (IF (((z2.mv λo=>b1.extBut _ o D.i2z).mv λo=>b2.extBut _ o D.i12.symm).mv λo=>b3.extBut _ o D.TOi2.symm)
  (((hm.mv λo=>b1.extBut _ o D.l2z).mv λo=>b2.extBut _ o D.l2i1).mv λo=>b3.extBut _ o D.l2TO) hy λg4 e4 b4=>wpAny_pure ?_)
 have o4:IsPair g4 TO x y0:=b4.extBut _ _ D.TOi2 o3
 refine wpAny_bind (wpAny_seqItems o4 rfl (wpAny_bind (wpAny_updateSeq_pair o4 λg5 o5 b5=>wpAny_bind (wpAny_letGo (wpAny_pure (wpAny_pure ?_))))))
 have o5:IsPair g5 TO x y:=o5
 refine wpAny_bind (wpAny_seqItems o5 rfl (wpAny_bind (wpAny_newTuple ?_)))
 have sz:g5.objs.size=s.heap.objs.size:=by rw [b5.1,b4.1,b3.1,b2.1,b1.1]
 have k5:IsZip g5 z TI TO .ellipsis:=b5.extBut _ _ D.TOz.symm (b4.extBut _ _ D.i2z.symm (b3.extBut _ _ D.TOz.symm (b2.extBut _ _ D.i1z.symm e1)))
 have all5:∀p o,p≠z->p≠TO->p≠i->p≠j->s.heap.get? p=some o->g5.get? p=some o:=λp o q1 q2 q3 q4 e=>
  b5.extBut _ _ q2 (b4.extBut _ _ q4 (b3.extBut _ _ q2 (b2.extBut _ _ q3 (b1.extBut _ _ q1 e))))
 have one5:NQ b g5 i l (k+1):=((e2.mv λo=>b3.extBut _ o D.TOi1.symm).mv λo=>b4.extBut _ o D.i12).mv λo=>b5.extBut _ o D.TOi1.symm
 have two5:NQ c g5 j m (k+1):=e4.mv λo=>b5.extBut _ o D.TOi2.symm
 have zlt:z<g5.objs.size:=Heap.lt_size k5
 refine wpAny_bind (m:=Builtin.SmallTypes.ownedTupleHandOut (.ref z) (.ref g5.objs.size)) ?_
 unfold Builtin.SmallTypes.ownedTupleHandOut
 have k6:IsZip (g5.push {cls:= .type "tuple",data:= .seq #[x,y] }) z TI TO .ellipsis:=Heap.get?_push_of_some _ k5
 refine wpAny_bind (wpAny_setField_rec k6 (by simp) λg7 k7 b7=> ?_)
 have k7:IsZip g7 z TI TO (rawInt g5.objs.size):=k7
 refine wpAny_setField_rec k7 (by simp) λg8 k8 b8=> ?_
 have k8:IsZip g8 z TI TO (rawInt g5.objs.size):=k8
 have up:∀p o,p≠z->g5.get? p=some o->g8.get? p=some o:=λp o q e=>b8.extBut _ _ q (b7.extBut _ _ q (Heap.get?_push_of_some _ e))
 have new8:IsPair g8 g5.objs.size x y:=b8.extBut _ _ (Nat.ne_of_gt zlt) (b7.extBut _ _ (Nat.ne_of_gt zlt) (Heap.get?_push_size _ rfl))
 rw [sz] at k8 new8
 refine wpAny_pure ⟨_,rfl, ?_⟩
 show Q (.ref g5.objs.size) _
 rw [sz]
 exact hQ g8 k8 (up _ _ D.TIz (all5 _ _ D.TIz D.TITO D.TIi1 D.TIi2 zi)) (up _ _ D.TOz o5) (one5.mv λo=>up _ o D.i1z) (two5.mv λo=>up _ o D.i2z) new8 λp o q1 q2 q3 q4 e=>up p o q1 (all5 p o q1 q2 q3 q4 e)
theorem lb {Q:Fin->Shared->Prop} (hh:A.handled=none) (D:ZipApart z TI TO i j l m) (Z:bT b c z TI TO i j l m k .none s.heap) (hl:LG b s.heap l xs) (hm:LG c s.heap m ys) (cE:xs[k]? =none\/ys[k]? =none)
 (hE:∀h' e,(∀p o,p≠z->p≠TO->p≠i->p≠j->s.heap.get? p=some o->h'.get? p=some o)->(∃o,h'.get? e=some o/\o.cls= .type "StopIteration")->E (.ref e) {s with heap:=h'}):
 wpAny (model prog w) A (Builtin.«zip.__next__» ⟨[.ref z], []⟩) Q E s:=by
 obtain ⟨zz,zi,⟨x0,y0,zo⟩,z1,z2⟩:=Z
 show wpAny _ _ (field (.ref z) 2 >>= _) _ _ _
 refine wpAny_bind (wpAny_field zz rfl (x:= .bool false) rfl ?_)
 show wpAny _ _ (field (.ref z) 3 >>= _) _ _ _
 refine wpAny_bind (wpAny_field zz rfl (x:= .ref TI) rfl (wpAny_bind (wpAny_seqItems zi rfl ?_)))
 refine wpAny_bind (m:=Builtin.SmallTypes.ownedTupleIsFree (.ref z)) ?_
 unfold Builtin.SmallTypes.ownedTupleIsFree
 refine wpAny_bind (wpAny_field zz rfl (x:= .none) rfl (wpAny_pure ?_))
 simp only [if_true]
 refine wpAny_bind (wpAny_rule (wpAny_bind (wpAny_field zz rfl (x:= .ref TO) rfl (wpAny_bind (wpAny_setField_rec zz (by simp) λg1 e1 b1=> ?_)))))
 have e1:IsZip g1 z TI TO .ellipsis:=e1
 refine wpAny_bind ?_
 simp only [List.zipIdx_cons,List.zipIdx_nil,List.forIn_cons,List.forIn_nil]
 refine wpAny_bind (wpAny_bind (wpAny_onRaise ?_))
 cases hx:xs[k]? with
 | none=>
   refine wpAny_bind (m:=Builtin.SmallTypes.nextOf (.ref i)) (Jf hh (z1.mv λo=>b1.extBut _ o D.i1z) (hl.mv λo=>b1.extBut _ o D.l1z) hx λg2 e b2 he=> ?_)
   obtain ⟨oe,ge,ce⟩:=he
   have k2:IsZip g2 z TI TO .ellipsis:=b2 _ _ D.i1z.symm e1
   have ez:e≠z:=λq=>by subst q;rw [k2] at ge;cases ge;simp at ce
   refine wpAny_setField_rec k2 (by simp) λg3 _ b3=>hE g3 e (λp o q1 _ q3 _ q=>b3.extBut _ _ q1 (b2 _ _ q3 (b1.extBut _ _ q1 q))) ⟨oe,b3.extBut _ _ ez ge,ce⟩
 | some x=>
   have hy:ys[k]? =none:=by
    rcases cE with q|q
    ·rw [hx] at q;cases q
    ·exact q
   refine wpAny_bind (m:=Builtin.SmallTypes.nextOf (.ref i)) (IF (z1.mv λo=>b1.extBut _ o D.i1z) (hl.mv λo=>b1.extBut _ o D.l1z) hx λg2 e2 b2=>wpAny_pure ?_)
   have o2:IsPair g2 TO x0 y0:=b2.extBut _ _ D.TOi1 (b1.extBut _ _ D.TOz zo)
   refine wpAny_bind (wpAny_seqItems o2 rfl (wpAny_bind (wpAny_updateSeq_pair o2 λg3 o3 b3=>wpAny_bind (wpAny_letGo (wpAny_pure ?_)))))
   refine wpAny_bind (wpAny_bind (wpAny_onRaise ?_))
   refine wpAny_bind (m:=Builtin.SmallTypes.nextOf (.ref j)) (Jf hh (((z2.mv λo=>b1.extBut _ o D.i2z).mv λo=>b2.extBut _ o D.i12.symm).mv λo=>b3.extBut _ o D.TOi2.symm)
    (((hm.mv λo=>b1.extBut _ o D.l2z).mv λo=>b2.extBut _ o D.l2i1).mv λo=>b3.extBut _ o D.l2TO) hy λg4 e b4 he=> ?_)
   obtain ⟨oe,ge,ce⟩:=he
   have k4:IsZip g4 z TI TO .ellipsis:=b4 _ _ D.i2z.symm (b3.extBut _ _ D.TOz.symm (b2.extBut _ _ D.i1z.symm e1))
   have ez:e≠z:=λq=>by subst q;rw [k4] at ge;cases ge;simp at ce
   refine wpAny_setField_rec k4 (by simp) λg5 _ b5=>hE g5 e (λp o q1 q2 q3 q4 q=>b5.extBut _ _ q1 (b4 _ _ q4 (b3.extBut _ _ q2 (b2.extBut _ _ q3 (b1.extBut _ _ q1 q))))) ⟨oe,b5.extBut _ _ ez ge,ce⟩
end
def VU (b:Bool) (l:Addr):Obj:={cls:= .type (match b with | true=>"list_iterator" | false=>"tuple_iterator"),data:= .fields #[.ref l, .int 0 0] }
abbrev zA (b:Bool) (h:Heap) (l:Addr):Heap:=h.push (VU b l)
abbrev zB (b c:Bool) (h:Heap) (l m:Addr):Heap:=(zA b h l).push (VU c m)
abbrev zC (b c:Bool) (h:Heap) (l m:Addr):Heap:=(zB b c h l m).push {cls:= .type "tuple",data:= .seq #[.ref h.objs.size, .ref (zA b h l).objs.size] }
abbrev zD (b c:Bool) (h:Heap) (l m:Addr):Heap:=(zC b c h l m).push {cls:= .type "tuple",data:= .seq #[.none, .none] }
abbrev zF (b c:Bool) (h:Heap) (l m:Addr):Heap:=(zD b c h l m).push {cls:= .type "zip",data:= .fields #[.none, .bool false, .bool false, .ref (zB b c h l m).objs.size, .ref (zC b c h l m).objs.size] }
theorem Sc {prog:Program} {w:World} {A:Around} {E:Value->Shared->Prop} {h:Heap} {g:Array GenState} {d:Drawn} {tk:Nat} {os:OsState} {b:Bool} {l:Addr} {xs:Array Value} {Q:Value->Shared->Prop} (hl:LG b h l xs)
 (q:Q (.ref h.objs.size) ⟨h.push (VU b l),g,d,tk,os⟩):wpAny (model prog w) A (pyIter (.ref l)) Q E ⟨h,g,d,tk,os⟩:=by
 cases b with
 | true=>exact wpAny_pyIter_list (s:=⟨h,g,d,tk,os⟩) hl q
 | false=>exact wpAny_pyIter_tuple (s:=⟨h,g,d,tk,os⟩) hl q
theorem Vw (b c:Bool) (l m:Addr) (xs ys:Array Value):Meets (Builtin.«zip.__new__» ⟨[.type "zip", .ref l, .ref m], []⟩) (λ_ R s=>LG b s.heap l xs/\LG c s.heap m ys/\R (.ok (.ret (.ref (zD b c s.heap l m).objs.size))) {s with heap:=zF b c s.heap l m}):=
 .of_wp λprog w A R s h=>by
   obtain ⟨hp,g,d,tk,os⟩:=s
   obtain ⟨hl,hm,h⟩:=h
   have jr:=sub_zip
   have jh:LG b hp l xs:=hl
   have jj:LG c (hp.push (VU b l)) m ys:=hm.mv λo e=>Heap.get?_push_of_some _ e
   wp_walk using Sc jh,Sc jj
   exact ⟨_,rfl,h⟩
section
variable {prog:Program} {w:World} {A:Around} {E:Value->Shared->Prop} {s:Shared} {b c:Bool} {l m:Addr} {xs ys:Array Value}
theorem W9 {h:Heap} {q:Addr} (e:h.get? q=some (VU b l)):NQ b h q l 0:=by
 cases b with
 | true=>exact ⟨_,e,rfl,rfl⟩
 | false=>exact ⟨_,e,rfl,rfl⟩
theorem dy (hl:LG b s.heap l xs) (hm:LG c s.heap m ys) {Q:Value->Shared->Prop}
 (h:∀h',bT b c (s.heap.objs.size+4) (s.heap.objs.size+2) (s.heap.objs.size+3) s.heap.objs.size (s.heap.objs.size+1) l m 0 .none h'->(∀p o,s.heap.get? p=some o->h'.get? p=some o)->Q (.ref (s.heap.objs.size+4)) {s with heap:=h'}):
 wpAny (model prog w) A (call (.type "zip") [.ref l, .ref m]) Q E s:=by
 refine callType_new F.called_zip (by decide) (F.typeCall_zip_2 _ _) (F.newCall_zip_2 _ _) (λobj=>F.args_object_init_3 obj _ _) F.entry_zip_new (Vw b c l m xs ys) ⟨hl,hm, ?_⟩
 have n1:(zA b s.heap l).objs.size=s.heap.objs.size+1:=Heap.size_push ..
 have n2:(zB b c s.heap l m).objs.size=s.heap.objs.size+2:=by rw [Heap.size_push,n1]
 have n3:(zC b c s.heap l m).objs.size=s.heap.objs.size+3:=by rw [Heap.size_push,n2]
 have n4:(zD b c s.heap l m).objs.size=s.heap.objs.size+4:=by rw [Heap.size_push,n3]
 have p5:(zF b c s.heap l m).get? (zD b c s.heap l m).objs.size=some _:=Heap.get?_push_size _ rfl
 have p4:(zF b c s.heap l m).get? (zC b c s.heap l m).objs.size=some _:=Heap.get?_push_of_some _ (Heap.get?_push_size _ rfl)
 have p3:(zF b c s.heap l m).get? (zB b c s.heap l m).objs.size=some _:=Heap.get?_push_of_some _ (Heap.get?_push_of_some _ (Heap.get?_push_size _ rfl))
 have p2:(zF b c s.heap l m).get? (zA b s.heap l).objs.size=some (VU c m):=Heap.get?_push_of_some _ (Heap.get?_push_of_some _ (Heap.get?_push_of_some _ (Heap.get?_push_size _ rfl)))
 have p1:(zF b c s.heap l m).get? s.heap.objs.size=some (VU b l):=Heap.get?_push_of_some _ (Heap.get?_push_of_some _ (Heap.get?_push_of_some _ (Heap.get?_push_of_some _ (Heap.get?_push_size _ rfl))))
 rw [n2,n3,n4] at p5
 rw [n1,n2] at p3
 rw [n3] at p4
 rw [n1] at p2
 show _/\_
 rw [n4]
 exact ⟨⟨_,p5,rfl⟩,h _ ⟨p5,p3,⟨_,_,p4⟩,W9 p1,W9 p2⟩ λp o e=>Heap.get?_push_of_some _ (Heap.get?_push_of_some _ (Heap.get?_push_of_some _ (Heap.get?_push_of_some _ (Heap.get?_push_of_some _ e))))⟩
end
def Sq (K:PySem.W.Frag):Bool->Hp->Addr->List V->Prop
 | true,H,a,xs=>Ff K H a xs
 | false,H,a,xs=>Kx K H a xs
section
variable {X:Cx} {pins:List (Addr×Obj)} {σ:St} {H:Hp} {s:Shared} {a:Addr} {ys xs:List V} {b:Bool} {h':Heap}
theorem Inv.sq (I:Inv X pins σ H s) (h:Sq X.K b H a xs):∃its:List Value,Au xs its/\LG b s.heap a its.toArray/\xs.length<=sizeLine:=by
 cases b with
 | true=>
   obtain ⟨its,r,p,z⟩:=I.list h
   exact ⟨its,r,p.isList,z⟩
 | false=>
   obtain ⟨its,r,p,z⟩:=I.tuple h
   exact ⟨its,r,p,z⟩
theorem Inv.sq_inj (I:Inv X pins σ H s) (h:Sq X.K b H a xs) (h2:Sq X.K b H a ys):xs=ys:=by
 cases b with
 | true=>exact I.list_inj h h2
 | false=>exact I.tuple_inj h h2
theorem Inv.turnedL {ch:List Addr} {t':Nat} (I:Inv X pins σ H s) (LK:∀p∈ch,EO X pins H p) (k:∀p o,p ∉ ch->s.heap.get? p=some o->h'.get? p=some o):Inv X pins σ H {s with heap:=h',toks:=t'}:=by
 have nit:∀p u,H p=some u->p ∉ ch:=λp u e z=>by rw [(LK p z).1] at e;cases e
 refine I.step (g':=s.gens) (d':=s.drawn) (ch:=ch) (λp hp=>⟨(LK p hp).2.2.2.1,(LK p hp).2.1,(LK p hp).2.2.2.2.1,(LK p hp).2.2.2.2.2⟩) (λp o _ _ hc e _=>k p o hc e) (λp o _ _ hc e _=>⟨o.slots,k p o hc e⟩)
  (λ_ _ _ _ n=>n) (λp o hc e=>⟨o,k p o hc e⟩) (λ_ _ e=>e) (λ_ _ _ e=>e) (λp ps e=>⟨#[],by rw [e];simp⟩) (λm hm=> ?_) (λp u e=> ?_) I.bare
 ·obtain ⟨o,es,ep,ho,r⟩:=hm
  exact ⟨o,es,ep,k _ o (λz=>(LK _ z).2.1 rfl) ho,r⟩
 ·refine (I.hok p u e).stay (λq v hq e2=>k q v ?_ e2) (λ_ q=>q) λ_ _ q=>q
  rcases hq with z|z
  ·rw [z];exact nit p u e
  ·exact nit q _ z
theorem Inv.turnedN {ch:List Addr} {t':Nat} {n:Addr} {o:HO} (I:Inv X pins σ H s) (LK:∀p∈ch,EO X pins H p) (FJ:∀p∈ch,p<s.heap.objs.size) (k:∀p o,p ∉ ch->s.heap.get? p=some o->h'.get? p=some o) (hn:s.heap.objs.size<=n)
 (new:ES X.prog X.w (upd H n o) h' n o):Inv X pins σ (upd H n o) {s with heap:=h',toks:=t'}:=by
 have I1:Inv X pins σ H {s with heap:=h',toks:=t'}:=I.turnedL LK k
 have VN:H n=none:=I.hok.fresh hn
 have hx:∀p u,s.heap.get? p=some u->p≠n:=λp u e=>Nat.ne_of_lt (Nat.lt_of_lt_of_le (Heap.lt_size e) hn)
 refine I.step (g':=s.gens) (d':=s.drawn) (ch:=ch) (λp hp=>⟨(LK p hp).2.2.2.1,(LK p hp).2.1,(LK p hp).2.2.2.2.1,(LK p hp).2.2.2.2.2⟩) (λp o _ _ hc e _=>k p o hc e) (λp o _ _ hc e _=>⟨o.slots,k p o hc e⟩)
  (λp u _ e z=>by rw [Ak (hx p u e)];exact z) (λp o hc e=>⟨o,k p o hc e⟩) (λp xs e=>by rw [Ak (BE e VN)];exact e) (λp o xs e=>by rw [Ak (BE e VN)];exact e)
  (λp ps e=>⟨#[],by rw [Ak (BE e VN),e];simp⟩) (λm hm=> ?_) (λp u e=> ?_) I.bare
 ·obtain ⟨o,es,ep,ho,r⟩:=hm
  exact ⟨o,es,ep,k _ o (λz=>(LK _ z).2.1 rfl) ho,r⟩
 ·by_cases hp:p=n
  ·subst hp
   rw [A6] at e
   cases e
   exact new
  ·rw [Ak hp] at e
   exact (I1.hok p u e).stay (λ_ _ _ q=>q) (λq hq=>by rw [Ak (BE hq VN)];exact hq) λq xs hq=>by rw [Ak (BE hq VN)];exact hq
end
def jE (K:PySem.W.Frag) (b c:Bool) (l m:Addr):It:=
 ⟨λi H=>∃xs ys x y,Sq K b H l xs/\Sq K c H m ys/\xs[i]? =some x/\ys[i]? =some y,
  λi H v H'=>∃T x y,v= .ref T/\H T=none/\H'=upd H T (.tup [x,y])/\(∀xs,Sq K b H l xs->xs[i]? =some x)/\∀ys,Sq K c H m ys->ys[i]? =some y,
  λi H=>∃xs ys,Sq K b H l xs/\Sq K c H m ys/\(xs.length<=i\/ys.length<=i)⟩
theorem YO {P:Program} {w:World} {K:PySem.W.Frag} {es:List Expr} {x1:Nat} {pos:Pos} {b c:Bool} {z TI TO i j l m:Addr} (D:ZipApart z TI TO i j l m):
 NS P w K (.Tuple es x1 pos) (jE K b c l m) [z,TI,TO,i,j] z (λk h=>bT b c z TI TO i j l m k .none h) where
 mem:=by simp
 obj:=λk h Z p hp=>by
  have DI:p=z\/p=TI\/p=TO\/p=i\/p=j:=by simpa using hp
  rcases DI with e|e|e|e|e
  ·subst e;exact ⟨_,Z.zip,λv q=>nomatch q⟩
  ·subst e;exact ⟨_,Z.its,λv q=>nomatch q⟩
  ·subst e;obtain ⟨x,y,q⟩:=Z.own;exact ⟨_,q,λv q=>nomatch q⟩
  ·subst e;exact Z.one.obj
  ·subst e;exact Z.two.obj
 keep:=λk h h' Z e=>Z.mv e
 item:=by
  intro X hP hw hK hc k pins s σ H E I hf Z hg
  subst hP hw hK
  obtain ⟨xs,ys,x,y,hl,hm,hx,hy⟩:=hg
  obtain ⟨us,ru,su,_⟩:=I.sq hl
  obtain ⟨vs,rv,sv,_⟩:=I.sq hm
  obtain ⟨u,hu,rx⟩:=ru.get hx
  obtain ⟨v,hv,ry⟩:=rv.get hy
  have hT:s.TypeIs (.ref z) "zip" :=⟨_,Z.zip,rfl⟩
  unfold pyNext
  refine wpAny_bind (wpAny_attempt (wpAny_callSpecial?_slot (name:=Str.ofString "__next__") hT F.slot_zip_next (wpAny_call_entry F.slot_zip_next hT F.entry_zip_next
   (iH D Z su sv (x:=u) (y:=v) (by simpa using hu) (by simpa using hv) λh1 a1 a2 a3 a4 a5 a6 a7=>wpAny_pure ?_) (F.args_zip_next_1 _))))
  refine ⟨_,rfl,wpAny_letOwnedTupleGo_zip (s:={s with heap:=h1}) a1 λh2 c1 c2=> ?_⟩
  have nT:∀p∈ [z,TI,TO,i,j],p<s.heap.objs.size:=λp hp=>by
   have DI:p=z\/p=TI\/p=TO\/p=i\/p=j:=by simpa using hp
   rcases DI with e|e|e|e|e
   ·subst e;exact Heap.lt_size Z.zip
   ·subst e;exact Heap.lt_size Z.its
   ·subst e;obtain ⟨x,y,q⟩:=Z.own;exact Heap.lt_size q
   ·subst e;obtain ⟨o,q,_⟩:=Z.one.obj;exact Heap.lt_size q
   ·subst e;obtain ⟨o,q,_⟩:=Z.two.obj;exact Heap.lt_size q
  have c2':∀p o,p≠z->h1.get? p=some o->h2.get? p=some o:=λp o q e=>c2.extBut _ _ q e
  have kp:∀p o,p ∉ [z,TI,TO,i,j] ->s.heap.get? p=some o->h2.get? p=some o:=λp o hp e=>by
   have DI:p≠z/\p≠TI/\p≠TO/\p≠i/\p≠j:=by simpa using hp
   exact c2' p o DI.1 (a7 p o DI.1 DI.2.2.1 DI.2.2.2.1 DI.2.2.2.2 e)
  have jv:s.heap.objs.size≠z:=Nat.ne_of_gt (nT z (by simp))
  have I2:Inv X pins σ (upd H s.heap.objs.size (.tup [x,y])) {s with heap:=h2,toks:=s.toks}:=I.turnedN hf nT kp (Nat.le_refl _)
   ⟨(by show 2<=sizeLine;decide), [u,v], .cons rx (.cons ry .nil),⟨_,c2' _ _ jv a6,rfl,_,rfl⟩⟩
  have VN:H s.heap.objs.size=none:=I.fresh
  refine ⟨.ref s.heap.objs.size,upd H s.heap.objs.size (.tup [x,y]),I2,rfl,⟨_,x,y,rfl,VN,rfl,λxs' h'=> ?_,λys' h'=> ?_⟩, ?_,λp hp=> ?_⟩
  ·rw [I.sq_inj h' hl];exact hx
  ·rw [I.sq_inj h' hm];exact hy
  ·exact ⟨c1,c2' _ _ D.TIz a2,⟨_,_,c2' _ _ D.TOz a3⟩,a4.mv λo=>c2' _ o D.i1z,a5.mv λo=>c2' _ o D.i2z⟩
  ·rw [Ak (Nat.ne_of_lt (nT p hp))]
   exact (hf p hp).1
 done:=by
  intro X hP hw hK hc k pins s σ H E I hf Z hg
  subst hP hw hK
  obtain ⟨xs,ys,hl,hm,he⟩:=hg
  obtain ⟨us,ru,su,_⟩:=I.sq hl
  obtain ⟨vs,rv,sv,_⟩:=I.sq hm
  have e1:=ru.length
  have e2:=rv.length
  have cE:us.toArray[k]? =none\/vs.toArray[k]? =none:=by
   rcases he with q|q
   ·exact .inl (by simp;omega)
   ·exact .inr (by simp;omega)
  have hT:s.TypeIs (.ref z) "zip" :=⟨_,Z.zip,rfl⟩
  unfold pyNext
  refine wpAny_bind (wpAny_attempt (wpAny_callSpecial?_slot (name:=Str.ofString "__next__") hT F.slot_zip_next (wpAny_call_entry F.slot_zip_next hT F.entry_zip_next
   (lb (I.ok.hd hc) D Z su sv cE λh1 e hk he=> ?_) (F.args_zip_next_1 _))))
  obtain ⟨o,ho,cD⟩:=he
  refine wpAny_bind (wpAny_isInstance (T:="StopIteration") (b:=true) ⟨o,ho,cD⟩ isSubtype_stop (wpAny_pure ⟨rfl, ?_⟩))
  exact I.turnedL (t':=s.toks) hf λp o hp e=>by
   have DI:p≠z/\p≠TI/\p≠TO/\p≠i/\p≠j:=by simpa using hp
   exact hk p o DI.1 DI.2.2.1 DI.2.2.2.1 DI.2.2.2.2 e
 self:=λ_ _ _ _ _ Z h=>wpAny_pyIter_zip Z.zip h
section
variable {X:Cx}
end
end L2
end
section
namespace L2
open PySem PySem.Spec PyProof.Rows
structure Has (P:Program) (w:World) (K:PySem.W.Frag) (mg:Str->Option Value) (base:Heap) (k:Nat) (x:Str) (ps:List Str) (sp:Sp):Prop where
 ex:∃f fd,mg x=some (.ref f)/\PySem.W.keepIn K (.ref f)=true/\Binds K fd ps [] /\A2 P w K mg base Ck k f fd ps sp
theorem Has.mono {P:Program} {w:World} {K:PySem.W.Frag} {mg:Str->Option Value} {base:Heap} {j k:Nat} {x:Str} {ps:List Str} {sp:Sp} (h:Has P w K mg base j x ps sp) (hk:j<=k):Has P w K mg base k x ps sp:=by
 obtain ⟨f,fd,a,b,c,d⟩:=h.ex
 exact ⟨f,fd,a,b,c,d.mono hk⟩
section
variable {X:Cx} {x:Str} {p pos:Pos} {e:Expr} {es:List Expr} {t:TA} {k:Nat} {ps:List Str} {sp:Sp}
theorem c8 (D:Has X.prog X.w X.K X.mg X.base k x ps sp) (hr:Room k X.A) (hg:Gl X x) (ha:PA X (e::es) t)
 (hs:starEach (e::es) X.env=(false,eval e X.env)::starEach es X.env:=by rfl) (hpl:(backTo pos (starEach es X.env)).any (·.1)=false:=by rfl) (hd:(x==("__debug__" :Str))=false:=by decide):
 PE X (.Call (.Name x p) (e::es) [] pos) (az sp [] E0 t):=by
 obtain ⟨f,fd,mG,kG,bG,G⟩:=D.ex
 exact Zh G hr hg mG kG bG .nil gS ha (hdb:=hd) (he:=hs) (hpl:=hpl)
end
section
variable {X:Cx} {tg elt:Expr} {ifs:List Expr} {scope:Scope} {own:Nat} {ix:List Nat} {N:List Str} {g:TG} {tt:TT} {te:TE}
def O1 (X:Cx) (sc:Scope) (own:Nat) (ix:List Nat) (N:List Str):Bool:=
 (List.range ix.length).all λj=>match ix[j]? with
   | none=>false
   | some i=>match N[own+j]?,X.N[i]? with
     | some x,some y=>decide (x=y)&&decide (X.env.scope.names.lookup x=some .cell)&&decide (sc.names.lookup x=some .cell)
     | _,_=>false
theorem Qt {sc:Scope} (h1:N.length=own+ix.length) (h2:O1 X sc own ix N=true):N1 X sc own ix N:=by
 refine ⟨h1,λj i hj=> ?_⟩
 have FJ:j<ix.length:=(List.getElem?_eq_some_iff.mp hj).1
 have h:=List.all_eq_true.mp h2 j (List.mem_range.mpr FJ)
 rw [hj] at h
 dsimp only at h
 cases e1:N[own+j]? with
 | none=>rw [e1] at h;simp at h
 | some x=>
   cases e2:X.N[i]? with
   | none=>rw [e1,e2] at h;simp at h
   | some y=>
     rw [e1,e2] at h
     simp only [Bool.and_eq_true,decide_eq_true_eq] at h
     obtain ⟨⟨h3,h4⟩,h5⟩:=h
     subst h3
     exact ⟨x,rfl,rfl,h4,h5⟩
theorem Y2 (h1:scope.kind= .function) (h2:(scope.names.all λy=> !decide (y.2= .cell))=true) (h3:(scope.names.all λy=> !decide (y.2= .local)||decide (scope.names.lookup y.1=some .local))=true)
 (h4:(scope.names.all λy=> !decide (y.2= .free)||decide (X.env.scope.names.lookup y.1=some .cell))=true) (h5:N.length=own+ix.length) (h6:O1 X (relabel scope X.env) own ix N=true) (hk:Gx own g)
 (tgt:∀cl C s H ex pn,PG (blk X (relabel scope X.env) N cl C s H ex pn) tg g)
 (tst:∀cl C s H ex pn,WE (blk X (relabel scope X.env) N cl C s H ex pn) ifs tt)
 (val:∀cl C s H ex pn,PE (blk X (relabel scope X.env) N cl C s H ex pn) elt te):JY X tg elt ifs scope own ix N g tt te:=by
 refine ⟨h1,λy hy e=> ?_,λy hy e=> ?_,λy hy e=> ?_,Qt h5 h6,hk,tgt,tst,val⟩
 ·have:=List.all_eq_true.mp h2 y hy
  simp [e] at this
 ·have:=List.all_eq_true.mp h3 y hy
  simpa [e] using this
 ·have:=List.all_eq_true.mp h4 y hy
  simpa [e] using this
end
theorem Hz.new {H:Hp} {p:Addr} {o:HO} (h:H p=none):Hz H (upd H p o):=λb u q=>by rw [Ak (BE q h)];exact q
def Ye (p:Addr) (H H':Hp):Prop:=∀b o,b≠p->H b=some o->H' b=some o
theorem Ye.refl {p:Addr} {H:Hp}:Ye p H H:=λ_ _ _ h=>h
theorem Ye.trans {p:Addr} {H H1 H2:Hp} (a:Ye p H H1) (b:Ye p H1 H2):Ye p H H2:=λc o n h=>b c o n (a c o n h)
theorem Hz.but {p:Addr} {H H1:Hp} (a:Hz H H1):Ye p H H1:=λc o _ h=>a c o h
theorem Ye.upd {p:Addr} {H:Hp} {o:HO}:Ye p H (upd H p o):=λb u n q=>by rw [Ak n];exact q
end L2
end
section
namespace PL
open PySem PySem.Spec PyProof.Rows L2
inductive PV where
 | non|bl (b:Bool)|int (i:Int)|str (x:Str)|ty (n:String)
 | tup (xs:List PV)|lst (xs:List PV)|tape|scr (ns:List Int)|dct (kvs:List (FK×Int))
def En (H:Hp) (p:Addr):Prop:=∃d x:Int,H p=some (.lst [.int d, .int x])/\0<=d/\0<=x/\x<2147483647
def Kr (o:HO):Prop:=(∀vs,o≠ .tup vs)/\∀q u,o≠ .frz q u
theorem Kr.lst {xs:List V}:Kr (.lst xs):=⟨(λ_ e=>nomatch e),(λ_ _ e=>nomatch e)⟩
theorem En.mut {H:Hp} {p:Addr} (h:En H p):∃o,H p=some o/\Kr o:=by
 obtain ⟨d,x,e,_⟩:=h
 exact ⟨_,e,Kr.lst⟩
def iQ (K:PySem.W.Frag) (H:Hp) (a:Addr) (xs:List V):Prop:=H a=some (.tup xs)\/∃(o:Obj) (its:Array Value) (n:Nat),K.lookup a=some o/\o.cls= .type "tuple" /\o.data= .seq its n/\its.size<=sizeLine/\Au xs its.toList
theorem iQ.sq {K:PySem.W.Frag} {H:Hp} {a:Addr} {xs:List V} (h:iQ K H a xs):Kx K H a xs:=h.elim (λz=> .inl (.inl z)) .inr
def fw (kvs:List (FK×Int)):List (FK×V):=kvs.map λp=>(p.1,V.int p.2)
mutual
inductive Cf (K:PySem.W.Frag) (T M:Addr->Prop) (H:Hp):V->PV->Prop where
 | non:Cf K T M H .non .non
 | bl (b:Bool):Cf K T M H (.bl b) (.bl b)
 | int (i:Int):Cf K T M H (.int i) (.int i)
 | str (x:Str):Cf K T M H (.str x) (.str x)
 | ty (n:String):Cf K T M H (.ty n) (.ty n)
 | tup {a:Addr} {vs:List V} {xs:List PV} (h:iQ K H a vs) (r:A3 K T M H vs xs):Cf K T M H (.ref a) (.tup xs)
 | lst {a:Addr} {vs:List V} {xs:List PV} (h:H a=some (.lst vs)) (t:¬T a) (m:¬M a) (r:A3 K T M H vs xs):Cf K T M H (.ref a) (.lst xs)
 | tape {a:Addr} (t:T a):Cf K T M H (.ref a) .tape
 | dct {a:Addr} {kvs:List (FK×Int)} (h:H a=some (.dN K (fw kvs))) (t:¬T a) (m:¬M a):Cf K T M H (.ref a) (.dct kvs)
 | scr {a:Addr} {ns:List Int} (h:(Rd H a (.lst (ns.map V.int))/\¬T a/\¬M a)\/∀H,Ff K H a (ns.map V.int)):Cf K T M H (.ref a) (.scr ns)
inductive A3 (K:PySem.W.Frag) (T M:Addr->Prop) (H:Hp):List V->List PV->Prop where
 | nil:A3 K T M H [] []
 | cons {v:V} {x:PV} {vs:List V} {xs:List PV} (h:Cf K T M H v x) (t:A3 K T M H vs xs):A3 K T M H (v::vs) (x::xs)
end
structure J9 (T M:Addr->Prop) (H:Hp):Prop where
 tp:∀a,T a->En H a
 mu:∀a,M a->∃o,H a=some o/\Kr o
theorem J9.noTup {T M:Addr->Prop} {H:Hp} (v:J9 T M H) {a:Addr} {vs:List V} (r:Rd H a (.tup vs)):¬T a/\¬M a:=by
 have go:∀o,H a=some o->Kr o->False:=λo e m=>by
  rcases r with r|⟨q,r⟩
  ·rw [e] at r;cases r;exact m.1 _ rfl
  ·rw [e] at r;cases r;exact m.2 _ _ rfl
 exact ⟨λt=>let ⟨o,e,m⟩:=(v.tp a t).mut;go o e m,λt=>let ⟨o,e,m⟩:=v.mu a t;go o e m⟩
structure Mv (K:PySem.W.Frag) (T M:Addr->Prop) (H:Hp) (T' M':Addr->Prop) (H':Hp):Prop where
 va:J9 T M H
 keep:∀b o,¬T b->¬M b->H b=some o->H' b=some o
 sub:∀b,T b->T' b
 tn:∀b,H b≠none->T' b->T b
 mn:∀b,H b≠none->M' b->M b
theorem UJ {H:Hp} {a:Addr} {u:HO} (r:Rd H a u):H a≠none:=by
 rcases r with r|⟨o,r⟩ <;> rw [r] <;> exact λe=>nomatch e
theorem gj {H H':Hp} {a:Addr} {u:HO} (r:Rd H a u) (k:∀o,H a=some o->H' a=some o):Rd H' a u:=by
 rcases r with r|⟨o,r⟩
 ·exact .inl (k _ r)
 ·exact .inr ⟨o,k _ r⟩
section
variable {K:PySem.W.Frag} {T M T' M':Addr->Prop} {H H':Hp}
mutual
theorem Cf.mv (m:Mv K T M H T' M' H'):∀{v:V} {x:PV},Cf K T M H v x->Cf K T' M' H' v x
 | _,_, .non=> .non
 | _,_, .bl b=> .bl b
 | _,_, .int i=> .int i
 | _,_, .str x=> .str x
 | _,_, .ty n=> .ty n
 | _,_, .tup (a:=a) (vs:=vs) h r=>by
   refine .tup (vs:=vs) ?_ (A3.mv m r)
   rcases h with h|h
   ·obtain ⟨t,u⟩:=m.va.noTup (.inl h)
    exact .inl (m.keep _ _ t u h)
   ·exact .inr h
 | _,_, .lst (a:=a) h t u r=> .lst (m.keep _ _ t u h) (λz=>t (m.tn a (by rw [h];exact λe=>nomatch e) z)) (λz=>u (m.mn a (by rw [h];exact λe=>nomatch e) z)) (A3.mv m r)
 | _,_, .tape t=> .tape (m.sub _ t)
 | _,_, .dct (a:=a) h t u=> .dct (m.keep _ _ t u h) (λz=>t (m.tn a (by rw [h];exact λe=>nomatch e) z)) (λz=>u (m.mn a (by rw [h];exact λe=>nomatch e) z))
 | _,_, .scr (a:=a) (.inl ⟨h,t,u⟩)=> .scr (.inl ⟨gj h λo e=>m.keep _ o t u e,λz=>t (m.tn a (UJ h) z),λz=>u (m.mn a (UJ h) z)⟩)
 | _,_, .scr (.inr h)=> .scr (.inr h)
theorem A3.mv (m:Mv K T M H T' M' H'):∀{vs:List V} {xs:List PV},A3 K T M H vs xs->A3 K T' M' H' vs xs
 | _,_, .nil=> .nil
 | _,_, .cons h t=> .cons (Cf.mv m h) (A3.mv m t)
end
end
theorem A3.length {K:PySem.W.Frag} {T M:Addr->Prop} {H:Hp}:∀{vs:List V} {xs:List PV},A3 K T M H vs xs->vs.length=xs.length
 | _,_, .nil=>rfl
 | _,_, .cons _ t=>by simp [t.length]
theorem A3.get {K:PySem.W.Frag} {T M:Addr->Prop} {H:Hp}:∀{vs:List V} {xs:List PV} {i:Nat} {x:PV},A3 K T M H vs xs->xs[i]? =some x->∃v,vs[i]? =some v/\Cf K T M H v x
 | _,_,_,_, .nil,e=>by simp at e
 | _,_,0,_, .cons h _,e=>by simp at e;subst e;exact ⟨_,rfl,h⟩
 | _,_,i+1,x, .cons _ t,e=>by
   obtain ⟨u,h1,h2⟩:=A3.get (i:=i) (x:=x) t (by simpa using e)
   exact ⟨u,by simpa using h1,h2⟩
theorem A3.get' {K:PySem.W.Frag} {T M:Addr->Prop} {H:Hp} {vs:List V} {xs:List PV} {i:Nat} {v:V} (h:A3 K T M H vs xs) (e:vs[i]? =some v):∃x,xs[i]? =some x/\Cf K T M H v x:=by
 have hl:=h.length
 have hi:i<vs.length:=(List.getElem?_eq_some_iff.mp e).1
 obtain ⟨w,e2,r⟩:=h.get (i:=i) (x:=xs[i]'(by omega)) (List.getElem?_eq_getElem (by omega))
 rw [e] at e2;cases e2
 exact ⟨_,List.getElem?_eq_getElem (by omega),r⟩
theorem A3.append {K:PySem.W.Frag} {T M:Addr->Prop} {H:Hp}:∀{vs ws:List V} {xs ys:List PV},A3 K T M H vs xs->A3 K T M H ws ys->A3 K T M H (vs++ws) (xs++ys)
 | _,_,_,_, .nil,s=>s
 | _,_,_,_, .cons h t,s=> .cons h (t.append s)
theorem A3.take {K:PySem.W.Frag} {T M:Addr->Prop} {H:Hp}:∀{vs:List V} {xs:List PV} (n:Nat),A3 K T M H vs xs->A3 K T M H (vs.take n) (xs.take n)
 | _,_,0,_=> .nil
 | _,_,_+1, .nil=> .nil
 | _,_,n+1, .cons r t=> .cons r (t.take n)
theorem A3.drop {K:PySem.W.Frag} {T M:Addr->Prop} {H:Hp}:∀{vs:List V} {xs:List PV} (n:Nat),A3 K T M H vs xs->A3 K T M H (vs.drop n) (xs.drop n)
 | _,_,0,r=>r
 | _,_,_+1, .nil=> .nil
 | _,_,n+1, .cons _ t=>t.drop n
theorem A3.set {K:PySem.W.Frag} {T M:Addr->Prop} {H:Hp} {v:V} {x:PV} (r:Cf K T M H v x):∀{vs:List V} {xs:List PV} (i:Nat),A3 K T M H vs xs->A3 K T M H (vs.set i v) (xs.set i x)
 | _,_,_, .nil=> .nil
 | _,_,0, .cons _ t=> .cons r t
 | _,_,i+1, .cons q t=> .cons q (A3.set r i t)
theorem A3.nil_iff {K:PySem.W.Frag} {T M:Addr->Prop} {H:Hp} {vs:List V} {xs:List PV} (h:A3 K T M H vs xs):vs= [] ↔xs= [] :=by
 cases h <;> simp
theorem A3.reverse {K:PySem.W.Frag} {T M:Addr->Prop} {H:Hp} {vs:List V} {xs:List PV} (h:A3 K T M H vs xs):A3 K T M H vs.reverse xs.reverse:=by
 induction vs generalizing xs with
 | nil=>cases h;exact .nil
 | cons v vs ih=>
   cases h with
   | cons h t=>rw [List.reverse_cons,List.reverse_cons];exact (ih t).append (.cons h .nil)
structure Dn (T:Addr->Prop) (H:Hp) (T':Addr->Prop) (H':Hp):Prop where
 keep:∀b o,¬T b->H b=some o->H' b=some o
 sub:∀b,T b->T' b
 new:∀b,T' b->T b\/H b=none
 tp:∀a,T' a->En H' a
theorem Dn.refl {T:Addr->Prop} {H:Hp} (h:∀a,T a->En H a):Dn T H T H:=⟨λ_ _ _ e=>e,λ_ e=>e,λ_ e=> .inl e,h⟩
theorem Dn.some {T T':Addr->Prop} {H H':Hp} (s:Dn T H T' H') {b:Addr} (h:H b≠none):H' b≠none:=by
 by_cases t:T b
 ·obtain ⟨o,e,_⟩:=(s.tp b (s.sub b t)).mut
  rw [e];exact λe=>nomatch e
 ·cases e:H b with
  | none=>exact absurd e h
  | some o=>rw [s.keep b o t e];exact λe=>nomatch e
theorem Dn.none {T T':Addr->Prop} {H H':Hp} (s:Dn T H T' H') {b:Addr} (h:H' b=none):H b=none:=by
 cases e:H b with
 | none=>rfl
 | some o=>exact absurd h (s.some (by rw [e];exact λe=>nomatch e))
theorem Dn.trans {T T1 T2:Addr->Prop} {H H1 H2:Hp} (a:Dn T H T1 H1) (b:Dn T1 H1 T2 H2):Dn T H T2 H2 where
 keep:=λc o t e=>b.keep c o (λz=>(a.new c z).elim t λn=>by rw [n] at e;cases e) (a.keep c o t e)
 sub:=λc t=>b.sub c (a.sub c t)
 new:=λc t=>(b.new c t).elim (λz=>a.new c z) λz=> .inr (a.none z)
 tp:=b.tp
theorem Dn.lay {T:Addr->Prop} {H:Hp} {p:Addr} {o:HO} (h:∀a,T a->En H a) (hp:H p=Option.none):Dn T H T (upd H p o) where
 keep:=λb u _ e=>by rw [Ak (BE e hp)];exact e
 sub:=λ_ t=>t
 new:=λ_ t=> .inl t
 tp:=λa t=>by
  obtain ⟨d,x,e,z⟩:=h a t
  exact ⟨d,x,by rw [Ak (BE e hp)];exact e,z⟩
theorem Dn.mv {K:PySem.W.Frag} {T T' M:Addr->Prop} {H H':Hp} (s:Dn T H T' H') (v:J9 T M H):Mv K T M H T' M H' where
 va:=v
 keep:=λb o t _ e=>s.keep b o t e
 sub:=s.sub
 tn:=λb n t=>(s.new b t).elim id λz=>absurd z n
 mn:=λ_ _ z=>z
theorem J9.stp {T T' M:Addr->Prop} {H H':Hp} (v:J9 T M H) (s:Dn T H T' H') (d:∀a,M a->¬T a):J9 T' M H':=
 ⟨s.tp,λa m=>let ⟨o,e,q⟩:=v.mu a m;⟨o,s.keep a o (d a m) e,q⟩⟩
theorem Cf.stp {K:PySem.W.Frag} {T T' M:Addr->Prop} {H H':Hp} {v:V} {x:PV} (r:Cf K T M H v x) (s:Dn T H T' H') (va:J9 T M H):Cf K T' M H' v x:=r.mv (s.mv va)
theorem A3.stp {K:PySem.W.Frag} {T T' M:Addr->Prop} {H H':Hp} {v:List V} {x:List PV} (r:A3 K T M H v x) (s:Dn T H T' H') (va:J9 T M H):A3 K T' M H' v x:=r.mv (s.mv va)
theorem Mv.anti {K:PySem.W.Frag} {T M M':Addr->Prop} {H:Hp} (v:J9 T M H) (h:∀a,M' a->M a):Mv K T M H T M' H:=⟨v,λ_ _ _ _ e=>e,λ_ t=>t,λ_ _ t=>t,λb _ t=>h b t⟩
inductive AV where
 | val (x:PV)
 | own (xs:List PV)
abbrev BG:=List (Option AV)
structure Cq where
 T:Addr->Prop
 H:Hp
 M:Addr->Prop
def Cq.add (B:Cq) (p:Addr):Cq:=⟨B.T,B.H,λa=>B.M a\/a=p⟩
def C2 (σ:L2.St) (τ:BG) (p:Addr):Prop:=∃(i:Nat) (xs:List PV),τ[i]? =some (some (.own xs))/\σ[i]? =some (some (.ref p))
def mt (B:Cq) (σ:L2.St) (τ:BG) (p:Addr):Prop:=B.M p\/C2 σ τ p
structure SR (K:PySem.W.Frag) (B:Cq) (T:Addr->Prop) (H:Hp) (σ:L2.St) (τ:BG):Prop where
 len:σ.length=τ.length
 val:∀(i:Nat) (x:PV),τ[i]? =some (some (.val x))->∃v,σ[i]? =some (some v)/\Cf K T (mt B σ τ) H v x
 own:∀(i:Nat) (xs:List PV),τ[i]? =some (some (.own xs))->∃p vs,σ[i]? =some (some (.ref p))/\H p=some (.lst vs)/\A3 K T (mt B σ τ) H vs xs/\B.H p=none/\¬T p/\¬B.M p
 dist:∀(i j:Nat) (xs ys:List PV) (p:Addr),τ[i]? =some (some (.own xs))->τ[j]? =some (some (.own ys))->σ[i]? =some (some (.ref p))->σ[j]? =some (some (.ref p))->i=j
 tp:∀a,T a->En H a
 bm:∀a,B.M a->∃o,H a=some o/\Kr o
 bt:∀a,B.M a->¬T a
 st:Dn B.T B.H T H
section
variable {K:PySem.W.Frag} {B:Cq} {T T':Addr->Prop} {H H':Hp} {σ:L2.St} {τ:BG}
theorem SR.ownH (s:SR K B T H σ τ) {p:Addr} (o:C2 σ τ p):∃vs,H p=some (.lst vs)/\B.H p=none/\¬T p/\¬B.M p:=by
 obtain ⟨i,xs,h1,h2⟩:=o
 obtain ⟨q,vs,e,h,_,b,t,m⟩:=s.own i xs h1
 rw [h2] at e;cases e
 exact ⟨vs,h,b,t,m⟩
theorem SR.va (s:SR K B T H σ τ):J9 T (mt B σ τ) H:=⟨s.tp,λa m=>m.elim (s.bm a) λo=>let ⟨vs,h,_⟩:=s.ownH o;⟨_,h,Kr.lst⟩⟩
theorem SR.nt (s:SR K B T H σ τ) {a:Addr} (m:mt B σ τ a):¬T a:=m.elim (s.bt a) λo=>let ⟨_,_,_,t,_⟩:=s.ownH o;t
theorem SR.stp (s:SR K B T H σ τ) (p:Dn T H T' H'):SR K B T' H' σ τ where
 len:=s.len
 val:=λi x e=>let ⟨v,h,r⟩:=s.val i x e;⟨v,h,r.stp p s.va⟩
 own:=λi xs e=>by
  obtain ⟨q,vs,e1,h,r,b,t,m⟩:=s.own i xs e
  exact ⟨q,vs,e1,p.keep _ _ t h,r.stp p s.va,b,(λz=>(p.new q z).elim t λn=>by rw [n] at h;cases h),m⟩
 dist:=s.dist
 tp:=p.tp
 bm:=λa m=>let ⟨o,e,q⟩:=s.bm a m;⟨o,p.keep a o (s.bt a m) e,q⟩
 bt:=λa m z=>by
  obtain ⟨o,e,_⟩:=s.bm a m
  exact (p.new a z).elim (s.bt a m) λn=>by rw [n] at e;cases e
 st:=s.st.trans p
theorem SR.add {p:Addr} {o:HO} (s:SR K B T H σ τ) (q:Dn T H T' H') (hn:H p=none) (ho:H' p=some o) (hm:Kr o) (ht:¬T' p):SR K (B.add p) T' H' σ τ:=by
 have s':=s.stp q
 have mv:Mv K T (mt B σ τ) H T' (mt (B.add p) σ τ) H':=⟨s.va,λb o t _ e=>q.keep b o t e,q.sub,λb n t=>(q.new b t).elim id λz=>absurd z n,λb n z=>by
  rcases z with (z|z)|z
  ·exact .inl z
  ·subst z;exact absurd hn n
  ·exact .inr z⟩
 refine ⟨s.len,λi x e=> ?_,λi xs e=> ?_,s.dist,s'.tp,λa m=> ?_,λa m=> ?_,s'.st⟩
 ·obtain ⟨v,h,r⟩:=s.val i x e
  exact ⟨v,h,r.mv mv⟩
 ·obtain ⟨a,vs,e1,h,r,b,t,m⟩:=s.own i xs e
  obtain ⟨a',vs',e1',h',_,b',t',m'⟩:=s'.own i xs e
  rw [e1] at e1';cases e1'
  rw [q.keep _ _ t h] at h';cases h'
  refine ⟨a,vs,e1,q.keep _ _ t h,r.mv mv,b,t',λz=> ?_⟩
  rcases z with z|z
  ·exact m z
  ·subst z;rw [hn] at h;cases h
 ·rcases m with m|m
  ·exact s'.bm a m
  ·subst m;exact ⟨o,ho,hm⟩
 ·rcases m with m|m
  ·exact s'.bt a m
  ·subst m;exact ht
theorem SR.drop {p:Addr} (s:SR K (B.add p) T H σ τ):SR K B T H σ τ:=by
 have mv:Mv K T (mt (B.add p) σ τ) H T (mt B σ τ) H:= .anti s.va λa m=>m.elim (λz=> .inl (.inl z)) .inr
 refine ⟨s.len,λi x e=>let ⟨v,h,r⟩:=s.val i x e;⟨v,h,r.mv mv⟩,λi xs e=> ?_,s.dist,s.tp,λa m=>s.bm a (.inl m),λa m=>s.bt a (.inl m),s.st⟩
 obtain ⟨a,vs,e1,h,r,b,t,m⟩:=s.own i xs e
 exact ⟨a,vs,e1,h,r.mv mv,b,t,λz=>m (.inl z)⟩
end
def Y6:Option AV->Option AV
 | some (.own xs)=>some (.val (.lst xs))
 | o=>o
def frz (τ:BG):BG:=τ.map Y6
theorem Tn {τ:BG} {i:Nat}:(frz τ)[i]? =(τ[i]?).map Y6:=by simp [frz]
theorem Y7 {τ:BG} {i:Nat} {x:PV} (h:(frz τ)[i]? =some (some (.val x))):τ[i]? =some (some (.val x))\/∃xs,x= .lst xs/\τ[i]? =some (some (.own xs)):=by
 rw [Tn] at h
 cases e:τ[i]? with
 | none=>rw [e] at h;cases h
 | some o=>
   rw [e] at h
   cases o with
   | none=>cases h
   | some a=>
     cases a with
     | val y=>cases h;exact .inl rfl
     | own xs=>cases h;exact .inr ⟨xs,rfl,rfl⟩
theorem O2 {τ:BG} {i:Nat} {xs:List PV}:(frz τ)[i]? ≠some (some (.own xs)):=by
 rw [Tn]
 cases e:τ[i]? with
 | none=>exact λz=>nomatch z
 | some o=>
   cases o with
   | none=>exact λz=>nomatch z
   | some a=>cases a <;> exact λz=>nomatch z
theorem RO {σ:L2.St} {τ:BG} {p:Addr}:¬C2 σ (frz τ) p:=λ⟨_,_,h,_⟩=>O2 h
section
variable {K:PySem.W.Frag} {B:Cq} {T T':Addr->Prop} {H H':Hp} {σ:L2.St} {τ:BG}
theorem SR.frz (s:SR K B T H σ τ):SR K B T H σ (frz τ):=by
 have mv:Mv K T (mt B σ τ) H T (mt B σ (PL.frz τ)) H:= .anti s.va λa m=>m.elim .inl λz=>absurd z RO
 refine ⟨by simp [PL.frz,s.len],λi x e=> ?_,λi xs e=>absurd e O2,λi j xs ys p e=>absurd e O2,s.tp,s.bm,s.bt,s.st⟩
 rcases Y7 e with e'|⟨xs,e0,e'⟩
 ·obtain ⟨v,h,r⟩:=s.val i x e'
  exact ⟨v,h,r.mv mv⟩
 ·subst e0
  obtain ⟨p,vs,e1,h,r,b,t,m⟩:=s.own i xs e'
  exact ⟨.ref p,e1, .lst h t (λz=>z.elim m RO) (r.mv mv)⟩
end
mutual
def XR:PV->Bool
 | .lst _=>false
 | .tape=>false
 | .scr _=>false
 | .dct _=>false
 | .tup xs=>ZU xs
 | _=>true
def ZU:List PV->Bool
 | [] =>true
 | x::xs=>XR x&&ZU xs
end
section
variable {K:PySem.W.Frag} {T M M':Addr->Prop} {H:Hp}
mutual
theorem Cf.free:∀{v:V} {x:PV},XR x=true->Cf K T M H v x->Cf K T M' H v x
 | _,_,_, .non=> .non
 | _,_,_, .bl b=> .bl b
 | _,_,_, .int i=> .int i
 | _,_,_, .str x=> .str x
 | _,_,_, .ty n=> .ty n
 | _,_,n, .tup h r=> .tup h (A3.free (by rw [XR] at n;exact n) r)
 | _,_,n, .lst _ _ _ _=>by rw [XR] at n;cases n
 | _,_,n, .tape _=>by rw [XR] at n;cases n
 | _,_,n, .scr _=>by rw [XR] at n;cases n
 | _,_,n, .dct _ _ _=>by rw [XR] at n;cases n
theorem A3.free:∀{vs:List V} {xs:List PV},ZU xs=true->A3 K T M H vs xs->A3 K T M' H vs xs
 | _,_,_, .nil=> .nil
 | _,_,n, .cons h t=>by
   rw [ZU,Bool.and_eq_true] at n
   exact .cons (Cf.free n.1 h) (A3.free n.2 t)
end
end
end PL
end
section
namespace PL
open PySem PySem.Spec PyProof.Rows L2
abbrev AE:=BG->(PV->Prop)->Prop
abbrev AT:=BG->(Bool->Prop)->Prop
abbrev AA:=BG->(List PV->Prop)->Prop
abbrev AF:=List PV->(PV->Prop)->Prop
def QK:BG->Nat->Option AV
 | [],_=>none
 | x::_,0=>x
 | _::r,n+1=>QK r n
theorem MR:∀{τ:BG} {i:Nat} {a:AV},QK τ i=some a->τ[i]? =some (some a)
 | [],_,_,h=>by simp [QK] at h
 | x::_,0,_,h=>by simpa [QK] using h
 | _::r,n+1,a,h=>by
   have:=MR (τ:=r) (i:=n) (a:=a) (by simpa [QK] using h)
   simpa using this
def YY (x:PV) (R:Int->Prop):Prop:=match x with | .int i=>R i|_=>False
def Vf (x y:PV) (R:Int->Int->Prop):Prop:=match x,y with | .int i, .int j=>R i j|_,_=>False
def Zb (x:PV) (R:Bool->Prop):Prop:=match x with | .bl b=>R b|_=>False
def XV (o:Option PV) (R:PV->Prop):Prop:=match o with | some z=>R z|none=>False
theorem cn {o:Option PV} {R:PV->Prop} (h:XV o R):∃z,o=some z/\R z:=by
 cases o <;> first | exact ⟨_,rfl,h⟩|exact h.elim
def Rp (x:PV) (R:List PV->Prop):Prop:=match x with | .tup xs=>R xs | .lst xs=>R xs|_=>False
theorem Pd {x:PV} {R:Int->Prop} (h:YY x R):∃i,x= .int i/\R i:=by
 cases x <;> first | exact ⟨_,rfl,h⟩|exact h.elim
theorem Pb {x y:PV} {R:Int->Int->Prop} (h:Vf x y R):∃i j,x= .int i/\y= .int j/\R i j:=by
 cases x <;> cases y <;> first | exact ⟨_,_,rfl,rfl,h⟩|exact h.elim
theorem Pa {x:PV} {R:Bool->Prop} (h:Zb x R):∃b,x= .bl b/\R b:=by
 cases x <;> first | exact ⟨_,rfl,h⟩|exact h.elim
theorem Ma {x:PV} {R:List PV->Prop} (h:Rp x R):∃xs,(x= .tup xs\/x= .lst xs)/\R xs:=by
 cases x <;> first | exact ⟨_, .inl rfl,h⟩|exact ⟨_, .inr rfl,h⟩|exact h.elim
theorem Cf.toI {K:PySem.W.Frag} {T M:Addr->Prop} {H:Hp} {v:V} {i:Int} (r:Cf K T M H v (.int i)):v= .int i:=by cases r;rfl
theorem Cf.toB {K:PySem.W.Frag} {T M:Addr->Prop} {H:Hp} {v:V} {i:Bool} (r:Cf K T M H v (.bl i)):v= .bl i:=by cases r;rfl
def Fn (K:PySem.W.Frag) (t:TE) (a:AE):Prop:=∀(B:Cq) (T:Addr->Prop) (σ:L2.St) (τ:BG) (H:Hp) (Q:VK) (AQ:PV->Prop),SR K B T H σ τ->a τ AQ->
 (∀v x T' H',Dn T H T' H'->Cf K T' (mt B σ τ) H' v x->AQ x->Q v H')->t σ H Q
def NR (K:PySem.W.Frag) (t:TT) (a:AT):Prop:=∀(B:Cq) (T:Addr->Prop) (σ:L2.St) (τ:BG) (H:Hp) (Q:Bool->Hp->Prop) (AQ:Bool->Prop),SR K B T H σ τ->a τ AQ->
 (∀b T' H',Dn T H T' H'->AQ b->Q b H')->t σ H Q
def bP (K:PySem.W.Frag) (t:TA) (a:AA):Prop:=∀(B:Cq) (T:Addr->Prop) (σ:L2.St) (τ:BG) (H:Hp) (Q:List V->Hp->Prop) (AQ:List PV->Prop),SR K B T H σ τ->a τ AQ->
 (∀vs xs T' H',Dn T H T' H'->A3 K T' (mt B σ τ) H' vs xs->AQ xs->Q vs H')->t σ H Q
def Ys (K:PySem.W.Frag) (t:TE) (a:AA):Prop:=∀(B:Cq) (T:Addr->Prop) (σ:L2.St) (τ:BG) (H:Hp) (Q:VK) (AQ:List PV->Prop),SR K B T H σ τ->a τ AQ->
 (∀p vs xs T' H',Dn T H T' H'->SR K (B.add p) T' H' σ τ->H p=none->H' p=some (.lst vs)->¬T' p->A3 K T' (mt (B.add p) σ τ) H' vs xs->AQ xs->Q (.ref p) H')->t σ H Q
def SE (X:Cx) (e:Expr) (a:AE):Prop:=∃t,PE X e t/\Fn X.K t a
def Qf (X:Cx) (e:Expr) (a:AT):Prop:=∃t,PT X e t/\NR X.K t a
def SW (X:Cx) (e:Expr) (a:AT):Prop:=∃t,PW X e t/\NR X.K t a
def SA (X:Cx) (es:List Expr) (a:AA):Prop:=∃t,PA X es t/\bP X.K t a
def SF (X:Cx) (e:Expr) (a:AA):Prop:=∃t,PE X e t/\Ys X.K t a
abbrev HG:=PV->PV->(PV->Prop)->Prop
def Bu (K:PySem.W.Frag) (r:R2) (f:HG):Prop:=∀(T M:Addr->Prop) (H:Hp) (u v:V) (x y:PV) (Q:VK) (AQ:PV->Prop),J9 T M H->Cf K T M H u x->Cf K T M H v y->f x y AQ->
 (∀w z T' H',Dn T H T' H'->Cf K T' M H' w z->AQ z->Q w H')->r u v H Q
def ET (K:PySem.W.Frag) (r:List V->Hp->VK->Prop) (f:AF):Prop:=∀(T M:Addr->Prop) (H:Hp) (us:List V) (xs:List PV) (Q:VK) (AQ:PV->Prop),J9 T M H->A3 K T M H us xs->f xs AQ->
 (∀w z T' H',Dn T H T' H'->Cf K T' M H' w z->AQ z->Q w H')->r us H Q
section
variable {X:Cx} {a b c:Expr} {es:List Expr} {pos:Pos} {ta tb:AE} {tA tB':AT}
def aV (i:Nat):AE:=λτ Q=>match QK τ i with | some (.val x)=>Q x|_=>False
theorem fG {i:Nat} {τ:BG} {Q:PV->Prop} (h:aV i τ Q):∃x,τ[i]? =some (some (.val x))/\Q x:=by
 unfold aV at h
 cases e:QK τ i with
 | none=>rw [e] at h;exact h.elim
 | some z=>
   rw [e] at h
   cases z with
   | own xs=>exact h.elim
   | val x=>exact ⟨x,MR e,h⟩
theorem AH (i:Nat) {x:Str} {pos:Pos} (hN:X.N[i]? =some x:=by rfl) (hv:bS X.env.scope x:=by first | exact Or.inl rfl|exact Or.inr (Or.inl rfl)|exact Or.inr (Or.inr rfl)) (hd:(x==("__debug__" :Str))=false:=by decide)
 (NB:(x==("__classdict__" :Str))=false:=by decide):SE X (.Name x pos) (aV i):=by
 refine ⟨_,Pg hN hv hd NB,λB T σ τ H Q AQ s h k=> ?_⟩
 obtain ⟨x,e,q⟩:=fG h
 obtain ⟨v,e1,r⟩:=s.val i x e
 exact ⟨v,e1,k v x T H (.refl s.tp) r q⟩
def aC (x:PV):AE:=λ_ Q=>Q x
theorem UU {v:V} {x:PV} (h:∀T M H,Cf X.K T M H v x):Fn X.K (tC v) (aC x):=λB T σ τ H Q AQ s h' k=>k v x T H (.refl s.tp) (h _ _ _) h'
theorem AJ {i:Int} {j pos}:SE X (.Constant (.int i) j pos) (aC (.int i)):=⟨_,BM,UU λ_ _ _=> .int i⟩
theorem US {i:Bool} {j pos}:SE X (.Constant (.bool i) j pos) (aC (.bl i)):=⟨_,gT,UU λ_ _ _=> .bl i⟩
theorem EK {j pos}:SE X (.Constant .none j pos) (aC .non):=⟨_,c9,UU λ_ _ _=> .non⟩
theorem KW {x:Str} {n:String} {u:Value} {pos:Pos} (hg:Gl X x) (hm:X.mg x=none) (hv:bootBuiltins x=some u) (r:RelV (.ty n) u) (hn:x≠"__name__" :=by decide) (hd:(x==("__debug__" :Str))=false:=by decide):SE X (.Name x pos) (aC (.ty n)):=
 ⟨_,Zg (v:= .ty n) hg hm hv r hn hd,UU λ_ _ _=> .ty n⟩
def AX (f:HG) (ta tb:AE):AE:=λτ Q=>ta τ λx=>tb τ λy=>f x y Q
theorem P4 {r:R2} {f:HG} {t u:TE} (hr:Bu X.K r f) (ha:Fn X.K t ta) (hb:Fn X.K u tb):Fn X.K (iB r t u) (AX f ta tb):=by
 intro B T σ τ H Q AQ s h k
 refine ha B T σ τ H _ _ s h λv x T1 H1 s1 r1 h1=> ?_
 refine hb B T1 σ τ H1 _ _ (s.stp s1) h1 λw y T2 H2 s2 r2 h2=> ?_
 have s':=(s.stp s1).stp s2
 exact hr T2 _ H2 v w x y Q AQ s'.va (r1.stp s2 (s.stp s1).va) r2 h2 λw z T3 H3 s3 r3 q=>k w z T3 H3 ((s1.trans s2).trans s3) r3 q
theorem Aa {op:Operator} {r:R2} {f:HG} (ho:Dy X (binaryOp op) r/\Bu X.K r f) (ha:SE X a ta) (hb:SE X b tb):SE X (.BinOp a op b pos) (AX f ta tb):=
 let ⟨_,p,s⟩:=ha;let ⟨_,p',s'⟩:=hb;⟨_,CO ho.1 p p',P4 ho.2 s s'⟩
theorem GN {op:CmpOp} {r:R2} {f:HG} (ho:Dy X (compareOp op) r/\Bu X.K r f) (ha:SE X a ta) (hb:SE X b tb) (hm:behindInMarks op b=false):SE X (.Compare a [op] [b] pos) (AX f ta tb):=
 let ⟨_,p,s⟩:=ha;let ⟨_,p',s'⟩:=hb;⟨_,UG ho.1 p p' hm,P4 ho.2 s s'⟩
theorem g6 {r:R2} {f:HG} (ho:Yo X r/\Bu X.K r f) (ha:SE X a ta) (hb:SE X b tb) (hs:Ot b):SE X (.Subscript a b pos) (AX f ta tb):=
 let ⟨_,p,s⟩:=ha;let ⟨_,p',s'⟩:=hb;⟨_,KL ho.1 p p' hs,P4 ho.2 s s'⟩
def fI (g:Int->Int->PV):HG:=λx y Q=>Vf x y λi j=>Q (g i j)
def eH (C:Int->Int->Prop) (g:Int->Int->PV):HG:=λx y Q=>Vf x y λi j=>C i j/\Q (g i j)
theorem Xy {g:Int->Int->V} {g':Int->Int->PV} (hg:∀i j T M H,Cf X.K T M H (g i j) (g' i j)):Bu X.K (S3 g) (fI g'):=by
 intro T M H u v x y Q AQ va ru rv h k
 obtain ⟨i,j,rfl,rfl,q⟩:=Pb h
 exact ⟨i,j,ru.toI,rv.toI,k _ _ T H (.refl va.tp) (hg i j T M H) q⟩
theorem Pz {C:Int->Int->Prop} {g:Int->Int->V} {g':Int->Int->PV} (hg:∀i j T M H,Cf X.K T M H (g i j) (g' i j)):Bu X.K (rI C g) (eH C g'):=by
 intro T M H u v x y Q AQ va ru rv h k
 obtain ⟨i,j,rfl,rfl,c,q⟩:=Pb h
 exact ⟨i,j,ru.toI,rv.toI,c,k _ _ T H (.refl va.tp) (hg i j T M H) q⟩
abbrev Gm:HG:=fI λi j=> .int (i-j)
abbrev VC:HG:=fI λi j=> .bl (decide (i<j))
abbrev fR:HG:=fI λi j=> .bl (decide (j<i))
theorem Cv:Dy X (binaryOp .Sub) (S3 λi j=> .int (i-j))/\Bu X.K (S3 λi j=> .int (i-j)) Gm:=⟨cz,Xy λi j _ _ _=> .int _⟩
theorem E6:Dy X (compareOp .Lt) (S3 λi j=> .bl (decide (i<j)))/\Bu X.K (S3 λi j=> .bl (decide (i<j))) VC:=⟨ao,Xy λi j _ _ _=> .bl _⟩
theorem X8:Dy X (compareOp .Gt) (S3 λi j=> .bl (decide (j<i)))/\Bu X.K (S3 λi j=> .bl (decide (j<i))) fR:=⟨am,Xy λi j _ _ _=> .bl _⟩
structure MulOk (i j:Int):Prop where
 l:i.natAbs<2^1000000
 r:j.natAbs<2^1000000
theorem Zf:Dy X (binaryOp .Mult) (rI MulOk λi j=> .int (i*j)):=cu λ_ _ _ _ _ _ _ hc q=>mul_int q (.of_le (GV hc.l) (GV hc.r) (by decide))
abbrev CY:HG:=eH MulOk λi j=> .int (i*j)
theorem BB:Dy X (binaryOp .Mult) (rI MulOk λi j=> .int (i*j))/\Bu X.K (rI MulOk λi j=> .int (i*j)) CY:=⟨Zf,Pz λi j _ _ _=> .int _⟩
structure Qa (i j:Int):Prop where
 ne:j≠0
 lt:j.natAbs<2^8900
theorem XY:Dy X (binaryOp .FloorDiv) (rI Qa λi j=> .int (i.fdiv j)):=cu λi j _ _ _ _ _ hc q=>
 floordiv_int hc.ne q (.inl (PyProof.noPylong_of_log2 (Nat.lt_trans (IN hc.lt (by decide)) (by decide))))
abbrev O0:HG:=eH Qa λi j=> .int (i.fdiv j)
theorem Ek:Dy X (binaryOp .FloorDiv) (rI Qa λi j=> .int (i.fdiv j))/\Bu X.K (rI Qa λi j=> .int (i.fdiv j)) O0:=⟨XY,Pz λi j _ _ _=> .int _⟩
abbrev We:HG:=eH (λ_ j=>j≠0) λi j=> .int (i.fmod j)
theorem X9:Dy X (binaryOp .Mod) (rI (λ_ j=>j≠0) λi j=> .int (i.fmod j))/\Bu X.K (rI (λ_ j=>j≠0) λi j=> .int (i.fmod j)) We:=⟨Ze,Pz λi j _ _ _=> .int _⟩
abbrev bj:HG:=eH Yf λi j=> .int (i^j.toNat)
theorem YA:Dy X (binaryOp .Pow) (rI Yf λi j=> .int (i^j.toNat))/\Bu X.K (rI Yf λi j=> .int (i^j.toNat)) bj:=⟨XZ,Pz λi j _ _ _=> .int _⟩
def jx:PV->Bool | .non=>true|_=>false
def Qr:HG:=λx y Q=>match y with | .non=>Q (.bl (jx x))|_=>False
theorem ZK {K:PySem.W.Frag} {T M:Addr->Prop} {H:Hp} {v:V} {x:PV} (r:Cf K T M H v x):decide (v= .non)=jx x:=by cases r <;> simp [jx]
theorem QA:Dy X (compareOp .Is) (λx y H Q=>y= .non/\Q (.bl (decide (x= .non))) H)/\Bu X.K (λx y H Q=>y= .non/\Q (.bl (decide (x= .non))) H) Qr:=by
 refine ⟨cx,λT M H u v x y Q AQ va ru rv h k=> ?_⟩
 cases y <;> first | exact h.elim|skip
 cases rv
 refine ⟨rfl, ?_⟩
 rw [ZK ru]
 exact k _ _ T H (.refl va.tp) (.bl _) h
def Aj:HG:=λx y Q=>Rp x λxs=>YY y λi=>XV (HI xs i) Q
theorem TY {K:PySem.W.Frag} {T M:Addr->Prop} {H:Hp} {vs:List V} {xs:List PV} {i:Int} {z:PV} (r:A3 K T M H vs xs) (h:HI xs i=some z):∃v,HI vs i=some v/\Cf K T M H v z:=by
 unfold HI at h ⊢
 rw [r.length]
 cases e:RC xs.length i with
 | none=>rw [e] at h;cases h
 | some j=>
   rw [e] at h
   exact r.get h
def gc (K:PySem.W.Frag):R2:=λx y H Q=>ga K x y H Q\/gf K x y H Q
theorem hI:Yo X (gc X.K)/\Bu X.K (gc X.K) Aj:=by
 refine ⟨EW.or cP,λT M H u v x y Q AQ va ru rv h k=> ?_⟩
 obtain ⟨xs,hx,h1⟩:=Ma h
 obtain ⟨i,rfl,h2⟩:=Pd h1
 cases rv.toI
 obtain ⟨z,e,q⟩:=cn h2
 rcases hx with rfl|rfl
 ·cases ru with
  | tup hq r=>
    obtain ⟨w,ew,rw'⟩:=TY r e
    exact .inr ⟨_,_,i,w,rfl,rfl,hq.sq,ew,k w z T H (.refl va.tp) rw' q⟩
 ·cases ru with
  | lst hq t m r=>
    obtain ⟨w,ew,rw'⟩:=TY r e
    exact .inl ⟨_,_,i,w,rfl,rfl, .inl (.inl hq),ew,k w z T H (.refl va.tp) rw' q⟩
def Ow (f:PV->(PV->Prop)->Prop) (ta:AE):AE:=λτ Q=>ta τ λx=>f x Q
def GB (x:PV) (Q:PV->Prop):Prop:=YY x λi=>Q (.int (-i))
theorem Cu (ha:SE X a ta):SE X (.UnaryOp .USub a pos) (Ow GB ta):=by
 obtain ⟨t,p,s⟩:=ha
 refine ⟨_,gW dt p,λB T σ τ H Q AQ sr h k=>s B T σ τ H _ _ sr h λv x T1 H1 s1 r1 h1=> ?_⟩
 obtain ⟨i,rfl,q⟩:=Pd h1
 exact ⟨i,r1.toI,k _ _ T1 H1 s1 (.int _) q⟩
def bi (x:PV) (Q:PV->Prop):Prop:=Zb x λi=>Q (.bl (!i))
theorem dX (ha:SE X a ta):SE X (.UnaryOp .Not a pos) (Ow bi ta):=by
 obtain ⟨t,p,s⟩:=ha
 refine ⟨_,dA p,λB T σ τ H Q AQ sr h k=>s B T σ τ H _ _ sr h λv x T1 H1 s1 r1 h1=> ?_⟩
 obtain ⟨i,rfl,q⟩:=Pa h1
 exact ⟨i,r1.toB,k _ _ T1 H1 s1 (.bl _) q⟩
def WK (ta tb:AE):AE:=λτ Q=>ta τ λx=>Zb x λc=>if c=true then tb τ Q else Q (.bl false)
theorem Xv {op} (h:SE X a ta):SE X (.BoolOp op [a] pos) ta:=let ⟨_,p,s⟩:=h;⟨_,dB p,s⟩
theorem S8 {rest:List Expr} (ha:SE X a ta) (hb:SE X (.BoolOp .And (b::rest) pos) tb):SE X (.BoolOp .And (a::b::rest) pos) (WK ta tb):=by
 obtain ⟨t,p,s⟩:=ha
 obtain ⟨t',p',s'⟩:=hb
 refine ⟨_,c7 p p',λB T σ τ H Q AQ sr h k=>s B T σ τ H _ _ sr h λv x T1 H1 s1 r1 h1=> ?_⟩
 obtain ⟨i,rfl,q⟩:=Pa h1
 refine ⟨i,r1.toB, ?_⟩
 cases i with
 | true=>rw [if_pos rfl] at q ⊢;exact s' B T1 σ τ H1 _ _ (sr.stp s1) q λw y T2 H2 s2 r2 h2=>k w y T2 H2 (s1.trans s2) r2 h2
 | false=>rw [if_neg Bool.false_ne_true] at q ⊢;exact k _ _ T1 H1 s1 (.bl _) q
def Av (ta:AE):AT:=λτ Q=>ta τ λx=>Zb x Q
theorem P5 {t:TE} (s:Fn X.K t ta):NR X.K (YG t) (Av ta):=λB T σ τ H Q AQ sr h k=>s B T σ τ H _ _ sr h λv x T1 H1 s1 r1 h1=>by
 obtain ⟨i,rfl,q⟩:=Pa h1
 exact ⟨i,r1.toB,k _ T1 H1 s1 q⟩
theorem dg {op:CmpOp} {r:R2} {f:HG} (ho:Dy X (compareOp op) r/\Bu X.K r f) (ha:SE X a ta) (hb:SE X b tb) (hm:behindInMarks op b=false):Qf X (.Compare a [op] [b] pos) (Av (AX f ta tb)):=
 let ⟨_,p,s⟩:=ha;let ⟨_,p',s'⟩:=hb;⟨_,Pk ho.1 p p' hm,P5 (P4 ho.2 s s')⟩
theorem BF {e:Expr} (h:SE X e ta) (he:∀whole,isTrue e X.env whole=(do let v <-whole;standAt e.pos;holding [v] (truthy v)):=by intro _;rfl):Qf X e (Av ta):=
 let ⟨_,p,s⟩:=h;⟨_,dI p he,P5 s⟩
def Gy (t:AT):AT:=λτ Q=>t τ λc=>Q (!c)
def KB (t u:AT):AT:=λτ Q=>t τ λc=>if c=true then u τ Q else Q false
def Ky (t u:AT):AT:=λτ Q=>t τ λc=>if c=true then Q true else u τ Q
theorem GS (ha:Qf X a tA):Qf X (.UnaryOp .Not a pos) (Gy tA):=by
 obtain ⟨t,p,s⟩:=ha
 exact ⟨_,dH p,λB T σ τ H Q AQ sr h k=>s B T σ τ H _ _ sr h λv T1 H1 s1 h1=>k _ T1 H1 s1 h1⟩
theorem I0 (ha:Qf X a tA):SW X (.BoolOp .And [a] pos) tA:=let ⟨_,p,s⟩:=ha;⟨_,Zs p,s⟩
theorem FX (ha:Qf X a tA):SW X (.BoolOp .Or [a] pos) tA:=let ⟨_,p,s⟩:=ha;⟨_,dL p,s⟩
theorem M5 {rest:List Expr} (ha:Qf X a tA) (hb:SW X (.BoolOp .And (b::rest) pos) tB'):SW X (.BoolOp .And (a::b::rest) pos) (KB tA tB'):=by
 obtain ⟨t,p,s⟩:=ha
 obtain ⟨t',p',s'⟩:=hb
 refine ⟨_,dJ p p',λB T σ τ H Q AQ sr h k=>s B T σ τ H _ _ sr h λi T1 H1 s1 q=> ?_⟩
 cases i with
 | true=>rw [if_pos rfl] at q ⊢;exact s' B T1 σ τ H1 _ _ (sr.stp s1) q λb T2 H2 s2 h2=>k b T2 H2 (s1.trans s2) h2
 | false=>rw [if_neg Bool.false_ne_true] at q ⊢;exact k _ T1 H1 s1 q
theorem G8 {rest:List Expr} (ha:Qf X a tA) (hb:SW X (.BoolOp .Or (b::rest) pos) tB'):SW X (.BoolOp .Or (a::b::rest) pos) (Ky tA tB'):=by
 obtain ⟨t,p,s⟩:=ha
 obtain ⟨t',p',s'⟩:=hb
 refine ⟨_,gX p p',λB T σ τ H Q AQ sr h k=>s B T σ τ H _ _ sr h λi T1 H1 s1 q=> ?_⟩
 cases i with
 | false=>rw [if_neg Bool.false_ne_true] at q ⊢;exact s' B T1 σ τ H1 _ _ (sr.stp s1) q λb T2 H2 s2 h2=>k b T2 H2 (s1.trans s2) h2
 | true=>rw [if_pos rfl] at q ⊢;exact k _ T1 H1 s1 q
theorem Iy (h:SW X a tA):Qf X a tA:=let ⟨_,p,s⟩:=h;⟨_,p.pt,s⟩
def aQ (t:AT) (ta tb:AE):AE:=λτ Q=>t τ λc=>if c=true then ta τ Q else tb τ Q
theorem OS (hc:Qf X c tA) (ha:SE X a ta) (hb:SE X b tb):SE X (.IfExp c a b pos) (aQ tA ta tb):=by
 obtain ⟨t,p,s⟩:=hc
 obtain ⟨t1,p1,s1'⟩:=ha
 obtain ⟨t2,p2,s2'⟩:=hb
 refine ⟨_,Xc p p1 p2,λB T σ τ H Q AQ sr h k=>s B T σ τ H _ _ sr h λi T1 H1 s1 q=> ?_⟩
 cases i with
 | true=>rw [if_pos rfl] at q ⊢;exact s1' B T1 σ τ H1 _ _ (sr.stp s1) q λw y T2 H2 s2 r2 h2=>k w y T2 H2 (s1.trans s2) r2 h2
 | false=>rw [if_neg Bool.false_ne_true] at q ⊢;exact s2' B T1 σ τ H1 _ _ (sr.stp s1) q λw y T2 H2 s2 r2 h2=>k w y T2 H2 (s1.trans s2) r2 h2
def AL:AA:=λ_ Q=>Q []
def AB (ta:AE) (r:AA):AA:=λτ Q=>ta τ λx=>r τ λxs=>Q (x::xs)
theorem GH:SA X [] AL:=⟨_,Jt,λB T σ τ H Q AQ sr h k=>k [] [] T H (.refl sr.tp) .nil h⟩
theorem B0 {e:Expr} {r:AA} (ha:SE X e ta) (hr:SA X es r) (hs:starEach (e::es) X.env=(false,eval e X.env)::starEach es X.env:=by rfl):SA X (e::es) (AB ta r):=by
 obtain ⟨t,p,s⟩:=ha
 obtain ⟨t',p',s'⟩:=hr
 refine ⟨_,FO p p' hs,λB T σ τ H Q AQ sr h k=>s B T σ τ H _ _ sr h λv x T1 H1 s1 r1 h1=> ?_⟩
 exact s' B T1 σ τ H1 _ _ (sr.stp s1) h1 λvs xs T2 H2 s2 r2 h2=>k _ _ T2 H2 (s1.trans s2) (.cons (r1.stp s2 (sr.stp s1).va) r2) h2
def BJ (r:AA):AE:=λτ Q=>r τ λxs=>xs.length<=sizeLine/\Q (.tup xs)
theorem Af {x1} {r:AA} (h:SA X es r):SE X (.Tuple es x1 pos) (BJ r):=by
 obtain ⟨t,p,s⟩:=h
 refine ⟨_,dC p,λB T σ τ H Q AQ sr h k=>s B T σ τ H _ _ sr h λvs xs T1 H1 s1 r1 h1=>⟨by rw [r1.length];exact h1.1,λq hq=> ?_⟩⟩
 have l:=Dn.lay (o:= .tup vs) (sr.stp s1).tp hq
 exact k _ _ T1 _ (s1.trans l) (.tup (.inl A6) (r1.stp l (sr.stp s1).va)) h1.2
def EF (r:AA):AA:=λτ Q=>r τ λxs=>xs.length<=sizeLine/\Q xs
theorem ZO {K:PySem.W.Frag} {B:Cq} {T:Addr->Prop} {H:Hp} {σ:L2.St} {τ:BG} {p:Addr} {vs:List V} {xs:List PV} (sr:SR K B T H σ τ) (hq:H p=none) (r:A3 K T (mt B σ τ) H vs xs):
 Dn T H T (upd H p (.lst vs))/\SR K (B.add p) T (upd H p (.lst vs)) σ τ/\¬T p/\A3 K T (mt (B.add p) σ τ) (upd H p (.lst vs)) vs xs:=by
 have l:=Dn.lay (o:= .lst vs) sr.tp hq
 have nt:¬T p:=λz=>by obtain ⟨o,e,_⟩:=(sr.tp p z).mut;rw [hq] at e;cases e
 refine ⟨l,sr.add l hq A6 Kr.lst nt,nt,r.mv ⟨sr.va,λb o t _ e=>l.keep b o t e,l.sub,λb n t=>t,λb n z=> ?_⟩⟩
 rcases z with (z|z)|z
 ·exact .inl z
 ·subst z;exact absurd hq n
 ·exact .inr z
theorem Bi {r:AA} (h:SA X es r):SF X (.List es pos) (EF r):=by
 obtain ⟨t,p,s⟩:=h
 refine ⟨_,Xd p,λB T σ τ H Q AQ sr h k=>s B T σ τ H _ _ sr h λvs xs T1 H1 s1 r1 h1=>⟨by rw [r1.length];exact h1.1,λq hq=> ?_⟩⟩
 obtain ⟨l,sr2,nt,r2⟩:=ZO (sr.stp s1) hq r1
 exact k q vs xs T1 _ (s1.trans l) sr2 (s1.none hq) A6 nt r2 h1.2
def GU (r:AA):AE:=λτ Q=>r τ λxs=>Q (.lst xs)
theorem X0 {t:TE} {r:AA} (s:Ys X.K t r):Fn X.K t (GU r):=λB T σ τ H Q AQ sr h k=>s B T σ τ H _ _ sr h λp vs xs T1 H1 s1 sr1 hn hp nt r1 h1=>by
 have ho:¬C2 σ τ p:=λo=>by obtain ⟨_,e,_⟩:=sr.ownH o;rw [hn] at e;cases e
 have hb:¬B.M p:=λo=>by obtain ⟨_,e,_⟩:=sr.bm p o;rw [hn] at e;cases e
 exact k _ _ T1 H1 s1 (.lst hp nt (λz=>z.elim hb ho) (r1.mv (.anti sr1.va λa m=>m.elim (λz=> .inl (.inl z)) .inr))) h1
theorem Dj {r:AA} (h:SF X a r):SE X a (GU r):=let ⟨_,p,s⟩:=h;⟨_,p,X0 s⟩
def BN (K:PySem.W.Frag) (n:Nat) (F:AF):Sp:=λvs H Q _=>∃(T M:Addr->Prop) (xs:List PV) (AQ:PV->Prop),J9 T M H/\(∀a,M a->¬T a)/\A3 K T M H vs xs/\xs.length=n/\F xs AQ/\
 ∀v x T' H',Dn T H T' H'->Cf K T' M H' v x->AQ x->Q v H'
def AN (n:Nat) (F:AF) (r:AA):AE:=λτ Q=>r τ λxs=>xs.length=n/\F xs Q
theorem AK {x:Str} {p:Pos} {e:Expr} {k n:Nat} {ps:List Str} {F:AF} {r:AA} (D:Has X.prog X.w X.K X.mg X.base k x ps (BN X.K n F)) (hr:Room k X.A) (hg:Gl X x) (ha:SA X (e::es) r)
 (hs:starEach (e::es) X.env=(false,eval e X.env)::starEach es X.env:=by rfl) (hpl:(backTo pos (starEach es X.env)).any (·.1)=false:=by rfl) (hd:(x==("__debug__" :Str))=false:=by decide):
 SE X (.Call (.Name x p) (e::es) [] pos) (AN n F r):=by
 obtain ⟨t,pa,s⟩:=ha
 refine ⟨_,c8 D hr hg pa hs hpl hd,λB T σ τ H Q AQ sr h k=>s B T σ τ H _ _ sr h λvs xs T1 H1 s1 r1 h1=> ?_⟩
 rw [List.append_nil]
 exact ⟨T1,_,xs,AQ,(sr.stp s1).va,λa m=>(sr.stp s1).nt m,r1,h1.1,h1.2,λv x T2 H2 s2 r2 q=>k v x T2 H2 (s1.trans s2) r2 q⟩
def Es (f:AF) (r:AA):AE:=λτ Q=>r τ λxs=>f xs Q
theorem Xz {rr:List V->Hp->VK->Prop} {f:AF} {t:TA} {r:AA} (hr:ET X.K rr f) (s:bP X.K t r):Fn X.K (kC rr t) (Es f r):=λB T σ τ H Q AQ sr h k=>s B T σ τ H _ _ sr h λvs xs T1 H1 s1 r1 h1=>
 hr T1 _ H1 vs xs Q AQ (sr.stp s1).va r1 h1 λw z T2 H2 s2 r2 q=>k w z T2 H2 (s1.trans s2) r2 q
theorem Ar {id:String} {x:Str} {p:Pos} {e:Expr} {rr:List V->Hp->VK->Prop} {f:AF} {r:AA} (hc:Br X (.builtin id) rr/\ET X.K rr f) (hg:Gl X x) (hm:X.mg x=none) (hv:bootBuiltins x=some (.builtin id)) (ha:SA X (e::es) r)
 (hn:x≠"__name__" :=by decide) (hdb:(x==("__debug__" :Str))=false:=by decide) (he:starEach (e::es) X.env=(false,eval e X.env)::starEach es X.env:=by rfl) (hpl:(backTo pos (starEach es X.env)).any (·.1)=false:=by rfl):
 SE X (.Call (.Name x p) (e::es) [] pos) (Es f r):=by
 obtain ⟨t,pa,s⟩:=ha
 exact ⟨_,IR hc.1 hg hm hv pa hn hdb he hpl,Xz hc.2 s⟩
theorem B7 {T:String} {x:Str} {p:Pos} {e:Expr} {rr:List V->Hp->VK->Prop} {f:AF} {r:AA} (hc:Br X (.type T) rr/\ET X.K rr f) (hg:Gl X x) (hm:X.mg x=none) (hv:bootBuiltins x=some (.type T)) (ha:SA X (e::es) r)
 (hn:x≠"__name__" :=by decide) (hdb:(x==("__debug__" :Str))=false:=by decide) (he:starEach (e::es) X.env=(false,eval e X.env)::starEach es X.env:=by rfl) (hpl:(backTo pos (starEach es X.env)).any (·.1)=false:=by rfl):
 SE X (.Call (.Name x p) (e::es) [] pos) (Es f r):=by
 obtain ⟨t,pa,s⟩:=ha
 exact ⟨_,OL hc.1 hg hm hv pa hn hdb he hpl,Xz hc.2 s⟩
end
end PL
end
section
namespace PL
open PySem PySem.Spec PyProof.Rows L2
section
variable {X:Cx}
theorem Du {K:PySem.W.Frag} {T M:Addr->Prop} {H:Hp} {v:V} {xs:List PV} (r:Cf K T M H v (.tup xs)):∃a vs,v= .ref a/\Kx K H a vs/\A3 K T M H vs xs:=by
 cases r with
 | tup h r=>exact ⟨_,_,rfl,h.sq,r⟩
theorem de {K:PySem.W.Frag} {T M:Addr->Prop} {H:Hp} {v:V} {xs:List PV} (r:Cf K T M H v (.tup xs)):∃a vs,v= .ref a/\iQ K H a vs/\A3 K T M H vs xs:=by
 cases r with
 | tup h r=>exact ⟨_,_,rfl,h,r⟩
theorem EL {K:PySem.W.Frag} {T M:Addr->Prop} {H:Hp} {v:V} {xs:List PV} (r:Cf K T M H v (.lst xs)):∃a vs,v= .ref a/\H a=some (.lst vs)/\¬T a/\¬M a/\A3 K T M H vs xs:=by
 cases r with
 | lst h t m r=>exact ⟨_,_,rfl,h,t,m,r⟩
theorem Xu {K:PySem.W.Frag} {T M:Addr->Prop} {H:Hp} {v:V} {ns:List Int} (r:Cf K T M H v (.scr ns)):∃a,v= .ref a/\Ff K H a (ns.map V.int):=by
 cases r with
 | scr h=>
   rcases h with ⟨h,_,_⟩|h
   ·exact ⟨_,rfl, .inl h⟩
   ·exact ⟨_,rfl,h H⟩
def FG:AF:=λxs Q=>match xs with | [.tup ys] =>Q (.int ys.length) | [.lst ys] =>Q (.int ys.length) | [.scr ns] =>Q (.int ns.length)|_=>False
def gg (K:PySem.W.Frag):List V->Hp->VK->Prop:=λxs H Q=>∃p ys,xs= [.ref p] /\(Ff K H p ys\/Kx K H p ys)/\Q (.int ys.length) H
theorem Ds:Br X (.builtin "len") (gg X.K)/\ET X.K (gg X.K) FG:=by
 refine ⟨IB,λT M H us xs Q AQ va r h k=> ?_⟩
 unfold FG at h
 split at h <;> first | exact h.elim|skip
 ·rename_i ys
  cases r with | cons r t=>cases t;obtain ⟨a,vs,rfl,hq,r⟩:=Du r;refine ⟨a,vs,rfl, .inr hq, ?_⟩;rw [r.length];exact k _ _ T H (.refl va.tp) (.int _) h
 ·rename_i ys
  cases r with | cons r t=>cases t;obtain ⟨a,vs,rfl,hq,_,_,r⟩:=EL r;refine ⟨a,vs,rfl, .inl (.inl (.inl hq)), ?_⟩;rw [r.length];exact k _ _ T H (.refl va.tp) (.int _) h
 ·rename_i ns
  cases r with | cons r t=>cases t;obtain ⟨a,rfl,hq⟩:=Xu r;refine ⟨a,_,rfl, .inl hq, ?_⟩;rw [List.length_map];exact k _ _ T H (.refl va.tp) (.int _) h
def VE:AF:=λxs Q=>match xs with | [.int i] =>Q (.int i.natAbs)|_=>False
theorem Pu:Br X (.builtin "abs") (λxs H Q=>∃i,xs= [.int i] /\Q (.int (if i<0 then -i else i)) H)/\ET X.K (λxs H Q=>∃i,xs= [.int i] /\Q (.int (if i<0 then -i else i)) H) VE:=by
 refine ⟨MB,λT M H us xs Q AQ va r h k=> ?_⟩
 unfold VE at h
 split at h <;> first | exact h.elim|skip
 rename_i i
 cases r with
 | cons r t=>
   cases t
   cases r
   refine ⟨i,rfl, ?_⟩
   rw [show (if i<0 then -i else i)=(i.natAbs:Int) by split <;> omega]
   exact k _ _ T H (.refl va.tp) (.int _) h
def fT (g:Int->Int->Int):AF:=λxs Q=>match xs with | [.int i, .int j] =>Q (.int (g i j))|_=>False
theorem dZ {g g':Int->Int->Int} (hg:∀i j,g i j=g' i j):ET X.K (λxs H Q=>∃i j,xs= [.int i, .int j] /\Q (.int (g i j)) H) (fT g'):=by
 intro T M H us xs Q AQ va r h k
 unfold fT at h
 split at h <;> first | exact h.elim|skip
 rename_i i j
 cases r with
 | cons r t=>
   cases t with
   | cons r2 t=>
     cases t;cases r;cases r2
     refine ⟨i,j,rfl, ?_⟩
     rw [hg]
     exact k _ _ T H (.refl va.tp) (.int _) h
theorem dU (hc:X.calm=true):Br X (.builtin "min") (λxs H Q=>∃i j,xs= [.int i, .int j] /\Q (.int (if j<i then j else i)) H)/\ET X.K (λxs H Q=>∃i j,xs= [.int i, .int j] /\Q (.int (if j<i then j else i)) H) (fT min):=
 ⟨U5 hc,dZ λi j=>by split <;> omega⟩
def VF:AF:=λxs Q=>match xs with | [.int i] =>Q (.int i) | [.bl k] =>Q (.int (if k then 1 else 0))|_=>False
theorem S7:Br X (.type "int") (λxs H Q=>(∃i,xs= [.int i] /\Q (.int i) H)\/∃k,xs= [.bl k] /\Q (.int (if k then 1 else 0)) H)/\ET X.K (λxs H Q=>(∃i,xs= [.int i] /\Q (.int i) H)\/∃k,xs= [.bl k] /\Q (.int (if k then 1 else 0)) H) VF:=by
 refine ⟨OB,λT M H us xs Q AQ va r h k=> ?_⟩
 unfold VF at h
 split at h <;> first | exact h.elim|skip
 ·cases r with | cons r t=>cases t;cases r;exact .inl ⟨_,rfl,k _ _ T H (.refl va.tp) (.int _) h⟩
 ·cases r with | cons r t=>cases t;cases r;exact .inr ⟨_,rfl,k _ _ T H (.refl va.tp) (.int _) h⟩
def EG:AF:=λxs Q=>match xs with | [.tup ys] =>Q (.tup ys) | [.lst ys] =>Q (.tup ys)|_=>False
def Xm (K:PySem.W.Frag):List V->Hp->VK->Prop:=λxs H Q=>∃p ys,xs= [.ref p] /\((Ff K H p ys/\∀l,H l=none->Q (.ref l) (upd H l (.tup ys)))\/(Kx K H p ys/\Q (.ref p) H))
theorem EI:Br X (.type "tuple") (Xm X.K)/\ET X.K (Xm X.K) EG:=by
 refine ⟨NW,λT M H us xs Q AQ va r h k=> ?_⟩
 unfold EG at h
 split at h <;> first | exact h.elim|skip
 ·cases r with | cons r t=>cases t;obtain ⟨a,vs,rfl,hq,r'⟩:=de r;exact ⟨a,vs,rfl, .inr ⟨hq.sq,k _ _ T H (.refl va.tp) (.tup hq r') h⟩⟩
 ·cases r with
  | cons r t=>
    cases t
    obtain ⟨a,vs,rfl,hq,_,_,r'⟩:=EL r
    refine ⟨a,vs,rfl, .inl ⟨.inl (.inl hq),λl hl=> ?_⟩⟩
    have s:=Dn.lay (o:= .tup vs) va.tp hl
    exact k _ _ T _ s (.tup (.inl A6) (r'.stp s va)) h
def kdOf:PV->Option Kd
 | .non=>some .non | .bl _=>some .bl | .int _=>some .int | .str _=>some .str | .tup _=>some .tup | .lst _=>some .lst | .tape=>none | .scr _=>none | .ty _=>none | .dct _=>none
def Qv:AF:=λxs Q=>match xs with | [x, .ty T] =>W5 T/\(match kdOf x with | some k=>Q (.bl (O8 k T))|none=>False)|_=>False
theorem Mj:Br X (.builtin "isinstance") (dM X.K)/\ET X.K (dM X.K) Qv:=by
 refine ⟨WQ,λT M H us xs Q AQ va r h k=> ?_⟩
 unfold Qv at h
 split at h <;> first | exact h.elim|skip
 rename_i x ty
 obtain ⟨ht,h⟩:=h
 cases r with
 | cons r t=>
   cases t with
   | cons r2 t=>
     cases t;cases r2
     cases r with
     | non=>exact ⟨_,_, .non,rfl,ht,rfl,k _ _ T H (.refl va.tp) (.bl _) h⟩
     | bl b=>exact ⟨_,_, .bl,rfl,ht,⟨_,rfl⟩,k _ _ T H (.refl va.tp) (.bl _) h⟩
     | int b=>exact ⟨_,_, .int,rfl,ht,⟨_,rfl⟩,k _ _ T H (.refl va.tp) (.bl _) h⟩
     | str b=>exact ⟨_,_, .str,rfl,ht,⟨_,rfl⟩,k _ _ T H (.refl va.tp) (.bl _) h⟩
     | ty b=>exact h.elim
     | tup hq _=>exact ⟨_,_, .tup,rfl,ht,⟨_,_,rfl,hq.sq⟩,k _ _ T H (.refl va.tp) (.bl _) h⟩
     | lst hq _ _ _=>exact ⟨_,_, .lst,rfl,ht,⟨_,_,rfl, .inl (.inl hq)⟩,k _ _ T H (.refl va.tp) (.bl _) h⟩
     | tape _=>exact h.elim
     | scr _=>exact h.elim
     | dct _ _ _=>exact h.elim
def L9:List PV->Option (List Bool)
 | [] =>some []
 | .bl b::r=>(L9 r).map (b :: ·)
 | _=>none
theorem TZ {K:PySem.W.Frag} {T M:Addr->Prop} {H:Hp}:∀{vs:List V} {xs:List PV} {bs:List Bool},A3 K T M H vs xs->L9 xs=some bs->vs=bs.map V.bl
 | _,_,_, .nil,e=>by simp [L9] at e;subst e;rfl
 | _,_,bs, .cons h t,e=>by
   cases h <;> simp [L9] at e
   obtain ⟨c,e1,e2⟩:=e
   subst e2
   simp [TZ t e1]
def Wk (g:List Bool->Bool):AF:=λxs Q=>match xs with | [.lst ys] =>(match L9 ys with | some bs=>Q (.bl (g bs))|none=>False)|_=>False
theorem Z0 {g:List Bool->Bool}:ET X.K (Zt X.K g) (Wk g):=by
 intro T M H us xs Q AQ va r h k
 unfold Wk at h
 split at h <;> first | exact h.elim|skip
 split at h <;> first | exact h.elim|skip
 rename_i bs e
 cases r with
 | cons r t=>
   cases t
   obtain ⟨a,ws,rfl,hq,_,_,r'⟩:=EL r
   have:=TZ r' e
   subst this
   exact ⟨a,bs,rfl, .inl (.inl hq),k _ _ T H (.refl va.tp) (.bl _) h⟩
theorem dS (hc:X.calm=true):Br X (.builtin "all") (Zt X.K λbs=>bs.all id)/\ET X.K (Zt X.K λbs=>bs.all id) (Wk λbs=>bs.all id):=⟨U2 hc,Z0⟩
def UR:PV->PV->Option Bool
 | .non, .non=>some true | .non, .int _=>some false | .int _, .non=>some false | .non, .bl _=>some false | .bl _, .non=>some false | .non, .str _=>some false | .str _, .non=>some false
 | .int i, .int j=>some (decide (i=j)) | .bl i, .bl j=>some (decide (i=j)) | .str i, .str j=>some (decide (i=j))
 | .int _, .str _=>some false | .str _, .int _=>some false | .bl _, .str _=>some false | .str _, .bl _=>some false
 | _,_=>none
theorem Re {K:PySem.W.Frag} {T M:Addr->Prop} {H:Hp} {u v:V} {x y:PV} {b:Bool} (r:Cf K T M H u x) (r2:Cf K T M H v y) (e:UR x y=some b):Zy u v=true/\decide (u=v)=b:=by
 cases r <;> cases r2 <;> simp [UR] at e <;> subst e <;> simp [Zy]
end
end PL
end
section
namespace PL
open PySem PySem.Spec PyProof.Rows L2
structure Ft where
 nx:BG->Prop
 rt:PV->Prop
 bk:BG->Prop
 ct:BG->Prop
abbrev AS:=Ft->BG->Prop
structure Em (T:Addr->Prop) (H:Hp) (σ:L2.St) (τ:BG) (T':Addr->Prop) (H':Hp) (σ':L2.St) (τ':BG):Prop where
 keep:∀b o,¬T b->¬C2 σ τ b->H b=some o->H' b=some o
 sub:∀b,T b->T' b
 new:∀b,T' b->T b\/H b=none
 own:∀b,C2 σ' τ' b->C2 σ τ b\/H b=none
 some:∀b,H b≠none->H' b≠none
section
variable {K:PySem.W.Frag} {B:Cq} {T T' T1 T2:Addr->Prop} {H H' H1 H2:Hp} {σ σ' σ1 σ2:L2.St} {τ τ' τ1 τ2:BG}
theorem Em.refl:Em T H σ τ T H σ τ:=⟨λ_ _ _ _ e=>e,λ_ t=>t,λ_ t=> .inl t,λ_ o=> .inl o,λ_ h=>h⟩
theorem Em.trans (a:Em T H σ τ T1 H1 σ1 τ1) (b:Em T1 H1 σ1 τ1 T2 H2 σ2 τ2):Em T H σ τ T2 H2 σ2 τ2 where
 keep:=λc o t w e=>b.keep c o (λz=>(a.new c z).elim t λn=>by rw [n] at e;cases e) (λz=>(a.own c z).elim w λn=>by rw [n] at e;cases e) (a.keep c o t w e)
 sub:=λc t=>b.sub c (a.sub c t)
 new:=λc t=>(b.new c t).elim (λz=>a.new c z) λz=> .inr (by
  cases e:H c with
  | none=>rfl
  | some o=>exact absurd z (a.some c (by rw [e];exact λe=>nomatch e)))
 own:=λc t=>(b.own c t).elim (λz=>a.own c z) λz=> .inr (by
  cases e:H c with
  | none=>rfl
  | some o=>exact absurd z (a.some c (by rw [e];exact λe=>nomatch e)))
 some:=λc h=>b.some c (a.some c h)
theorem Dn.prog (s:Dn T H T' H'):Em T H σ τ T' H' σ τ:=⟨λb o t _ e=>s.keep b o t e,s.sub,s.new,λ_ o=> .inl o,λ_ h=>s.some h⟩
theorem Em.less (h:∀b,C2 σ' τ' b->C2 σ τ b):Em T H σ τ T H σ' τ':=⟨λ_ _ _ _ e=>e,λ_ t=>t,λ_ t=> .inl t,λb o=> .inl (h b o),λ_ h=>h⟩
structure ER (K:PySem.W.Frag) (B:Cq) (T:Addr->Prop) (H:Hp) (σ:L2.St) (τ:BG) (D:Qc) (AD:Ft):Prop where
 nx:∀T' H' σ' τ',Em T H σ τ T' H' σ' τ'->SR K B T' H' σ' τ'->AD.nx τ'->D.nx σ' H'
 bk:∀T' H' σ' τ',Em T H σ τ T' H' σ' τ'->SR K B T' H' σ' τ'->AD.bk τ'->D.bk σ' H'
 ct:∀T' H' σ' τ',Em T H σ τ T' H' σ' τ'->SR K B T' H' σ' τ'->AD.ct τ'->D.ct σ' H'
 rt:∀v x T' H',Dn B.T B.H T' H'->Cf K T' B.M H' v x->AD.rt x->D.rt v H'
theorem ER.shift {D:Qc} {AD:Ft} (e:ER K B T H σ τ D AD) (p:Em T H σ τ T1 H1 σ1 τ1):ER K B T1 H1 σ1 τ1 D AD:=
 ⟨λ_ _ _ _ q=>e.nx _ _ _ _ (p.trans q),λ_ _ _ _ q=>e.bk _ _ _ _ (p.trans q),λ_ _ _ _ q=>e.ct _ _ _ _ (p.trans q),e.rt⟩
end
def WJ (K:PySem.W.Frag) (t:TS) (a:AS):Prop:=∀(B:Cq) (T:Addr->Prop) (σ:L2.St) (τ:BG) (H:Hp) (D:Qc) (AD:Ft),SR K B T H σ τ->a AD τ->ER K B T H σ τ D AD->t D σ H
def SS (X:Cx) (st:Stmt) (a:AS):Prop:=∃t,PS X st t/\WJ X.K t a
def Yq (X:Cx) (st:List Stmt) (a:AS):Prop:=∃t,TV X st t/\WJ X.K t a
theorem BV {α:Type} {l:List α} {i j:Nat} {x y:α} (h:(l.set i x)[j]? =some y):(j=i/\y=x/\i<l.length)\/(j≠i/\l[j]? =some y):=by
 by_cases e:j=i
 ·subst e
  rw [List.getElem?_set] at h
  simp at h
  obtain ⟨h1,h2⟩:=h
  exact .inl ⟨rfl,h2.symm,h1⟩
 ·rw [List.getElem?_set_ne (λz=>e z.symm)] at h
  exact .inr ⟨e,h⟩
section
variable {K:PySem.W.Frag} {B:Cq} {T:Addr->Prop} {H:Hp} {σ:L2.St} {τ:BG}
theorem C1 {i:Nat} {v:V} {x:PV} {b:Addr} (h:C2 (σ.set i (some v)) (τ.set i (some (.val x))) b):C2 σ τ b:=by
 obtain ⟨j,xs,h1,h2⟩:=h
 rcases BV h1 with ⟨_,e,_⟩|⟨n,ZE⟩
 ·cases e
 ·rw [List.getElem?_set_ne (λz=>n z.symm)] at h2
  exact ⟨j,xs,ZE,h2⟩
theorem SR.set {i:Nat} {v:V} {x:PV} (s:SR K B T H σ τ) (r:Cf K T (mt B σ τ) H v x):SR K B T H (σ.set i (some v)) (τ.set i (some (.val x))):=by
 have mv:Mv K T (mt B σ τ) H T (mt B (σ.set i (some v)) (τ.set i (some (.val x)))) H:= .anti s.va λa m=>m.elim .inl λz=> .inr (C1 z)
 refine ⟨by simp [s.len],λj y e=> ?_,λj ys e=> ?_,λj k ys zs p e1 e2 e3 e4=> ?_,s.tp,s.bm,s.bt,s.st⟩
 ·rcases BV e with ⟨rfl,e',hl⟩|⟨n,e'⟩
  ·cases e'
   refine ⟨v,by rw [List.getElem?_set];simp [s.len,hl],r.mv mv⟩
  ·obtain ⟨w,hw,rw'⟩:=s.val j y e'
   exact ⟨w,by rw [List.getElem?_set_ne (λz=>n z.symm)];exact hw,rw'.mv mv⟩
 ·rcases BV e with ⟨_,e',_⟩|⟨n,e'⟩
  ·cases e'
  ·obtain ⟨p,vs,h1,h2,h3,h4⟩:=s.own j ys e'
   exact ⟨p,vs,by rw [List.getElem?_set_ne (λz=>n z.symm)];exact h1,h2,h3.mv mv,h4⟩
 ·rcases BV e1 with ⟨_,e',_⟩|⟨n,e1'⟩
  ·cases e'
  ·rcases BV e2 with ⟨_,e',_⟩|⟨n2,e2'⟩
   ·cases e'
   ·rw [List.getElem?_set_ne (λz=>n z.symm)] at e3
    rw [List.getElem?_set_ne (λz=>n2 z.symm)] at e4
    exact s.dist j k ys zs p e1' e2' e3 e4
theorem KJ {i:Nat} {p:Addr} {xs:List PV} {b:Addr} (h:C2 (σ.set i (some (.ref p))) (τ.set i (some (.own xs))) b):C2 σ τ b\/b=p:=by
 obtain ⟨j,ys,h1,h2⟩:=h
 rcases BV h1 with ⟨rfl,e,_⟩|⟨n,ZE⟩
 ·rcases BV h2 with ⟨_,e',_⟩|⟨n,_⟩
  ·cases e';exact .inr rfl
  ·exact absurd rfl n
 ·rw [List.getElem?_set_ne (λz=>n z.symm)] at h2
  exact .inl ⟨j,ys,ZE,h2⟩
theorem SR.take {i:Nat} {p:Addr} {vs:List V} {xs:List PV} (s:SR K (B.add p) T H σ τ) (hp:H p=some (.lst vs)) (nt:¬T p) (no:¬C2 σ τ p) (nb:¬B.M p) (b0:B.H p=none) (r:A3 K T (mt (B.add p) σ τ) H vs xs):
 SR K B T H (σ.set i (some (.ref p))) (τ.set i (some (.own xs))):=by
 have mv:Mv K T (mt (B.add p) σ τ) H T (mt B (σ.set i (some (.ref p))) (τ.set i (some (.own xs)))) H:= .anti s.va λa m=>by
  rcases m with m|m
  ·exact .inl (.inl m)
  ·rcases KJ m with z|z
   ·exact .inr z
   ·exact .inl (.inr z)
 refine ⟨by simp [s.len],λj y e=> ?_,λj ys e=> ?_,λj k ys zs q e1 e2 e3 e4=> ?_,s.tp,λa m=>s.bm a (.inl m),λa m=>s.bt a (.inl m),s.st⟩
 ·rcases BV e with ⟨_,e',_⟩|⟨n,e'⟩
  ·cases e'
  ·obtain ⟨w,hw,rw'⟩:=s.val j y e'
   exact ⟨w,by rw [List.getElem?_set_ne (λz=>n z.symm)];exact hw,rw'.mv mv⟩
 ·rcases BV e with ⟨rfl,e',hl⟩|⟨n,e'⟩
  ·cases e'
   exact ⟨p,vs,by rw [List.getElem?_set];simp [s.len,hl],hp,r.mv mv,b0,nt,nb⟩
  ·obtain ⟨q,ws,h1,h2,h3,h4,h5,h6⟩:=s.own j ys e'
   exact ⟨q,ws,by rw [List.getElem?_set_ne (λz=>n z.symm)];exact h1,h2,h3.mv mv,h4,h5,λz=>h6 (.inl z)⟩
 ·rcases BV e1 with ⟨a1,_,_⟩|⟨n,e1'⟩
  ·rcases BV e2 with ⟨a2,_,_⟩|⟨n2,e2'⟩
   ·rw [a1,a2]
   ·subst a1
    rw [List.getElem?_set_ne (λz=>n2 z.symm)] at e4
    rcases BV e3 with ⟨_,e',_⟩|⟨n,_⟩
    ·cases e';exact absurd ⟨k,zs,e2',e4⟩ no
    ·exact absurd rfl n
  ·rw [List.getElem?_set_ne (λz=>n z.symm)] at e3
   rcases BV e2 with ⟨a2,_,_⟩|⟨n2,e2'⟩
   ·subst a2
    rcases BV e4 with ⟨_,e',_⟩|⟨n,_⟩
    ·cases e';exact absurd ⟨j,ys,e1',e3⟩ no
    ·exact absurd rfl n
   ·rw [List.getElem?_set_ne (λz=>n2 z.symm)] at e4
    exact s.dist j k ys zs q e1' e2' e3 e4
theorem SR.write {i:Nat} {p:Addr} {ws vs:List V} {xs ys:List PV} (s:SR K B T H σ τ) (ht:τ[i]? =some (some (.own xs))) (hs:σ[i]? =some (some (.ref p))) (hp:H p=some (.lst ws)) (r:A3 K T (mt B σ τ) H vs ys):
 SR K B T (upd H p (.lst vs)) σ (τ.set i (some (.own ys)))/\Em T H σ τ T (upd H p (.lst vs)) σ (τ.set i (some (.own ys))):=by
 obtain ⟨p',ws',e1,e2,r0,b0,nt,nb⟩:=s.own i xs ht
 rw [hs] at e1;cases e1
 have qu:σ.set i (some (.ref p))=σ:=by
  apply List.ext_getElem?
  intro k
  by_cases hk:i=k
  ·subst hk
   rw [List.getElem?_set,hs]
   simp [(List.getElem?_eq_some_iff.mp hs).1]
  ·rw [List.getElem?_set_ne hk]
 have owp:C2 σ τ p:=⟨i,xs,ht,hs⟩
 have ow:∀b,C2 σ (τ.set i (some (.own ys))) b->C2 σ τ b:=λb h=>by
  obtain ⟨j,zs,h1,h2⟩:=h
  rcases BV h1 with ⟨rfl,e,_⟩|⟨n,ZE⟩
  ·exact ⟨j,xs,ht,h2⟩
  ·exact ⟨j,zs,ZE,h2⟩
 have mv:Mv K T (mt B σ τ) H T (mt B σ (τ.set i (some (.own ys)))) (upd H p (.lst vs)):=⟨s.va,λb o _ m e=>by
  rw [Ak (λz=>m (by subst z;exact .inr owp))];exact e,λ_ t=>t,λ_ _ t=>t,λb _ m=>m.elim .inl λz=> .inr (ow b z)⟩
 refine ⟨⟨by simp [s.len],λj y e=> ?_,λj zs e=> ?_,λj k zs us q h1 h2 h3 h4=> ?_,λa t=> ?_,λa m=> ?_,s.bt, ?_⟩,⟨λb o t w e=>by rw [Ak (λz=>w (by subst z;exact owp))];exact e,λ_ t=>t,λ_ t=> .inl t,λb o=> .inl (ow b o),λb h=> ?_⟩⟩
 ·rcases BV e with ⟨_,e',_⟩|⟨n,e'⟩
  ·cases e'
  ·obtain ⟨v,h,rr⟩:=s.val j y e'
   exact ⟨v,h,rr.mv mv⟩
 ·rcases BV e with ⟨rfl,e',_⟩|⟨n,e'⟩
  ·cases e'
   exact ⟨p,vs,hs,A6,r.mv mv,b0,nt,nb⟩
  ·obtain ⟨q,us,h1,h2,h3,h4⟩:=s.own j zs e'
   have hq:q≠p:=λz=>by subst z;exact n (s.dist j i zs xs q e' ht h1 hs)
   exact ⟨q,us,h1,by rw [Ak hq];exact h2,h3.mv mv,h4⟩
 ·rcases BV h1 with ⟨rfl,_,_⟩|⟨n,ZE⟩
  ·rcases BV h2 with ⟨rfl,_,_⟩|⟨n2,iU⟩
   ·rfl
   ·exact s.dist _ k xs us q ht iU h3 h4
  ·rcases BV h2 with ⟨rfl,_,_⟩|⟨n2,iU⟩
   ·exact s.dist j _ zs xs q ZE ht h3 h4
   ·exact s.dist j k zs us q ZE iU h3 h4
 ·obtain ⟨d,x,e,z⟩:=s.tp a t
  exact ⟨d,x,by rw [Ak (λw=>by subst w;exact nt t)];exact e,z⟩
 ·obtain ⟨o,e,z⟩:=s.bm a m
  exact ⟨o,by rw [Ak (λw=>by subst w;exact nb m)];exact e,z⟩
 ·refine ⟨λb o t e=> ?_,s.st.sub,s.st.new,λa t=> ?_⟩
  ·rw [Ak (λw=>by subst w;rw [b0] at e;cases e)];exact s.st.keep b o t e
  ·obtain ⟨d,x,e,z⟩:=s.tp a t
   exact ⟨d,x,by rw [Ak (λw=>by subst w;exact nt t)];exact e,z⟩
 ·by_cases z:b=p
  ·subst z;rw [A6];exact λe=>nomatch e
  ·rw [Ak z];exact h
end
section
variable {X:Cx} {st:Stmt} {rest:List Stmt} {e:Expr} {pos:Pos} {a b:AS} {ta:AE}
def Uv (ta:AE):AE:=λτ Q=>ta (frz τ) λx=>XR x=true/\Q x
theorem S9 (h:SE X e ta):SE X e (Uv ta):=by
 obtain ⟨t,p,s⟩:=h
 refine ⟨t,p,λB T σ τ H Q AQ sr h k=>s B T σ (frz τ) H _ _ sr.frz h λv x T1 H1 s1 r1 h1=> ?_⟩
 exact k v x T1 H1 s1 (r1.free h1.1) h1.2
def Qj (tt:AT):AT:=λτ Q=>tt (frz τ) Q
theorem YC {tt:AT} (h:Qf X e tt):Qf X e (Qj tt):=by
 obtain ⟨t,p,s⟩:=h
 exact ⟨t,p,λB T σ τ H Q AQ sr h k=>s B T σ (frz τ) H _ _ sr.frz h λb T1 H1 s1 h1=>k b T1 H1 s1 h1⟩
def BI:AS:=λD τ=>D.nx τ
def Ad (a b:AS):AS:=λD τ=>a {D with nx:=b D} τ
theorem A4:Yq X [] BI:=⟨_,Pj,λB T σ τ H D AD sr h er=>er.nx T H σ τ .refl sr h⟩
theorem AM (h1:SS X st a) (h2:Yq X rest b):Yq X (st::rest) (Ad a b):=by
 obtain ⟨t,p,s⟩:=h1
 obtain ⟨t',p',s'⟩:=h2
 exact ⟨_,DD p p',λB T σ τ H D AD sr h er=>s B T σ τ H _ _ sr h ⟨λT' H' σ' τ' q sr' h'=>s' B T' σ' τ' H' D AD sr' h' (er.shift q),er.bk,er.ct,er.rt⟩⟩
theorem AR (h1:SS X st a):Yq X [st] a:=let ⟨_,p,s⟩:=h1;⟨_,IS p,s⟩
def Ay (ta:AE):AS:=λD τ=>ta (frz τ) D.rt
theorem AZ (h:SE X e ta):SS X (.Return (some e) pos) (Ay ta):=by
 obtain ⟨t,p,s⟩:=h
 refine ⟨_,Pi p,λB T σ τ H D AD sr h er=>s B T σ (frz τ) H _ _ sr.frz h λv x T1 H1 s1 r1 h1=> ?_⟩
 exact er.rt v x T1 H1 (sr.st.trans s1) (r1.mv (.anti (sr.frz.stp s1).va λa m=> .inl m)) h1
def Bx (c:AT) (a b:AS):AS:=λD τ=>c τ λk=>if k=true then a D τ else b D τ
theorem BL {c:Expr} {x y:List Stmt} {tc:AT} (hc:Qf X c tc) (ha:Yq X x a) (hb:Yq X y b):SS X (.If c x y pos) (Bx tc a b):=by
 obtain ⟨t,p,s⟩:=hc
 obtain ⟨t1,p1,s1'⟩:=ha
 obtain ⟨t2,p2,s2'⟩:=hb
 refine ⟨_,Xh p p1 p2,λB T σ τ H D AD sr h er=>s B T σ τ H _ _ sr h λk T1 H1 s1 h1=> ?_⟩
 cases k with
 | true=>rw [if_pos rfl] at h1 ⊢;exact s1' B T1 σ τ H1 D AD (sr.stp s1) h1 (er.shift s1.prog)
 | false=>rw [if_neg Bool.false_ne_true] at h1 ⊢;exact s2' B T1 σ τ H1 D AD (sr.stp s1) h1 (er.shift s1.prog)
abbrev AG:=PV->BG->(BG->Prop)->Prop
abbrev Rq:=List PV->BG->(BG->Prop)->Prop
def Kv (K:PySem.W.Frag) (g:TG) (ag:AG):Prop:=∀(B:Cq) (T:Addr->Prop) (σ:L2.St) (τ:BG) (H:Hp) (v:V) (x:PV) (Q:L2.St->Hp->Prop) (AQ:BG->Prop),SR K B T H σ τ->Cf K T (mt B σ τ) H v x->ag x τ AQ->
 (∀σ' τ',SR K B T H σ' τ'->(∀b,C2 σ' τ' b->C2 σ τ b)->AQ τ'->Q σ' H)->g v σ H Q
def N3 (K:PySem.W.Frag) (g:R0) (ag:Rq):Prop:=∀(B:Cq) (T:Addr->Prop) (σ:L2.St) (τ:BG) (H:Hp) (vs:List V) (xs:List PV) (Q:L2.St->Hp->Prop) (AQ:BG->Prop),SR K B T H σ τ->A3 K T (mt B σ τ) H vs xs->ag xs τ AQ->
 (∀σ' τ',SR K B T H σ' τ'->(∀b,C2 σ' τ' b->C2 σ τ b)->AQ τ'->Q σ' H)->g vs σ H Q
def SG (X:Cx) (tg:Expr) (ag:AG):Prop:=∃g,PG X tg g/\Kv X.K g ag
def iO (X:Cx) (tg:List Expr) (ag:Rq):Prop:=∃g,eB X tg g/\N3 X.K g ag
def A0 (i:Nat):AG:=λx τ Q=>Q (τ.set i (some (.val x)))
theorem P3 {K:PySem.W.Frag} {i:Nat}:Kv K (II i) (A0 i):=λB T σ τ H v x Q AQ sr r h k=>k _ _ (sr.set r) (λb o=>C1 o) h
theorem Ej {i:Nat} {x:Str} (hN:X.N.Nodup) (hi:X.N[i]? =some x) (hx:Loc X.env.scope x) (hf:X.fn x=true\/X.env.scope.names.lookup x=some .local:=by first | exact .inl rfl|exact .inr rfl|assumption):SG X (.Name x pos) (A0 i):=
 ⟨_,UH hN hi hx hf,P3⟩
def Cg:Rq:=λxs τ Q=>match xs with | [] =>Q τ|_=>False
def Aq (g:AG) (r:Rq):Rq:=λxs τ Q=>match xs with | x::t=>g x τ λτ'=>r t τ' Q | [] =>False
theorem Ri {K:PySem.W.Frag}:N3 K Wl Cg:=λB T σ τ H vs xs Q AQ sr r h k=>by
 cases r with
 | nil=>exact ⟨rfl,k σ τ sr (λ_ o=>o) h⟩
 | cons _ _=>exact h.elim
theorem OT {K:PySem.W.Frag} {g:TG} {gs:R0} {ag:AG} {ags:Rq} (h1:Kv K g ag) (h2:N3 K gs ags):N3 K (Qu g gs) (Aq ag ags):=λB T σ τ H vs xs Q AQ sr r h k=>by
 cases r with
 | nil=>exact h.elim
 | cons r t=>
   refine ⟨_,_,rfl,h1 B T σ τ H _ _ _ _ sr r h λσ1 τ1 sr1 o1 q1=> ?_⟩
   exact h2 B T σ1 τ1 H _ _ Q AQ sr1 (t.mv (.anti sr.va λa m=>m.elim .inl λz=> .inr (o1 a z))) q1 λσ2 τ2 sr2 o2 q2=>k σ2 τ2 sr2 (λb o=>o1 b (o2 b o)) q2
theorem Cp:iO X [] Cg:=⟨_,UI,Ri⟩
theorem Ap {es:List Expr} {ag:AG} {ags:Rq} (h1:SG X e ag) (h2:iO X es ags) (hs:(assignEach (e::es) X.env).map (·.2)=assign e X.env::(assignEach es X.env).map (·.2):=by rfl):iO X (e::es) (Aq ag ags):=
 let ⟨_,p,s⟩:=h1;let ⟨_,p',s'⟩:=h2;⟨_,RS p p' hs,OT s s'⟩
def As (ta:AE) (g:AG):AS:=λD τ=>ta τ λx=>g x τ D.nx
theorem P2 {K:PySem.W.Frag} {t:TE} {g:TG} {ag:AG} (s:Fn K t ta) (s':Kv K g ag):WJ K (YE t g) (As ta ag):=λB T σ τ H D AD sr h er=>s B T σ τ H _ _ sr h λv x T1 H1 s1 r1 h1=>
 s' B T1 σ τ H1 v x _ _ (sr.stp s1) r1 h1 λσ2 τ2 sr2 o2 q2=>er.nx T1 H1 σ2 τ2 (s1.prog.trans (.less o2)) sr2 q2
theorem M3 {tg:Expr} {ag:AG} (he:SE X e ta) (hg:SG X tg ag) (hs:swapsWithSole [tg] e pos.line X.env=pure false:=by rfl) (hw:swappedStores [tg] e X.env=pure none:=by rfl)
 (h1:(assignEach [tg] X.env).map (·.2)= [assign tg X.env] :=by rfl):SS X (.Assign [tg] e pos) (As ta ag):=
 let ⟨_,p,s⟩:=he;let ⟨_,p',s'⟩:=hg;⟨_,Ph p p' hs hw h1,P2 s s'⟩
theorem GR {i:Nat} {x:Str} {pos':Pos} (hN:X.N.Nodup) (hi:X.N[i]? =some x) (hx:Loc X.env.scope x) (he:SE X e ta) (hs:swapsWith e (some (.Name x pos')) pos.line X.env=pure false:=by rfl) (hf:X.fn x=true\/X.env.scope.names.lookup x=some .local:=by first | exact .inl rfl|exact .inr rfl|assumption):
 SS X (.Assign [.Name x pos'] e pos) (As ta (A0 i)):=let ⟨_,p,s⟩:=he;⟨_,HW hN hi hx p hs hf,P2 s P3⟩
def L3 (r:AA) (i:Nat):AS:=λD τ=>r τ λxs=>D.nx (τ.set i (some (.own xs)))
theorem Z1 {K:PySem.W.Frag} {t:TE} {r:AA} {i:Nat} (s:Ys K t r):WJ K (YE t (II i)) (L3 r i):=λB T σ τ H D AD sr h er=>s B T σ τ H _ _ sr h λp vs xs T1 H1 s1 sr1 hn hp nt r1 h1=>by
 have no:¬C2 σ τ p:=λo=>by obtain ⟨_,e,_⟩:=sr.ownH o;rw [hn] at e;cases e
 have nb:¬B.M p:=λo=>by obtain ⟨_,e,_⟩:=sr.bm p o;rw [hn] at e;cases e
 refine er.nx T1 H1 _ _ ⟨λb o t _ e=>s1.keep b o t e,s1.sub,s1.new,λb o=> ?_,λb h=>s1.some h⟩ (sr1.take hp nt no nb (sr.st.none hn) r1) h1
 rcases KJ o with z|z
 ·exact .inl z
 ·subst z;exact .inr hn
theorem GQ {i:Nat} {x:Str} {pos':Pos} {r:AA} (hN:X.N.Nodup) (hi:X.N[i]? =some x) (hx:Loc X.env.scope x) (he:SF X e r) (hs:swapsWith e (some (.Name x pos')) pos.line X.env=pure false:=by rfl) (hf:X.fn x=true\/X.env.scope.names.lookup x=some .local:=by first | exact .inl rfl|exact .inr rfl|assumption):
 SS X (.Assign [.Name x pos'] e pos) (L3 r i):=let ⟨_,p,s⟩:=he;⟨_,HW hN hi hx p hs hf,Z1 s⟩
def Ov (i j:Nat) (r:AA):AS:=λD τ=>r τ λxs=>match xs with | [x,y] =>D.nx ((τ.set i (some (.val x))).set j (some (.val y)))|_=>False
theorem M4 {i j:Nat} {x y:Str} {c d:Expr} {r:AA} {px py pt:Pos} {kt k2 pt2} (hc:X.calm=true) (hN:X.N.Nodup) (hi:X.N[i]? =some x) (hj:X.N[j]? =some y) (jc:i≠j)
 (hx:X.env.scope.names.lookup x=some .local) (hy:X.env.scope.names.lookup y=some .local) (ha:SA X [c,d] r)
 (hw:swappedStores [.Tuple [.Name x px, .Name y py] kt pt] (.Tuple [c,d] k2 pt2) X.env=pure (some [x,y]))
 (hs:swapsWithSole [.Tuple [.Name x px, .Name y py] kt pt] (.Tuple [c,d] k2 pt2) pos.line X.env=pure false:=by rfl):
 SS X (.Assign [.Tuple [.Name x px, .Name y py] kt pt] (.Tuple [c,d] k2 pt2) pos) (Ov i j r):=by
 obtain ⟨t,p,s⟩:=ha
 refine ⟨_,dG hc hN hi hj jc hx hy p hw hs,λB T σ τ H D AD sr h er=>s B T σ τ H _ _ sr h λvs xs T1 H1 s1 r1 h1=> ?_⟩
 cases r1 with
 | nil=>exact h1.elim
 | cons ra ta=>
   cases ta with
   | nil=>exact h1.elim
   | cons rb tb=>
     cases tb with
     | cons _ _=>exact h1.elim
     | nil=>
       have sr1:=sr.stp s1
       refine ⟨_,_,rfl,er.nx T1 H1 _ _ ?_ ((sr1.set (i:=i) ra).set (i:=j) (rb.mv (.anti sr1.va λa m=>m.elim .inl λz=> .inr (C1 z)))) h1⟩
       exact s1.prog.trans (.less λb o=>C1 (C1 o))
def Uu (i:Nat) (f:HG) (ta:AE):AS:=λD τ=>match QK τ i with | some (.val x)=>ta τ λy=>f x y λz=>D.nx (τ.set i (some (.val z)))|_=>False
theorem df {i:Nat} {x:Str} {op:Operator} {ti:iR} {f:HG} {pos':Pos} (hN:X.N.Nodup) (hi:X.N[i]? =some x) (hx:Loc X.env.scope x) (he:SE X e ta) (ho:iM X op ti/\Bu X.K ti f) (hf:X.fn x=true\/X.env.scope.names.lookup x=some .local:=by first | exact .inl rfl|exact .inr rfl|assumption):
 SS X (.AugAssign (.Name x pos') op e pos) (Uu i f ta):=by
 obtain ⟨t,p,s⟩:=he
 refine ⟨_,dE hN hi hx p ho.1 hf,λB T σ τ H D AD sr h er=> ?_⟩
 unfold Uu at h
 split at h <;> first | exact h.elim|skip
 rename_i y ey
 obtain ⟨v,ev,rv⟩:=sr.val i y (MR ey)
 refine ⟨v,ev,s B T σ τ H _ _ sr h λw z T1 H1 s1 r1 h1=> ?_⟩
 refine ho.2 T1 _ H1 v w y z _ _ (sr.stp s1).va (rv.stp s1 sr.va) r1 h1 λu q T2 H2 s2 r2 h2=> ?_
 exact er.nx T2 H2 _ _ ((s1.trans s2).prog.trans (.less λb o=>C1 o)) (((sr.stp s1).stp s2).set r2) h2
def L4 (i:Nat) (τ:BG) (R:List PV->Prop):Prop:=match QK τ i with | some (.own xs)=>R xs|_=>False
theorem TW {i:Nat} {τ:BG} {R:List PV->Prop} (h:L4 i τ R):∃xs,τ[i]? =some (some (.own xs))/\R xs:=by
 unfold L4 at h
 cases e:QK τ i with
 | none=>rw [e] at h;exact h.elim
 | some z=>
   rw [e] at h
   cases z with
   | val x=>exact h.elim
   | own xs=>exact ⟨xs,MR e,h⟩
abbrev bO:=List PV->List PV->(List PV->Prop)->Prop
def Yt (K:PySem.W.Frag) (r:V->List V->Hp->VK->Prop) (f:bO):Prop:=∀(T M:Addr->Prop) (H:Hp) (l:Addr) (ws vs:List V) (xs ys:List PV) (Q:VK) (AQ:List PV->Prop),H l=some (.lst ws)->A3 K T M H ws xs->A3 K T M H vs ys->f xs ys AQ->
 (∀ws' xs',A3 K T M H ws' xs'->AQ xs'->Q .non (upd H l (.lst ws')))->r (.ref l) vs H Q
def Fg (i:Nat) (f:bO) (r:AA):AS:=λD τ=>L4 i τ λxs=>r τ λys=>f xs ys λzs=>D.nx (τ.set i (some (.own zs)))
theorem X2 {K:PySem.W.Frag} {i:Nat} {rr:V->List V->Hp->VK->Prop} {f:bO} {t:TA} {r:AA} (hm:Yt K rr f) (s:bP K t r):WJ K (bA (mZ K "list" rr (dj i) t)) (Fg i f r):=λB T σ τ H D AD sr h er=>by
 obtain ⟨xs,e,h⟩:=TW h
 obtain ⟨p,vs,e1,hp,r1,b0,nt,nb⟩:=sr.own i xs e
 refine ⟨.ref p,e1, .inl ⟨rfl,vs, .inl (.inl hp)⟩,s B T σ τ H _ _ sr h λus ys T1 H1 s1 r2 h2=> ?_⟩
 have sr1:=sr.stp s1
 refine hm T1 (mt B σ τ) H1 p vs us xs ys _ _ (s1.keep _ _ nt hp) (r1.stp s1 sr.va) r2 h2 λws' zs r3 h3=> ?_
 obtain ⟨sr3,pr3⟩:=sr1.write (i:=i) (xs:=xs) e e1 (s1.keep _ _ nt hp) r3
 exact er.nx T1 _ _ _ (s1.prog.trans pr3) sr3 h3
theorem El {i:Nat} {x name:Str} {es:List Expr} {id:String} {rr:V->List V->Hp->VK->Prop} {f:bO} {r:AA} {p apos cpos:Pos} (slot:Slot "list" name id) (js:typeOf (.builtin id)=pure (.type "method_descriptor")) (hm:fC X id rr/\Yt X.K rr f) (ha:SA X (e::es) r)
 (hN:X.N[i]? =some x:=by rfl) (hv:bS X.env.scope x:=by first | exact Or.inl rfl|exact Or.inr (Or.inl rfl)|exact Or.inr (Or.inr rfl)) (hd:(x==("__debug__" :Str))=false:=by decide) (NB:(x==("__classdict__" :Str))=false:=by decide)
 (Wx:attributeBase (.Name x p) name X.env (eval (.Name x p) X.env)=eval (.Name x p) X.env:=by rfl)
 (cF:((backTo cpos (starEach (e::es) X.env)).all (λx=> !x.1)&&(backToKw cpos (keywordEach [] X.env)).all (λx=>x.1.isSome)
   && decide ((e::es).length+([] :List Keyword).length+(if ([] :List Keyword).isEmpty then 0 else 1)<30))=true:=by rfl)
 (Tt:(apos.endLine==cpos.line)=true:=by rfl) (hs:starEach (e::es) X.env=(false,eval e X.env)::starEach es X.env:=by rfl) (SZ:(backTo cpos (starEach es X.env)).any (·.1)=false:=by rfl)
 (fj:swapsWith (.Call (.Attribute (.Name x p) name apos) (e::es) [] cpos) none pos.line X.env=pure false:=by rfl):
 SS X (.Expr (.Call (.Attribute (.Name x p) name apos) (e::es) [] cpos) pos) (Fg i f r):=by
 obtain ⟨t,pa,s⟩:=ha
 exact ⟨_,Zr (gU PySem.F.plainAttrs_list slot js hm.1 (Pg hN hv hd NB) pa Wx cF Tt hs SZ) fj,X2 hm.2 s⟩
def Nh:bO:=λxs ys Q=>match ys with | [y] =>xs.length<sizeLine/\Q (xs ++ [y])|_=>False
theorem EC:fC X "list.append" Pm/\Yt X.K Pm Nh:=by
 refine ⟨Jl,λT M H l ws vs xs ys Q AQ hl r1 r2 h k=> ?_⟩
 unfold Nh at h
 split at h <;> first | exact h.elim|skip
 cases r2 with
 | cons ry t=>
   cases t
   exact ⟨l,ws,_,rfl,rfl,hl,by rw [r1.length];exact h.1,k _ _ (r1.append (.cons ry .nil)) h.2⟩
def XH:bO:=λxs ys Q=>match ys with | [.int i,y] =>(0<=i/\i<=(xs.length:Int)/\xs.length<sizeLine)/\Q (xs.take i.toNat++y::xs.drop i.toNat)|_=>False
theorem OV:fC X "list.insert" Pn/\Yt X.K Pn XH:=by
 refine ⟨VX,λT M H l ws vs xs ys Q AQ hl r1 r2 h k=> ?_⟩
 unfold XH at h
 split at h <;> first | exact h.elim|skip
 cases r2 with
 | cons ri t=>
   cases t with
   | cons ry t=>
     cases t;cases ri
     obtain ⟨⟨h1,h2,h3⟩,h4⟩:=h
     exact ⟨l,ws,_,_,rfl,rfl,hl,h1,by rw [r1.length];exact h2,by rw [r1.length];exact h3,k _ _ ((r1.take _).append (.cons ry (r1.drop _))) h4⟩
def Zc (o:Option Nat) (R:Nat->Prop):Prop:=match o with | some j=>R j|none=>False
theorem cm {o:Option Nat} {R:Nat->Prop} (h:Zc o R):∃z,o=some z/\R z:=by
 cases o <;> first | exact ⟨_,rfl,h⟩|exact h.elim
def Yu (i:Nat) (ti ta:AE):AS:=λD τ=>ta τ λy=>L4 i τ λxs=>ti τ λk=>YY k λk=>Zc (RC xs.length k) λj=>D.nx (τ.set i (some (.own (xs.set j y))))
theorem YB {i:Nat} {x:Str} {ix:Expr} {ti:AE} {p tpos:Pos} (hi:SE X ix ti) (he:SE X e ta) (hN:X.N[i]? =some x:=by rfl) (hv:bS X.env.scope x:=by first | exact Or.inl rfl|exact Or.inr (Or.inl rfl)|exact Or.inr (Or.inr rfl)) (hd:(x==("__debug__" :Str))=false:=by decide) (NB:(x==("__classdict__" :Str))=false:=by decide)
 (ha:∀v,assign (.Subscript (.Name x p) ix tpos) X.env v=(do
   let ov <-holding [v] (eval (.Name x p) X.env)
   let iv <-holding [v,ov] (eval ix X.env)
   standAt tpos
   holding [v,ov,iv] (setItem ov iv v)
   release [v,ov,iv] []):=by intro _;rfl)
 (hs:swapsWithSole [.Subscript (.Name x p) ix tpos] e pos.line X.env=pure false:=by rfl) (hw:swappedStores [.Subscript (.Name x p) ix tpos] e X.env=pure none:=by rfl)
 (h1:(assignEach [.Subscript (.Name x p) ix tpos] X.env).map (·.2)= [assign (.Subscript (.Name x p) ix tpos) X.env] :=by rfl):SS X (.Assign [.Subscript (.Name x p) ix tpos] e pos) (Yu i ti ta):=by
 obtain ⟨t,pt,s⟩:=hi
 obtain ⟨t',pt',s'⟩:=he
 refine ⟨_,Ph pt' (S1 (Pg hN hv hd NB) pt Mq ha) hs hw h1,λB T σ τ H D AD sr h er=>s' B T σ τ H _ _ sr h λv y T1 H1 s1 r1 h1=> ?_⟩
 have sr1:=sr.stp s1
 obtain ⟨xs,e,h1⟩:=TW h1
 obtain ⟨q,vs,e1,hp,r2,b0,nt,nb⟩:=sr1.own i xs e
 refine ⟨.ref q,e1,s B T1 σ τ H1 _ _ sr1 h1 λw k T2 H2 s2 r3 h3=> ?_⟩
 obtain ⟨k,rfl,h3⟩:=Pd h3
 obtain ⟨j,ej,h3⟩:=cm h3
 cases r3.toI
 have sr2:=sr1.stp s2
 obtain ⟨sr4,pr4⟩:=sr2.write (i:=i) (xs:=xs) e e1 (s2.keep _ _ nt hp) (((r2.stp s2 sr1.va)).set (r1.stp s2 sr1.va) j)
 exact ⟨q,vs,k,j,rfl,rfl,s2.keep _ _ nt hp,by rw [r2.length];exact ej,er.nx T2 _ _ _ ((s1.trans s2).prog.trans pr4) sr4 h3⟩
end
end PL
end
section
namespace PL
open PySem PySem.Spec PyProof.Rows L2
section
variable {X:Cx} {st:Stmt} {e:Expr} {pos:Pos} {a b:AS} {ta:AE}
def Rn (c:AT) (b:AS) (D:Ft):Nat->BG->Prop
 | 0,_=>False
 | n+1,τ=>c (frz τ) λk=>if k=true then b {D with nx:=Rn c b D n,ct:=Rn c b D n,bk:=D.nx} τ else D.nx τ
def Jc (c:AT) (b:AS):AS:=λD τ=>∃n,Rn c b D n τ
theorem Iw {c:Expr} {body:List Stmt} {tc:AT} (hp:PassesOwn (model X.prog X.w) X.A X.env X.xe) (hc:Qf X c tc) (hb:Yq X body b):SS X (.While c body [] pos) (Jc tc b):=by
 obtain ⟨t,p,s⟩:=hc
 obtain ⟨t',p',s'⟩:=hb
 refine ⟨_,Xi hp p p',λB T σ τ H D AD sr h er=> ?_⟩
 obtain ⟨n,h⟩:=h
 refine ⟨λm σ1 H1=>∃T1 τ1,SR X.K B T1 H1 σ1 τ1/\Em T H σ τ T1 H1 σ1 τ1/\Rn tc b AD m τ1,⟨n,T,τ,sr, .refl,h⟩, ?_⟩
 rintro m σ1 H1 ⟨T1,τ1,sr1,pr1,h1⟩
 cases m with
 | zero=>exact h1.elim
 | succ m=>
   refine s B T1 σ1 (frz τ1) H1 _ _ sr1.frz h1 λk T2 H2 s2 h2=> ?_
   have sr2:=sr1.stp s2
   have er2:=(er.shift pr1).shift s2.prog
   cases k with
   | false=>rw [if_neg Bool.false_ne_true] at h2 ⊢;exact er2.nx T2 H2 σ1 τ1 .refl sr2 h2
   | true=>
     rw [if_pos rfl] at h2 ⊢
     refine ⟨λσ' H'=>∃T' τ',SR X.K B T' H' σ' τ'/\Em T H σ τ T' H' σ' τ'/\Rn tc b AD m τ',λσ' H' q=>⟨m,Nat.lt_succ_self m,q⟩, ?_⟩
     exact s' B T2 σ1 τ1 H2 _ _ sr2 h2 ⟨λT' H' σ' τ' q sr' h'=>⟨T',τ',sr',(pr1.trans s2.prog).trans q,h'⟩,er2.nx,λT' H' σ' τ' q sr' h'=>⟨T',τ',sr',(pr1.trans s2.prog).trans q,h'⟩,er.rt⟩
abbrev AI:=BG->(List PV->Prop)->Prop
structure Ry (K:PySem.W.Frag) (M:Addr->Prop) (J:It) (xs:List PV) (T:Addr->Prop) (H:Hp):Prop where
 go:∀i y,xs[i]? =some y->J.go i H
 yld:∀i y v H',xs[i]? =some y->J.yld i H v H'->Dn T H T H'/\Cf K T M H' v y
 stop:∀i,xs.length<=i->J.stop i H
def TR (T:Addr->Prop) (H H2:Hp):Prop:=∀b o,¬T b->H b=some o->H2 b=some o
def bQ (K:PySem.W.Frag) (s:Bool) (wi:TI) (ai:AI):Prop:=∀(B:Cq) (T:Addr->Prop) (σ:L2.St) (τ:BG) (H:Hp) (R:It->Hp->Prop) (AQ:List PV->Prop),SR K B T H σ τ->ai τ AQ->
 (∀J xs T' H',Dn T H T' H'->(∀M2 T2 H2,Mv K T' (mt B σ τ) H' T2 M2 H2->J9 T2 M2 H2->(s=true\/TR T' H' H2)->Ry K M2 J xs T2 H2)->AQ xs->R J H')->wi σ H R
def SI (X:Cx) (tg iter:Expr) (s:Bool) (ai:AI):Prop:=∃wi,PI X tg iter wi/\bQ X.K s wi ai
def jw (K:PySem.W.Frag) (tl:TE):TI:=λσ H R=>tl σ H λx H1=>∃a,x= .ref a/\(((∃xs,Ff K H1 a xs)/\R (jB K a) H1)\/((∃xs,Kx K H1 a xs)/\R (jC K a) H1))
theorem dD {tg l:Expr} {tl:TE} (hl:PE X l tl):PI X tg l (jw X.K tl):=by
 intro pins s σ H R I h
 refine Bq (hl pins s σ H _ I h) λv s1 ⟨x,H1,I1,r1,q1⟩=> ?_
 obtain ⟨a,e,q⟩:=q1
 subst e
 cases r1
 rcases q with ⟨⟨xs,hq⟩,q⟩|⟨⟨xs,hq⟩,q⟩
 ·obtain ⟨its,rv,p,hz⟩:=I1.list hq
  refine wpAny_pyIter_list p.isList ?_
  refine ⟨s1.heap.objs.size, [s1.heap.objs.size],_,_,H1,rfl,I1.kept (t':=s1.toks) λb o e=>Heap.get?_push_of_some _ e,Vu a _,⟨_,Heap.get?_push_size _ rfl,rfl,rfl⟩,λb hb=> ?_,q⟩
  have e:b=s1.heap.objs.size:=by simpa using hb
  subst e
  exact I1.fpOk (Nat.le_refl _) (I1.hok.fresh (Nat.le_refl _))
 ·obtain ⟨its,rv,p,hz⟩:=I1.tuple hq
  refine wpAny_pyIter_tuple (show s1.heap.IsTuple a its.toArray from p) ?_
  refine ⟨s1.heap.objs.size, [s1.heap.objs.size],_,_,H1,rfl,I1.kept (t':=s1.toks) λb o e=>Heap.get?_push_of_some _ e,TK a _,⟨_,Heap.get?_push_size _ rfl,rfl,rfl⟩,λb hb=> ?_,q⟩
  have e:b=s1.heap.objs.size:=by simpa using hb
  subst e
  exact I1.fpOk (Nat.le_refl _) (I1.hok.fresh (Nat.le_refl _))
def NU (ta:AE):AI:=λτ Q=>ta τ λx=>Rp x Q
theorem W7 {K:PySem.W.Frag} {T M:Addr->Prop} {H:Hp} {a:Addr} {xs:List PV} (va:J9 T M H) (r:Cf K T M H (.ref a) (.tup xs)):Ry K M (jC K a) xs T H:=by
 obtain ⟨a',vs,e,hq,rs⟩:=Du r
 cases e
 refine ⟨λi y h=> ?_,λi y v H' h yl=> ?_,λi h=>⟨vs,hq,by rw [rs.length];exact h⟩⟩
 ·obtain ⟨v,hv,_⟩:=rs.get h
  exact ⟨vs,v,hq,hv⟩
 ·obtain ⟨rfl,yl⟩:=yl
  obtain ⟨z,hz,rz⟩:=rs.get' (yl vs hq)
  rw [h] at hz;cases hz
  exact ⟨.refl va.tp,rz⟩
theorem W6 {K:PySem.W.Frag} {T M:Addr->Prop} {H:Hp} {a:Addr} {vs:List V} {xs:List PV} (va:J9 T M H) (hq:H a=some (.lst vs)) (rs:A3 K T M H vs xs):Ry K M (jB K a) xs T H:=by
 have Tu:Ff K H a vs:= .inl (.inl hq)
 refine ⟨λi y h=> ?_,λi y v H' h yl=> ?_,λi h=>⟨vs,Tu,by rw [rs.length];exact h⟩⟩
 ·obtain ⟨v,hv,_⟩:=rs.get h
  exact ⟨vs,v,Tu,hv⟩
 ·obtain ⟨rfl,yl⟩:=yl
  obtain ⟨z,hz,rz⟩:=rs.get' (yl vs Tu)
  rw [h] at hz;cases hz
  exact ⟨.refl va.tp,rz⟩
theorem FV {tg:Expr} (h:SE X e ta):SI X tg e true (NU ta):=by
 obtain ⟨t,p,s⟩:=h
 refine ⟨_,dD p,λB T σ τ H R AQ sr h k=>s B T σ τ H _ _ sr h λv x T1 H1 s1 r1 h1=> ?_⟩
 obtain ⟨xs,hx,q⟩:=Ma h1
 rcases hx with rfl|rfl
 ·obtain ⟨a,vs,rfl,hq,rs⟩:=Du r1
  refine ⟨a,rfl, .inr ⟨⟨vs,hq⟩,k _ xs T1 H1 s1 (λM2 T2 H2 mv va _=>W7 va (r1.mv mv)) q⟩⟩
 ·obtain ⟨a,vs,rfl,hq,nt,nm,rs⟩:=EL r1
  refine ⟨a,rfl, .inl ⟨⟨vs, .inl (.inl hq)⟩,k _ xs T1 H1 s1 (λM2 T2 H2 mv va _=> ?_) q⟩⟩
  obtain ⟨a',vs',e',Tu,_,_,rs'⟩:=EL (r1.mv mv)
  cases e'
  exact W6 va Tu rs'
def rng (lo:Int) (n:Nat):List PV:=(List.range n).map λ(k:Nat)=> .int (lo+(k:Int))
theorem RB {K:PySem.W.Frag} {T M:Addr->Prop} {H:Hp} {lo:Int} {n:Nat} (va:J9 T M H):Ry K M (fB lo n) (rng lo n) T H:=by
 have hl:(rng lo n).length=n:=by simp [rng]
 refine ⟨λi y h=> ?_,λi y v H' h yl=> ?_,λi h=>by rw [hl] at h;exact h⟩
 ·have:=(List.getElem?_eq_some_iff.mp h).1
  rw [hl] at this
  exact this
 ·obtain ⟨rfl,rfl⟩:=yl
  have hi:=(List.getElem?_eq_some_iff.mp h).1
  rw [hl] at hi
  have:y= .int (lo+(i:Int)):=by
   simp [rng,List.getElem?_range hi] at h
   exact h.symm
  subst this
  exact ⟨.refl va.tp, .int _⟩
def Oy (r:AA):AI:=λτ Q=>r τ λxs=>match xs with | [.int j] =>(-(2^62)<=j/\j<2^62)/\Q (rng 0 j.toNat)|_=>False
def Yv (r:AA):AI:=λτ Q=>r τ λxs=>match xs with | [.int i, .int j] =>(-(2^62)<=i/\i<2^62/\ -(2^62)<=j/\j<2^62)/\Q (rng i (j-i).toNat)|_=>False
theorem Mr {tg c:Expr} {r:AA} {p:Pos} (hg:Gl X "range") (hm:X.mg "range" =none) (ha:SA X [c] r) (hs:starEach [c] X.env= [(false,eval c X.env)] :=by rfl):SI X tg (.Call (.Name "range" p) [c] [] pos) true (Oy r):=by
 obtain ⟨t,pa,s⟩:=ha
 refine ⟨_,Vg hg hm pa hs,λB T σ τ H R AQ sr h k=>s B T σ τ H _ _ sr h λvs xs T1 H1 s1 r1 h1=> ?_⟩
 split at h1 <;> first | exact h1.elim|skip
 cases r1 with
 | cons r t=>
   cases t;cases r
   exact ⟨_,rfl,h1.1.1,h1.1.2,k _ _ T1 H1 s1 (λM2 T2 H2 mv va _=>RB va) h1.2⟩
theorem ay {tg c d:Expr} {r:AA} {p:Pos} (hg:Gl X "range") (hm:X.mg "range" =none) (ha:SA X [c,d] r) (hs:starEach [c,d] X.env= [(false,eval c X.env),(false,eval d X.env)] :=by rfl) (Tv:starEach [d] X.env= [(false,eval d X.env)] :=by rfl):
 SI X tg (.Call (.Name "range" p) [c,d] [] pos) true (Yv r):=by
 obtain ⟨t,pa,s⟩:=ha
 refine ⟨_,Vh hg hm pa hs Tv,λB T σ τ H R AQ sr h k=>s B T σ τ H _ _ sr h λvs xs T1 H1 s1 r1 h1=> ?_⟩
 split at h1 <;> first | exact h1.elim|skip
 cases r1 with
 | cons r t=>
   cases t with
   | cons r' t=>
     cases t;cases r;cases r'
     exact ⟨_,_,rfl,h1.1,k _ _ T1 H1 s1 (λM2 T2 H2 mv va _=>RB va) h1.2⟩
def Dv (xs ys:List PV):List PV:=List.zipWith (λx y=> .tup [x,y]) xs ys
def fv (K:PySem.W.Frag) (ta:TA):TI:=λσ H R=>ta σ H λvs H1=>∃b c l m,vs= [.ref l, .ref m] /\(∃xs,Sq K b H1 l xs)/\(∃ys,Sq K c H1 m ys)/\R (jE K b c l m) H1
theorem Zj {e f:Expr} {ta:TA} {p pos tpos:Pos} {es:List Expr} {x1:Nat} (hg:Gl X "zip") (hm:X.mg "zip" =none) (ha:PA X [e,f] ta)
 (hs:starEach [e,f] X.env= [(false,eval e X.env),(false,eval f X.env)] :=by rfl) (Tv:starEach [f] X.env= [(false,eval f X.env)] :=by rfl):
 PI X (.Tuple es x1 tpos) (.Call (.Name "zip" p) [e,f] [] pos) (fv X.K ta):=by
 intro pins s σ H R I h
 refine Call_ (GD I hg hm boot_zip (PyProof.Rows.callWith_type1 (Bq (ha pos pins s σ H _ I h) λus s1 ⟨vs,H1,I1,r1,q1⟩=> ?_) (by rw [hs,Tv]) (by rw [Tv];rfl)))
 obtain ⟨b,c,l,m,rfl,⟨xs,hl⟩,⟨ys,cH⟩,q⟩:=q1
 cases r1 with
 | cons r rr=>
 cases rr with
 | cons r' rr=>
 cases rr
 cases r
 cases r'
 obtain ⟨us,ru,su,_⟩:=I1.sq hl
 obtain ⟨vs,rv,sv,_⟩:=I1.sq cH
 have llt:l<s1.heap.objs.size:=by cases b <;> (obtain ⟨o,e,_⟩:=su;exact Heap.lt_size e)
 have mlt:m<s1.heap.objs.size:=by cases c <;> (obtain ⟨o,e,_⟩:=sv;exact Heap.lt_size e)
 refine dy su sv λh1 Z kp=>wpAny_pyIter_zip Z.zip ?_
 refine ⟨_,_,_,_,H1,rfl,I1.kept (t':=s1.toks) kp,YO (zipApart_new llt mlt),Z,λp hp=> ?_,q⟩
 have DI:s1.heap.objs.size<=p:=by
  have cM:p=s1.heap.objs.size+4\/p=s1.heap.objs.size+2\/p=s1.heap.objs.size+3\/p=s1.heap.objs.size\/p=s1.heap.objs.size+1:=by simpa using hp
  rcases cM with e|e|e|e|e <;> (rw [e];omega)
 exact I1.fpOk DI (I1.hok.fresh DI)
def fH:PV->Bool | .lst _=>true|_=>false
theorem Uc {K:PySem.W.Frag} {T M:Addr->Prop} {H:Hp} {v:V} {x:PV} {xs:List PV} (hx:x= .tup xs\/x= .lst xs) (r:Cf K T M H v x):∃a vs,v= .ref a/\Sq K (fH x) H a vs/\A3 K T M H vs xs:=by
 rcases hx with rfl|rfl
 ·obtain ⟨a,vs,rfl,hq,rs⟩:=Du r
  exact ⟨a,vs,rfl,hq,rs⟩
 ·obtain ⟨a,vs,rfl,hq,_,_,rs⟩:=EL r
  exact ⟨a,vs,rfl, .inl (.inl hq),rs⟩
theorem W8 {K:PySem.W.Frag} {T M:Addr->Prop} {H:Hp} {l m:Addr} {x y:PV} {xs ys:List PV} (va:J9 T M H) (hx:x= .tup xs\/x= .lst xs) (hy:y= .tup ys\/y= .lst ys) (r:Cf K T M H (.ref l) x) (r2:Cf K T M H (.ref m) y):
 Ry K M (jE K (fH x) (fH y) l m) (Dv xs ys) T H:=by
 obtain ⟨_,vs,e,hq,rs⟩:=Uc hx r
 cases e
 obtain ⟨_,ws,e,Sa,rs2⟩:=Uc hy r2
 cases e
 have hz:∀i z,(Dv xs ys)[i]? =some z->∃a b,xs[i]? =some a/\ys[i]? =some b/\z=PV.tup [a,b] :=λi z h=>by
  unfold Dv at h
  rw [List.getElem?_zipWith] at h
  cases e1:xs[i]? with
  | none=>rw [e1] at h;cases h
  | some a=>
    cases e2:ys[i]? with
    | none=>rw [e1,e2] at h;cases h
    | some b=>rw [e1,e2] at h;cases h;exact ⟨a,b,by first | rfl|exact e1,by first | rfl|exact e2,rfl⟩
 refine ⟨λi z h=> ?_,λi z v H' h yl=> ?_,λi h=>⟨vs,ws,hq,Sa, ?_⟩⟩
 ·obtain ⟨a,b,ha,hb,_⟩:=hz i z h
  obtain ⟨u,hu,_⟩:=rs.get ha
  obtain ⟨w,hw,_⟩:=rs2.get hb
  exact ⟨vs,ws,u,w,hq,Sa,hu,hw⟩
 ·obtain ⟨a,b,ha,hb,rfl⟩:=hz i z h
  obtain ⟨p,u,w,rfl,hn,rfl,hu,hw⟩:=yl
  obtain ⟨a',Q2,ra⟩:=rs.get' (hu vs hq)
  obtain ⟨b',Q3,rb⟩:=rs2.get' (hw ws Sa)
  rw [ha] at Q2;cases Q2
  rw [hb] at Q3;cases Q3
  have st:=Dn.lay (o:= .tup [u,w]) va.tp hn
  exact ⟨st, .tup (.inl A6) (.cons (ra.stp st va) (.cons (rb.stp st va) .nil))⟩
 ·rw [rs.length,rs2.length]
  have:(Dv xs ys).length=min xs.length ys.length:=by simp [Dv]
  omega
def aR (r:AA):AI:=λτ Q=>r τ λls=>match ls with | [x,y] =>Rp x λxs=>Rp y λys=>Q (Dv xs ys)|_=>False
theorem Vq {e f:Expr} {r:AA} {p pos tpos:Pos} {es:List Expr} {x1:Nat} (hg:Gl X "zip") (hm:X.mg "zip" =none) (ha:SA X [e,f] r)
 (hs:starEach [e,f] X.env= [(false,eval e X.env),(false,eval f X.env)] :=by rfl) (Tv:starEach [f] X.env= [(false,eval f X.env)] :=by rfl):
 SI X (.Tuple es x1 tpos) (.Call (.Name "zip" p) [e,f] [] pos) true (aR r):=by
 obtain ⟨t,pa,s⟩:=ha
 refine ⟨_,Zj hg hm pa hs Tv,λB T σ τ H R AQ sr h k=>s B T σ τ H _ _ sr h λvs xs T1 H1 s1 r1 h1=> ?_⟩
 split at h1 <;> first | exact h1.elim|skip
 rename_i x y
 obtain ⟨xs,hx,h2⟩:=Ma h1
 obtain ⟨ys,hy,h3⟩:=Ma h2
 cases r1 with
 | cons ra t=>
   cases t with
   | cons rb t=>
     cases t
     obtain ⟨l,us,rfl,hq,rs⟩:=Uc hx ra
     obtain ⟨m,ws,rfl,Sa,rs2⟩:=Uc hy rb
     exact ⟨fH x,fH y,l,m,rfl,⟨us,hq⟩,⟨ws,Sa⟩,k _ _ T1 H1 s1 (λM2 T2 H2 mv va _=>W8 va hx hy (ra.mv mv) (rb.mv mv)) h3⟩
def Dw (g:AG) (b:AS) (D:Ft):List PV->BG->Prop
 | [],τ=>D.nx τ
 | x::r,τ=>g x τ λτ1=>b {D with nx:=Dw g b D r,ct:=Dw g b D r,bk:=D.nx} τ1
def E2 (ai:AI) (g:AG) (b:AS):AS:=λD τ=>ai τ λxs=>Dw g b D xs τ
theorem Em.mvv {K:PySem.W.Frag} {B:Cq} {T T':Addr->Prop} {H H':Hp} {σ σ':L2.St} {τ τ':BG} (s:SR K B T H σ τ) (p:Em T H σ τ T' H' σ' τ'):Mv K T (mt B σ τ) H T' (mt B σ' τ') H':=
 ⟨s.va,λb o t m e=>p.keep b o t (λz=>m (.inr z)) e,p.sub,λb n t=>(p.new b t).elim id λz=>absurd z n,λb n m=>m.elim .inl λz=>(p.own b z).elim .inr λz=>absurd z n⟩
theorem CA {tg iter:Expr} {body:List Stmt} {ai:AI} {g:AG} (hp:PassesOwn (model X.prog X.w) X.A X.env X.xe) (hc:X.calm=true) (hi:SI X tg iter true ai) (hg:SG X tg g) (hb:Yq X body b)
 (hs:∀x,foldedSetIterable iter X.env x=pure x:=by intro _;rfl):SS X (.For tg iter body [] pos) (E2 ai g b):=by
 obtain ⟨wi,pi,si⟩:=hi
 obtain ⟨tg',pg,sg⟩:=hg
 obtain ⟨tb,pb,sb⟩:=hb
 refine ⟨_,dF hp hc pi pg pb hs,λB T σ τ H D AD sr h er=>si B T σ τ H _ _ sr h λJ xs T1 H1 s1 walk h1=> ?_⟩
 have sr1:=sr.stp s1
 refine ⟨λi m σ2 H2=>m=xs.length-i/\∃T2 τ2,SR X.K B T2 H2 σ2 τ2/\Em T1 H1 σ τ T2 H2 σ2 τ2/\Dw g b AD (xs.drop i) τ2,⟨_,rfl,T1,τ,sr1, .refl,h1⟩, ?_⟩
 rintro i m σ2 H2 ⟨rfl,T2,τ2,sr2,pr2,h2⟩
 have w:=walk _ T2 H2 (pr2.mvv sr1) sr2.va (.inl rfl)
 have er2:=(er.shift s1.prog).shift pr2
 by_cases FJ:i<xs.length
 ·have Wy:xs[i]? =some xs[i] :=List.getElem?_eq_getElem FJ
  rw [List.drop_eq_getElem_cons FJ] at h2
  refine .inr ⟨w.go i _ Wy,λσ' H'=>∃T' τ',SR X.K B T' H' σ' τ'/\Em T1 H1 σ τ T' H' σ' τ'/\Dw g b AD (xs.drop (i+1)) τ',λσ' H' ⟨T',τ',q1,q2,q3⟩=>⟨_,by omega,rfl,T',τ',q1,q2,q3⟩,λv H3 yl=> ?_⟩
  obtain ⟨s3,r3⟩:=w.yld i _ v H3 Wy yl
  have sr3:=sr2.stp s3
  refine sg B T2 σ2 τ2 H3 v _ _ _ sr3 r3 h2 λσ4 τ4 sr4 o4 h4=> ?_
  have pr4:Em T1 H1 σ τ T2 H3 σ4 τ4:=(pr2.trans s3.prog).trans (.less o4)
  have er4:=(er.shift s1.prog).shift pr4
  exact sb B T2 σ4 τ4 H3 _ _ sr4 h4 ⟨λT' H' σ' τ' q sr' h'=>⟨T',τ',sr',pr4.trans q,h'⟩,er4.nx,λT' H' σ' τ' q sr' h'=>⟨T',τ',sr',pr4.trans q,h'⟩,er.rt⟩
 ·rw [List.drop_eq_nil_of_le (by omega)] at h2
  exact .inl ⟨w.stop i (by omega),er2.nx T2 H2 σ2 τ2 .refl sr2 h2⟩
def U1:Option AV->Option AV|some (.val x)=>some (.val x)|_=>none
def NV (own:Nat) (ix:List Nat) (τ:BG):BG:=List.replicate own none++ix.map λi=>U1 (QK τ i)
def DK (g:AG) (t:AT) (te:AE) (τ0:BG) (Q:List PV->Prop):List PV->List PV->Prop
 | [],acc=>Q acc
 | x::r,acc=>g x τ0 λτ1=>t τ1 λok=>if ok=true then te τ1 λy=>DK g t te τ0 Q r (acc ++ [y]) else DK g t te τ0 Q r acc
def CL (ai:AI) (own:Nat) (ix:List Nat) (g:AG) (t:AT) (te:AE):AA:=λτ Q=>ai τ λxs=>xs.length<sizeLine/\DK g t te (NV own ix τ) Q xs []
theorem WO {own:Nat} {ix:List Nat} {τ:BG} {j:Nat} {x:PV} (h:(NV own ix τ)[j]? =some (some (.val x))):own<=j/\∃i,ix[j-own]? =some i/\τ[i]? =some (some (.val x)):=by
 unfold NV at h
 by_cases hj:j<own
 ·rw [List.getElem?_append_left (by simpa using hj),List.getElem?_replicate,if_pos hj] at h
  cases h
 ·rw [List.getElem?_append_right (by simpa using hj),List.length_replicate,List.getElem?_map] at h
  cases e:ix[j-own]? with
  | none=>rw [e] at h;cases h
  | some i=>
    rw [e] at h
    refine ⟨by omega,i,rfl,MR ?_⟩
    cases e2:QK τ i with
    | none=>simp [e2,U1] at h
    | some z=>cases z <;> simp [e2,U1] at h;subst h;rfl
theorem IA {own:Nat} {ix:List Nat} {τ:BG} {j:Nat} {xs:List PV}:(NV own ix τ)[j]? ≠some (some (.own xs)):=λh=>by
 unfold NV at h
 by_cases hj:j<own
 ·rw [List.getElem?_append_left (by simpa using hj),List.getElem?_replicate,if_pos hj] at h
  cases h
 ·rw [List.getElem?_append_right (by simpa using hj),List.length_replicate,List.getElem?_map] at h
  cases e:ix[j-own]? with
  | none=>rw [e] at h;cases h
  | some i=>
    rw [e] at h
    cases e2:QK τ i with
    | none=>simp [e2,U1] at h
    | some z=>cases z <;> simp [e2,U1] at h
def Cq.blk (B:Cq) (σ:L2.St) (τ:BG) (D:Addr):Cq:=⟨B.T,B.H,λa=>mt B σ τ a\/a=D⟩
theorem SR.blk {K:PySem.W.Frag} {B:Cq} {T T':Addr->Prop} {H H':Hp} {σ:L2.St} {τ:BG} {D:Addr} {ws:List V} {own:Nat} {ix:List Nat} (s:SR K B T H σ τ) (q:Dn T H T' H') (hn:H D=none) (hd:H' D=some (.lst ws)) (nt:¬T' D):
 SR K (B.blk σ τ D) T' H' (Ch own ix σ) (NV own ix τ):=by
 have s':=s.stp q
 have mv:Mv K T (mt B σ τ) H T' (mt (B.blk σ τ D) (Ch own ix σ) (NV own ix τ)) H':=⟨s.va,λb o t _ e=>q.keep b o t e,q.sub,λb n t=>(q.new b t).elim id λz=>absurd z n,λb n z=>by
  rcases z with (z|z)|⟨_,_,z,_⟩
  ·exact z
  ·subst z;exact absurd hn n
  ·exact absurd z IA⟩
 refine ⟨by simp [Ch,NV],λj x e=> ?_,λj xs e=>absurd e IA,λj k xs ys p e=>absurd e IA,s'.tp,λa m=> ?_,λa m=> ?_,s'.st⟩
 ·obtain ⟨hj,i,hi,e'⟩:=WO e
  obtain ⟨v,hv,r⟩:=s.val i x e'
  refine ⟨v, ?_,r.mv mv⟩
  unfold Ch
  rw [List.getElem?_append_right (by simpa using hj),List.length_replicate,List.getElem?_map,hi]
  simp [hv]
 ·rcases m with m|m
  ·exact s'.va.mu a m
  ·subst m;exact ⟨_,hd,Kr.lst⟩
 ·rcases m with m|m
  ·exact s'.nt m
  ·subst m;exact nt
def eF (X:Cx) (ifs:List Expr) (t:AT):Prop:=∃tt,WE X ifs tt/\NR X.K tt t
def FD:AT:=λ_ Q=>Q true
theorem CF:eF X [] FD:=⟨_,Zl,λB T σ τ H Q AQ sr h k=>k true T H (.refl sr.tp) h⟩
theorem Py {c:Expr} {t:AT} (h:Qf X c t):eF X [c] t:=let ⟨_,p,s⟩:=h;⟨_,Zm p,s⟩
theorem Ms {K:PySem.W.Frag} {s:Bool} {wi:TI} {ai:AI} {own:Nat} {ix:List Nat} {g:TG} {ag:AG} {tt:TT} {at':AT} {te:TE} (hi:bQ K s wi ai) (hg:Kv K g ag) (ht:NR K tt at') (he:Fn K te ta):
 Ys K (Uh wi own ix g tt te) (CL ai own ix ag at' ta):=by
 intro B T σ τ H Q AQ sr h k
 refine hi B T σ τ H _ _ sr h λJ xs T1 H1 s1 walk h1 D hD=> ?_
 obtain ⟨hl,h1⟩:=h1
 have sr1:=sr.stp s1
 have nt1:¬T1 D:=λz=>by obtain ⟨o,e,_⟩:=(sr1.tp D z).mut;rw [hD] at e;cases e
 have lay:=Dn.lay (o:= .lst []) sr1.tp hD
 refine ⟨λi m H2=>m=xs.length-i/\∃T2 vs acc,Dn T1 H1 T2 H2/\H2 D=some (.lst vs)/\¬T2 D/\A3 K T2 (λa=>mt B σ τ a\/a=D) H2 vs acc/\acc.length<=i/\DK ag at' ta (NV own ix τ) AQ (xs.drop i) acc,
  ⟨_,rfl,T1, [], [],lay,A6,nt1, .nil,Nat.le_refl _,h1⟩, ?_⟩
 rintro i m H2 ⟨rfl,T2,vs,acc,s2,iV,nt2,r2,pK,h2⟩
 have srb:=sr1.blk (own:=own) (ix:=ix) s2 hD iV nt2
 have va2:J9 T2 (λa=>mt B σ τ a\/a=D) H2:=⟨srb.tp,srb.bm⟩
 have w:=walk (λa=>mt B σ τ a\/a=D) T2 H2 ⟨sr1.va,λb o t _ e=>s2.keep b o t e,s2.sub,λb n t=>(s2.new b t).elim id λz=>absurd z n,λb n z=>z.elim id λz=>by subst z;exact absurd hD n⟩ va2 (.inr s2.keep)
 by_cases FJ:i<xs.length
 ·have Wy:xs[i]? =some xs[i] :=List.getElem?_eq_getElem FJ
  rw [List.drop_eq_getElem_cons FJ] at h2
  refine .inr ⟨w.go i _ Wy,λv H3 yl=> ?_⟩
  obtain ⟨s3,r3⟩:=w.yld i _ v H3 Wy yl
  have sr3:=srb.stp s3
  refine hg _ T2 _ _ H3 v _ _ _ sr3 (r3.mv (.anti ⟨sr3.tp,sr3.bm⟩ λa z=>z.elim id λ⟨_,_,z,_⟩=>absurd z IA)) h2 λσ4 τ4 sr4 o4 h4=> ?_
  refine ht _ T2 σ4 τ4 H3 _ _ sr4 h4 λok T5 H5 s5 h5=> ?_
  have sr5:=sr4.stp s5
  have jS:=s3.keep D _ nt2 iV
  have iW:=s5.keep D _ nt2 jS
  have nt5:¬T5 D:=λz=>(s5.new D z).elim nt2 λn=>by rw [n] at jS;cases jS
  have r5:=(r2.stp s3 va2).stp s5 ⟨sr3.tp,sr3.bm⟩
  cases ok with
  | false=>
    rw [if_neg Bool.false_ne_true] at h5 ⊢
    exact ⟨_,by omega,rfl,T5,vs,acc,(s2.trans s3).trans s5,iW,nt5,r5,by omega,h5⟩
  | true=>
    rw [if_pos rfl] at h5 ⊢
    refine he _ T5 σ4 τ4 H5 _ _ sr5 h5 λvy y T6 H6 s6 r6 h6=> ?_
    have sr6:=sr5.stp s6
    have pI:=s6.keep D _ nt5 iW
    have nt6:¬T6 D:=λz=>(s6.new D z).elim nt5 λn=>by rw [n] at iW;cases iW
    have va6:J9 T6 (λa=>mt B σ τ a\/a=D) H6:=⟨sr6.tp,sr6.bm⟩
    have r7:=r5.stp s6 ⟨sr5.tp,sr5.bm⟩
    have s7:=((s2.trans s3).trans s5).trans s6
    have tp8:∀a,T6 a->En (upd H6 D (.lst (vs ++ [vy]))) a:=λa t=>by
     obtain ⟨d,x,e,z⟩:=sr6.tp a t
     exact ⟨d,x,by rw [Ak (λw=>by subst w;exact nt6 t)];exact e,z⟩
    have mv8:Mv K T6 (λa=>mt B σ τ a\/a=D) H6 T6 (λa=>mt B σ τ a\/a=D) (upd H6 D (.lst (vs ++ [vy]))):=⟨va6,λb o _ m e=>by rw [Ak (λw=>m (.inr w))];exact e,λ_ t=>t,λ_ _ t=>t,λ_ _ z=>z⟩
    refine ⟨vs,pI,by rw [r2.length];omega,_,(by omega:xs.length-(i+1)<xs.length-i),rfl,T6,vs ++ [vy],acc ++ [y],⟨λb o t e=> ?_,s7.sub,s7.new,tp8⟩,A6,nt6,(r7.append (.cons (r6.mv (.anti sr6.va λa z=> .inl z)) .nil)).mv mv8,by simp;omega,h6⟩
    rw [Ak (BE e hD)]
    exact s7.keep b o t e
 ·rw [List.drop_eq_nil_of_le (by omega)] at h2
  refine .inl ⟨w.stop i (by omega), ?_⟩
  exact k D vs acc T2 H2 (s1.trans s2) (sr1.add s2 hD iV Kr.lst nt2) (s1.none hD) iV nt2 (r2.mv (.anti va2 λa z=>by
   rcases z with (z|z)|z
   ·exact .inl (.inl z)
   ·exact .inr z
   ·exact .inl (.inr z))) h2
structure V6 (X:Cx) (tg elt:Expr) (ifs:List Expr) (scope:Scope) (own:Nat) (ix:List Nat) (N:List Str) (g:AG) (t:AT) (te:AE):Prop where
 ex:∃g' t' te',JY X tg elt ifs scope own ix N g' t' te'/\Kv X.K g' g/\NR X.K t' t/\Fn X.K te' te
theorem Co {tg elt iter:Expr} {ifs:List Expr} {scope:Scope} {own:Nat} {ix:List Nat} {N:List Str} {g:AG} {t:AT} {s:Bool} {ai:AI} (hc:X.calm=true) (hi:SI X tg iter s ai) (O:V6 X tg elt ifs scope own ix N g t ta) (hs:∀x,foldedSetIterable iter X.env x=pure x:=by intro _;rfl):
 SF X (.ListComp elt [⟨tg,iter,ifs,0⟩] scope pos) (CL ai own ix g t ta):=by
 obtain ⟨wi,pi,si⟩:=hi
 obtain ⟨g',t',te',O,sg,st,se⟩:=O.ex
 exact ⟨_,Zi hc pi O hs,Ms si sg st se⟩
theorem Iv {i:Nat} {x:Str} {pos' spos:Pos} {tg elt iter:Expr} {ifs:List Expr} {scope:Scope} {own:Nat} {ix:List Nat} {N:List Str} {g:AG} {t:AT} {s:Bool} {ai:AI} (hc:X.calm=true) (hN:X.N.Nodup) (VO:X.N[i]? =some x) (hx:Loc X.env.scope x) (hi:SI X tg iter s ai) (O:V6 X tg elt ifs scope own ix N g t ta)
 (fj:swapsWith (.ListComp elt [⟨tg,iter,ifs,0⟩] scope pos) (some (.Name x pos')) spos.line X.env=pure true:=by rfl) (hs:∀x,foldedSetIterable iter X.env x=pure x:=by intro _;rfl)
 (hf:X.fn x=true\/X.env.scope.names.lookup x=some .local:=by first | exact .inl rfl|exact .inr rfl|assumption):
 SS X (.Assign [.Name x pos'] (.ListComp elt [⟨tg,iter,ifs,0⟩] scope pos) spos) (As (GU (CL ai own ix g t ta)) (A0 i)):=by
 obtain ⟨wi,pi,si⟩:=hi
 obtain ⟨g',t',te',O,sg,st,se⟩:=O.ex
 exact ⟨_,Zq hc hN VO hx pi O fj hs hf,P2 (X0 (Ms si sg st se)) P3⟩
end
def J0 (N:Nat) (xs:List PV):BG:=xs.map (λx=>some (.val x))++List.replicate (N-xs.length) none
def Ax (N:Nat) (b:AS):AF:=λxs Q=>b {nx:=λ_=>Q .non,rt:=Q,bk:=λ_=>False,ct:=λ_=>False} (J0 N xs)
theorem YD {K:PySem.W.Frag} {T M:Addr->Prop} {H:Hp} {N:List Str} {vs:List V} {xs:List PV} (va:J9 T M H) (mt':∀a,M a->¬T a) (r:A3 K T M H vs xs):SR K ⟨T,H,M⟩ T H (start N vs) (J0 N.length xs):=by
 have no:∀(j:Nat) (ys:List PV),(J0 N.length xs)[j]? ≠some (some (.own ys)):=λj ys h=>by
  unfold J0 at h
  by_cases hj:j<xs.length
  ·rw [List.getElem?_append_left (by simpa using hj),List.getElem?_map,List.getElem?_eq_getElem hj] at h
   cases h
  ·rw [List.getElem?_append_right (by simpa using hj),List.getElem?_replicate] at h
   split at h <;> cases h
 refine ⟨by simp [L2.start,J0,r.length],λj x h=> ?_,λj ys h=>absurd h (no j ys),λj k ys zs p h=>absurd h (no j ys),va.tp,va.mu,mt', .refl va.tp⟩
 unfold J0 at h
 by_cases hj:j<xs.length
 ·rw [List.getElem?_append_left (by simpa using hj),List.getElem?_map,List.getElem?_eq_getElem hj] at h
  cases h
  obtain ⟨v,hv,rv⟩:=r.get (List.getElem?_eq_getElem hj)
  refine ⟨v, ?_,rv.mv (.anti va λa m=>m.elim id λ⟨_,_,z,_⟩=>absurd z (no _ _))⟩
  unfold L2.start
  rw [List.getElem?_append_left (by rw [List.length_map,r.length];exact hj),List.getElem?_map,hv]
  rfl
 ·rw [List.getElem?_append_right (by simpa using hj),List.getElem?_replicate] at h
  split at h <;> cases h
section
variable {P:Program} {w:World} {K:PySem.W.Frag} {mg:Str->Option Value} {base:Heap}
theorem Ab {x qual:Str} {st:Stmt} {f:Addr} {fd:FuncData} {N ps:List Str} {k n:Nat} {b:AS} (F:Cr K x qual st f fd) (S:AY N ps (AU st)) (hn:n=ps.length)
 (Q4:∀(cdv:Value) (A:Around) (outer:List Env) (s:Shared) (H:Hp) (E:XK),Room k (A.deeper (envOfC qual (AU st) s.heap.objs.size f cdv))->
   Yq (SD Ck P w K mg base N qual (AU st) f cdv A outer s H E).nox (Dz st) b):A2 P w K mg base Ck (k+1) f fd ps (BN K n (Ax N.length b)):=by
 refine F.ok S (λvs H Q E h=> ?_) (λcdv A outer s H vs Q E hr h=> ?_)
 ·obtain ⟨T,M,xs,AQ,_,_,r,hl,_⟩:=h
  rw [r.length,hl,hn]
 ·obtain ⟨T,M,xs,AQ,va,mt',r,hl,hF,hQ⟩:=h
  obtain ⟨t,p,sm⟩:=Q4 cdv A outer s H E hr
  refine ⟨t,p,sm ⟨T,H,M⟩ T _ _ H _ _ (YD va mt' r) hF ⟨λT' H' σ' τ' _ sr q=> ?_,λ_ _ _ _ _ _ q=>q.elim,λ_ _ _ _ _ _ q=>q.elim,λv x T' H' s' r' q=>hQ v x T' H' s' r' q⟩⟩
  exact hQ _ _ T' H' sr.st .non q
end
end PL
end
section
namespace PL
open PySem PySem.Spec PyProof.Rows L2
section
variable {X:Cx}
theorem WT {prog:Program} {w:World} {A:Around} {E:Value->Shared->Prop} {s:Shared} {t b:Addr} {ws:List Value} {Q:Value->Shared->Prop} (ht:IsTup s.heap t #[]) (hb:IsTup s.heap b ws.toArray) (h0:Q (.ref b) s):wpAny (model prog w) A (binaryOp .Add (.ref t) (.ref b)) Q E s:=by
 obtain ⟨⟨cls,dd,data,sl⟩,ho,hc,n,hd⟩:=id ht
 obtain ⟨⟨cls2,dd2,data2,sl2⟩,cI,Q5,n2,fW⟩:=id hb
 simp only at hc hd Q5 fW
 subst hc hd Q5 fW
 exact concat_meets ⟨_,ho,rfl⟩ ⟨_,cI,rfl⟩ noFill_tuple_add seq_tuple_add PySem.F.slot_tuple_add PySem.F.entry_tuple_add (PySem.F.args_tuple_add_2 _ _)
  (tuple_addW0 t b #[] ws.toArray n n2 dd dd2 sl sl2 (by simp)) ⟨ho,cI,h0⟩
def Xk (K:PySem.W.Frag):R2:=λx y H Q=>∃a b ys,x= .ref a/\y= .ref b/\Kx K H a [] /\Kx K H b ys/\Q (.ref b) H
theorem XW:Dy X (binaryOp .Add) (Xk X.K):=by
 intro pins s σ H x y v u Q I rx ry h
 obtain ⟨a,b,ys,rfl,rfl,ha,hb,q⟩:=h
 cases rx
 cases ry
 obtain ⟨its,r1,p1,_⟩:=I.tuple ha
 obtain ⟨its2,r2,p2,_⟩:=I.tuple hb
 cases r1
 exact WT p1 p2 ⟨.ref b,H,I,rfl,q⟩
def av (K:PySem.W.Frag):R2:=λx y H Q=>((S3 (λi j=>V.int (i+j)) x y H Q\/gY x y H Q)\/aw K x y H Q)\/Xk K x y H Q
def BK:HG:=λx y Q=>match x,y with
 | .int i, .int j=>Q (.int (i+j))
 | .lst xs, .lst ys=>xs.length+ys.length<=sizeLine/\Q (.lst (xs++ys))
 | .tup xs, .tup ys=>xs.length+ys.length<=sizeLine/\Q (.tup (xs++ys))
 | _,_=>False
theorem Az:Dy X (binaryOp .Add) (av X.K)/\Bu X.K (av X.K) BK:=by
 refine ⟨((Js.or cv).or Zd).or XW,λT M H u v x y Q AQ va ru rv h k=> ?_⟩
 unfold BK at h
 split at h <;> first | exact h.elim|skip
 ·exact .inl (.inl (.inl ⟨_,_,ru.toI,rv.toI,k _ _ T H (.refl va.tp) (.int _) h⟩))
 ·obtain ⟨a,vs,rfl,hq,nt,nm,rs⟩:=EL ru
  obtain ⟨b,ws,rfl,Sa,nt2,nm2,rs2⟩:=EL rv
  refine .inl (.inl (.inr ⟨a,b,vs,ws,rfl,rfl,hq,Sa,by rw [rs.length,rs2.length];exact h.1,λp hp=> ?_⟩))
  have st:=Dn.lay (o:= .lst (vs++ws)) va.tp hp
  have np:¬T p:=λz=>by obtain ⟨o,e,_⟩:=(va.tp p z).mut;rw [hp] at e;cases e
  have nq:¬M p:=λz=>by obtain ⟨o,e,_⟩:=va.mu p z;rw [hp] at e;cases e
  exact k _ _ T _ st (.lst A6 np nq ((rs.append rs2).stp st va)) h.2
 ·obtain ⟨a,vs,rfl,hq,rs⟩:=Du ru
  obtain ⟨b,ws,rfl,Sa,rs2⟩:=Du rv
  by_cases e:vs= []
  ·subst e
   cases rs
   exact .inr ⟨a,b,ws,rfl,rfl,hq,Sa,k _ _ T H (.refl va.tp) rv (by simpa using h.2)⟩
  ·refine .inl (.inr ⟨a,b,vs,ws,rfl,rfl,hq,Sa,e,by rw [rs.length,rs2.length];exact h.1,λz=> ?_,λz p hp=> ?_⟩)
   ·subst z
    cases rs2
    exact k _ _ T H (.refl va.tp) ru (by simpa using h.2)
   ·have st:=Dn.lay (o:= .tup (vs++ws)) va.tp hp
    exact k _ _ T _ st (.tup (.inl A6) ((rs.append rs2).stp st va)) h.2
theorem Go {prog:Program} {w:World} {A:Around} {E:Value->Shared->Prop} {s:Shared} {t sl:Addr} {items:Array Value} {vl vu:Value} {lo hi:Option Int} {Q:Value->Shared->Prop} (ht:IsTup s.heap t items) (hs:s.heap.IsSliceOf sl vl vu .none) (pl:IsPart vl lo) (pu:IsPart vu hi)
 (hw:HT.sIx items.size 0 lo=0/\HT.sIx items.size items.size hi=items.size)
 (h:Q (.ref t) s):wpAny (model prog w) A (getItem (.ref t) (.ref sl)) Q E s:=by
 obtain ⟨os,cK,iY,fY⟩:=id hs
 have jT:s.TypeIs (.ref sl) "slice" :=⟨os,cK,iY⟩
 obtain ⟨ot,qr,ql,nt,qm⟩:=id ht
 unfold getItem
 try with_reducible refine wpAny_holding ?_
 first | refine wpAny_bind (wpAny_pure ?_)|skip
 refine wpAny_bind (wpAny_sequenceKey ht.typeIs (by decide) ?_)
 refine wpAny_bind (wpAny_callSpecial?_slot (name:=Str.ofString "__getitem__") ht.typeIs PyProof.Rows.slot_tuple_getitem
  (wpAny_call_entry PyProof.Rows.slot_tuple_getitem ht.typeIs entry_tuple_getitem ?_ (args_tuple_getitem _ _)))
 show wpAny _ _ (Builtin.Tuple.tupleItemsOf (.ref t) >>= _) _ _ s
 refine wpAny_bind (tupleItemsOf_ ht ?_)
 refine wpAny_bind (wpAny_typeOf jT ?_)
 rw [if_pos (by decide)]
 refine wpAny_bind (HT.sliceApplied_gen hs pl pu ?_)
 have ju:((((HT.sIx items.size 0 lo:Nat):Int)==0&&(1:Int)==1&&(HT.sIx items.size items.size hi-HT.sIx items.size 0 lo)==items.size)=true):=by
  rw [hw.1,hw.2]
  simp
 show wpAny _ _ (if (((HT.sIx items.size 0 lo:Nat):Int)==0&&(1:Int)==1&&(HT.sIx items.size items.size hi-HT.sIx items.size 0 lo)==items.size)=true then _ else _) _ _ s
 rw [if_pos ju]
 unfold Builtin.Tuple.tupleIsExact
 simp only [bind_assoc,pure_bind]
 refine wpAny_bind (wpAny_typeOf ht.typeIs ?_)
 rw [if_pos (by decide)]
 exact wpAny_bind (wpAny_rule (wpAny_pure ⟨_,rfl,wpAny_pure h⟩))
def j6 (K:PySem.W.Frag):V->Option Int->Option Int->Hp->VK->Prop:=λx lo hi H Q=>∃a xs,x= .ref a/\Kx K H a xs/\
 (HT.sIx xs.length 0 lo=0/\HT.sIx xs.length xs.length hi=xs.length)/\Q (.ref a) H
theorem Z7:aP X (j6 X.K):=by
 intro pins s σ H x v vl vu lo hi sl Q I rx hs pl pu h
 obtain ⟨a,xs,rfl,hx,hw,q⟩:=h
 cases rx
 obtain ⟨its,r,ht,hz⟩:=I.tuple hx
 have DJ:its.toArray.size=xs.length:=by rw [List.size_toArray];exact r.length.symm
 refine ⟨"tuple",_,PyProof.Rows.slot_tuple_getitem.lookup,ht.typeIs, ?_⟩
 exact Go ht hs pl pu (by rw [DJ];exact hw) ⟨.ref a,H,I,rfl,q⟩
def Gk (xs:List PV) (lo hi:Option Int):List PV:=(xs.drop (HT.sIx xs.length 0 lo)).take (HT.sIx xs.length xs.length hi-HT.sIx xs.length 0 lo)
theorem Td {K:PySem.W.Frag} {T M:Addr->Prop} {H:Hp} {vs:List V} {xs:List PV} (r:A3 K T M H vs xs) (lo hi:Option Int):A3 K T M H (NX vs lo hi) (Gk xs lo hi):=by
 unfold NX Gk
 rw [r.length]
 exact (r.drop _).take _
abbrev AO:=BG->(Option Int->Prop)->Prop
def jH (K:PySem.W.Frag) (t:TO) (a:AO):Prop:=∀(B:Cq) (T:Addr->Prop) (σ:L2.St) (τ:BG) (H:Hp) (Q:Option Int->Hp->Prop) (AQ:Option Int->Prop),SR K B T H σ τ->a τ AQ->
 (∀o T' H',Dn T H T' H'->AQ o->Q o H')->t σ H Q
def SO (X:Cx) (e:Option Expr) (a:AO):Prop:=∃t,PO X e t/\jH X.K t a
def Uy:AO:=λ_ Q=>Q none
def Uz (ta:AE):AO:=λτ Q=>ta τ λx=>YY x λi=>Q (some i)
theorem X6:SO X none Uy:=⟨_,Zn,λB T σ τ H Q AQ sr h k=>k _ T H (.refl sr.tp) h⟩
theorem X7 {e:Expr} {ta:AE} (h:SE X e ta):SO X (some e) (Uz ta):=by
 obtain ⟨t,p,s⟩:=h
 refine ⟨_,Zo p,λB T σ τ H Q AQ sr h k=>s B T σ τ H _ _ sr h λv x T1 H1 s1 r1 h1=> ?_⟩
 obtain ⟨i,rfl,q⟩:=Pd h1
 exact ⟨i,r1.toI,k _ T1 H1 s1 q⟩
@[irreducible] def Tj (x:PV) (lo hi:Option Int) (Q:PV->Prop):Prop:=match x with | .tup xs=>Q (.tup (Gk xs lo hi)) | .lst xs=>Q (.lst (Gk xs lo hi))|_=>False
theorem Gg {xs:List PV} {lo hi:Option Int} {Q:PV->Prop} (h:Q (.tup (Gk xs lo hi))):Tj (.tup xs) lo hi Q:=by unfold Tj;exact h
theorem D6 {xs:List PV} {lo hi:Option Int} {Q:PV->Prop} (h:Q (.lst (Gk xs lo hi))):Tj (.lst xs) lo hi Q:=by unfold Tj;exact h
def Uw (ta:AE) (l h:AO):AE:=λτ Q=>ta τ λx=>l τ λlo=>h τ λhi=>Tj x lo hi Q
theorem GO {e:Expr} {lo hi:Option Expr} {p2 pos:Pos} {ta:AE} {l h:AO} (he:SE X e ta) (hl:SO X lo l) (hh:SO X hi h):SE X (.Subscript e (.Slice lo hi none p2) pos) (Uw ta l h):=by
 obtain ⟨t,p,s⟩:=he
 obtain ⟨t1,p1,s1'⟩:=hl
 obtain ⟨t2,p2',s2'⟩:=hh
 refine ⟨_,Xe ((Z6.or dc).or Z7) p p1 p2',λB T σ τ H Q AQ sr h k=>s B T σ τ H _ _ sr h λv x T1 H1 s1 r1 h1=> ?_⟩
 refine s1' B T1 σ τ H1 _ _ (sr.stp s1) h1 λlo T2 H2 s2 h2=> ?_
 refine s2' B T2 σ τ H2 _ _ ((sr.stp s1).stp s2) h2 λhi T3 H3 s3 h3=> ?_
 have sr3:=((sr.stp s1).stp s2).stp s3
 have r3:=(r1.stp s2 (sr.stp s1).va).stp s3 ((sr.stp s1).stp s2).va
 have s123:=(s1.trans s2).trans s3
 unfold Tj at h3
 split at h3 <;> first | exact h3.elim|skip
 ·obtain ⟨a,vs,rfl,hq,rs⟩:=Du r3
  by_cases hw:HT.sIx vs.length 0 lo=0/\HT.sIx vs.length vs.length hi=vs.length
  ·refine .inr ⟨a,vs,rfl,hq,hw,k _ _ T3 H3 s123 r3 ?_⟩
   rename_i xs
   have:Gk xs lo hi=xs:=by
    unfold Gk
    rw [<-rs.length,hw.1,hw.2,rs.length]
    simp
   rw [this] at h3
   exact h3
  ·refine .inl (.inr ⟨a,vs,rfl,hq,hw,λq Tu=> ?_⟩)
   have st:=Dn.lay (o:= .tup (NX vs lo hi)) sr3.tp Tu
   exact k _ _ T3 _ (s123.trans st) (.tup (.inl A6) ((Td rs lo hi).stp st sr3.va)) h3
 ·obtain ⟨a,vs,rfl,hq,nt,nm,rs⟩:=EL r3
  refine .inl (.inl ⟨a,vs,rfl, .inl (.inl hq),λq Tu=> ?_⟩)
  have st:=Dn.lay (o:= .lst (NX vs lo hi)) sr3.tp Tu
  have np:¬T3 q:=λz=>by obtain ⟨o,e,_⟩:=(sr3.tp q z).mut;rw [Tu] at e;cases e
  have nq:¬mt B σ τ q:=λz=>by obtain ⟨o,e,_⟩:=sr3.va.mu q z;rw [Tu] at e;cases e
  exact k _ _ T3 _ (s123.trans st) (.lst A6 np nq ((Td rs lo hi).stp st sr3.va)) h3
end
def BR:AF:=λxs Q=>match xs with | [.tape, .int m] =>(0<m/\m<4611686018427387904)/\∀r,0<=r->r<m->Q (.int r)|_=>False
def Lv:AF:=λxs Q=>match xs with | [.scr ns, .int k] =>(0<=k/\k<=1000)/\Q .tape|_=>False
end PL
end
section
namespace PL
open PySem PySem.Spec PyProof.Rows L2
def e8 (g:TG):Prop:=∀v σ H Q Q',(∀σ2 H2,Q σ2 H2->Q' σ2 H2)->g v σ H Q->g v σ H Q'
def bJ (g:R0):Prop:=∀v σ H Q Q',(∀σ2 H2,Q σ2 H2->Q' σ2 H2)->g v σ H Q->g v σ H Q'
def SK (own:Nat) (X:Cx) (tg:Expr) (ag:AG):Prop:=∃g,PG X tg g/\Kv X.K g ag/\Gx own g/\e8 g
def iP (own:Nat) (X:Cx) (tg:List Expr) (ag:Rq):Prop:=∃g,eB X tg g/\N3 X.K g ag/\Lx own g/\bJ g
section
variable {X:Cx} {pos:Pos} {own:Nat}
theorem UZ {i:Nat} {x:Str} (hN:X.N.Nodup) (hi:X.N[i]? =some x) (hx:Loc X.env.scope x) (hk:i<own) (hf:X.fn x=true\/X.env.scope.names.lookup x=some .local:=by first | exact .inl rfl|exact .inr rfl|assumption):SK own X (.Name x pos) (A0 i):=
 ⟨_,UH hN hi hx hf,P3,ZA hk,ZC⟩
theorem LU:iP own X [] Cg:=⟨_,UI,Ri,ZB,ZD⟩
theorem Dk {e:Expr} {es:List Expr} {ag:AG} {ags:Rq} (h1:SK own X e ag) (h2:iP own X es ags) (hs:(assignEach (e::es) X.env).map (·.2)=assign e X.env::(assignEach es X.env).map (·.2):=by rfl):iP own X (e::es) (Aq ag ags):=
 let ⟨_,p,s,k,m⟩:=h1;let ⟨_,p',s',k',m'⟩:=h2;⟨_,RS p p' hs,OT s s',Wn k m k' m',Wo m m'⟩
end
def fU (K:PySem.W.Frag) (own:Nat) (ag:AG):TG:=λv σ H Q=>∃(B:Cq) (T:Addr->Prop) (τ:BG) (x:PV) (AQ:BG->Prop),SR K B T H σ τ/\Cf K T (mt B σ τ) H v x/\ag x τ AQ/\
 ∀σ' τ',SR K B T H σ' τ'->(∀b,C2 σ' τ' b->C2 σ τ b)->AQ τ'->(σ'.length=σ.length/\∀j,own<=j->σ'[j]? =σ[j]?)->Q σ' H
def im (K:PySem.W.Frag) (a:AT):TT:=λσ H Q=>∃(B:Cq) (T:Addr->Prop) (τ:BG) (AQ:Bool->Prop),SR K B T H σ τ/\a τ AQ/\∀b T' H',Dn T H T' H'->AQ b->Q b H'
def iT (K:PySem.W.Frag) (a:AE):TE:=λσ H Q=>∃(B:Cq) (T:Addr->Prop) (τ:BG) (AQ:PV->Prop),SR K B T H σ τ/\a τ AQ/\∀v x T' H',Dn T H T' H'->Cf K T' (mt B σ τ) H' v x->AQ x->Q v H'
theorem UW {K:PySem.W.Frag} {own:Nat} {ag:AG}:Kv K (fU K own ag) ag:=λB T σ τ H v x Q AQ sr r h k=>⟨B,T,τ,x,AQ,sr,r,h,λσ' τ' s o q _=>k σ' τ' s o q⟩
theorem RD {K:PySem.W.Frag} {own:Nat} {ag:AG}:Gx own (fU K own ag):=λv σ H Q ⟨B,T,τ,x,AQ,sr,r,h,k⟩=>⟨B,T,τ,x,AQ,sr,r,h,λσ' τ' s o q z=>⟨k σ' τ' s o q z,z⟩⟩
theorem UX {K:PySem.W.Frag} {a:AT}:NR K (im K a) a:=λB T σ τ H Q AQ sr h k=>⟨B,T,τ,AQ,sr,h,k⟩
theorem UV {K:PySem.W.Frag} {a:AE}:Fn K (iT K a) a:=λB T σ τ H Q AQ sr h k=>⟨B,T,τ,AQ,sr,h,k⟩
section
variable {X:Cx}
theorem SK.of {own:Nat} {tg:Expr} {ag:AG} (h:SK own X tg ag):PG X tg (fU X.K own ag):=by
 obtain ⟨g,p,s,k,m⟩:=h
 intro pins sh σ H v u Q I r hw
 obtain ⟨B,T,τ,x,AQ,sr,rx,h,c⟩:=hw
 have h1:g v σ H λσ' H'=>H'=H/\∃τ',SR X.K B T H σ' τ'/\(∀b,C2 σ' τ' b->C2 σ τ b)/\AQ τ':=s B T σ τ H v x _ AQ sr rx h λσ' τ' s o q=>⟨rfl,τ',s,o,q⟩
 have h2:=k v σ H _ h1
 refine p pins sh σ H v u Q I r (m v σ H _ _ (λσ2 H2 q=> ?_) h2)
 obtain ⟨⟨rfl,τ',s',o',q'⟩,z⟩:=q
 exact c σ2 τ' s' o' q' z
theorem eF.of {ifs:List Expr} {a:AT} (h:eF X ifs a):WE X ifs (im X.K a):=by
 obtain ⟨t,p,s⟩:=h
 intro pins sh σ H Q I hw
 obtain ⟨B,T,τ,AQ,sr,h,c⟩:=hw
 exact p pins sh σ H Q I (s B T σ τ H Q AQ sr h c)
theorem SE.of {e:Expr} {a:AE} (h:SE X e a):PE X e (iT X.K a):=by
 obtain ⟨t,p,s⟩:=h
 intro pins sh σ H Q I hw
 obtain ⟨B,T,τ,AQ,sr,h,c⟩:=hw
 exact p pins sh σ H Q I (s B T σ τ H Q AQ sr h c)
theorem CW {tg elt:Expr} {ifs:List Expr} {scope:Scope} {own:Nat} {ix:List Nat} {N:List Str} {g:AG} {t:AT} {te:AE} (h1:scope.kind= .function) (h2:(scope.names.all λy=> !decide (y.2= .cell))=true) (h3:(scope.names.all λy=> !decide (y.2= .local)||decide (scope.names.lookup y.1=some .local))=true)
 (h4:(scope.names.all λy=> !decide (y.2= .free)||decide (X.env.scope.names.lookup y.1=some .cell))=true) (h5:N.length=own+ix.length) (h6:O1 X (relabel scope X.env) own ix N=true)
 (tgt:∀cl C s H ex pn,SK own (blk X (relabel scope X.env) N cl C s H ex pn) tg g)
 (tst:∀cl C s H ex pn,eF (blk X (relabel scope X.env) N cl C s H ex pn) ifs t)
 (val:∀cl C s H ex pn,SE (blk X (relabel scope X.env) N cl C s H ex pn) elt te):V6 X tg elt ifs scope own ix N g t te:=
 ⟨fU X.K own g,im X.K t,iT X.K te,Y2 h1 h2 h3 h4 h5 h6 RD (λcl C s H ex pn=>(tgt cl C s H ex pn).of) (λcl C s H ex pn=>(tst cl C s H ex pn).of) (λcl C s H ex pn=>(val cl C s H ex pn).of),UW,UX,UV⟩
end
end PL
end
section
namespace PL
open PySem PySem.Spec PyProof.Rows L2
mutual
def pd:PV->PyData
 | .bl b=> .bool b
 | .int i=> .int i
 | .str x=> .str x
 | .tup xs=> .tuple (Pf xs)
 | .lst xs=> .list (Pf xs)
 | _=> .none
def Pf:List PV->List PyData
 | [] => []
 | x::xs=>pd x::Pf xs
end
mutual
def EX:Nat->PV->Bool
 | _, .non=>true
 | _, .bl _=>true
 | _, .int _=>true
 | _, .str x=>PyData.strOk x
 | n+1, .tup xs=>Jo n xs
 | n+1, .lst xs=>Jo n xs
 | _,_=>false
def Jo:Nat->List PV->Bool
 | _, [] =>true
 | n,x::xs=>EX n x&&Jo n xs
end
mutual
theorem IP:∀(n:Nat) (x:PV),EX n x=true->(pd x).canLay0=true/\(pd x).depth<=n/\(pd x).hasDict=false
 | n, .non,_=>⟨rfl,Nat.zero_le _,rfl⟩
 | n, .bl _,_=>⟨rfl,Nat.zero_le _,rfl⟩
 | n, .int _,_=>⟨rfl,Nat.zero_le _,rfl⟩
 | n, .str x,h=>⟨by simpa [pd,PyData.canLay0,EX] using h,Nat.zero_le _,rfl⟩
 | 0, .tup xs,h=>by simp [EX] at h
 | 0, .lst xs,h=>by simp [EX] at h
 | n+1, .tup xs,h=>by
   obtain ⟨a,b,c⟩:=MU n xs (by simpa [EX] using h)
   exact ⟨by simpa [pd,PyData.canLay0] using a,by simpa [pd,PyData.depth] using b,by simpa [pd,PyData.hasDict] using c⟩
 | n+1, .lst xs,h=>by
   obtain ⟨a,b,c⟩:=MU n xs (by simpa [EX] using h)
   exact ⟨by simpa [pd,PyData.canLay0] using a,by simpa [pd,PyData.depth] using b,by simpa [pd,PyData.hasDict] using c⟩
 | n, .tape,h=>by simp [EX] at h
 | n, .scr _,h=>by simp [EX] at h
 | n, .ty _,h=>by simp [EX] at h
theorem MU:∀(n:Nat) (xs:List PV),Jo n xs=true->PyData.canLayAll0 (Pf xs)=true/\PyData.depthAll (Pf xs)<=n/\PyData.hasDictAll (Pf xs)=false
 | n, [],_=>⟨rfl,Nat.zero_le _,rfl⟩
 | n,x::xs,h=>by
   simp only [Jo,Bool.and_eq_true] at h
   obtain ⟨a,b,c⟩:=IP n x h.1
   obtain ⟨a',b',c'⟩:=MU n xs h.2
   exact ⟨by simp [Pf,PyData.canLayAll0,a,a'],by simp only [Pf,PyData.depthAll];omega,by simp [Pf,PyData.hasDictAll,c,c']⟩
end
section
variable {X:Cx} {pins:List (Addr×Obj)} {σ:L2.St} {H:Hp} {s:Shared}
mutual
theorem GG (I:Inv X pins σ H s) {T M:Addr->Prop}:∀(n:Nat) {x:PV} {v:V} {u:Value},Cf X.K T M H v x->EX n x=true->RelV v u->∃as,Reads s.heap u (pd x) as
 | _,_,_,_, .non,_,r=>by cases r;exact ⟨_, .none⟩
 | _,_,_,_, .bl b,_,r=>by cases r;exact ⟨_, .bool b⟩
 | _,_,_,_, .int i,_,r=>by obtain ⟨t,rfl⟩:=r;exact ⟨_, .int i t⟩
 | _,_,_,_, .str x,_,r=>by obtain ⟨t,rfl⟩:=r;exact ⟨_, .str x t⟩
 | _,_,_,_, .ty n,h,r=>by simp [EX] at h
 | 0,_,_,_, .tup hq rs,h,r=>by simp [EX] at h
 | 0,_,_,_, .lst hq t m rs,h,r=>by simp [EX] at h
 | n+1,_,_,_, .tup hq rs,h,r=>by
   cases r
   obtain ⟨its,rv,⟨o,ho,hc,k,hd⟩,_⟩:=I.tuple hq.sq
   obtain ⟨as,ra⟩:=GF I n rs (by simpa [EX] using h) rv
   exact ⟨_, .tuple ho hc hd (by simpa using ra)⟩
 | n+1,_,_,_, .lst hq t m rs,h,r=>by
   cases r
   obtain ⟨its,rv,⟨o,k,ho,hc,_,hd⟩,_⟩:=I.list (Ff.of hq)
   obtain ⟨as,ra⟩:=GF I n rs (by simpa [EX] using h) rv
   exact ⟨_, .list ho hc hd (by simpa using ra)⟩
 | _,_,_,_, .tape _,h,r=>by simp [EX] at h
 | _,_,_,_, .scr _,h,r=>by simp [EX] at h
theorem GF (I:Inv X pins σ H s) {T M:Addr->Prop}:∀(n:Nat) {xs:List PV} {vs:List V} {us:List Value},A3 X.K T M H vs xs->Jo n xs=true->Au vs us->∃as,ReadsAll s.heap us (Pf xs) as
 | _,_,_,_, .nil,_,r=>by cases r;exact ⟨_, .nil⟩
 | n,_,_,_, .cons h t,hk,r=>by
   simp only [Jo,Bool.and_eq_true] at hk
   cases r with
   | cons r rr=>
     obtain ⟨as,ra⟩:=GG I n h hk.1 r
     obtain ⟨bs,rb⟩:=GF I n t hk.2 rr
     exact ⟨_, .cons ra rb⟩
end
end
section
variable {X:Cx}
def fQ (x y:PV):Bool:=PyData.eqv (pd x) (pd y)
def Zu (K:PySem.W.Frag) (neg:Bool):R2:=λu v H Q=>∃(T M:Addr->Prop) (x y:PV),Cf K T M H u x/\Cf K T M H v y/\EX 30 x=true/\EX 30 y=true/\Q (.bl (if neg then !fQ x y else fQ x y)) H
theorem cw {k:Nat} (hr:Room k X.A):Dy X (compareOp .Eq) (Zu X.K false):=by
 intro pins s σ H u v uu vv Q I ru rv h
 obtain ⟨T,M,x,y,rx,ry,kx,ky,q⟩:=h
 obtain ⟨as,ra⟩:=GG I 30 rx kx ru
 obtain ⟨bs,rb⟩:=GG I 30 ry ky rv
 obtain ⟨a1,a2,_⟩:=IP 30 x kx
 obtain ⟨b1,b2,_⟩:=IP 30 y ky
 exact SeqAt.compareEq_reads ra rb a1 b1 (by have:=hr.un;omega) ⟨.bl _,H,I,rfl,q⟩
theorem cy {k:Nat} (hr:Room k X.A):Dy X (compareOp .NotEq) (Zu X.K true):=by
 intro pins s σ H u v uu vv Q I ru rv h
 obtain ⟨T,M,x,y,rx,ry,kx,ky,q⟩:=h
 obtain ⟨as,ra⟩:=GG I 30 rx kx ru
 obtain ⟨bs,rb⟩:=GG I 30 ry ky rv
 obtain ⟨a1,a2,_⟩:=IP 30 x kx
 obtain ⟨b1,b2,_⟩:=IP 30 y ky
 exact SeqAt.compareNe_reads ra rb a1 b1 (by have:=hr.un;omega) ⟨.bl _,H,I,rfl,q⟩
def Kz:HG:=λx y Q=>match UR x y with | some b=>Q (.bl b)|none=>(EX 30 x=true/\EX 30 y=true)/\Q (.bl (fQ x y))
def Wg:HG:=λx y Q=>match UR x y with | some b=>Q (.bl (!b))|none=>(EX 30 x=true/\EX 30 y=true)/\Q (.bl (!fQ x y))
def gZ (K:PySem.W.Frag):R2:=λx y H Q=>mX x y H Q\/Zu K false x y H Q
def gh (K:PySem.W.Frag):R2:=λx y H Q=>mY x y H Q\/Zu K true x y H Q
theorem DM {k:Nat} (hr:Room k X.A):Dy X (compareOp .Eq) (gZ X.K)/\Bu X.K (gZ X.K) Kz:=by
 refine ⟨gP.or (cw hr),λT M H u v x y Q AQ va ru rv h k=> ?_⟩
 unfold Kz at h
 split at h
 ·rename_i b e
  obtain ⟨h1,h2⟩:=Re ru rv e
  refine .inl ⟨h1, ?_⟩
  rw [h2]
  exact k _ _ T H (.refl va.tp) (.bl _) h
 ·exact .inr ⟨T,M,x,y,ru,rv,h.1.1,h.1.2,k _ _ T H (.refl va.tp) (.bl _) h.2⟩
theorem Rj {k:Nat} (hr:Room k X.A):Dy X (compareOp .NotEq) (gh X.K)/\Bu X.K (gh X.K) Wg:=by
 refine ⟨gR.or (cy hr),λT M H u v x y Q AQ va ru rv h k=> ?_⟩
 unfold Wg at h
 split at h
 ·rename_i b e
  obtain ⟨h1,h2⟩:=Re ru rv e
  refine .inl ⟨h1, ?_⟩
  rw [h2]
  exact k _ _ T H (.refl va.tp) (.bl _) h
 ·exact .inr ⟨T,M,x,y,ru,rv,h.1.1,h.1.2,k _ _ T H (.refl va.tp) (.bl _) h.2⟩
structure jG (x:PV):Prop where
 ok:EX 30 x=true
 sh:(pd x).showable=true
 sz:(pd x).shown.length<=sizeLine
end
end PL
end
section
namespace PL
open PySem PySem.Spec PyProof.Rows L2
section
variable {prog:Program} {w:World} {A:Around} {E:Value->Shared->Prop} {s:Shared}
theorem KG {h:Heap} {l:Addr} {items:Array Value} (hl:h.IsList l items) (o:Obj):(h.push o).IsList l items:=by
 obtain ⟨ob,e,r⟩:=hl
 exact ⟨ob,Heap.get?_push_of_some _ e,r⟩
theorem OD {it t:Addr} {items:Array Value} (YX:t≠it):∀(n i:Nat) (s:Shared) (Q:List Value->Shared->Prop),s.heap.IsListIter it t i->s.heap.IsList t items->i+n<=items.size->
 (∀h',h'.IsListIter it t (i+n)->Heap.SameBut it s.heap h'->Q ((items.toList.drop i).take n) {s with heap:=h'})->wpAny (model prog w) A (draw (.ref it) n) Q E s
 | 0,i,s,Q,hit,_,_,hQ=>by
   show wpAny _ _ (pure []) Q E s
   exact wpAny_pure (by simpa using hQ s.heap hit (Heap.SameBut.refl ..))
 | n+1,i,s,Q,hit,ht,VQ,hQ=>by
   have FJ:i<items.size:=by omega
   show wpAny _ _ (pyNext (.ref it) >>= _) Q E s
   refine wpAny_bind (wpAny_pyNext_list_item hit ht (x:=items[i]) (by simp [FJ]) λh₁ hit₁ hs₁=> ?_)
   refine wpAny_bind (wpAny_holding (OD YX n (i+1) _ _ hit₁ (ht.extBut hs₁.extBut YX) (by omega) λh₂ hit₂ hs₂=>wpAny_pure ?_))
   have hd:items.toList.drop i=items[i] :: items.toList.drop (i+1):=by simp [List.drop_eq_getElem_cons,FJ]
   have:=hQ h₂ (by rw [show i+(n+1)=i+1+n by omega];exact hit₂) (hs₁.trans hs₂)
   rw [hd,List.take_succ_cons] at this
   exact this
theorem J1 {t:Addr} {items:Array Value} {Q:List Value->Shared->Prop} (hh:A.handled=none) (ht:s.heap.IsList t items)
 (hQ:∀h',Heap.ExtBut s.heap.objs.size s.heap h'->Q items.toList {s with heap:=h'}):wpAny (model prog w) A (unpackItems (.ref t) items.size none) Q E s:=by
 have FJ:t≠s.heap.objs.size:=by obtain ⟨o,ho,_⟩:=ht;exact Nat.ne_of_lt (Heap.lt_size ho)
 unfold unpackItems
 refine wpAny_bind ?_
 ·unfold notIterableAtAll
  refine wpAny_bind (wpAny_specialOf ht.typeIs slot_list_iter.lookup ?_)
  refine wpAny_pure ?_
  simp only [Bool.false_eq_true,if_false]
  refine wpAny_bind (wpAny_holding (wpAny_pyIter_list ht ?_))
  refine wpAny_bind (wpAny_holding (OD FJ items.size 0 _ _ ⟨_,Heap.get?_push_size _ rfl,rfl,rfl⟩ (KG ht _) (by omega) λh₁ hit₁ hs₁=> ?_))
  have VM:List.take items.size (List.drop 0 items.toList)=items.toList:=by
   rw [List.drop_zero];exact List.take_of_length_le (by simp)
  rw [VM]
  rw [if_neg (by simp)]
  have ht₁:h₁.IsList t items:=(KG ht _).extBut hs₁.extBut FJ
  refine wpAny_bind (wpAny_holding (wpAny_pyNext_list_end hh hit₁ ht₁ (by simp) λh₂ he₂=> ?_))
  simp only [Option.isSome_none,Bool.false_eq_true,if_false]
  refine wpAny_pure (hQ h₂ λb o hb e=>he₂ b o hb (hs₁.extBut b o hb (Heap.get?_push_of_some _ e)))
theorem H0 {env:Env} {elts:List Expr} {x1} {pos:Pos} {t:Addr} {items:Array Value} {Q:Unit->Shared->Prop} (hh:A.handled=none) (ht:s.heap.IsList t items)
 (hn:(assignEach elts env).length=items.size) (fi:(assignEach elts env).findIdx? (·.1)=none)
 (h:∀h',Heap.ExtBut s.heap.objs.size s.heap h'->wpAny (model prog w) A (assignInOrder ((assignEach elts env).map (·.2)) items.toList) Q E {s with heap:=h'}):
 wpAny (model prog w) A (assign (.Tuple elts x1 pos) env (.ref t)) Q E s:=by
 rw [assign_Tuple]
 refine wpAny_bind (wpAny_standAt ?_)
 unfold unpack
 rw [hn,fi]
 exact wpAny_bind (wpAny_holding (J1 hh ht h))
end
section
variable {X:Cx} {pos:Pos}
def b9 (K:PySem.W.Frag) (n:Nat) (t:R0):TG:=λv σ H Q=>∃a xs,v= .ref a/\(Kx K H a xs\/Ff K H a xs)/\xs.length=n/\t xs σ H Q
theorem Xf {es:List Expr} {k:Nat} {t:R0} {n:Nat} (hc:X.calm=true) (h:eB X es t)
 (hn:(assignEach es X.env).length=n:=by rfl) (eM:(assignEach es X.env).findIdx? (·.1)=none:=by rfl):PG X (.Tuple es k pos) (b9 X.K n t):=by
 intro pins s σ H v u Q I r hw
 obtain ⟨a,xs,e1,hq,hl,hw⟩:=hw
 subst e1
 cases r
 rcases hq with hq|hq
 ·obtain ⟨its,rv,ht,hz⟩:=I.tuple hq
  refine assign_Tuple_tuple (I.ok.hd hc) ht (by simp [hn,<-hl,rv.length]) eM λh' hx=> ?_
  have I1:Inv X pins σ H {s with heap:=h'}:=I.kept (t':=s.toks) λb o e=>hx b o (Nat.ne_of_lt (Heap.lt_size e)) e
  exact h pins _ σ H xs _ Q I1 (by simpa using rv) hw
 ·obtain ⟨its,rv,ht,hz⟩:=I.list hq
  refine H0 (I.ok.hd hc) ht.isList (by simp [hn,<-hl,rv.length]) eM λh' hx=> ?_
  have I1:Inv X pins σ H {s with heap:=h'}:=I.kept (t':=s.toks) λb o e=>hx b o (Nat.ne_of_lt (Heap.lt_size e)) e
  exact h pins _ σ H xs _ Q I1 (by simpa using rv) hw
def NT (n:Nat) (r:Rq):AG:=λx τ Q=>Rp x λxs=>xs.length=n/\r xs τ Q
theorem X1 {K:PySem.W.Frag} {n:Nat} {gs:R0} {ags:Rq} (s:N3 K gs ags):Kv K (b9 K n gs) (NT n ags):=λB T σ τ H v x Q AQ sr r h k=>by
 obtain ⟨xs,hx,h⟩:=Ma h
 rcases hx with rfl|rfl
 ·obtain ⟨p,vs,rfl,hq,r'⟩:=Du r
  exact ⟨p,vs,rfl, .inl hq,by rw [r'.length];exact h.1,s B T σ τ H vs _ Q AQ sr r' h.2 k⟩
 ·obtain ⟨p,vs,rfl,hq,nt,nm,r'⟩:=EL r
  exact ⟨p,vs,rfl, .inr (.inl (.inl hq)),by rw [r'.length];exact h.1,s B T σ τ H vs _ Q AQ sr r' h.2 k⟩
theorem Dt {es:List Expr} {k:Nat} {ags:Rq} {n:Nat} (hc:X.calm=true) (h:iO X es ags) (hn:(assignEach es X.env).length=n:=by rfl) (eM:(assignEach es X.env).findIdx? (·.1)=none:=by rfl):SG X (.Tuple es k pos) (NT n ags):=
 let ⟨_,p,s⟩:=h;⟨_,Xf hc p hn eM,X1 s⟩
theorem cC {own:Nat} {K:PySem.W.Frag} {n:Nat} {t:R0} (h:Lx own t):Gx own (b9 K n t):=λv σ H Q ⟨a,xs,e,h1,h2,h3⟩=>⟨a,xs,e,h1,h2,h xs σ H Q h3⟩
theorem P8 {own:Nat} {es:List Expr} {k:Nat} {ags:Rq} {n:Nat} (hc:X.calm=true) (h:iP own X es ags) (hn:(assignEach es X.env).length=n:=by rfl) (eM:(assignEach es X.env).findIdx? (·.1)=none:=by rfl):SK own X (.Tuple es k pos) (NT n ags):=
 let ⟨_,p,s,kp,m⟩:=h;⟨_,Xf hc p hn eM,X1 s,cC kp,λv σ H Q Q' z ⟨a,xs,e,h1,h2,h3⟩=>⟨a,xs,e,h1,h2,m _ _ _ _ _ z h3⟩⟩
theorem cO:iM X .Mult (λx y H Q=>∃i j,x= .int i/\y= .int j/\MulOk i j/\Q (.int (i*j)) H):=by
 intro pins s σ H x y v u Q I r1 r2 h
 obtain ⟨i,j,e1,e2,c,q⟩:=h
 subst e1;subst e2
 obtain ⟨t,rfl⟩:=r1
 obtain ⟨t',rfl⟩:=r2
 exact AutoIntOps.imul_0 (show (Made.int (i*j)).post _ _ from ⟨.int _,H,I.tok _,⟨_,rfl⟩,q⟩) (.of_le (GV c.l) (GV c.r) (by decide))
theorem dY:iM X .Mult (λx y H Q=>∃i j,x= .int i/\y= .int j/\MulOk i j/\Q (.int (i*j)) H)/\Bu X.K (λx y H Q=>∃i j,x= .int i/\y= .int j/\MulOk i j/\Q (.int (i*j)) H) CY:=⟨cO,λT M H u v x y Q AQ va ru rv h k=>by
 obtain ⟨i,j,rfl,rfl,c,q⟩:=Pb h
 exact ⟨i,j,ru.toI,rv.toI,c,k _ _ T H (.refl va.tp) (.int _) q⟩⟩
end
end PL
end
section
namespace PL
open PySem PySem.Spec PyProof.Rows L2
theorem Mx {i:Int} (a:0<=i) (b:i<2147483647): -(2^64)<i/\i<2^64:=⟨by omega,by omega⟩
theorem o8 (b:Bool):(0:Int)<=(if b=true then 1 else 0):=by cases b <;> decide
theorem ly (b:Bool): -(2^64)<(if b=true then (1:Int) else 0)/\(if b=true then (1:Int) else 0)<2^64:=by cases b <;> decide
theorem YI {T:Addr->Prop} {H:Hp} {p:Addr} {d x:Int} (tp:∀a,T a->En H a) (t:T p) (d0:0<=d) (x0:0<=x) (x1:x<2147483647):Dn T H T (upd H p (.lst [.int d, .int x])) where
 keep:=λb o n e=>by rw [Ak (λz=>n (by subst z;exact t))];exact e
 sub:=λ_ t=>t
 new:=λ_ t=> .inl t
 tp:=λa ta=>by
  by_cases z:a=p
  ·subst z;exact ⟨d,x,A6,d0,x0,x1⟩
  ·obtain ⟨d',x',e,q⟩:=tp a ta
   exact ⟨d',x',by rw [Ak z];exact e,q⟩
theorem YH {T:Addr->Prop} {H:Hp} {p:Addr} {d x:Int} (tp:∀a,T a->En H a) (hp:H p=none) (d0:0<=d) (x0:0<=x) (x1:x<2147483647):Dn T H (λb=>T b\/b=p) (upd H p (.lst [.int d, .int x])) where
 keep:=λb o n e=>by rw [Ak (BE e hp)];exact e
 sub:=λ_ t=> .inl t
 new:=λb t=>t.elim .inl λz=> .inr (by subst z;exact hp)
 tp:=λa ta=>by
  by_cases z:a=p
  ·subst z;exact ⟨d,x,A6,d0,x0,x1⟩
  ·rcases ta with ta|ta
   ·obtain ⟨d',x',e,q⟩:=tp a ta
    exact ⟨d',x',by rw [Ak z];exact e,q⟩
   ·exact absurd ta z
theorem law_sp {K:PySem.W.Frag} {H:Hp} {a:Addr} {ns:List Int} {F:AF} (hS:Ff K H a (ns.map V.int)) (h:F [.scr ns] λx=>x= .bl true):BN K 1 F [.ref a] H (λv _=>v= .bl true) λ_ _ _=>False:=by
 refine ⟨λ_=>False,λ_=>False, [.scr ns],_,⟨λ_ z=>z.elim,λ_ z=>z.elim⟩,λ_ z=>z.elim, .cons (.scr ?_) .nil,rfl,h,λv x T' H' _ r e=> ?_⟩
 ·rcases hS with h|h
  ·exact .inl ⟨h,id,id⟩
  ·exact .inr λH=> .inr h
 ·subst e;cases r;rfl
theorem IH {g:AG} {b:AS} {D:Ft} (Pv:List PV->BG->Prop) (hd:∀τ,Pv [] τ->D.nx τ)
 (hs:∀x r τ (R:BG->Prop),(∀τ,Pv r τ->R τ)->Pv (x::r) τ->g x τ λτ1=>b {D with nx:=R,ct:=R,bk:=D.nx} τ1):
 ∀xs τ,Pv xs τ->Dw g b D xs τ
 | [],τ,h=>hd τ h
 | x::r,τ,h=>hs x r τ _ (λτ2 h2=>IH Pv hd hs r τ2 h2) h
theorem TL {c:AT} {b:AS} {D:Ft} (Pv:Nat->BG->Prop) (h0:∀τ,¬Pv 0 τ)
 (hs:∀n τ (R:BG->Prop),(∀τ,Pv n τ->R τ)->Pv (n+1) τ->c (frz τ) λk=>if k=true then b {D with nx:=R,ct:=R,bk:=D.nx} τ else D.nx τ):
 ∀n τ,Pv n τ->Rn c b D n τ
 | 0,τ,h=>absurd h (h0 τ)
 | n+1,τ,h=>hs n τ _ (λτ2 h2=>TL Pv h0 hs n τ2 h2) h
theorem IV (lo:Int) (n:Nat):rng lo (n+1)= .int lo::rng (lo+1) n:=by
 unfold rng
 rw [List.range_succ_eq_map,List.map_cons,List.map_map]
 congr 1
 ·simp
 ·apply List.map_congr_left
  intro k _
  simp only [Function.comp]
  congr 1
  omega
theorem S4 (lo:Int) (n:Nat):(rng lo n).length=n:=by simp [rng]
end PL
end
section
namespace PL
open PySem L2 PyProof.Rows
def fr (r:Rat):PV:= .tup [.int r.num, .int (r.den:Int)]
theorem Eo {b:Bool} {A B:Prop} (h1:b=true->A) (h2:b=false->B):if b=true then A else B:=by
 cases b with
 | true=>rw [if_pos rfl];exact h1 rfl
 | false=>rw [if_neg Bool.false_ne_true];exact h2 rfl
structure Bd (n:Nat) (r:Rat):Prop where
 top:r.num.natAbs<2^n
 bot:r.den<2^n
theorem Bd.botI {n:Nat} {r:Rat} (b:Bd n r):(r.den:Int).natAbs<2^n:=by simpa using b.bot
theorem Mc {m n:Nat} (h:m<=n):2^m<=2^n:=Nat.pow_le_pow_right (by decide) h
theorem Bd.mono {m n:Nat} {r:Rat} (b:Bd m r) (h:m<=n):Bd n r:=⟨Nat.lt_of_lt_of_le b.top (Mc h),Nat.lt_of_lt_of_le b.bot (Mc h)⟩
theorem XN {a b m n:Nat} (ha:a<2^m) (hb:b<2^n):a*b<2^(m+n):=by
 rw [Nat.pow_add]
 exact Nat.mul_lt_mul_of_lt_of_le ha (Nat.le_of_lt hb) (Nat.pos_of_ne_zero (by intro z;rw [z] at hb;omega)) |> λh=>h
theorem BH {a b:Int} {m n:Nat} (ha:a.natAbs<2^m) (hb:b.natAbs<2^n):(a*b).natAbs<2^(m+n):=by
 rw [Int.natAbs_mul];exact XN ha hb
theorem LH {a b:Int} {n:Nat} (ha:a.natAbs<2^n) (hb:b.natAbs<2^n):(a+b).natAbs<2^(n+1):=by
 rw [Nat.pow_succ];omega
theorem QE {a b:Int} {n:Nat} (ha:a.natAbs<2^n) (hb:b.natAbs<2^n):(a-b).natAbs<2^(n+1):=by
 rw [Nat.pow_succ];omega
theorem Ai {a m n:Nat} (h:a<2^m) (hm:m<=n):a<2^n:=Nat.lt_of_lt_of_le h (Mc hm)
theorem MulOk.of {a b:Int} {m n:Nat} (ha:a.natAbs<2^m) (hb:b.natAbs<2^n) (hm:m<=1000000:=by omega) (hn:n<=1000000:=by omega):MulOk a b:=⟨Ai ha hm,Ai hb hn⟩
theorem SJ (t b:Int):(Rat.divInt t b).num.natAbs<=t.natAbs:=by
 rw [Rat.num_divInt]
 by_cases h:b=0
 ·subst h;simp
 ·have e:(b.gcd t:Int) ∣ b.sign*t:=Int.dvd_trans (Int.gcd_dvd_right ..) (Int.dvd_mul_left ..)
  rw [Int.natAbs_ediv_of_dvd e,Int.natAbs_mul]
  refine Nat.le_trans (Nat.div_le_self _ _) ?_
  rw [Int.natAbs_sign_of_ne_zero h]
  omega
theorem SH (t b:Int) (h:b≠0):(Rat.divInt t b).den<=b.natAbs:=by
 rw [Rat.den_divInt,if_neg h]
 exact Nat.div_le_self _ _
theorem Bd.divInt {n:Nat} {t b:Int} (h:b≠0) (ht:t.natAbs<2^n) (hb:b.natAbs<2^n):Bd n (Rat.divInt t b):=
 ⟨Nat.lt_of_le_of_lt (SJ t b) ht,Nat.lt_of_le_of_lt (SH t b h) hb⟩
theorem BS (a:Rat):(a.den:Int)≠0:=by have:=a.den_pos;omega
theorem HH (a b:Rat):a+b=Rat.divInt (a.num*b.den+b.num*a.den) (a.den*b.den):=by
 have h:=Rat.divInt_add_divInt a.num b.num (BS a) (BS b)
 rw [Rat.num_divInt_den,Rat.num_divInt_den] at h
 exact h
theorem HZ (a b:Rat):a-b=Rat.divInt (a.num*b.den-b.num*a.den) (a.den*b.den):=by
 have h:=Rat.divInt_sub_divInt a.num b.num (BS a) (BS b)
 rw [Rat.num_divInt_den,Rat.num_divInt_den] at h
 exact h
theorem HS (a b:Rat):a*b=Rat.divInt (a.num*b.num) (a.den*b.den):=by
 have h:=Rat.divInt_mul_divInt a.num b.num (d₁:=a.den) (d₂:=b.den)
 rw [Rat.num_divInt_den,Rat.num_divInt_den] at h
 exact h
theorem HM (a b:Rat):a/b=Rat.divInt (a.num*b.den) (a.den*b.num):=by
 rw [Rat.div_def,Rat.inv_def]
 have h:=Rat.divInt_mul_divInt a.num b.den (d₁:=a.den) (d₂:=b.num)
 rw [Rat.num_divInt_den] at h
 exact h
theorem DC {a b:Int} (ha:a≠0) (hb:b≠0):a*b≠0:=Int.mul_ne_zero ha hb
theorem So {b:Rat} (h:b≠0):b.num≠0:=λz=>h (Rat.num_eq_zero.mp z)
theorem Bd.add {m n:Nat} {a b:Rat} (ha:Bd m a) (hb:Bd n b):Bd (m+n+1) (a+b):=by
 rw [HH]
 refine .divInt (DC (BS a) (BS b)) (LH (BH ha.top (by simpa using hb.bot)) ?_) ?_
 ·rw [Nat.add_comm m n];exact BH hb.top (by simpa using ha.bot)
 ·exact Ai (BH (by simpa using ha.bot) (by simpa using hb.bot)) (by omega)
theorem Bd.sub {m n:Nat} {a b:Rat} (ha:Bd m a) (hb:Bd n b):Bd (m+n+1) (a-b):=by
 rw [HZ]
 refine .divInt (DC (BS a) (BS b)) (QE (BH ha.top (by simpa using hb.bot)) ?_) ?_
 ·rw [Nat.add_comm m n];exact BH hb.top (by simpa using ha.bot)
 ·exact Ai (BH (by simpa using ha.bot) (by simpa using hb.bot)) (by omega)
theorem Bd.mul {m n:Nat} {a b:Rat} (ha:Bd m a) (hb:Bd n b):Bd (m+n) (a*b):=by
 rw [HS]
 exact .divInt (DC (BS a) (BS b)) (BH ha.top hb.top) (BH (by simpa using ha.bot) (by simpa using hb.bot))
theorem Bd.div {m n:Nat} {a b:Rat} (h:b≠0) (ha:Bd m a) (hb:Bd n b):Bd (m+n) (a/b):=by
 rw [HM]
 exact .divInt (DC (BS a) (So h)) (BH ha.top (by simpa using hb.bot)) (BH (by simpa using ha.bot) hb.top)
theorem Bd.neg {n:Nat} {a:Rat} (ha:Bd n a):Bd n (-a):=⟨by show (-a.num).natAbs<_;rw [Int.natAbs_neg];exact ha.top,ha.bot⟩
theorem Wi (n:Int):fr (n:Rat)= .tup [.int n, .int 1] :=by simp [fr]
theorem Bd.int {n:Int} {k:Nat} (h:n.natAbs<2^k) (hk:1<=k):Bd k (n:Rat):=⟨by simpa using h,by simp;omega⟩
def V3:AS:=
 (Ad (Jc (Av (AX Wg (aV 1) (aC (.int 0)))) (Ov 0 1 (AB (aV 1) (AB (AX We (aV 0) (aV 1)) AL))))
   (Ay (aV 0)))
def F4:AF:=Ax 2 V3
theorem J8 (x y:Nat) (Q:PV->Prop) (h:Q (.int (Nat.gcd x y:Nat))):F4 [.int x, .int y] Q:=by
 have go:∀y x:Nat,∀D:Ft,D.nx [some (.val (.int (Nat.gcd x y:Nat))),some (.val (.int 0))] ->∃n,Rn (Av (AX Wg (aV 1) (aC (.int 0)))) (Ov 0 1 (AB (aV 1) (AB (AX We (aV 0) (aV 1)) AL))) D n [some (.val (.int x)),some (.val (.int y))] :=by
  intro y
  induction y using Nat.strongRecOn with
  | _ y ih=>
    intro x D hD
    by_cases hy:y=0
    ·subst hy
     refine ⟨1, ?_⟩
     rw [Nat.gcd_zero_right] at hD
     exact hD
    ·obtain ⟨n,hn⟩:=ih (x % y) (Nat.mod_lt _ (by omega)) y D (by rw [Nat.gcd_comm y,<-Nat.gcd_rec,Nat.gcd_comm y];exact hD)
     refine ⟨n+1, ?_⟩
     refine Eo (b:= !decide ((y:Int)=0)) (λ_=> ?_) (λz=> ?_)
     ·have e2:(x:Int).fmod (y:Int)=((x % y:Nat):Int):=by
       rw [Int.fmod_eq_emod_of_nonneg _ (by omega)];simp
      refine ⟨by omega, ?_⟩
      rw [<-e2] at hn
      exact hn
     ·have:(y:Int)=0:=by simpa using z
      omega
 obtain ⟨n,hn⟩:=go y x {nx:=λτ=>Ay (aV 0) {nx:=λ_=>Q .non,rt:=Q,bk:=λ_=>False,ct:=λ_=>False} τ,rt:=Q,bk:=λ_=>False,ct:=λ_=>False} h
 exact ⟨n,hn⟩
def Um:AS:=
 (Ad (Bx (Av (AX VC (aV 1) (aC (.int 0)))) (As (Ow GB (aV 2)) (A0 2)) BI)
   (Ay (BJ (AB (AX O0 (aV 0) (aV 2)) (AB (AX O0 (aV 1) (aV 2)) AL)))))
def bE:AS:=
 (Ad (As (AN 2 F4 (AB (Es VE (AB (aV 0) AL)) (AB (Es VE (AB (aV 1) AL)) AL))) (A0 2))
   Um)
def FB:AF:=Ax 3 bE
theorem Xa (t b:Int) (hb:b≠0):∀s:Int,s=(if b<0 then -(Nat.gcd t.natAbs b.natAbs:Int) else (Nat.gcd t.natAbs b.natAbs:Int))->s≠0/\t.fdiv s=(Rat.divInt t b).num/\b.fdiv s=((Rat.divInt t b).den:Int):=by
 intro s hs
 have g0:0<Nat.gcd t.natAbs b.natAbs:=Nat.gcd_pos_of_pos_right _ (by omega)
 have eg:b.gcd t=Nat.gcd t.natAbs b.natAbs:=by rw [Int.gcd_eq_natAbs_gcd_natAbs,Nat.gcd_comm]
 have d1:(Nat.gcd t.natAbs b.natAbs:Int) ∣ t:=by rw [<-Int.dvd_natAbs];exact Int.ofNat_dvd.mpr (Nat.gcd_dvd_left ..)
 have d2:(Nat.gcd t.natAbs b.natAbs:Int) ∣ b:=by rw [<-Int.dvd_natAbs];exact Int.ofNat_dvd.mpr (Nat.gcd_dvd_right ..)
 have d1':s ∣ t:=by rw [hs];split <;> first | exact Int.neg_dvd.mpr d1|exact d1
 have d2':s ∣ b:=by rw [hs];split <;> first | exact Int.neg_dvd.mpr d2|exact d2
 refine ⟨by rw [hs];split <;> omega, ?_, ?_⟩
 ·rw [Int.fdiv_eq_ediv_of_dvd d1',Rat.num_divInt,eg,hs]
  by_cases h:b<0
  ·rw [if_pos h,Int.sign_eq_neg_one_of_neg h,Int.ediv_neg]
   have:(-1:Int)*t= -t:=by omega
   rw [this,Int.neg_ediv_of_dvd d1]
  ·rw [if_neg h,Int.sign_eq_one_of_pos (by omega),Int.one_mul]
 ·rw [Int.fdiv_eq_ediv_of_dvd d2',Rat.den_divInt,if_neg hb,eg,hs]
  by_cases h:b<0
  ·rw [if_pos h,Int.ediv_neg]
   have:(b.natAbs:Int)= -b:=by omega
   rw [Int.natCast_ediv,this,Int.neg_ediv_of_dvd d2]
  ·rw [if_neg h]
   have:(b.natAbs:Int)=b:=by omega
   rw [Int.natCast_ediv,this]
theorem D8 (t b:Int) (hb:b≠0) (hB:b.natAbs<2^8900) (Q:PV->Prop) (h:Q (fr (Rat.divInt t b))):FB [.int t, .int b] Q:=by
 have g0:0<Nat.gcd t.natAbs b.natAbs:=Nat.gcd_pos_of_pos_right _ (by omega)
 have gl:Nat.gcd t.natAbs b.natAbs<2^8900:=Nat.lt_of_le_of_lt (Nat.le_of_dvd (by omega) (Nat.gcd_dvd_right ..)) hB
 obtain ⟨s0,e1,e2⟩:=Xa t b hb _ rfl
 refine ⟨rfl,J8 _ _ _ ?_⟩
 refine Eo (b:=decide (b<0)) (λz=> ?_) (λz=> ?_)
 ·have z':b<0:=of_decide_eq_true z
  rw [if_pos z'] at s0 e1 e2
  refine ⟨⟨s0,by rw [Int.natAbs_neg];exact gl⟩,⟨s0,by rw [Int.natAbs_neg];exact gl⟩,(show 2<=sizeLine by decide), ?_⟩
  unfold fr at h
  rw [<-e1,<-e2] at h
  exact h
 ·have z':¬b<0:=of_decide_eq_false z
  rw [if_neg z'] at s0 e1 e2
  refine ⟨⟨s0,gl⟩,⟨s0,gl⟩,(show 2<=sizeLine by decide), ?_⟩
  unfold fr at h
  rw [<-e1,<-e2] at h
  exact h
theorem Bd.mt {n:Nat} {a b:Rat} (ha:Bd 4000 a) (hb:Bd 4000 b):MulOk a.num b.den/\MulOk b.num a.den/\MulOk a.den b.den/\MulOk a.num b.num/\MulOk a.den b.num:=
 ⟨.of ha.top (by simpa using hb.bot), .of hb.top (by simpa using ha.bot), .of (by simpa using ha.bot) (by simpa using hb.bot), .of ha.top hb.top, .of (by simpa using ha.bot) hb.top⟩
theorem OC {a b:Rat} (ha:Bd 4000 a) (hb:Bd 4000 b):((a.den:Int)*(b.den:Int)).natAbs<2^8900:=Ai (BH (a:=(a.den:Int)) (by simpa using ha.bot) (by simpa using hb.bot)) (by omega)
def bF:AS:=
 (Ay (AN 2 FB (AB (AX BK (AX CY (AX Aj (aV 0) (aC (.int 0))) (AX Aj (aV 1) (aC (.int 1)))) (AX CY (AX Aj (aV 1) (aC (.int 0))) (AX Aj (aV 0) (aC (.int 1))))) (AB (AX CY (AX Aj (aV 0) (aC (.int 1))) (AX Aj (aV 1) (aC (.int 1)))) AL))))
def HD:AF:=Ax 2 bF
theorem N0 {a b:Rat} (ha:Bd 4000 a) (hb:Bd 4000 b) {Q:PV->Prop} (h:Q (fr (a+b))):HD [fr a,fr b] Q:=by
 obtain ⟨m1,m2,m3,_⟩:=Bd.mt (n:=0) ha hb
 refine ⟨m1,m2,m3,rfl,D8 _ _ (DC (BS a) (BS b)) (OC ha hb) _ ?_⟩
 rw [HH] at h
 exact h
def Yc:AS:=
 (Ay (AN 2 FB (AB (AX Gm (AX CY (AX Aj (aV 0) (aC (.int 0))) (AX Aj (aV 1) (aC (.int 1)))) (AX CY (AX Aj (aV 1) (aC (.int 0))) (AX Aj (aV 0) (aC (.int 1))))) (AB (AX CY (AX Aj (aV 0) (aC (.int 1))) (AX Aj (aV 1) (aC (.int 1)))) AL))))
def DU:AF:=Ax 2 Yc
theorem DO {a b:Rat} (ha:Bd 4000 a) (hb:Bd 4000 b) {Q:PV->Prop} (h:Q (fr (a-b))):DU [fr a,fr b] Q:=by
 obtain ⟨m1,m2,m3,_⟩:=Bd.mt (n:=0) ha hb
 refine ⟨m1,m2,m3,rfl,D8 _ _ (DC (BS a) (BS b)) (OC ha hb) _ ?_⟩
 rw [HZ] at h
 exact h
def Yd:AS:=
 (Ay (AN 2 FB (AB (AX CY (AX Aj (aV 0) (aC (.int 0))) (AX Aj (aV 1) (aC (.int 0)))) (AB (AX CY (AX Aj (aV 0) (aC (.int 1))) (AX Aj (aV 1) (aC (.int 1)))) AL))))
def FC:AF:=Ax 2 Yd
theorem Lw {a b:Rat} (ha:Bd 4000 a) (hb:Bd 4000 b) {Q:PV->Prop} (h:Q (fr (a*b))):FC [fr a,fr b] Q:=by
 obtain ⟨_,_,m3,m4,_⟩:=Bd.mt (n:=0) ha hb
 refine ⟨m4,m3,rfl,D8 _ _ (DC (BS a) (BS b)) (OC ha hb) _ ?_⟩
 rw [HS] at h
 exact h
def bD:AS:=
 (Ay (AN 2 FB (AB (AX CY (AX Aj (aV 0) (aC (.int 0))) (AX Aj (aV 1) (aC (.int 1)))) (AB (AX CY (AX Aj (aV 0) (aC (.int 1))) (AX Aj (aV 1) (aC (.int 0)))) AL))))
def Ja:AF:=Ax 2 bD
theorem Jb {a b:Rat} (h0:b≠0) (ha:Bd 4000 a) (hb:Bd 4000 b) {Q:PV->Prop} (h:Q (fr (a/b))):Ja [fr a,fr b] Q:=by
 obtain ⟨m1,_,_,_,m5⟩:=Bd.mt (n:=0) ha hb
 refine ⟨m1,m5,rfl,D8 _ _ (DC (BS a) (So h0)) (Ai (BH (a:=(a.den:Int)) (by simpa using ha.bot) hb.top) (by omega)) _ ?_⟩
 rw [HM] at h
 exact h
def Lc:AS:=
 (Ad (As (AX Gm (aC (.int 1)) (AX CY (aC (.int 2)) (Es VF (AB (AX VC (aV 1) (aC (.int 0))) AL)))) (A0 2))
   (Ay (BJ (AB (AX O0 (AX CY (aV 2) (aV 0)) (aV 3)) (AB (AX O0 (AX CY (aV 2) (aV 1)) (aV 3)) AL)))))
def Lb:AS:=
 (Ad (Jc (Av (AX fR (aV 4) (aC (.int 0)))) (Ov 3 4 (AB (aV 4) (AB (AX We (aV 3) (aV 4)) AL))))
   Lc)
def QM:AS:=
 (Ad (Ov 3 4 (AB (Es VE (AB (aV 0) AL)) (AB (Es VE (AB (aV 1) AL)) AL)))
   Lb)
def A1:AF:=Ax 5 QM
theorem PB (t b:Int) (hb:b≠0):∀s:Int,s=(if b<0 then -1 else 1)->(s*t).fdiv (Nat.gcd t.natAbs b.natAbs:Int)=(Rat.divInt t b).num/\(s*b).fdiv (Nat.gcd t.natAbs b.natAbs:Int)=((Rat.divInt t b).den:Int):=by
 intro s hs
 have g0:0<Nat.gcd t.natAbs b.natAbs:=Nat.gcd_pos_of_pos_right _ (by omega)
 have eg:b.gcd t=Nat.gcd t.natAbs b.natAbs:=by rw [Int.gcd_eq_natAbs_gcd_natAbs,Nat.gcd_comm]
 have es:b.sign=s:=by
  rw [hs];split
  ·rename_i h;exact Int.sign_eq_neg_one_of_neg h
  ·exact Int.sign_eq_one_of_pos (by omega)
 rw [Rat.num_divInt,Rat.den_divInt,if_neg hb,eg,es,Int.fdiv_eq_ediv_of_nonneg _ (by omega),Int.fdiv_eq_ediv_of_nonneg _ (by omega)]
 refine ⟨rfl, ?_⟩
 rw [Int.natCast_ediv]
 congr 1
 rw [hs];split <;> omega
theorem CJ (t b:Int) (hb:b≠0) (hT:t.natAbs<2^900000) (hB:b.natAbs<2^8900) {Q:PV->Prop} (h:Q (fr (Rat.divInt t b))):A1 [.int t, .int b] Q:=by
 have g0:0<Nat.gcd t.natAbs b.natAbs:=Nat.gcd_pos_of_pos_right _ (by omega)
 have gl:Nat.gcd t.natAbs b.natAbs<2^8900:=Nat.lt_of_le_of_lt (Nat.le_of_dvd (by omega) (Nat.gcd_dvd_right ..)) hB
 have sg:(1:Int)-2*(if decide (b<0)=true then 1 else 0)=(if b<0 then -1 else 1):=by
  by_cases z:b<0 <;> simp [z]
 obtain ⟨e1,e2⟩:=PB t b hb _ sg
 have go:∀y x:Nat,∀D:Ft,∀u v w,D.nx [u,v,w,some (.val (.int (Nat.gcd x y:Nat))),some (.val (.int 0))] ->∃n,Rn (Av (AX fR (aV 4) (aC (.int 0)))) (Ov 3 4 (AB (aV 4) (AB (AX We (aV 3) (aV 4)) AL))) D n [u,v,w,some (.val (.int x)),some (.val (.int y))] :=by
  intro y
  induction y using Nat.strongRecOn with
  | _ y ih=>
    intro x D u v w hD
    by_cases hy:y=0
    ·subst hy
     refine ⟨1, ?_⟩
     rw [Nat.gcd_zero_right] at hD
     exact hD
    ·obtain ⟨n,hn⟩:=ih (x % y) (Nat.mod_lt _ (by omega)) y D u v w (by rw [Nat.gcd_comm y,<-Nat.gcd_rec,Nat.gcd_comm y];exact hD)
     refine ⟨n+1, ?_⟩
     refine Eo (b:=decide (0<(y:Int))) (λ_=> ?_) (λz=> ?_)
     ·have e2:(x:Int).fmod (y:Int)=((x % y:Nat):Int):=by
       rw [Int.fmod_eq_emod_of_nonneg _ (by omega)];simp
      refine ⟨by omega, ?_⟩
      rw [<-e2] at hn
      exact hn
     ·have:¬(0:Int)<y:=of_decide_eq_false z
      omega
 refine go b.natAbs t.natAbs _ (some (.val (.int t))) (some (.val (.int b))) none ?_
 have one:(1:Int).natAbs<2^1:=by decide
 have sb:((1:Int)-2*(if decide (b<0)=true then 1 else 0)).natAbs<2^1:=by rw [sg];split <;> decide
 refine ⟨.of (m:=2) (n:=1) (by decide) (by split <;> decide), .of sb hT,⟨by omega,gl⟩, .of sb hB,⟨by omega,gl⟩,(show 2<=sizeLine by decide), ?_⟩
 unfold fr at h
 rw [<-e1,<-e2] at h
 exact h
theorem CS {m:Int} {Q:PV->Prop} (m0:0<m) (m1:m<4611686018427387904) (h:∀r,0<=r->r<m->Q (.int r)):BR [.tape, .int m] Q:=⟨⟨m0,m1⟩,h⟩
mutual
def pz:Nat->PV->Bool
 | 0,_=>false
 | _+1, .non=>true
 | _+1, .bl _=>true
 | _+1, .int _=>true
 | n+1, .tup xs=>gN n xs&&decide (xs.length<sizeLine)
 | _+1,_=>false
def gN:Nat->List PV->Bool
 | _, [] =>true
 | n,x::xs=>pz n x&&gN n xs
end
theorem Z8 {t:Int} {n:Nat} (h:t.natAbs<2^n) (hn:n<=900000:=by omega):t.natAbs<2^900000:=Ai h hn
section
variable {a b:Rat} {Q:PV->Prop}
theorem cV (ha:Bd 4000 a) (hb:Bd 4000 b) (h:Q (fr (a+b))):A1 [.int (a.num*b.den+b.num*a.den), .int (a.den*b.den)] Q:=
 CJ _ _ (DC (BS a) (BS b)) (Z8 (LH (n:=8000) (BH ha.top hb.botI) (BH hb.top ha.botI))) (OC ha hb) (by rw [<-HH];exact h)
theorem cY (ha:Bd 4000 a) (hb:Bd 4000 b) (h:Q (fr (a-b))):A1 [.int (a.num*b.den-b.num*a.den), .int (a.den*b.den)] Q:=
 CJ _ _ (DC (BS a) (BS b)) (Z8 (QE (n:=8000) (BH ha.top hb.botI) (BH hb.top ha.botI))) (OC ha hb) (by rw [<-HZ];exact h)
theorem cX (ha:Bd 4000 a) (hb:Bd 4000 b) (h:Q (fr (a*b))):A1 [.int (a.num*b.num), .int (a.den*b.den)] Q:=
 CJ _ _ (DC (BS a) (BS b)) (Z8 (BH ha.top hb.top)) (OC ha hb) (by rw [<-HS];exact h)
theorem cW (h0:b≠0) (ha:Bd 4000 a) (hb:Bd 4000 b) (h:Q (fr (a/b))):A1 [.int (a.num*b.den), .int (a.den*b.num)] Q:=
 CJ _ _ (DC (BS a) (So h0)) (Z8 (BH ha.top (by simpa using hb.bot))) (Ai (BH (a:=(a.den:Int)) (by simpa using ha.bot) hb.top) (by omega)) (by rw [<-HM];exact h)
end
theorem QI {n:Int} {Q:PV->Prop} (h:Q (fr (n:Rat))):Q (.tup [.int n, .int 1]):=by rw [<-Wi];exact h
theorem Bd.part {t b:Int} {n:Nat} (h:b≠0) (ht:t.natAbs<2^n) (hb:b.natAbs<2^n):Bd n (Rat.divInt t b):= .divInt h ht hb
theorem lz {a b:Nat} (h:Nat.ble a b=true:=by rfl):a<=b:=Nat.le_of_ble_eq_true h
structure Sh (d n:Nat) (x:PV):Prop where
 ok:EX d x=true
 sh:(pd x).showable=true
 sz:(pd x).shown.length<=n
mutual
theorem MS:∀{d e:Nat} (x:PV),d<=e->EX d x=true->EX e x=true
 | _,_, .non,_,_=>by simp [EX]
 | _,_, .bl _,_,_=>by simp [EX]
 | _,_, .int _,_,_=>by simp [EX]
 | _,_, .str x,_,h=>by simpa [EX] using h
 | 0,_, .tup xs,_,h=>by simp [EX] at h
 | 0,_, .lst xs,_,h=>by simp [EX] at h
 | d+1,0, .tup xs,h,_=>by omega
 | d+1,0, .lst xs,h,_=>by omega
 | d+1,e+1, .tup xs,h,k=>by simp only [EX] at k ⊢;exact Jp xs (by omega) k
 | d+1,e+1, .lst xs,h,k=>by simp only [EX] at k ⊢;exact Jp xs (by omega) k
 | _,_, .tape,_,h=>by simp [EX] at h
 | _,_, .scr _,_,h=>by simp [EX] at h
 | _,_, .dct _,_,h=>by simp [EX] at h
 | _,_, .ty _,_,h=>by simp [EX] at h
theorem Jp:∀{d e:Nat} (xs:List PV),d<=e->Jo d xs=true->Jo e xs=true
 | _,_, [],_,_=>by simp [Jo]
 | _,_,x::xs,h,k=>by
   simp only [Jo,Bool.and_eq_true] at k ⊢
   exact ⟨MS x h k.1,Jp xs h k.2⟩
end
theorem Sh.mono {d n e m:Nat} {x:PV} (s:Sh d n x) (h1:d<=e) (h2:n<=m):Sh e m x:=⟨MS x h1 s.ok,s.sh,Nat.le_trans s.sz h2⟩
theorem Sh.go {d n:Nat} {x:PV} (s:Sh d n x) (h1:d<=30:=by omega) (h2:n<=16777216:=by omega):jG x:=⟨MS x h1 s.ok,s.sh,Nat.le_trans s.sz h2⟩
theorem Sh.int {i:Int} (h:i.natAbs<2^1900):Sh 0 1902 (.int i):=by
 refine ⟨rfl, ?_, ?_⟩
 ·show decide (i.natAbs.log2<1920)=true
  exact decide_eq_true (Nat.lt_trans (IN h (by decide)) (by decide))
 ·show (Str.ofString (toString i)).length<=1902
  rw [PySem.ofString_length]
  exact Nat.le_trans (int_text_length_le (k:=1900) (by decide) (IN h (by decide))) (by decide)
theorem MT {d:Nat}:∀{xs:List PV},(∀x∈xs,EX d x=true)->Jo d xs=true
 | [],_=>rfl
 | x::xs,h=>by
   simp only [Jo,Bool.and_eq_true]
   exact ⟨h x (by simp),MT λy hy=>h y (by simp [hy])⟩
theorem TB:∀{xs:List PV},(∀x∈xs,(pd x).showable=true)->PyData.showableAll (Pf xs)=true
 | [],_=>rfl
 | x::xs,h=>by
   simp only [Pf,PyData.showableAll,Bool.and_eq_true]
   exact ⟨h x (by simp),TB λy hy=>h y (by simp [hy])⟩
theorem QH {n:Nat}:∀{xs:List PV},(∀x∈xs,(pd x).shown.length<=n)->((PyData.shownAll (Pf xs)).map (·.length)).sum<=xs.length*n
 | [],_=>by simp [Pf,PyData.shownAll]
 | x::xs,h=>by
   simp only [Pf,PyData.shownAll,List.map_cons,List.sum_cons,List.length_cons]
   have h1:=h x (by simp)
   have h2:=QH (n:=n) (xs:=xs) λy hy=>h y (by simp [hy])
   rw [Nat.succ_mul];omega
theorem FU:∀(xs:List PV),(PyData.shownAll (Pf xs)).length=xs.length
 | [] =>rfl
 | x::xs=>by simp [Pf,PyData.shownAll,FU xs]
theorem Sh.tup {d n:Nat} {xs:List PV} (h:∀x∈xs,Sh d n x):Sh (d+1) (xs.length*(n+2)+3) (.tup xs):=by
 refine ⟨by simp only [EX];exact MT λx hx=>(h x hx).ok,by simp only [pd,PyData.showable];exact TB λx hx=>(h x hx).sh, ?_⟩
 have h1:=QH (n:=n) (xs:=xs) λx hx=>(h x hx).sz
 have h2:=tupleText_len_le (PyData.shownAll (Pf xs))
 rw [FU] at h2
 simp only [pd,PyData.shown]
 rw [Nat.mul_add]
 omega
theorem Sh.lst {d n:Nat} {xs:List PV} (h:∀x∈xs,Sh d n x):Sh (d+1) (xs.length*(n+2)+3) (.lst xs):=by
 refine ⟨by simp only [EX];exact MT λx hx=>(h x hx).ok,by simp only [pd,PyData.showable];exact TB λx hx=>(h x hx).sh, ?_⟩
 have h1:=QH (n:=n) (xs:=xs) λx hx=>(h x hx).sz
 have h2:=listText_len_le (PyData.shownAll (Pf xs))
 rw [FU] at h2
 simp only [pd,PyData.shown]
 rw [Nat.mul_add]
 omega
theorem j2 {α:Type} {P:α->Prop} {a b:α} (ha:P a) (hb:P b):∀x∈ [a,b],P x:=λx hx=>by
 simp only [List.mem_cons,List.not_mem_nil,or_false] at hx
 rcases hx with rfl|rfl
 ·exact ha
 ·exact hb
theorem j3 {α:Type} {P:α->Prop} {a b c:α} (ha:P a) (hb:P b) (hc:P c):∀x∈ [a,b,c],P x:=λx hx=>by
 simp only [List.mem_cons,List.not_mem_nil,or_false] at hx
 rcases hx with rfl|rfl|rfl
 ·exact ha
 ·exact hb
 ·exact hc
theorem gG {α:Type} {P:α->Prop} {a b c d:α} (ha:P a) (hb:P b) (hc:P c) (hd:P d):∀x∈ [a,b,c,d],P x:=λx hx=>by
 simp only [List.mem_cons,List.not_mem_nil,or_false] at hx
 rcases hx with rfl|rfl|rfl|rfl
 ·exact ha
 ·exact hb
 ·exact hc
 ·exact hd
theorem Sh.fr {r:Rat} (h:Bd 1900 r):Sh 1 4000 (fr r):=(Sh.tup (j2 (Sh.int h.top) (Sh.int h.botI))).mono (by omega) lz
theorem Wd (a b:Rat):fQ (fr a) (fr b)=decide (a=b):=by
 show (PyData.eqvAll [.int a.num, .int a.den] [.int b.num, .int b.den])=_
 simp only [PyData.eqvAll,PyData.eqv]
 by_cases h:a=b
 ·subst h;simp
 ·have:¬(a.num=b.num/\(a.den:Int)=b.den):=λz=>h (Rat.ext z.1 (by omega))
  rw [decide_eq_false h]
  simp only [Bool.and_true,Bool.and_eq_false_iff,beq_eq_false_iff_ne]
  by_cases h1:a.num=b.num
  ·exact .inr λz=>this ⟨h1,z⟩
  ·exact .inl h1
theorem UE (d:Nat) (a:Rat):EX (d+1) (fr a)=true:=rfl
theorem gE {a b:Rat}:decide (a.num*(b.den:Int)<b.num*(a.den:Int))=decide (a<b):=by
 rw [decide_eq_decide];exact (Rat.lt_iff a b).symm
def V2:AS:=
 (Ay (AX VC (AX CY (AX Aj (aV 0) (aC (.int 0))) (AX Aj (aV 1) (aC (.int 1)))) (AX CY (AX Aj (aV 1) (aC (.int 0))) (AX Aj (aV 0) (aC (.int 1))))))
def Ah:AF:=Ax 2 V2
section
variable {a b:Rat} {Q:PV->Prop}
theorem Bb (ha:Bd 4000 a) (hb:Bd 4000 b) (h:Q (.bl (decide (a<b)))):Ah [fr a,fr b] Q:=by
 obtain ⟨m1,m2,_⟩:=Bd.mt (n:=0) ha hb
 refine ⟨m1,m2, ?_⟩
 rw [<-gE] at h
 exact h
def Rs:AS:=
 (Ay (AN 2 A1 (AB (AX BK (AX CY (AX Aj (aV 0) (aC (.int 0))) (AX Aj (aV 1) (aC (.int 1)))) (AX CY (AX Aj (aV 1) (aC (.int 0))) (AX Aj (aV 0) (aC (.int 1))))) (AB (AX CY (AX Aj (aV 0) (aC (.int 1))) (AX Aj (aV 1) (aC (.int 1)))) AL))))
def BY:AF:=Ax 2 Rs
theorem Cd (ha:Bd 4000 a) (hb:Bd 4000 b) (h:Q (fr (a+b))):BY [fr a,fr b] Q:=by
 obtain ⟨m1,m2,m3,_⟩:=Bd.mt (n:=0) ha hb
 exact ⟨m1,m2,m3,rfl,cV ha hb h⟩
def Rr:AS:=
 (Ay (AN 2 A1 (AB (AX Gm (AX CY (AX Aj (aV 0) (aC (.int 0))) (AX Aj (aV 1) (aC (.int 1)))) (AX CY (AX Aj (aV 1) (aC (.int 0))) (AX Aj (aV 0) (aC (.int 1))))) (AB (AX CY (AX Aj (aV 0) (aC (.int 1))) (AX Aj (aV 1) (aC (.int 1)))) AL))))
def A8:AF:=Ax 2 Rr
theorem B6 (ha:Bd 4000 a) (hb:Bd 4000 b) (h:Q (fr (a-b))):A8 [fr a,fr b] Q:=by
 obtain ⟨m1,m2,m3,_⟩:=Bd.mt (n:=0) ha hb
 exact ⟨m1,m2,m3,rfl,cY ha hb h⟩
def Le:AS:=
 (Ay (AN 2 A1 (AB (AX CY (AX Aj (aV 0) (aC (.int 0))) (AX Aj (aV 1) (aC (.int 0)))) (AB (AX CY (AX Aj (aV 0) (aC (.int 1))) (AX Aj (aV 1) (aC (.int 1)))) AL))))
def BQ:AF:=Ax 2 Le
theorem CB (ha:Bd 4000 a) (hb:Bd 4000 b) (h:Q (fr (a*b))):BQ [fr a,fr b] Q:=by
 obtain ⟨m1,m2,m3,m4,_⟩:=Bd.mt (n:=0) ha hb
 exact ⟨m4,m3,rfl,cX ha hb h⟩
def Oe:AS:=
 (Ay (AN 2 A1 (AB (AX CY (AX Aj (aV 0) (aC (.int 0))) (AX Aj (aV 1) (aC (.int 1)))) (AB (AX CY (AX Aj (aV 0) (aC (.int 1))) (AX Aj (aV 1) (aC (.int 0)))) AL))))
def Bw:AF:=Ax 2 Oe
theorem Fd (h0:b≠0) (ha:Bd 4000 a) (hb:Bd 4000 b) (h:Q (fr (a/b))):Bw [fr a,fr b] Q:=by
 obtain ⟨m1,m2,m3,m4,m5⟩:=Bd.mt (n:=0) ha hb
 exact ⟨m1,m5,rfl,cW h0 ha hb h⟩
end
theorem jP {t b:Int} (ht:0<t) (hb:0<b):0<Rat.divInt t b:=by
 rw [Rat.lt_iff]
 have h1:=Rat.num_divInt t b
 show (0:Int)*_<_*1
 rw [Int.zero_mul,Int.mul_one,h1,Int.sign_eq_one_of_pos hb,Int.one_mul]
 have g:0<(b.gcd t:Int):=by have:=Int.gcd_pos_of_ne_zero_left t (show b≠0 by omega);omega
 exact Int.ediv_pos_of_pos_of_dvd ht (by omega) (Int.gcd_dvd_right ..)
theorem HY {t b:Int} {Q:PV->Prop} (k:Nat) (hb:b≠0) (ht:t.natAbs<2^k) (l5:b.natAbs<2^k) (hk:k<=2000) (h:Bd k (Rat.divInt t b)->Q (fr (Rat.divInt t b))):A1 [.int t, .int b] Q:=
 CJ t b hb (Ai ht (by omega)) (Ai l5 (by omega)) (h (.part hb ht l5))
def Mul (D N:Nat) (a:Rat):Prop:=0<D/\∃k:Int,a=Rat.divInt k D/\k.natAbs<=N
theorem Mul.bd {D N n:Nat} {a:Rat} (h:Mul D N a) (h1:N<2^n) (h2:D<2^n):Bd n a:=by
 obtain ⟨h0,k,rfl,hk⟩:=h
 exact .divInt (by omega) (by omega) (by simpa using h2)
theorem Mul.part {t b:Int} {c:Nat} (hb:0<b) (hc:0<c) {N:Nat} (h:(t*c).natAbs<=N):Mul (b.toNat*c) N (Rat.divInt t b):=by
 refine ⟨Nat.mul_pos (by omega) hc,t*c, ?_,h⟩
 have e:((b.toNat*c:Nat):Int)=b*c:=by rw [Int.natCast_mul];congr 1;omega
 rw [e,(Rat.divInt_eq_divInt_iff (by omega) (DC (by omega) (by omega)))]
 rw [Int.mul_comm b,Int.mul_assoc]
theorem Mul.add {D N M:Nat} {a b:Rat} (ha:Mul D N a) (hb:Mul D M b):Mul D (N+M) (a+b):=by
 obtain ⟨h0,k,rfl,hk⟩:=ha
 obtain ⟨_,l,rfl,hl⟩:=hb
 refine ⟨h0,k+l, ?_,by omega⟩
 rw [Rat.divInt_add_divInt _ _ (by omega) (by omega),Rat.divInt_eq_divInt_iff (DC (by omega) (by omega)) (by omega)]
 rw [<-Int.add_mul,Int.mul_assoc]
theorem Mul.mono {D N M:Nat} {a:Rat} (h:Mul D N a) (hm:N<=M):Mul D M a:=⟨h.1,let ⟨k,e,hk⟩:=h.2;⟨k,e,by omega⟩⟩
theorem Mul.int {n:Int} {D N:Nat} (hD:0<D) (h:(n*D).natAbs<=N):Mul D N (n:Rat):=by
 have e:(n:Rat)=Rat.divInt n 1:=by rw [<-Rat.num_divInt_den (n:Rat)];simp
 rw [e]
 have:=Mul.part (t:=n) (b:=1) (c:=D) (by decide) hD h
 simpa using this
def Lf:AS:=
 (Ad (Bx (Av (AX VC (aV 1) (aC (.int 3)))) (Ay (BJ (AB (AX BK (aC (.int 1)) (AN 2 BR (AB (aV 0) (AB (aC (.int 5)) AL)))) (AB (aC (.int 1)) AL)))) BI)
   (Ay (AN 2 A1 (AB (AX BK (aC (.int 1)) (AN 2 BR (AB (aV 0) (AB (aC (.int 8)) AL)))) (AB (AX Gm (aV 1) (aC (.int 1))) AL)))))
def QN:AS:=
 (Ad (As (AN 2 BR (AB (aV 0) (AB (aC (.int 5)) AL))) (A0 1))
   Lf)
def Bt:AF:=Ax 2 QN
theorem Fe {Q:PV->Prop} (h:∀a,Bd 8 a->0<a->Mul 6 48 a->Q (fr a)):Bt [.tape] Q:=by
 refine ⟨rfl,CS (by decide) (by decide) λw w0 w1=> ?_⟩
 refine Eo (b:=decide (w<3)) (λ_=> ?_) (λz=> ?_)
 ·refine ⟨rfl,CS (by decide) (by decide) λr r0 r1=>⟨lz, ?_⟩⟩
  exact QI (h _ (.int (by omega) (by decide)) (by exact_mod_cast (by omega:(0:Int)<1+r)) (.int (by decide) (by omega)))
 ·have z':¬w<3:=of_decide_eq_false z
  have hw:w-1=2\/w-1=3:=by omega
  refine ⟨rfl,CS (by decide) (by decide) λr r0 r1=>⟨rfl, ?_⟩⟩
  refine HY 8 (by omega) (by omega) (by omega) (by decide) λb=>h _ b (jP (by omega) (by omega)) ?_
  rcases hw with e|e
  ·rw [e];exact Mul.part (t:=1+r) (b:=2) (c:=3) (by decide) (by decide) (by omega)
  ·rw [e];exact Mul.part (t:=1+r) (b:=3) (c:=2) (by decide) (by decide) (by omega)
theorem Lu {Q:PV->Prop} (h:∀a,Bd 8 a->0<a->Q (fr a)):Bt [.tape] Q:=Fe λa b p _=>h a b p
def Kb:AS:=
 (Ad (Bx (Av (AX Kz (aV 1) (aC (.int 6)))) (Ay (AN 2 A1 (AB (AX Gm (AN 2 BR (AB (aV 0) (AB (aC (.int 25)) AL))) (aC (.int 6))) (AB (aC (.int 2)) AL)))) BI)
   (Ay (AN 2 A1 (AB (AX Gm (AN 2 BR (AB (aV 0) (AB (aC (.int 31)) AL))) (aC (.int 9))) (AB (aC (.int 3)) AL)))))
def Ka:AS:=
 (Ad (Bx (Av (AX VC (aV 1) (aC (.int 6)))) (Ay (BJ (AB (AX Gm (AN 2 BR (AB (aV 0) (AB (aC (.int 10)) AL))) (aC (.int 3))) (AB (aC (.int 1)) AL)))) BI)
   Kb)
def Od:AS:=
 (Ad (As (AN 2 BR (AB (aV 0) (AB (aC (.int 8)) AL))) (A0 1))
   Ka)
def Aw:AF:=Ax 2 Od
theorem A5 {Q:PV->Prop} (h:∀a,Mul 6 60 a->Q (fr a)):Aw [.tape] Q:=by
 refine ⟨rfl,CS (by decide) (by decide) λw w0 w1=> ?_⟩
 refine Eo (b:=decide (w<6)) (λ_=> ?_) (λz=> ?_)
 ·refine ⟨rfl,CS (by decide) (by decide) λr r0 r1=>⟨lz, ?_⟩⟩
  exact QI (h _ (.int (by decide) (by omega)))
 refine Eo (b:=decide (w=6)) (λ_=> ?_) (λz=> ?_)
 ·exact ⟨rfl,CS (by decide) (by decide) λr r0 r1=>⟨rfl,HY 8 (by omega) (by omega) (by omega) (by decide) λb=>h _ (Mul.part (t:=r-6) (b:=2) (c:=3) (by decide) (by decide) (by omega))⟩⟩
 ·exact ⟨rfl,CS (by decide) (by decide) λr r0 r1=>⟨rfl,HY 8 (by omega) (by omega) (by omega) (by decide) λb=>h _ (Mul.part (t:=r-9) (b:=3) (c:=2) (by decide) (by decide) (by omega))⟩⟩
abbrev C4:=Rat×Rat×Rat×Rat
def cor (c:C4):PV:= .tup [fr c.1,fr c.2.1,fr c.2.2.1,fr c.2.2.2]
def corL (c:C4):PV:= .lst [fr c.1,fr c.2.1,fr c.2.2.1,fr c.2.2.2]
def Ao (cs:List C4):PV:= .tup (cs.map cor)
structure Fs (B:Nat) (c:C4):Prop where
 m:Bd B c.1
 x:Bd B c.2.1
 y:Bd B c.2.2.1
 z:Bd B c.2.2.2
theorem Fs.mono {B B':Nat} {c:C4} (h:Fs B c) (k:B<=B'):Fs B' c:=⟨h.m.mono k,h.x.mono k,h.y.mono k,h.z.mono k⟩
structure Ln (D N:Nat) (c:C4):Prop where
 m:Mul D N c.1
 x:Mul D N c.2.1
 y:Mul D N c.2.2.1
 z:Mul D N c.2.2.2
theorem Ln.mono {D N M:Nat} {c:C4} (h:Ln D N c) (k:N<=M):Ln D M c:=⟨h.m.mono k,h.x.mono k,h.y.mono k,h.z.mono k⟩
theorem Ln.bd {D N n:Nat} {c:C4} (h:Ln D N c) (h1:N<2^n) (h2:D<2^n):Fs n c:=⟨h.m.bd h1 h2,h.x.bd h1 h2,h.y.bd h1 h2,h.z.bd h1 h2⟩
def Ku (cs:List C4):Prop:=cs.Pairwise λa b=>a.1<b.1
structure Lz (n D N:Nat) (cs:List C4):Prop where
 two:2<=cs.length
 few:cs.length<=n
 mu:∀c∈cs,Ln D N c
 ris:Ku cs
structure CK (n B:Nat) (cs:List C4):Prop where
 two:2<=cs.length
 few:cs.length<=n
 bd:∀c∈cs,Fs B c
 ris:Ku cs
theorem Xn {cs:List C4} {c d:C4} (h:Ku (cs ++ [c])) (hd:c.1<d.1):Ku (cs ++ [c] ++ [d]):=by
 refine List.pairwise_append.mpr ⟨h,by simp,λa ha b hb=> ?_⟩
 simp at hb;subst hb
 rcases List.mem_append.mp ha with ha|ha
 ·have:=(List.pairwise_append.mp h).2.2 a ha c (by simp)
  grind
 ·simp at ha;subst ha;exact hd
theorem bY {cs:List C4} {i:Int} {k:Nat} (hk:i=(k:Int)) (h:k<=cs.length):Gk (cs.map cor) none (some i)=(cs.take k).map cor:=by
 unfold Gk
 rw [hk,HT.sIx_none,HT.sIx_nat]
 rw [show min k (cs.map cor).length=k by simp;omega,List.map_take]
 simp
theorem WY {cs:List C4} {i:Int} {k:Nat} (hk:i=(k:Int)) (h:k<=cs.length):Gk (cs.map cor) (some i) none=(cs.drop k).map cor:=by
 unfold Gk
 rw [hk,HT.sIx_none,HT.sIx_nat]
 rw [show min k (cs.map cor).length=k by simp;omega,List.map_drop]
 exact List.take_of_length_le (by simp)
theorem hG {cs:List C4} {i:Int} {k:Nat} {Q:PV->Prop} (hk:i=(k:Int)) (h:k<=cs.length) (q:Q (Ao (cs.take k))):Tj (Ao cs) none (some i) Q:=by
 refine Gg ?_
 rw [bY hk h];exact q
theorem Ua {cs:List C4} {i:Int} {k:Nat} {Q:PV->Prop} (hk:i=(k:Int)) (h:k<=cs.length) (q:Q (Ao (cs.drop k))):Tj (Ao cs) (some i) none Q:=by
 refine Gg ?_
 rw [WY hk h];exact q
theorem Qn {cs ds:List C4} {Q:PV->Prop} (h:cs.length+ds.length<=10000) (q:Q (Ao (cs++ds))):BK (Ao cs) (Ao ds) Q:=by
 refine ⟨?_, ?_⟩
 ·simp only [List.length_map];exact Nat.le_trans h (by decide)
 ·show Q (.tup (cs.map cor++ds.map cor))
  rw [<-List.map_append];exact q
theorem Lz.ok {n D N m:Nat} {cs:List C4} (p:Lz n D N cs) (h1:N<2^m) (h2:D<2^m):CK n m cs:=⟨p.two,p.few,λc hc=>(p.mu c hc).bd h1 h2,p.ris⟩
def Bj (cs:List C4) (v:PV):Prop:=∃f:C4->PV,(f=cor\/f=corL)/\(v= .tup (cs.map f)\/v= .lst (cs.map f))
theorem Bj.self (cs:List C4):Bj cs (Ao cs):=⟨cor, .inl rfl, .inl rfl⟩
theorem Bj.lists (cs:List C4):Bj cs (.lst (cs.map corL)):=⟨corL, .inr rfl, .inr rfl⟩
theorem Bj.list (cs:List C4):Bj cs (.lst (cs.map cor)):=⟨cor, .inl rfl, .inr rfl⟩
theorem EU {α β:Type} {g:AG} {te:AE} {τ0:BG} {Q:List PV->Prop} (f:α->PV) (k:β->PV) (e:α->β) (P:α->Prop)
 (hs:∀a,P a->∀R:PV->Prop,R (k (e a))->g (f a) τ0 λτ1=>te τ1 R):
 ∀(xs:List α) (acc:List PV),(∀a∈xs,P a)->Q (acc++(xs.map e).map k)->DK g FD te τ0 Q (xs.map f) acc
 | [],acc,_,h=>(by simpa using h:Q acc)
 | a::xs,acc,hp,h=>by
   refine hs a (hp a (by simp)) (λy=>DK g FD te τ0 Q (xs.map f) (acc ++ [y])) (EU f k e P hs xs _ (λb hb=>hp b (by simp [hb])) ?_)
   simpa using h
theorem Sh.cor {c:C4} (h:Fs 1900 c):Sh 2 17000 (cor c):=(Sh.tup (gG (Sh.fr h.m) (Sh.fr h.x) (Sh.fr h.y) (Sh.fr h.z))).mono (by decide) lz
theorem Sh.corL {c:C4} (h:Fs 1900 c):Sh 2 17000 (corL c):=(Sh.lst (gG (Sh.fr h.m) (Sh.fr h.x) (Sh.fr h.y) (Sh.fr h.z))).mono (by decide) lz
abbrev T3:=Rat×Rat×Rat
def inter (a b:C4) (m:Rat):T3:=(a.2.1+(m-a.1)/(b.1-a.1)*(b.2.1-a.2.1),a.2.2.1+(m-a.1)/(b.1-a.1)*(b.2.2.1-a.2.2.1),a.2.2.2+(m-a.1)/(b.1-a.1)*(b.2.2.2-a.2.2.2))
def spotG:C4->List C4->Rat->Option T3
 | _, [],_=>none
 | a,b::r,m=>if b.1<m then spotG b r m else some (inter a b m)
def spotC:List C4->Rat->Option T3
 | [],_=>none
 | a::r,m=>if m<a.1 then none else spotG a r m
def hV (t:T3):PV:= .tup [fr t.1,fr t.2.1,fr t.2.2]
def KY:Option T3->PV
 | none=> .non
 | some t=>hV t
structure E1 (B:Nat) (t:T3):Prop where
 x:Bd B t.1
 y:Bd B t.2.1
 z:Bd B t.2.2
theorem E1.mono {B B':Nat} {t:T3} (h:E1 B t) (k:B<=B'):E1 B' t:=⟨h.x.mono k,h.y.mono k,h.z.mono k⟩
section
variable {B M:Nat} {a b:C4} {m:Rat}
theorem QF {x y:Rat} (h:x<y):y-x≠0:=by grind
theorem Bd.share (ha:Fs B a) (hb:Fs B b) (hm:Bd M m) (h:a.1<b.1):Bd (M+B+1+(B+B+1)) ((m-a.1)/(b.1-a.1)):=(hm.sub ha.m).div (QF h) (hb.m.sub ha.m)
theorem E1.inter (ha:Fs B a) (hb:Fs B b) (hm:Bd M m) (h:a.1<b.1):E1 (M+6*B+10) (inter a b m):=by
 have s:=Bd.share ha hb hm h
 exact ⟨(ha.x.add (s.mul (hb.x.sub ha.x))).mono (by omega),(ha.y.add (s.mul (hb.y.sub ha.y))).mono (by omega),(ha.z.add (s.mul (hb.z.sub ha.z))).mono (by omega)⟩
end
theorem E1.spotG {B M:Nat} {m:Rat} (hm:Bd M m):∀{a:C4} {r:List C4},Ku (a::r)->(∀c∈a::r,Fs B c)->∀t,spotG a r m=some t->E1 (M+6*B+10) t
 | a, [],_,_,t,e=>by cases e
 | a,b::r,hr,hb,t,e=>by
   unfold PL.spotG at e
   split at e
   ·exact E1.spotG hm (List.pairwise_cons.mp hr).2 (λc hc=>hb c (by simp [hc])) t e
   ·cases e
    exact .inter (hb a (by simp)) (hb b (by simp)) hm ((List.pairwise_cons.mp hr).1 b (by simp))
theorem E1.spotC {B M:Nat} {m:Rat} {cs:List C4} (hm:Bd M m) (hr:Ku cs) (hb:∀c∈cs,Fs B c):∀t,spotC cs m=some t->E1 (M+6*B+10) t:=λt e=>by
 cases cs with
 | nil=>cases e
 | cons a r=>
   simp only [PL.spotC] at e
   split at e
   ·cases e
   ·exact E1.spotG hm hr hb t e
theorem FH {f:C4->PV} {cs:List C4} {i:Int} {k:Nat} {c:C4} {Q:PV->Prop} (hk:i=(k:Int)) (e:cs[k]? =some c) (h:Q (f c)):XV (HI (cs.map f) i) Q:=by
 have q:HI (cs.map f) ((k:Nat):Int)=some (f c):=CC (by rw [List.getElem?_map,e] <;> rfl)
 rw [hk,q];exact h
theorem IJ {f:C4->PV} {cs:List C4} {c:C4} {Q:PV->Prop} (e:cs.getLast?=some c) (h:Q (f c)):XV (HI (cs.map f) (-1)) Q:=by
 have YX:cs≠ [] :=by intro z;subst z;cases e
 have hl:0<cs.length:=List.length_pos_iff.mpr YX
 have q:HI (cs.map f) (-1)=some (f c):=by
  unfold HI RC
  rw [List.length_map,if_neg (by decide),if_pos (by omega)]
  have e2:(-1+(cs.length:Int)).toNat=cs.length-1:=by omega
  rw [Option.bind_some,e2,List.getElem?_map,<-List.getLast?_eq_getElem?,e]
  rfl
 rw [q];exact h
def Ll:AS:=
 (Ad (As (AN 2 Ja (AB (AN 2 DU (AB (aV 2) (AB (AX Aj (aV 0) (aC (.int 0))) AL))) (AB (AN 2 DU (AB (AX Aj (aV 1) (aC (.int 0))) (AB (AX Aj (aV 0) (aC (.int 0))) AL))) AL))) (A0 3))
   (Ay (Es EG (AB (GU (CL (aR (AB (Uw (aV 0) (Uz (aC (.int 1))) Uy) (AB (Uw (aV 1) (Uz (aC (.int 1))) Uy) AL))) 2 [3] (NT 2 (Aq (A0 0) (Aq (A0 1) Cg))) FD (AN 2 HD (AB (aV 0) (AB (AN 2 FC (AB (aV 2) (AB (AN 2 DU (AB (aV 1) (AB (aV 0) AL))) AL))) AL))))) AL))))
def C8:AF:=Ax 4 Ll
theorem Hx {f:C4->PV} (hf:f=cor\/f=corL) {a b:C4} {B M:Nat} {m:Rat} (ha:Fs B a) (hb:Fs B b) (hm:Bd M m) (h:a.1<b.1) (hB:M+6*B+10<=3990) {Q:PV->Prop} (q:Q (hV (inter a b m))):C8 [f a,f b,fr m] Q:=by
 simp only [hV,inter] at q
 have s:=Bd.share ha hb hm h
 have key:DK (NT 2 (Aq (A0 0) (Aq (A0 1) Cg))) FD (AN 2 HD (AB (aV 0) (AB (AN 2 FC (AB (aV 2) (AB (AN 2 DU (AB (aV 1) (AB (aV 0) AL))) AL))) AL))) [none,none,some (.val (fr ((m-a.1)/(b.1-a.1))))] (λxs=>Q (.tup xs))
  ([(a.2.1,b.2.1),(a.2.2.1,b.2.2.1),(a.2.2.2,b.2.2.2)].map λp:Rat×Rat=>PV.tup [fr p.1,fr p.2]) [] :=by
  refine EU (λp:Rat×Rat=>PV.tup [fr p.1,fr p.2]) fr (λp=>p.1+(m-a.1)/(b.1-a.1)*(p.2-p.1)) (λp=>Bd B p.1/\Bd B p.2) (λp hp R hR=> ?_) _ [] (j3 ⟨ha.x,hb.x⟩ ⟨ha.y,hb.y⟩ ⟨ha.z,hb.z⟩) q
  have bl:=hp.1
  have bh:=hp.2
  exact ⟨rfl,rfl,DO (bh.mono (by omega)) (bl.mono (by omega)) ⟨rfl,Lw (s.mono (by omega)) ((bh.sub bl).mono (by omega)) ⟨rfl,N0 (bl.mono (by omega)) ((s.mul (bh.sub bl)).mono (by omega)) hR⟩⟩⟩
 have m1:=hm.mono (n:=4000) (by omega)
 have a1:=ha.m.mono (n:=4000) (by omega)
 have b1:=hb.m.mono (n:=4000) (by omega)
 rcases hf with rfl|rfl
 ·exact ⟨rfl,DO m1 a1 ⟨rfl,DO b1 a1 ⟨rfl,Jb (QF h) ((hm.sub ha.m).mono (by omega)) ((hb.m.sub ha.m).mono (by omega)) (Gg (Gg ⟨lz,key⟩))⟩⟩⟩
 ·exact ⟨rfl,DO m1 a1 ⟨rfl,DO b1 a1 ⟨rfl,Jb (QF h) ((hm.sub ha.m).mono (by omega)) ((hb.m.sub ha.m).mono (by omega)) (D6 (D6 ⟨lz,key⟩))⟩⟩⟩
def Ol:AS:=
 (Ad (E2 (Yv (AB (aC (.int 1)) (AB (Es FG (AB (aV 0) AL)) AL))) (A0 2) (Bx (Gy (Av (AN 2 Ah (AB (AX Aj (AX Aj (aV 0) (aV 2)) (aC (.int 0))) (AB (aV 1) AL))))) (Ay (AN 3 C8 (AB (AX Aj (aV 0) (AX Gm (aV 2) (aC (.int 1)))) (AB (AX Aj (aV 0) (aV 2)) (AB (aV 1) AL))))) BI))
   (Ay (aC .non)))
def Uo:AS:=
 (Ad (Bx (Av (AN 2 Ah (AB (aV 1) (AB (AX Aj (AX Aj (aV 0) (aC (.int 0))) (aC (.int 0))) AL)))) (Ay (aC .non)) BI)
   Ol)
def Ey:AF:=Ax 3 Uo
theorem Zv {cs:List C4} (h:Ku cs) {k:Nat} {a b:C4} (ea:cs[k]? =some a) (eb:cs[k+1]? =some b):a.1<b.1:=by
 have h1:=(List.getElem?_eq_some_iff.mp ea)
 have h2:=(List.getElem?_eq_some_iff.mp eb)
 obtain ⟨l1,rfl⟩:=h1
 obtain ⟨l2,rfl⟩:=h2
 exact List.pairwise_iff_getElem.mp h k (k+1) l1 l2 (by omega)
theorem Hw {cs:List C4} {v:PV} {B M:Nat} {m:Rat} (hv:Bj cs v) (hc:∀c∈cs,Fs B c) (hr:Ku cs) (h0:cs≠ []) (hl:cs.length<=1000) (hm:Bd M m) (hB:M+6*B+10<=3990) {Q:PV->Prop} (q:Q (KY (spotC cs m))):Ey [v,fr m] Q:=by
 obtain ⟨f,hf,hv⟩:=hv
 have m1:=hm.mono (n:=4000) (by omega)
 cases cs with
 | nil=>exact absurd rfl h0
 | cons a r=>
   have ba:=hc a (by simp)
   have a1:=ba.m.mono (n:=4000) (by omega)
   simp only [spotC] at q
   have few:r.length+1<=1000:=hl
   have mC:∀(c:C4) (P:PV->Prop),P (fr c.1)->Rp (f c) λys=>XV (HI ys 0) P:=λc P hP=>by rcases hf with rfl|rfl <;> exact hP
   rcases hv with rfl|rfl
   all_goals
    refine FH (k:=0) (c:=a) rfl rfl (mC a _ ⟨rfl,Bb m1 a1 ?_⟩)
    refine Eo (b:=decide (m<a.1)) (λz=> ?_) (λz=> ?_)
    ·rw [if_pos (of_decide_eq_true z)] at q
     exact q
    ·rw [if_neg (of_decide_eq_false z)] at q
     have DJ:∀f:C4->PV,((((a::r).map f).length:Nat):Int)=r.length+1:=λf=>by simp
     refine ⟨⟨by decide,by decide,by rw [DJ];omega,by rw [DJ];omega⟩, ?_⟩
     rw [DJ,show ((r.length:Int)+1-1).toNat=r.length by omega]
     refine IH (λrr τ=>∃(k:Nat) (z2:Option AV) (c:C4) (ds:List C4),rr=rng ((k:Int)+1) ds.length/\(a::r)[k]? =some c/\(a::r).drop (k+1)=ds/\spotG c ds m=spotG a r m/\τ= [some (.val _),some (.val (fr m)),z2]) ?_ ?_ _ _ ⟨0,none,a,r,rfl,rfl,rfl,rfl,rfl⟩
     ·rintro τ ⟨k,z2,c,ds,W3,ek,ed,es,rfl⟩
      have:ds= [] :=by
       cases ds with
       | nil=>rfl
       | cons d ds=>rw [List.length_cons,IV] at W3;cases W3
      subst this
      rw [<-es] at q
      exact q
     ·rintro x rr τ R hR ⟨k,z2,c,ds,W3,ek,ed,es,rfl⟩
      cases ds with
      | nil=>cases W3
      | cons d ds=>
        rw [List.length_cons,IV] at W3
        cases W3
        have ed':(a::r)[k+1]? =some d:=by
         have:=congrArg (λl=>l[0]?) ed
         simpa [List.getElem?_drop] using this
        have bd:=hc d (List.mem_of_getElem? ed')
        have bc:=hc c (List.mem_of_getElem? ek)
        refine FH (k:=k+1) (by omega) ed' (mC d _ ⟨rfl,Bb (bd.m.mono (by omega)) m1 ?_⟩)
        refine Eo (b:= !decide (d.1<m)) (λz=> ?_) (λz=> ?_)
        ·have z':¬d.1<m:=by simpa using z
         rw [<-es] at q
         simp only [spotG,if_neg z',KY] at q
         exact FH (k:=k) (by omega) ek (FH (k:=k+1) (by omega) ed' ⟨rfl,Hx hf bc bd hm (Zv hr ek ed') hB q⟩)
        ·have z':d.1<m:=by simpa using z
         refine hR _ ⟨k+1,_,d,ds, ?_,ed', ?_, ?_,rfl⟩
         ·rw [show (((k+1:Nat):Int)+1)=(k:Int)+1+1 by omega]
         ·have:=congrArg List.tail ed
          simpa [List.tail_drop] using this
         ·rw [<-es];simp only [spotG,if_pos z']
theorem Mz {m:Rat}:∀{a:C4} {r:List C4},Ku (a::r)->(∀l,(a::r).getLast?=some l->l.1<m)->spotG a r m=none
 | a, [],_,_=>rfl
 | a,b::r,hr,h=>by
   have aY:Ku (b::r):=(List.pairwise_cons.mp hr).2
   have hb:b.1<m:=by
    cases r with
    | nil=>exact h b rfl
    | cons c r=>
      obtain ⟨l,hl⟩:∃l,(c::r).getLast?=some l:=⟨_,List.getLast?_eq_some_getLast (by simp)⟩
      have h1:l.1<m:=h l (by simpa [List.getLast?_cons_cons] using hl)
      have h2:b.1<l.1:=(List.pairwise_cons.mp aY).1 l (List.mem_of_getLast? hl)
      grind
   simp only [spotG,if_pos hb]
   exact Mz aY λl hl=>h l (by simpa [List.getLast?_cons_cons] using hl)
theorem Q9 {a b:C4} (h:a.1<b.1):inter a b a.1=a.2:=by
 have s:(a.1-a.1)/(b.1-a.1)=0:=by grind
 simp only [inter,s]
 obtain ⟨m,x,y,z⟩:=a
 show (x+0*(b.2.1-x),y+0*(b.2.2.1-y),z+0*(b.2.2.2-z))=(x,y,z)
 rw [show x+0*(b.2.1-x)=x by grind,show y+0*(b.2.2.1-y)=y by grind,show z+0*(b.2.2.2-z)=z by grind]
theorem ML {a b:C4} (h:a.1<b.1):inter a b b.1=b.2:=by
 have s:(b.1-a.1)/(b.1-a.1)=1:=by grind
 simp only [inter,s]
 obtain ⟨m,x,y,z⟩:=b
 show (a.2.1+1*(x-a.2.1),a.2.2.1+1*(y-a.2.2.1),a.2.2.2+1*(z-a.2.2.2))=(x,y,z)
 rw [show a.2.1+1*(x-a.2.1)=x by grind,show a.2.2.1+1*(y-a.2.2.1)=y by grind,show a.2.2.2+1*(z-a.2.2.2)=z by grind]
theorem Rk {a:C4} {r:List C4} {m:Rat} (h:m<a.1):spotC (a::r) m=none:=by simp only [spotC,if_pos h]
theorem QC {a:C4} {r:List C4} {m:Rat} (hr:Ku (a::r)) (h:∀l,(a::r).getLast?=some l->l.1<m):spotC (a::r) m=none:=by
 simp only [spotC]
 split
 ·rfl
 ·exact Mz hr h
def Hs:AS:=
 (Ad (As (GU (CL (NU (BJ (AB (aC (.int 1)) (AB (aC (.int 2)) (AB (aC (.int 3)) AL))))) 1 [4,3,2] (A0 0) FD (AN 2 BQ (AB (aV 1) (AB (AN 2 A8 (AB (AX Aj (aV 2) (aV 0)) (AB (AX Aj (aV 3) (aV 0)) AL))) AL))))) (A0 5))
   (Ay (Es EG (AB (GU (CL (Oy (AB (aC (.int 3)) AL)) 1 [2,5] (A0 0) FD (AN 2 BY (AB (AX Aj (aV 1) (AX BK (aV 0) (aC (.int 1)))) (AB (AX Aj (aV 2) (aV 0)) AL))))) AL))))
def Lg:AS:=
 (Ad (As (AN 2 Bw (AB (AN 2 A8 (AB (aV 1) (AB (AX Aj (aV 2) (aC (.int 0))) AL))) (AB (AN 2 A8 (AB (AX Aj (aV 3) (aC (.int 0))) (AB (AX Aj (aV 2) (aC (.int 0))) AL))) AL))) (A0 4))
   Hs)
def Lh:AS:=
 (Ad (E2 (aR (AB (aV 0) (AB (Uw (aV 0) (Uz (aC (.int 1))) Uy) AL))) (NT 2 (Aq (A0 2) (Aq (A0 3) Cg))) (Bx (Gy (Av (AN 2 Ah (AB (AX Aj (aV 3) (aC (.int 0))) (AB (aV 1) AL))))) Lg BI))
   (Ay (aC .non)))
def QO:AS:=
 (Ad (Bx (Ky (Av (AN 2 Ah (AB (aV 1) (AB (AX Aj (AX Aj (aV 0) (aC (.int 0))) (aC (.int 0))) AL)))) (Av (AN 2 Ah (AB (AX Aj (AX Aj (aV 0) (Ow GB (aC (.int 1)))) (aC (.int 0))) (AB (aV 1) AL))))) (Ay (aC .non)) BI)
   Lh)
def Dd:AF:=Ax 6 QO
theorem F3 {cs:List C4} {B M:Nat} {m:Rat} (hc:∀c∈cs,Fs B c) (hr:Ku cs) (h0:cs≠ []) (hl:cs.length<=1000) (hm:Bd M m) (hB:M+6*B+10<=3990) {Q:PV->Prop} (q:Q (KY (spotC cs m))):Dd [Ao cs,fr m] Q:=by
 have m1:=hm.mono (n:=4000) (by omega)
 cases cs with
 | nil=>exact absurd rfl h0
 | cons a r=>
   have ba:=hc a (by simp)
   have a1:=ba.m.mono (n:=4000) (by omega)
   obtain ⟨l,el⟩:∃l,(a::r).getLast?=some l:=⟨_,List.getLast?_eq_some_getLast (by simp)⟩
   have bl:=hc l (List.mem_of_getLast? el)
   refine FH (f:=cor) (k:=0) (c:=a) rfl rfl ⟨rfl,Bb m1 a1 ?_⟩
   refine Eo (b:=decide (m<a.1)) (λz=> ?_) (λz=> ?_)
   ·rw [Rk (of_decide_eq_true z)] at q
    exact q
   refine IJ (f:=cor) el ⟨rfl,Bb (bl.m.mono (by omega)) m1 ?_⟩
   refine Eo (b:=decide (l.1<m)) (λz2=> ?_) (λz2=> ?_)
   ·rw [QC hr (λl' e'=>by rw [el] at e';cases e';exact of_decide_eq_true z2)] at q
    exact q
   simp only [spotC,if_neg (of_decide_eq_false z)] at q
   have few:r.length+1<=1000:=hl
   refine Ua (cs:=a::r) (i:=1) (k:=1) rfl (by simp) ?_
   refine IH (λrr τ=>∃(c:C4) (ds:List C4) (z2 z3 z4 z5:Option AV),rr=Dv ((c::ds).map cor) (ds.map cor)/\Ku (c::ds)/\(∀d∈c::ds,Fs B d)/\spotG c ds m=spotG a r m/\τ= [some (.val (Ao (a::r))),some (.val (fr m)),z2,z3,z4,z5]) ?_ ?_ _ _ ⟨a,r,none,none,none,none,rfl,hr,hc,rfl,rfl⟩
   ·rintro τ ⟨c,ds,z2,z3,z4,z5,W3,jp,hb,es,rfl⟩
    have:ds= [] :=by cases ds with | nil=>rfl|cons d ds=>cases W3
    subst this
    rw [<-es] at q
    exact q
   ·rintro x rr τ R hR ⟨c,ds,z2,z3,z4,z5,W3,jp,hb,es,rfl⟩
    cases ds with
    | nil=>cases W3
    | cons d ds=>
      cases W3
      have bc:=hb c (by simp)
      have bd:=hb d (by simp)
      have NB:=(List.pairwise_cons.mp jp).1 d (by simp)
      refine ⟨rfl,rfl,Bb (bd.m.mono (by omega)) m1 ?_⟩
      refine Eo (b:= !decide (d.1<m)) (λz=> ?_) (λz=> ?_)
      ·have z':¬d.1<m:=by simpa using z
       rw [<-es] at q
       simp only [spotG,if_neg z',KY,hV,inter] at q
       have s:=Bd.share bc bd hm NB
       refine ⟨rfl,B6 m1 (bc.m.mono (by omega)) ⟨rfl,B6 (bd.m.mono (by omega)) (bc.m.mono (by omega)) ⟨rfl,Fd (QF NB) ((hm.sub bc.m).mono (by omega)) ((bd.m.sub bc.m).mono (by omega)) ?_⟩⟩⟩
       refine ⟨lz,lz, ?_⟩
       refine ⟨rfl,B6 (bd.x.mono (by omega)) (bc.x.mono (by omega)) ⟨rfl,CB (s.mono (by omega)) ((bd.x.sub bc.x).mono (by omega)) ?_⟩⟩
       refine ⟨rfl,B6 (bd.y.mono (by omega)) (bc.y.mono (by omega)) ⟨rfl,CB (s.mono (by omega)) ((bd.y.sub bc.y).mono (by omega)) ?_⟩⟩
       refine ⟨rfl,B6 (bd.z.mono (by omega)) (bc.z.mono (by omega)) ⟨rfl,CB (s.mono (by omega)) ((bd.z.sub bc.z).mono (by omega)) ?_⟩⟩
       refine ⟨⟨by decide,by decide⟩,lz, ?_⟩
       refine ⟨rfl,Cd (bc.x.mono (by omega)) ((s.mul (bd.x.sub bc.x)).mono (by omega)) ?_⟩
       refine ⟨rfl,Cd (bc.y.mono (by omega)) ((s.mul (bd.y.sub bc.y)).mono (by omega)) ?_⟩
       exact ⟨rfl,Cd (bc.z.mono (by omega)) ((s.mul (bd.z.sub bc.z)).mono (by omega)) q⟩
      ·have z':d.1<m:=by simpa using z
       exact hR _ ⟨d,ds,_,_,_,_,rfl,(List.pairwise_cons.mp jp).2,λe he=>hb e (by simp [he]),by rw [<-es];simp only [spotG,if_pos z'],rfl⟩
def sp (cs:List C4) (m:Rat):C4:=(m,(spotC cs m).getD (0,0,0))
def Jd (f t:Rat) (c:C4):Bool:=decide (f<c.1)&&decide (c.1<t)
theorem M0 {m:Rat}:∀{a:C4} {r:List C4} {l:C4},r≠ [] ->(a::r).getLast?=some l->m<=l.1->∃t,spotG a r m=some t
 | a, [],l,h,_,_=>absurd rfl h
 | a,b::r,l,_,e,hm=>by
   simp only [spotG]
   split
   ·rename_i h
    cases r with
    | nil=>
      have:b=l:=by simpa using e
      subst this;grind
    | cons c r=>exact M0 (l:=l) (by simp) (by simpa [List.getLast?_cons_cons] using e) hm
   ·exact ⟨_,rfl⟩
theorem My {a:C4} {r:List C4} {l:C4} {m:Rat} (h2:r≠ []) (e:(a::r).getLast?=some l) (h0:a.1<=m) (h1:m<=l.1):∃t,spotC (a::r) m=some t:=by
 simp only [spotC]
 rw [if_neg (by grind)]
 exact M0 h2 e h1
theorem VV {a b l:C4} {r:List C4} (e:(a::b::r).getLast?=some l):(b::r).getLast?=some l:=by
 simpa [List.getLast?_cons_cons] using e
def mx (b a:Rat):Rat:=if b<a then a else b
def mn (e l:Rat):Rat:=if e<l then e else l
def LZ:AS:=
 (Ay (aQ (Av (AN 2 Ah (AB (aV 0) (AB (aV 1) AL)))) (aV 1) (aV 0)))
def CI:AF:=Ax 2 LZ
theorem Hv {a b:Rat} (ha:Bd 4000 a) (hb:Bd 4000 b) {Q:PV->Prop} (q:Q (fr (mx a b))):CI [fr a,fr b] Q:=by
 refine ⟨rfl,Bb ha hb ?_⟩
 refine Eo (b:=decide (a<b)) (λz=> ?_) (λz=> ?_)
 ·rw [mx,if_pos (of_decide_eq_true z)] at q;exact q
 ·rw [mx,if_neg (of_decide_eq_false z)] at q;exact q
def V4:AS:=
 (Ay (aQ (Av (AN 2 Ah (AB (aV 1) (AB (aV 0) AL)))) (aV 1) (aV 0)))
def F5:AF:=Ax 2 V4
theorem Qe {a b:Rat} (ha:Bd 4000 a) (hb:Bd 4000 b) {Q:PV->Prop} (q:Q (fr (mn a b))):F5 [fr a,fr b] Q:=by
 refine ⟨rfl,Bb hb ha ?_⟩
 refine Eo (b:=decide (b<a)) (λz=> ?_) (λz=> ?_)
 ·have z':=of_decide_eq_true z
  rw [show mn a b=b by unfold mn;split <;> grind] at q;exact q
 ·have z':=of_decide_eq_false z
  rw [show mn a b=a by unfold mn;split <;> grind] at q;exact q
theorem DR {α:Type} {g:AG} {tt:AT} {te:AE} {τ0:BG} {Q:List PV->Prop} (f k:α->PV) (p:α->Bool) (P:α->Prop)
 (hs:∀a,P a->∀(R:PV->Prop) (N:Prop),(p a=true->R (k a))->(p a=false->N)->g (f a) τ0 λτ1=>tt τ1 λok=>if ok=true then te τ1 R else N):
 ∀(xs:List α) (acc:List PV),(∀a∈xs,P a)->Q (acc++(xs.filter p).map k)->DK g tt te τ0 Q (xs.map f) acc
 | [],acc,_,h=>(by simpa using h:Q acc)
 | a::xs,acc,hp,h=>by
   refine hs a (hp a (by simp)) (λy=>DK g tt te τ0 Q (xs.map f) (acc ++ [y])) _ (λz=> ?_) (λz=> ?_)
   ·exact DR f k p P hs xs _ (λb hb=>hp b (by simp [hb])) (by simpa [List.filter_cons,z] using h)
   ·exact DR f k p P hs xs _ (λb hb=>hp b (by simp [hb])) (by simpa [List.filter_cons,z] using h)
theorem both {f t:Rat} {c:C4} {tt:(Bool->Prop)->Prop} {A:Prop} {N:Prop} (h1:Jd f t c=true->A) (h2:Jd f t c=false->N):
 if decide (f<c.1)=true then (if decide (c.1<t)=true then A else N) else N:=by
 unfold Jd at h1 h2
 refine Eo (λz=>Eo (λz2=>h1 (by rw [z,z2];rfl)) (λz2=>h2 (by rw [z,z2];rfl))) (λz=>h2 (by rw [z];rfl))
def Ht:AS:=
 (Ay (GU (CL (NU (aV 0)) 1 [1,2] (A0 0) (KB (Av (AN 2 Ah (AB (aV 1) (AB (AX Aj (aV 0) (aC (.int 0))) AL)))) (Av (AN 2 Ah (AB (AX Aj (aV 0) (aC (.int 0))) (AB (aV 2) AL))))) (Es EG (AB (aV 0) AL)))))
def Be:AF:=Ax 3 Ht
theorem De {cs:List C4} {v:PV} {B:Nat} {f t:Rat} (hv:Bj cs v) (hl:cs.length<=1000) (hc:∀c∈cs,Fs B c) (hB:B<=4000) (hf:Bd 4000 f) (ht:Bd 4000 t) {Q:PV->Prop} (q:Q (.lst ((cs.filter (Jd f t)).map cor))):Be [v,fr f,fr t] Q:=by
 obtain ⟨g,hg,hv⟩:=hv
 have few:(cs.map g).length<sizeLine:=by rw [List.length_map];exact Nat.lt_of_le_of_lt hl (by decide)
 have key:∀(c:C4),Fs B c->∀(R:PV->Prop) (N:Prop),(Jd f t c=true->R (cor c))->(Jd f t c=false->N)->
  (A0 0) (g c) [none,some (.val (fr f)),some (.val (fr t))] λτ1=>(KB (Av (AN 2 Ah (AB (aV 1) (AB (AX Aj (aV 0) (aC (.int 0))) AL)))) (Av (AN 2 Ah (AB (AX Aj (aV 0) (aC (.int 0))) (AB (aV 2) AL))))) τ1 λok=>if ok=true then (Es EG (AB (aV 0) AL)) τ1 R else N:=by
  intro c bc R N h1 h2
  have bm:=bc.m.mono hB
  rcases hg with rfl|rfl
  all_goals
   refine ⟨rfl,Bb hf bm ?_⟩
   refine Eo (b:=decide (f<c.1)) (λz=> ?_) (λz=>h2 (by unfold Jd;rw [z];rfl))
   refine ⟨rfl,Bb bm ht ?_⟩
   exact Eo (b:=decide (c.1<t)) (λz2=>h1 (by unfold Jd;rw [z,z2];rfl)) (λz2=>h2 (by unfold Jd;rw [z,z2];rfl))
 rcases hv with rfl|rfl
 ·exact ⟨few,DR g cor (Jd f t) (Fs B) key cs [] hc q⟩
 ·exact ⟨few,DR g cor (Jd f t) (Fs B) key cs [] hc q⟩
theorem Bd.mx {n:Nat} {a b:Rat} (ha:Bd n a) (hb:Bd n b):Bd n (mx a b):=by unfold PL.mx;split <;> assumption
theorem Bd.mn {n:Nat} {a b:Rat} (ha:Bd n a) (hb:Bd n b):Bd n (mn a b):=by unfold PL.mn;split <;> assumption
end PL
end
section
namespace PL
open PySem L2 PyProof.Rows
section
variable {a b:AS} {ta tb:AE} {tt tu:AT} {g:AG} {gs:Rq} {nx bk ct:BG->Prop} {rt:PV->Prop} {τ:BG} {Q:PV->Prop} {QB:Bool->Prop} {QL:List PV->Prop} {QT:BG->Prop} {r:AA} {ai:AI} {F:AF} {n i j:Nat} {x y z:PV} {xs ys:List PV}
theorem gm {f:HG} (e:QK τ i=some (.val x)) (h:ta τ λy=>f x y λz=>nx (τ.set i (some (.val z)))):Uu i f ta ⟨nx,rt,bk,ct⟩ τ:=by unfold Uu;rw [e];exact h
theorem gz (e:QK τ i=some (.own xs)) (h:QL xs):L4 i τ QL:=by unfold L4;rw [e];exact h
theorem p6 (e:QK τ i=some (.val x)) (h:Q x):aV i τ Q:=by unfold aV;rw [e];exact h
def mL (x:PV) (i:Int):Option PV:=match x with | .tup xs=>HI xs i | .lst xs=>HI xs i|_=>none
theorem j9 {i:Int} (e:mL x i=some z) (h:Q z):Aj x (.int i) Q:=by
 cases x <;> first | (cases e;done)|(show XV (HI _ i) Q;rw [show HI _ i=some z from e];exact h)
theorem Xp {a:C4} {cs:List C4} (h:Q (cor a)):Aj (Ao (a::cs)) (.int 0) Q:=FH (k:=0) (c:=a) rfl rfl h
theorem dQ {l:C4} {cs:List C4} (el:cs.getLast?=some l) (h:Q (cor l)):Aj (Ao cs) (.int (-1)) Q:=IJ el h
theorem gr {a b:Rat} (h:Q (.bl (decide (a=b)))):Kz (fr a) (fr b) Q:=⟨⟨UE 29 _,UE 29 _⟩,by rw [Wd];exact h⟩
theorem gy {a b:Rat} (h:Q (.bl (!decide (a=b)))):Wg (fr a) (fr b) Q:=⟨⟨UE 29 _,UE 29 _⟩,by rw [Wd];exact h⟩
theorem dR {cs:List C4} (h:Q (.int cs.length)):FG [Ao cs] Q:=by
 show Q (.int (cs.map cor).length);rw [List.length_map];exact h
theorem gx {T:String} {k:Kd} (ht:W5 T) (e:kdOf x=some k) (h:Q (.bl (O8 k T))):Qv [x, .ty T] Q:=by
 refine ⟨ht, ?_⟩;rw [e];exact h
theorem gk {g:List Bool->Bool} {bs:List Bool} (e:L9 xs=some bs) (h:Q (.bl (g bs))):Wk g [.lst xs] Q:=by
 show (match L9 xs with | some bs=>Q (.bl (g bs))|none=>False);rw [e];exact h
theorem gu {c:Bool} {A B:Prop} (e:c=true) (h:A):if c=true then A else B:=by rw [if_pos e];exact h
theorem gt {c:Bool} {A B:Prop} (e:c=false) (h:B):if c=true then A else B:=by rw [if_neg (by rw [e];exact Bool.false_ne_true)];exact h
theorem gv {p:Prop} [Decidable p] {A B:Prop} (h1:p->A) (h2:¬p->B):if decide p=true then A else B:=by
 by_cases h:p
 ·rw [if_pos (decide_eq_true h)];exact h1 h
 ·rw [if_neg (by simp [h])];exact h2 h
theorem gw {p:Prop} [Decidable p] {A B:Prop} (h1:¬p->A) (h2:p->B):if (!decide p)=true then A else B:=by
 by_cases h:p
 ·rw [if_neg (by simp [h])];exact h2 h
 ·rw [if_pos (by simp [h])];exact h1 h
end
end PL
namespace PL
open PySem L2 PyProof.Rows
theorem eG:Bd 1 (0:Rat):=⟨by decide,by decide⟩
theorem jN:Bd 1 (1:Rat):=⟨by decide,by decide⟩
end PL
namespace PL
open PySem L2 PyProof.Rows
section
variable {g:AG} {b:AS} {nx bk ct:BG->Prop} {rt:PV->Prop}
theorem LI (P:Nat->BG->Prop) {lo:Int} {n:Nat} (hd:∀τ,P n τ->nx τ)
 (hs:∀i,i<n->∀τ (R:BG->Prop),(∀τ,P (i+1) τ->R τ)->P i τ->g (.int (lo+i)) τ λτ1=>b ⟨R,rt,nx,R⟩ τ1) {τ:BG} (h0:P 0 τ):Dw g b ⟨nx,rt,bk,ct⟩ (rng lo n) τ:=by
 refine IH (λr τ=>∃i,i<=n/\r=rng (lo+i) (n-i)/\P i τ) ?_ ?_ _ _ ⟨0,Nat.zero_le _,by simp,h0⟩
 ·rintro τ ⟨i,hi,hr,hp⟩
  have:n-i=0:=by
   cases e:n-i with
   | zero=>rfl
   | succ k=>rw [e,IV] at hr;cases hr
  have:i=n:=by omega
  subst this
  exact hd τ hp
 ·rintro x r τ R hR ⟨i,hi,hr,hp⟩
  cases e:n-i with
  | zero=>rw [e] at hr;cases hr
  | succ k=>
    rw [e,IV] at hr
    cases hr
    exact hs i (by omega) τ R (λτ2 h2=>hR τ2 ⟨i+1,by omega,by rw [show n-(i+1)=k by omega,show lo+((i+1:Nat):Int)=lo+i+1 by omega],h2⟩) hp
theorem C9 {α:Type} (f:α->PV) (P:List α->List α->BG->Prop) {cs:List α} (hd:∀τ,P cs [] τ->nx τ)
 (hs:∀us c vs,us++c::vs=cs->∀τ (R:BG->Prop),(∀τ,P (us ++ [c]) vs τ->R τ)->P us (c::vs) τ->g (f c) τ λτ1=>b ⟨R,rt,nx,R⟩ τ1) {τ:BG} (h0:P [] cs τ):Dw g b ⟨nx,rt,bk,ct⟩ (cs.map f) τ:=by
 refine IH (λr τ=>∃us vs,us++vs=cs/\r=vs.map f/\P us vs τ) ?_ ?_ _ _ ⟨[],cs,rfl,rfl,h0⟩
 ·rintro τ ⟨us,vs,e,hr,hp⟩
  cases vs with
  | nil=>rw [List.append_nil] at e;subst e;exact hd τ hp
  | cons v vs=>cases hr
 ·rintro x r τ R hR ⟨us,vs,e,hr,hp⟩
  cases vs with
  | nil=>cases hr
  | cons c vs=>
    cases hr
    exact hs us c vs e τ R (λτ2 h2=>hR τ2 ⟨us ++ [c],vs,by simpa using e,rfl,h2⟩) hp
theorem iG {c:AT} (P:Nat->BG->Prop)
 (hs:∀n τ (R:BG->Prop),(∀τ,P n τ->R τ)->P (n+1) τ->c (frz τ) λk=>if k=true then b ⟨R,rt,nx,R⟩ τ else nx τ) (pG:∀τ,¬P 0 τ) {n:Nat} {τ:BG} (h0:P n τ):Jc c b ⟨nx,rt,bk,ct⟩ τ:=
 ⟨n,TL P pG (λn τ R hR hp=>hs n τ R hR hp) n τ h0⟩
end
section
variable {g:AG} {tt:AT} {te:AE} {τ0:BG} {Q:List PV->Prop}
end
end PL
namespace PL
section
variable {p:Prop} [Decidable p] {A B:Prop}
end
end PL
end
section
namespace PL
open PySem PySem.Spec PyProof.Rows L2
section
variable {K:PySem.W.Frag} {T M:Addr->Prop} {H:Hp}
inductive KR (K:PySem.W.Frag):List Value->List PV->Prop where
 | nil:KR K [] []
 | cons {u:Value} {x:PV} {us:List Value} {xs:List PV} (h:∃V,RelV V u/\∀T M H,Cf K T M H V x) (t:KR K us xs):KR K (u::us) (x::xs)
theorem KR.length:∀{us:List Value} {xs:List PV},KR K us xs->us.length=xs.length
 | _,_, .nil=>rfl
 | _,_, .cons _ t=>by simp [t.length]
end
def Yp (K:PySem.W.Frag) (d:Addr):List (Str×PV)->Prop
 | [] =>True
 | p::r=>(∃(u:Value) (V:V),PySem.W.nsIn K d p.1=some (some u)/\RelV V u/\∀T M H,Cf K T M H V p.2)/\Yp K d r
theorem Yp.get {K:PySem.W.Frag} {d:Addr}:∀{tb:List (Str×PV)},Yp K d tb->∀s v,tb.lookup s=some v->∃(u:Value) (V:V),PySem.W.nsIn K d s=some (some u)/\RelV V u/\∀T M H,Cf K T M H V v
 | [],_,s,v,e=>by cases e
 | (a,b)::r,h,s,v,e=>by
   rw [List.lookup_cons] at e
   split at e
   ·rename_i hb
    cases e
    have:s=a:=eq_of_beq hb
    subst this
    exact h.1
   ·exact Yp.get h.2 s v e
section
variable {X:Cx}
end
end PL
end
section
namespace PL
open PySem L2 PyProof.Rows
class Wp (P:Prop) (P':outParam Prop):Prop where
 go:P'->P
class NA (P:Prop) (C P':outParam Prop):Prop where
 go:C->P'->P
class lu (P:Prop) (P':outParam Prop):Prop where
 go:P'->P
class jK (P:Prop) (A B:outParam Prop):Prop where
 go:A->B->P
class aO (τ:BG) (i:Nat) (x:outParam AV):Prop where
 e:QK τ i=some x
instance qw {v:AV} {r:BG}:aO (some v::r) 0 v:=⟨rfl⟩
instance qy {y:Option AV} {r:BG} {i:Nat} {v:AV} [h:aO r i v] :aO (y::r) (i+1) v:=⟨h.e⟩
class WI (τ:BG) (i:Nat) (v:AV) (τ':outParam BG):Prop where
 e:τ.set i (some v)=τ'
instance p9 {y:Option AV} {r:BG} {v:AV}:WI (y::r) 0 v (some v::r):=⟨rfl⟩
instance qA {y:Option AV} {r r':BG} {i:Nat} {v:AV} [h:WI r i v r'] :WI (y::r) (i+1) v (y::r'):=⟨by rw [List.set_cons_succ,h.e]⟩
class Vx (τ:BG) (τ':outParam BG):Prop where
 e:frz τ=τ'
instance pB:Vx [] [] :=⟨rfl⟩
instance (priority:=low) pF {z:Option AV} {r r':BG} [h:Vx r r'] :Vx (z::r) (Y6 z::r'):=⟨by rw [<-h.e];rfl⟩
instance pC {r r':BG} [h:Vx r r'] :Vx (none::r) (none::r'):=⟨by rw [<-h.e];rfl⟩
instance pE {x:PV} {r r':BG} [h:Vx r r'] :Vx (some (.val x)::r) (some (.val x)::r'):=⟨by rw [<-h.e];rfl⟩
instance pD {x:List PV} {r r':BG} [h:Vx r r'] :Vx (some (.own x)::r) (some (.val (.lst x))::r'):=⟨by rw [<-h.e];rfl⟩
class iJ (ix:List Nat) (τ:BG) (τ':outParam BG):Prop where
 e:(ix.map λi=>U1 (QK τ i))=τ'
instance qh {τ:BG}:iJ [] τ [] :=⟨rfl⟩
instance qi {τ r:BG} {i:Nat} {ix:List Nat} {x:PV} [h:aO τ i (.val x)] [h2:iJ ix τ r] :iJ (i::ix) τ (some (.val x)::r):=⟨by rw [List.map_cons,h.e,h2.e];rfl⟩
class iN (n:Nat) (τ:outParam BG):Prop where
 e:List.replicate n none=τ
instance qz:iN 0 [] :=⟨rfl⟩
instance q8 {n:Nat} {τ:BG} [h:iN n τ] :iN (n+1) (none::τ):=⟨by rw [List.replicate_succ,h.e]⟩
class Yg (xs ys:BG) (zs:outParam BG):Prop where
 e:xs++ys=zs
instance qj {ys:BG}:Yg [] ys ys:=⟨rfl⟩
instance qk {x:Option AV} {xs ys zs:BG} [h:Yg xs ys zs] :Yg (x::xs) ys (x::zs):=⟨by rw [List.cons_append,h.e]⟩
class Yh (xs ys:List PV) (zs:outParam (List PV)):Prop where
 e:xs++ys=zs
instance o9 {ys:List PV}:Yh [] ys ys:=⟨rfl⟩
instance pA {x:PV} {xs ys zs:List PV} [h:Yh xs ys zs] :Yh (x::xs) ys (x::zs):=⟨by rw [List.cons_append,h.e]⟩
class oz (xs:List PV) (n:outParam Nat):Prop where
 e:xs.length=n
class Ix (x:PV) (i:Int) (y:outParam PV):Prop where
 e:mL x i=some y
class qb (xs:List PV) (n:Nat) (y:outParam PV):Prop where
 e:xs[n]? =some y
section
variable {a b:AS} {ta tb:AE} {tt tu:AT} {g:AG} {gs:Rq} {nx bk ct:BG->Prop} {rt:PV->Prop} {τ τ' τ2:BG} {Q:PV->Prop} {QB:Bool->Prop} {QL:List PV->Prop} {QT:BG->Prop} {r:AA} {ai:AI} {F:AF} {n i j:Nat} {x y z:PV} {xs ys zs:List PV}
instance ig {p0:PV} {q:List PV}:Ix (.tup (p0::q)) 0 p0:=⟨CC (j:=0) rfl⟩
instance ib {p0:PV} {q:List PV}:Ix (.lst (p0::q)) 0 p0:=⟨CC (j:=0) rfl⟩
instance ii {p0 p1:PV} {q:List PV}:Ix (.tup (p0::p1::q)) 1 p1:=⟨CC (j:=1) rfl⟩
instance ic {p0 p1:PV} {q:List PV}:Ix (.lst (p0::p1::q)) 1 p1:=⟨CC (j:=1) rfl⟩
instance il {p0 p1 p2:PV} {q:List PV}:Ix (.tup (p0::p1::p2::q)) 2 p2:=⟨CC (j:=2) rfl⟩
instance ie {p0 p1 p2:PV} {q:List PV}:Ix (.lst (p0::p1::p2::q)) 2 p2:=⟨CC (j:=2) rfl⟩
instance mQ {q:Rat}:Ix (fr q) 0 (.int q.num):=⟨rfl⟩
instance mR {q:Rat}:Ix (fr q) 1 (.int q.den):=⟨rfl⟩
instance mM {c:C4}:Ix (cor c) 0 (fr c.1):=⟨rfl⟩
instance mN {c:C4}:Ix (cor c) 1 (fr c.2.1):=⟨rfl⟩
instance mO {c:C4}:Ix (cor c) 2 (fr c.2.2.1):=⟨rfl⟩
instance mP {c:C4}:Ix (cor c) 3 (fr c.2.2.2):=⟨rfl⟩
theorem jM {f:C4->PV} {c:C4} {cs:List C4}:HI ((c::cs).map f) 0=some (f c):=CC (j:=0) rfl
instance mS {c:C4} {cs:List C4}:Ix (Ao (c::cs)) 0 (cor c):=⟨jM⟩
instance nW:Wp (Ad a b ⟨nx,rt,bk,ct⟩ τ) (a ⟨b ⟨nx,rt,bk,ct⟩,rt,bk,ct⟩ τ):=⟨id⟩
instance mh:Wp (As ta g ⟨nx,rt,bk,ct⟩ τ) (ta τ λx=>g x τ nx):=⟨id⟩
instance nV [h:Vx τ τ'] :Wp (Ay ta ⟨nx,rt,bk,ct⟩ τ) (ta τ' rt):=⟨λk=>by unfold Ay;rw [h.e];exact k⟩
instance w_next:Wp (BI ⟨nx,rt,bk,ct⟩ τ) (nx τ):=⟨id⟩
instance m9:Wp (Bx tt a b ⟨nx,rt,bk,ct⟩ τ) (tt τ λk=>if k=true then a ⟨nx,rt,bk,ct⟩ τ else b ⟨nx,rt,bk,ct⟩ τ):=⟨id⟩
def Rf (τ:BG) (i:Nat) (v:AV) (QT:BG->Prop):Prop:=QT (τ.set i (some v))
instance lT {v:AV} [h:WI τ i v τ'] :Wp (Rf τ i v QT) (QT τ'):=⟨λk=>by unfold Rf;rw [h.e];exact k⟩
instance nM:Wp (L3 r i ⟨nx,rt,bk,ct⟩ τ) (r τ λxs=>Rf τ i (.own xs) nx):=⟨id⟩
instance qL [h:WI τ i (.val x) τ'] :Wp (A0 i x τ QT) (QT τ'):=⟨λk=>by unfold A0;rw [h.e];exact k⟩
instance mj {f:HG} [h:aO τ i (.val x)] :Wp (Uu i f ta ⟨nx,rt,bk,ct⟩ τ) (ta τ λy=>f x y λz=>Rf τ i (.val z) nx):=⟨λk=>gm h.e k⟩
instance nR [h:aO τ i (.own xs)] :Wp (L4 i τ QL) (QL xs):=⟨λk=>gz h.e k⟩
instance lH {f:bO}:Wp (Fg i f r ⟨nx,rt,bk,ct⟩ τ) (L4 i τ λxs=>r τ λys=>f xs ys λzs=>Rf τ i (.own zs) nx):=⟨id⟩
instance mf:Wp (Nh xs [y] QL) (xs.length<sizeLine/\QL (xs ++ [y])):=⟨id⟩
instance kU {k:Int}:Wp (XH xs [.int k,y] QL) ((0<=k/\k<=(xs.length:Int)/\xs.length<sizeLine)/\QL (xs.take k.toNat++y::xs.drop k.toNat)):=⟨id⟩
instance mz:Wp (E2 ai g b ⟨nx,rt,bk,ct⟩ τ) (ai τ λxs=>Dw g b ⟨nx,rt,bk,ct⟩ xs τ):=⟨id⟩
instance kg:Wp (Dw g b ⟨nx,rt,bk,ct⟩ [] τ) (nx τ):=⟨id⟩
instance kh {q:List PV}:lu (Dw g b ⟨nx,rt,bk,ct⟩ (x::q) τ) (g x τ λτ1=>b ⟨Dw g b ⟨nx,rt,bk,ct⟩ q,rt,nx,Dw g b ⟨nx,rt,bk,ct⟩ q⟩ τ1):=⟨id⟩
instance ko:Wp (Cg [] τ QT) (QT τ):=⟨id⟩
instance iq {t:List PV}:Wp (Aq g gs (x::t) τ QT) (g x τ λτ'=>gs t τ' QT):=⟨id⟩
instance qM:Wp (NT n gs x τ QT) (Rp x λxs=>xs.length=n/\gs xs τ QT):=⟨id⟩
instance rE [h:aO τ i (.val x)] :Wp (aV i τ Q) (Q x):=⟨λk=>p6 h.e k⟩
instance q9:Wp (aC x τ Q) (Q x):=⟨id⟩
instance qV {f:HG}:Wp (AX f ta tb τ Q) (ta τ λx=>tb τ λy=>f x y Q):=⟨id⟩
instance qY {f:PV->(PV->Prop)->Prop}:Wp (Ow f ta τ Q) (ta τ λx=>f x Q):=⟨id⟩
instance w_and:Wp (WK ta tb τ Q) (ta τ λx=>Zb x λc=>if c=true then tb τ Q else Q (.bl false)):=⟨id⟩
instance nz:Wp (Av ta τ QB) (ta τ λx=>Zb x QB):=⟨id⟩
instance lM:Wp (Gy tt τ QB) (tt τ λc=>QB (!c)):=⟨id⟩
instance kT:Wp (KB tt tu τ QB) (tt τ λc=>if c=true then tu τ QB else QB false):=⟨id⟩
instance nQ:Wp (Ky tt tu τ QB) (tt τ λc=>if c=true then QB true else tu τ QB):=⟨id⟩
instance qQ:Wp (aQ tt ta tb τ Q) (tt τ λc=>if c=true then ta τ Q else tb τ Q):=⟨id⟩
instance n6:Wp (FD τ QB) (QB true):=⟨id⟩
instance w_bor [h:Vx τ τ'] :Wp (Uv ta τ Q) (ta τ' λx=>XR x=true/\Q x):=⟨λk=>by unfold Uv;rw [h.e];exact k⟩
instance kW [h:Vx τ τ'] :Wp (Qj tt τ QB) (tt τ' QB):=⟨λk=>by unfold Qj;rw [h.e];exact k⟩
instance nN:Wp (AL τ QL) (QL []):=⟨id⟩
instance kb:Wp (AB ta r τ QL) (ta τ λx=>r τ λxs=>QL (x::xs)):=⟨id⟩
def XM (xs:List PV) (Q:PV->Prop):Prop:=xs.length<=sizeLine/\Q (.tup xs)
instance n5:Wp (BJ r τ Q) (r τ λxs=>XM xs Q):=⟨id⟩
instance nC:Wp (EF r τ QL) (r τ λxs=>xs.length<=sizeLine/\QL xs):=⟨id⟩
instance qK:Wp (GU r τ Q) (r τ λxs=>Q (.lst xs)):=⟨id⟩
instance w_call:Wp (AN n F r τ Q) (r τ λxs=>xs.length=n/\F xs Q):=⟨id⟩
instance qH:Wp (Es F r τ Q) (r τ λxs=>F xs Q):=⟨id⟩
instance ka {own:Nat} {ix:List Nat} {te:AE} {τ3 τ4:BG} [h1:iN own τ3] [h2:iJ ix τ τ4] [h3:Yg τ3 τ4 τ'] :Wp (CL ai own ix g tt te τ QL) (ai τ λxs=>xs.length<sizeLine/\DK g tt te τ' QL xs []):=⟨λk=>by unfold CL NV;rw [h1.e,h2.e,h3.e];exact k⟩
instance kY {te:AE} {acc:List PV}:Wp (DK g tt te τ QL [] acc) (QL acc):=⟨id⟩
instance kZ {te:AE} {acc q:List PV}:Wp (DK g tt te τ QL (x::q) acc) (g x τ λτ1=>tt τ1 λok=>if ok=true then te τ1 λy=>DK g tt te τ QL q (acc ++ [y]) else DK g tt te τ QL q acc):=⟨id⟩
instance qO:Wp (NU ta τ QL) (ta τ λx=>Rp x QL):=⟨id⟩
instance m6:Wp (Oy (AB ta AL) τ QL) (ta τ λx=>YY x λj=>(-(2^62)<=j/\j<2^62)/\QL (rng 0 j.toNat)):=⟨λh=>by have e:(λx=>YY x λj=>(-(2^62)<=j/\j<2^62)/\QL (rng 0 j.toNat))=(λx=>match [x] with | [.int j] =>(-(2^62)<=j/\j<2^62)/\QL (rng 0 j.toNat)|_=>False):=(funext λx=>by cases x <;> rfl);rw [e] at h;exact h⟩
instance m7:Wp (Yv (AB ta (AB tb AL)) τ QL) (ta τ λx=>tb τ λy=>Vf x y λi j=>(-(2^62)<=i/\i<2^62/\ -(2^62)<=j/\j<2^62)/\QL (rng i (j-i).toNat)):=⟨λh=>by have e:(λx=>tb τ λy=>Vf x y λi j=>(-(2^62)<=i/\i<2^62/\ -(2^62)<=j/\j<2^62)/\QL (rng i (j-i).toNat))=(λx=>tb τ λy=>match [x,y] with | [.int i, .int j] =>(-(2^62)<=i/\i<2^62/\ -(2^62)<=j/\j<2^62)/\QL (rng i (j-i).toNat)|_=>False):=(funext λx=>congrArg (tb τ) (funext λy=>by cases x <;> cases y <;> rfl));rw [e] at h;exact h⟩
instance qP:Wp (aR (AB ta (AB tb AL)) τ QL) (ta τ λx=>tb τ λy=>Rp x λxs=>Rp y λys=>QL (Dv xs ys)):=⟨id⟩
instance nU:Wp (Ov i j (AB ta (AB tb AL)) ⟨nx,rt,bk,ct⟩ τ) (ta τ λx=>tb τ λy=>Rf τ i (.val x) λτ1=>Rf τ1 j (.val y) nx):=⟨id⟩
instance nP {R:Int->Prop} {k:Int}:Wp (YY (.int k) R) (R k):=⟨id⟩
instance lN {R:Int->Int->Prop} {k l:Int}:Wp (Vf (.int k) (.int l) R) (R k l):=⟨id⟩
instance nO {R:Bool->Prop} {c:Bool}:Wp (Zb (.bl c) R) (R c):=⟨id⟩
instance lS:Wp (Rp (.tup xs) QL) (QL xs):=⟨id⟩
instance lQ:Wp (Rp (.lst xs) QL) (QL xs):=⟨id⟩
instance lP {q:Rat}:Wp (Rp (fr q) QL) (QL [.int q.num, .int q.den]):=⟨id⟩
instance lO {c:C4}:Wp (Rp (cor c) QL) (QL [fr c.1,fr c.2.1,fr c.2.2.1,fr c.2.2.2]):=⟨id⟩
instance lR {cs:List C4}:Wp (Rp (Ao cs) QL) (QL (cs.map cor)):=⟨id⟩
instance rB {f:Int->Int->PV} {k l:Int}:Wp (fI f (.int k) (.int l) Q) (Q (f k l)):=⟨id⟩
instance qG {C:Int->Int->Prop} {f:Int->Int->PV} {k l:Int}:Wp (eH C f (.int k) (.int l) Q) (C k l/\Q (f k l)):=⟨id⟩
instance eS:Wp (Qr .non .non Q) (Q (.bl true)):=⟨id⟩
instance eQ {k:Int}:Wp (Qr (.int k) .non Q) (Q (.bl false)):=⟨id⟩
instance eT:Wp (Qr (.tup xs) .non Q) (Q (.bl false)):=⟨id⟩
instance qR {k:Int} [h:Ix x k z] :Wp (Aj x (.int k) Q) (Q z):=⟨λq=>j9 h.e q⟩
instance nL {k:Int}:Wp (GB (.int k) Q) (Q (.int (-k))):=⟨id⟩
instance w_not {c:Bool}:Wp (bi (.bl c) Q) (Q (.bl (!c))):=⟨id⟩
instance kR {k l:Int}:Wp (BK (.int k) (.int l) Q) (Q (.int (k+l))):=⟨id⟩
instance kS:Wp (BK (.lst xs) (.lst ys) Q) (xs.length+ys.length<=sizeLine/\Q (.lst (xs++ys))):=⟨id⟩
instance mr {k l:Int}:Wp (Kz (.int k) (.int l) Q) (Q (.bl (decide (k=l)))):=⟨id⟩
instance nK {k l:Int}:Wp (Wg (.int k) (.int l) Q) (Q (.bl (!decide (k=l)))):=⟨id⟩
instance mo {k l:Bool}:Wp (Kz (.bl k) (.bl l) Q) (Q (.bl (decide (k=l)))):=⟨id⟩
instance mq {k l:Rat}:Wp (Kz (fr k) (fr l) Q) (Q (.bl (decide (k=l)))):=⟨gr⟩
instance nJ {k l:Rat}:Wp (Wg (fr k) (fr l) Q) (Q (.bl (!decide (k=l)))):=⟨gy⟩
instance lG:Wp (FG [.tup xs] Q) (Q (.int xs.length)):=⟨id⟩
instance lF {ns:List Int}:Wp (FG [.scr ns] Q) (Q (.int ns.length)):=⟨id⟩
instance lE {cs:List C4}:Wp (FG [Ao cs] Q) (Q (.int cs.length)):=⟨dR⟩
instance (priority:=high) eU {α:Type} {f:α->PV} {cs:List α}:Wp (FG [.lst (cs.map f)] Q) (Q (.int cs.length)):=⟨λh=>by show Q (.int (cs.map f).length);rw [List.length_map];exact h⟩
instance qN {f:Int->Int->Int} {k l:Int}:Wp (fT f [.int k, .int l] Q) (Q (.int (f k l))):=⟨id⟩
instance kr {c:Bool}:Wp (VF [.bl c] Q) (Q (.int (if c then 1 else 0))):=⟨id⟩
instance lW:Wp (EG [.lst xs] Q) (Q (.tup xs)):=⟨id⟩
instance nX {lo hi:Option Int}:Wp (Tj (.lst xs) lo hi Q) (Q (.lst (Gk xs lo hi))):=⟨D6⟩
instance qX {l h:AO}:Wp (Uw ta l h τ Q) (ta τ λx=>l τ λlo=>h τ λhi=>Tj x lo hi Q):=⟨id⟩
instance qT {R:Option Int->Prop}:Wp (Uy τ R) (R none):=⟨id⟩
instance qU {R:Option Int->Prop}:Wp (Uz ta τ R) (ta τ λx=>YY x λi=>R (some i)):=⟨id⟩
instance nB {A B:Prop}:Wp (if true=true then A else B) (A):=⟨λh=>by rw [if_pos rfl];exact h⟩
instance nA {A B:Prop}:Wp (if false=true then A else B) (B):=⟨λh=>by rw [if_neg Bool.false_ne_true];exact h⟩
instance kq {A B:Prop}:Wp (if (!true)=true then A else B) (B):=⟨λh=>h⟩
instance rG {p A B:Prop} [Decidable p] :jK (if decide p=true then A else B) (p->A) (¬p->B):=⟨gv⟩
instance qJ {p A B:Prop} [Decidable p] :jK (if (!decide p)=true then A else B) (¬p->A) (p->B):=⟨gw⟩
instance ni {A:Prop}:Wp (([] :List PV).length<=sizeLine/\A) (A):=⟨λh=>⟨lz,h⟩⟩
instance nY {A:Prop}:Wp (([] :List PV).length<sizeLine/\A) (A):=⟨λh=>⟨lz,h⟩⟩
instance lA {p0:PV} {A:Prop}:Wp ([p0].length=1/\A) (A):=⟨λh=>⟨rfl,h⟩⟩
instance nj {p0:PV} {A:Prop}:Wp ([p0].length<=sizeLine/\A) (A):=⟨λh=>⟨lz,h⟩⟩
instance lB {p0 p1:PV} {A:Prop}:Wp ([p0,p1].length=2/\A) (A):=⟨λh=>⟨rfl,h⟩⟩
instance nk {p0 p1:PV} {A:Prop}:Wp ([p0,p1].length<=sizeLine/\A) (A):=⟨λh=>⟨lz,h⟩⟩
instance nZ {p0 p1:PV} {A:Prop}:Wp ([p0,p1].length<sizeLine/\A) (A):=⟨λh=>⟨lz,h⟩⟩
instance lC {p0 p1 p2:PV} {A:Prop}:Wp ([p0,p1,p2].length=3/\A) (A):=⟨λh=>⟨rfl,h⟩⟩
instance nr {p0 p1 p2:PV} {A:Prop}:Wp ([p0,p1,p2].length<=sizeLine/\A) (A):=⟨λh=>⟨lz,h⟩⟩
instance ng {p0 p1 p2:PV} {A:Prop}:Wp ([p0,p1,p2].length<sizeLine/\A) (A):=⟨λh=>⟨lz,h⟩⟩
instance lD {p0 p1 p2 p3:PV} {A:Prop}:Wp ([p0,p1,p2,p3].length=4/\A) (A):=⟨λh=>⟨rfl,h⟩⟩
instance nh {p0 p1 p2 p3:PV} {A:Prop}:Wp ([p0,p1,p2,p3].length<sizeLine/\A) (A):=⟨λh=>⟨lz,h⟩⟩
instance nu {p0 p1 p2 p3 p4:PV} {A:Prop}:Wp ([p0,p1,p2,p3,p4].length<=sizeLine/\A) (A):=⟨λh=>⟨lz,h⟩⟩
instance nD {p0:PV}:Wp (XM [p0] Q) (Q (.tup [p0])):=⟨λh=>⟨lz,h⟩⟩
instance nE {p0 p1:PV}:Wp (XM [p0,p1] Q) (Q (.tup [p0,p1])):=⟨λh=>⟨lz,h⟩⟩
instance nF {p0 p1 p2:PV}:Wp (XM [p0,p1,p2] Q) (Q (.tup [p0,p1,p2])):=⟨λh=>⟨lz,h⟩⟩
instance nG {p0 p1 p2 p3:PV}:Wp (XM [p0,p1,p2,p3] Q) (Q (.tup [p0,p1,p2,p3])):=⟨λh=>⟨lz,h⟩⟩
instance (priority:=high+10) lI:Wp (XM [.int 0, .int 1] Q) (Q (fr 0)):=⟨λh=>⟨lz,h⟩⟩
instance (priority:=high+10) lJ:Wp (XM [.int 1, .int 1] Q) (Q (fr 1)):=⟨λh=>⟨lz,h⟩⟩
instance (priority:=high) lK {k:Int}:Wp (XM [.int k, .int 1] Q) (Q (fr (k:Rat))):=⟨λh=>⟨lz,QI h⟩⟩
instance (priority:=high) nv {k:Rat} {p q r:Rat}:Wp (BK (.tup [fr k]) (.tup [fr p,fr q,fr r]) Q) (Q (cor (k,p,q,r))):=⟨λh=>⟨lz,h⟩⟩
theorem bn:PV.tup [.int 1, .int 2] =fr (1/2):=by unfold fr;rw [show ((1:Rat)/2).num=1 by decide +kernel,show ((1:Rat)/2).den=2 by decide +kernel];rfl
instance (priority:=high) eV:Wp (XM [.int 1, .int 2] Q) (Q (fr (1/2))):=⟨λh=>⟨lz,by rw [bn];exact h⟩⟩
theorem bq:PV.tup [.int 1, .int 3] =fr (1/3):=by unfold fr;rw [show ((1:Rat)/3).num=1 by decide +kernel,show ((1:Rat)/3).den=3 by decide +kernel];rfl
instance (priority:=high) eY:Wp (XM [.int 1, .int 3] Q) (Q (fr (1/3))):=⟨λh=>⟨lz,by rw [bq];exact h⟩⟩
theorem b6:PV.tup [.int 3, .int 2] =fr (3/2):=by unfold fr;rw [show ((3:Rat)/2).num=3 by decide +kernel,show ((3:Rat)/2).den=2 by decide +kernel];rfl
instance (priority:=high) eZ:Wp (XM [.int 3, .int 2] Q) (Q (fr (3/2))):=⟨λh=>⟨lz,by rw [b6];exact h⟩⟩
instance nH {q:Rat} {A:Prop}:Wp (XR (fr q)=true/\A) (A):=⟨λh=>⟨rfl,h⟩⟩
instance nI {k:Int} {A:Prop}:Wp (XR (.int k)=true/\A) (A):=⟨λh=>⟨rfl,h⟩⟩
class Zp (xs ys:List PV) (zs:outParam (List PV)):Prop where
 e:Dv xs ys=zs
instance qZ:Zp [] [] [] :=⟨rfl⟩
instance qa [h:Zp xs ys zs] :Zp (x::xs) (y::ys) (.tup [x,y] :: zs):=⟨by rw [<-h.e];rfl⟩
instance lY [h:Zp xs ys zs] :Wp (Dw g b ⟨nx,rt,bk,ct⟩ (Dv xs ys) τ) (Dw g b ⟨nx,rt,bk,ct⟩ zs τ):=⟨λk=>by rw [h.e];exact k⟩
instance lX {te:AE} {acc:List PV} [h:Zp xs ys zs] :Wp (DK g tt te τ QL (Dv xs ys) acc) (DK g tt te τ QL zs acc):=⟨λk=>by rw [h.e];exact k⟩
instance n8 {A:Prop} [h:Zp xs ys zs] :Wp ((Dv xs ys).length<sizeLine/\A) (zs.length<sizeLine/\A):=⟨λk=>by rw [h.e];exact k⟩
instance (priority:=high) kX {te:AE} {acc q zs:List PV} [h:Yh acc [y] zs] :Wp (DK g tt te τ QL q (acc ++ [y])) (DK g tt te τ QL q zs):=⟨λk=>by rw [h.e];exact k⟩
instance i0 {m:Int}:NA (BR [.tape, .int m] Q) (0<m/\m<4611686018427387904) (∀r,0<=r->r<m->Q (.int r)):=⟨λc h=>CS c.1 c.2 h⟩
instance i4 {ns:List Int} {k:Int}:NA (Lv [.scr ns, .int k] Q) (0<=k/\k<=1000) (Q .tape):=⟨λc h=>⟨c,h⟩⟩
instance eo {a b:Rat}:NA (HD [fr a,fr b] Q) (Bd 4000 a/\Bd 4000 b) (Q (fr (a+b))):=⟨λc h=>N0 c.1 c.2 h⟩
instance du {a b:Rat}:NA (DU [fr a,fr b] Q) (Bd 4000 a/\Bd 4000 b) (Q (fr (a-b))):=⟨λc h=>DO c.1 c.2 h⟩
instance dw {a b:Rat}:NA (FC [fr a,fr b] Q) (Bd 4000 a/\Bd 4000 b) (Q (fr (a*b))):=⟨λc h=>Lw c.1 c.2 h⟩
instance Yb {a b:Rat}:NA (BY [fr a,fr b] Q) (Bd 4000 a/\Bd 4000 b) (Q (fr (a+b))):=⟨λc h=>Cd c.1 c.2 h⟩
instance Ya {a b:Rat}:NA (A8 [fr a,fr b] Q) (Bd 4000 a/\Bd 4000 b) (Q (fr (a-b))):=⟨λc h=>B6 c.1 c.2 h⟩
instance Uk {a b:Rat}:NA (BQ [fr a,fr b] Q) (Bd 4000 a/\Bd 4000 b) (Q (fr (a*b))):=⟨λc h=>CB c.1 c.2 h⟩
instance Uj {a b:Rat}:NA (CI [fr a,fr b] Q) (Bd 4000 a/\Bd 4000 b) (Q (fr (mx a b))):=⟨λc h=>Hv c.1 c.2 h⟩
instance bC {a b:Rat}:NA (F5 [fr a,fr b] Q) (Bd 4000 a/\Bd 4000 b) (Q (fr (mn a b))):=⟨λc h=>Qe c.1 c.2 h⟩
instance bB {a b:Rat}:NA (Ah [fr a,fr b] Q) (Bd 4000 a/\Bd 4000 b) (Q (.bl (decide (a<b)))):=⟨λc h=>Bb c.1 c.2 h⟩
instance eh {a b:Rat}:NA (Ja [fr a,fr b] Q) (b≠0/\Bd 4000 a/\Bd 4000 b) (Q (fr (a/b))):=⟨λc h=>Jb c.1 c.2.1 c.2.2 h⟩
instance V1 {a b:Rat}:NA (Bw [fr a,fr b] Q) (b≠0/\Bd 4000 a/\Bd 4000 b) (Q (fr (a/b))):=⟨λc h=>Fd c.1 c.2.1 c.2.2 h⟩
instance YR:NA (Bt [.tape] Q) (True) (∀a,Bd 8 a->0<a->Q (fr a)):=⟨λ_ h=>Lu h⟩
instance V0:NA (Aw [.tape] Q) (True) (∀a,Bd 8 a->Q (fr a)):=⟨λ_ h=>A5 λa m=>h a (m.bd (by decide) (by decide))⟩
instance qW {lo:Int} {A:Prop}:Wp ((rng lo n).length<sizeLine/\A) (n<16777216/\A):=⟨λk=>⟨by rw [S4];exact k.1,k.2⟩⟩
instance qS {α:Type} {f:α->PV} {cs:List α} {A:Prop}:Wp ((cs.map f).length<sizeLine/\A) (cs.length<16777216/\A):=⟨λk=>⟨by rw [List.length_map];exact k.1,k.2⟩⟩
instance (priority:=high) iF {α:Type} {k:α} [Decidable (k=k)] {A B:Prop}:Wp (if (!decide (k=k))=true then A else B) B:=⟨λh=>by rw [if_neg (by simp)];exact h⟩
instance i3 {cs:List C4} {k:Int}:NA (Tj (Ao cs) none (some k) Q) (0<=k/\k<=cs.length) (Q (Ao (cs.take k.toNat))):=⟨λc h=>hG (k:=k.toNat) (by omega) (by omega) h⟩
instance eu {cs:List C4} {k:Int}:NA (Tj (Ao cs) (some k) none Q) (0<=k/\k<=cs.length) (Q (Ao (cs.drop k.toNat))):=⟨λc h=>Ua (k:=k.toNat) (by omega) (by omega) h⟩
instance iy {cs ds:List C4}:NA (BK (Ao cs) (Ao ds) Q) (cs.length+ds.length<=10000) (Q (Ao (cs++ds))):=⟨λc h=>Qn c h⟩
instance iw {cs:List C4} {c:C4}:NA (BK (Ao cs) (.tup [cor c]) Q) (cs.length<=9000) (Q (Ao (cs ++ [c]))):=⟨λk h=>Qn (ds:= [c]) (by simp;omega) h⟩
theorem af {α:Type} {f:α->PV} {cs:List α} {k:Int} {R:PV->Prop} (c:0<=k/\k<cs.length) (h:∀c,cs[k.toNat]? =some c->c∈cs->R (f c)):XV (HI (cs.map f) k) R:=by
 have hk:k.toNat<cs.length:=by omega
 have e:HI (cs.map f) ((k.toNat:Nat):Int)=some (f cs[k.toNat]):=CC (by rw [List.getElem?_map,List.getElem?_eq_getElem hk] <;> rfl)
 rw [show k=((k.toNat:Nat):Int) by omega,e]
 exact h _ (List.getElem?_eq_getElem hk) (List.getElem_mem hk)
instance la {cs:List C4} {k:Int}:NA (Aj (Ao cs) (.int k) Q) (0<=k/\k<cs.length) (∀c,cs[k.toNat]? =some c->c∈cs->Q (cor c)):=⟨λc h=>af c h⟩
instance lZ {α:Type} {f:α->PV} {cs:List α} {k:Int}:NA (Aj (.lst (cs.map f)) (.int k) Q) (0<=k/\k<cs.length) (∀c,cs[k.toNat]? =some c->c∈cs->Q (f c)):=⟨λc h=>af c h⟩
instance lV {c:C4}:Wp (Tj (cor c) (some 1) none Q) (Q (.tup [fr c.2.1,fr c.2.2.1,fr c.2.2.2])):=⟨λh=>Gg h⟩
class Lk (tb:List (Str×PV)) (s:Str) (v:outParam PV):Prop where
 e:tb.lookup s=some v
end
end PL
end
section
namespace L2
open PySem PySem.Spec PyProof.Rows
abbrev WD (h:Heap) (T:Addr) (a b c:Value):Prop:=h.get? T=some {cls:= .type "tuple",data:= .seq #[a,b,c] }
structure qg (z TI TO i j k l m n:Addr):Prop where
 TIz:TI≠z
 TOz:TO≠z
 iz:i≠z
 jz:j≠z
 kz:k≠z
 TITO:TI≠TO
 TIi:TI≠i
 TIj:TI≠j
 TIk:TI≠k
 TOi:TO≠i
 TOj:TO≠j
 TOk:TO≠k
 ij:i≠j
 ik:i≠k
 jk:j≠k
 lo:∀x∈ [l,m,n],x≠z/\x≠TI/\x≠TO/\x≠i/\x≠j/\x≠k
structure Z3 (b c d:Bool) (z TI TO i j k l m n:Addr) (t:Nat) (f:Value) (h:Heap):Prop where
 zip:IsZip h z TI TO f
 its:WD h TI (.ref i) (.ref j) (.ref k)
 own:∃x y w,WD h TO x y w
 one:NQ b h i l t
 two:NQ c h j m t
 tre:NQ d h k n t
theorem Z3.mv {b c d:Bool} {z TI TO i j k l m n:Addr} {t:Nat} {f:Value} {h h':Heap} (Z:Z3 b c d z TI TO i j k l m n t f h) (e:∀p∈ [z,TI,TO,i,j,k],∀o,h.get? p=some o->h'.get? p=some o):Z3 b c d z TI TO i j k l m n t f h':=by
 obtain ⟨a1,a2,⟨x,y,w,a3⟩,a4,a5,a6⟩:=Z
 exact ⟨e z (by simp) _ a1,e TI (by simp) _ a2,⟨x,y,w,e TO (by simp) _ a3⟩,a4.mv (e i (by simp)),a5.mv (e j (by simp)),a6.mv (e k (by simp))⟩
section
variable {prog:Program} {w:World} {A:Around} {E:Value->Shared->Prop} {s:Shared}
variable {b c d:Bool} {z TI TO i j k l m n:Addr} {t:Nat} {xs ys ws:Array Value}
end
abbrev y1 (b:Bool) (h:Heap) (l:Addr):Heap:=h.push (VU b l)
abbrev y2 (b c:Bool) (h:Heap) (l m:Addr):Heap:=(y1 b h l).push (VU c m)
abbrev y3 (b c d:Bool) (h:Heap) (l m n:Addr):Heap:=(y2 b c h l m).push (VU d n)
abbrev y4 (b c d:Bool) (h:Heap) (l m n:Addr):Heap:=(y3 b c d h l m n).push {cls:= .type "tuple",data:= .seq #[.ref h.objs.size, .ref (y1 b h l).objs.size, .ref (y2 b c h l m).objs.size] }
abbrev y5 (b c d:Bool) (h:Heap) (l m n:Addr):Heap:=(y4 b c d h l m n).push {cls:= .type "tuple",data:= .seq #[.none, .none, .none] }
section
variable {prog:Program} {w:World} {A:Around} {E:Value->Shared->Prop} {s:Shared} {b c d:Bool} {l m n:Addr} {xs ys ws:Array Value}
end
section
variable {X:Cx}
end
end L2
end
section
namespace PL
open PySem PySem.Spec PyProof.Rows L2
section
variable {X:Cx}
end
end PL
end
section
namespace L2
open PySem PySem.Spec PyProof.Rows
theorem RP:Manifest.owners.lookup (String.ofList ['d','e','s','r','e','v','e','r'].reverse)=some Manifest.sig_reversed:=by kernel_rfl
theorem FW:Slot "reversed" "__next__" "reversed.__next__" :=
 .of (owner:="reversed") (n:="__next__") (by rw [typeLookup_type,builtinLookup_eq_fast];kernel_rfl) (by decide +kernel) (by decide +kernel) (by decide +kernel)
   (by first | exact .inl (by decide +kernel)|exact .inr (by decide +kernel)) (by rw [isSubtype_type];kernel_rfl)
theorem NZ:entryFor table "reversed.__next__" =some Builtin.«reversed.__next__»:=entryFor_of_tree (by kernel_rfl)
theorem L7 (a:Value):argsOk "reversed.__next__" ⟨[a], []⟩:=by
 unfold argsOk;rw [signature?_of (id:="reversed.__next__") (n:= ['_','_','t','x','e','n','_','_']) (o:= ['d','e','s','r','e','v','e','r']) (by kernel_rfl) RP];kernel_rfl
theorem Iu:Slot "reversed" "__iter__" "reversed.__iter__" :=
 .of (owner:="reversed") (n:="__iter__") (by rw [typeLookup_type,builtinLookup_eq_fast];kernel_rfl) (by decide +kernel) (by decide +kernel) (by decide +kernel)
   (by first | exact .inl (by decide +kernel)|exact .inr (by decide +kernel)) (by rw [isSubtype_type];kernel_rfl)
theorem L6 (a:Value):argsOk "reversed.__iter__" ⟨[a], []⟩:=by
 unfold argsOk;rw [signature?_of (id:="reversed.__iter__") (n:= ['_','_','r','e','t','i','_','_']) (o:= ['d','e','s','r','e','v','e','r']) (by kernel_rfl) RP];kernel_rfl
theorem NY:entryFor table "reversed.__iter__" =some Builtin.«dict_keyiterator.__iter__»:=
 entryFor_alias (id':="dict_keyiterator.__iter__") (by kernel_rfl) (by first | rfl|decide +kernel|(unfold String.splitOn;simp +decide [String.splitOnAux])) (by decide +kernel) (by kernel_rfl)
theorem Vt:typeLookup (.type "tuple") "__reversed__" =pure none:=by rw [typeLookup_type,builtinLookup_eq_fast];kernel_rfl
theorem QG:isSubtype (.type "tuple") (.type "dict")=pure false:=by rw [isSubtype_type];kernel_rfl
def YZ (m:Addr) (i:Int):Obj:={cls:= .type "reversed",data:= .fields #[.ref m,rawInt i] }
def HF (h:Heap) (q m:Addr) (i:Int):Prop:=h.get? q=some (YZ m i)
section
variable {prog:Program} {w:World} {A:Around} {E:Value->Shared->Prop} {s:Shared}
theorem HF.typeIs {q m:Addr} {i:Int} (x:HF s.heap q m i):s.TypeIs (.ref q) "reversed" :=⟨_,x,rfl⟩
end
theorem Xo (l:Addr) (items:Array Value) (Q7:(items.size:Int)<2^63):Meets (Builtin.«reversed.__new__» ⟨[.type "reversed", .ref l], []⟩) (λ_ R s=>IsTup s.heap l items/\R (.ok (.ret (.ref s.heap.objs.size))) {s with heap:=s.heap.push (YZ l ((items.size:Int)-1)),toks:=s.toks+1+1}):=
 .of_wp λprog w A R s h=>by
   obtain ⟨hl,h⟩:=h
   unfold Builtin.«reversed.__new__»
   refine wpAny_bind (wpAny_of_eq (newClass_reversed _) ?_)
   try dsimp only
   refine wpAny_bind (wpAny_of_eq (a:=()) (by first | rfl|kernel_rfl) ?_)
   refine wpAny_bind (wpAny_of_eq (a:=()) (by first | rfl|kernel_rfl) ?_)
   try dsimp only
   refine wpAny_bind (wpAny_specialOf hl.typeIs Vt ?_)
   try dsimp only
   refine wpAny_bind ?_
   wp_delta
   refine wpAny_bind (wpAny_isInstance (T:="tuple") (b:=false) hl.typeIs QG ?_)
   rw [if_neg (by decide)]
   refine wpAny_bind (wpAny_specialOf hl.typeIs PyProof.Rows.slot_tuple_getitem.lookup ?_)
   dsimp only
   rw [if_pos (by decide +kernel)]
   refine wpAny_pure ?_
   rw [if_neg (by decide)]
   refine wpAny_bind (len_tuple hl Q7 ?_)
   refine wpAny_bind (wpAny_of_eq (a:=some (items.size:Int)) rfl ?_)
   dsimp only
   unfold Builtin.SmallTypes.newRecord
   refine wpAny_bind (wpAny_newObj_type (wpAny_pure ?_))
   exact ⟨_,rfl,h⟩
theorem Zw:Slot "reversed" "__init__" "object.__init__" :=
 .of (owner:="object") (n:="__init__") (by rw [typeLookup_type,builtinLookup_eq_fast];kernel_rfl) (by decide +kernel) (by decide +kernel) (by decide +kernel)
   (by first | exact .inl (by decide +kernel)|exact .inr (by decide +kernel)) (by rw [isSubtype_type];kernel_rfl)
theorem U6:TypeCalled "reversed" "reversed.__new__" "object.__init__" :=
 ⟨by decide +kernel,by decide +kernel,⟨_,_,F.mro_reversed⟩,F.made_reversed,by decide +kernel,by rw [isSubtype_type];kernel_rfl,Zw⟩
section
variable {prog:Program} {w:World} {A:Around} {E:Value->Shared->Prop} {s:Shared}
theorem Y1 {l:Addr} {items:Array Value} {Q:Value->Shared->Prop} (hl:IsTup s.heap l items) (Q7:(items.size:Int)<2^63)
 (h:Q (.ref s.heap.objs.size) {s with heap:=s.heap.push (YZ l ((items.size:Int)-1)),toks:=s.toks+1+1}):wpAny (model prog w) A (call (.type "reversed") [.ref l]) Q E s:=by
 refine callType_new U6 (by decide) (F.typeCall_reversed_1 _) (F.newCall_reversed_1 _) (λobj=>F.args_object_init_2 obj _) F.entry_reversed_new (Xo l items Q7) ⟨hl, ?_⟩
 exact ⟨⟨_,Heap.get?_push_size _ rfl,rfl⟩,h⟩
theorem ZL {q m:Addr} {i:Int} {Q:Value->Shared->Prop} (hq:HF s.heap q m i) (h:Q (.ref q) s):wpAny (model prog w) A (pyIter (.ref q)) Q E s:=by
 refine wpAny_pyIter_slot hq.typeIs Iu (wpAny_call_entry Iu hq.typeIs NY ?_ (L6 _))
 show wpAny _ _ (ret (.ref q)) _ _ s
 exact wpAny_pure ⟨_,rfl,"reversed",_,hq.typeIs,FW.lookup,h⟩
theorem ZT {q m:Addr} {k:Nat} {xs:Array Value} {x:Value} {Q:Value->Shared->Prop} (hq:HF s.heap q m ((xs.size:Int)-1-k)) (hl:IsTup s.heap m xs) (Q7:(xs.size:Int)<2^63) (hk:k<xs.size) (hx:xs[xs.size-1-k]? =some x)
 (hQ:∀h' tk,HF h' q m ((xs.size:Int)-1-(k+1:Nat))->Heap.SameBut q s.heap h'->Q x {s with heap:=h',toks:=tk}):wpAny (model prog w) A (Builtin.SmallTypes.nextOf (.ref q)) Q E s:=by
 unfold Builtin.SmallTypes.nextOf
 refine wpAny_bind (wpAny_callSpecial?_slot (name:=Str.ofString "__next__") hq.typeIs FW (wpAny_call_entry FW hq.typeIs NZ ?_ (L7 _)))
 unfold Builtin.«reversed.__next__»
 refine wpAny_bind (wpAny_of_eq (a:=(Value.ref q, [])) rfl ?_)
 try dsimp only
 refine wpAny_bind (wpAny_field hq rfl (x:= .ref m) rfl ?_)
 refine wpAny_bind (wpAny_field hq rfl (x:=rawInt ((xs.size:Int)-1-k)) rfl ?_)
 show wpAny _ _ (if ((xs.size:Int)-1-k)<0 then _ else _) _ _ s
 rw [if_neg (by omega)]
 refine wpAny_bind (wpAny_specialOf hl.typeIs PyProof.Rows.slot_tuple_getitem.lookup ?_)
 rw [if_neg (by decide)]
 refine wpAny_bind (wpAny_mkInt ?_)
 have fq:seqIndex? ((xs.size:Int)-1-k) xs.size=some (xs.size-1-k):=by
  unfold seqIndex?
  have e0:¬((xs.size:Int)-1-k<0):=by omega
  have e1:(0:Int)<=(xs.size:Int)-1-k:=by omega
  have e2:(xs.size:Int)-1-k<xs.size:=by omega
  simp only [if_neg e0,e1,e2,decide_true,Bool.and_true,if_true]
  congr 1
  omega
 refine wpAny_bind (wpAny_attempt (getItem_tuple hl (by omega) (by omega) fq hx ?_))
 refine wpAny_bind (wpAny_field (s:={s with toks:=s.toks+1}) hq rfl (x:=rawInt ((xs.size:Int)-1-k)) rfl ?_)
 refine wpAny_bind (wpAny_setField (s:={s with toks:=s.toks+1}) hq rfl (by simp) (wpAny_pure ⟨x,rfl,wpAny_pure (hQ _ _ ?_ (Heap.SameBut.update ..))⟩))
 unfold HF
 rw [Heap.get?_update_self _ hq (Obj.isFreed_of_fields (Obj.data_mapFields rfl _))]
 rw [show (xs.size:Int)-1-(k+1:Nat)=(xs.size:Int)-1-k-1 by omega]
 rfl
end
structure ZR (z TI TO i j l m:Addr) (n:Nat) (k:Nat) (f:Value) (h:Heap):Prop where
 zip:IsZip h z TI TO f
 its:IsPair h TI (.ref i) (.ref j)
 own:∃x y,IsPair h TO x y
 one:NQ false h i l k
 two:HF h j m ((n:Int)-1-k)
theorem ZR.mv {z TI TO i j l m:Addr} {n k:Nat} {f:Value} {h h':Heap} (Z:ZR z TI TO i j l m n k f h) (e:∀p∈ [z,TI,TO,i,j],∀o,h.get? p=some o->h'.get? p=some o):ZR z TI TO i j l m n k f h':=by
 obtain ⟨a1,a2,⟨x,y,a3⟩,a4,a5⟩:=Z
 exact ⟨e z (by simp) _ a1,e TI (by simp) _ a2,⟨x,y,e TO (by simp) _ a3⟩,a4.mv (e i (by simp)),e j (by simp) _ a5⟩
section
variable {prog:Program} {w:World} {A:Around} {E:Value->Shared->Prop} {s:Shared}
variable {z TI TO i j l m:Addr} {k:Nat} {xs ys:Array Value}
theorem d7 {x y:Value} {Q:Value->Shared->Prop} (D:ZipApart z TI TO i j l m) (Z:ZR z TI TO i j l m ys.size k .none s.heap) (hl:LG false s.heap l xs) (hm:IsTup s.heap m ys) (Q7:(ys.size:Int)<2^63) (hx:xs[k]? =some x) (hk:k<ys.size) (hy:ys[ys.size-1-k]? =some y)
 (hQ:∀h' tk,IsZip h' z TI TO (rawInt s.heap.objs.size)->IsPair h' TI (.ref i) (.ref j)->IsPair h' TO x y->NQ false h' i l (k+1)->HF h' j m ((ys.size:Int)-1-(k+1:Nat))->IsPair h' s.heap.objs.size x y->
   (∀p o,p≠z->p≠TO->p≠i->p≠j->s.heap.get? p=some o->h'.get? p=some o)->Q (.ref s.heap.objs.size) {s with heap:=h',toks:=tk}):
 wpAny (model prog w) A (Builtin.«zip.__next__» ⟨[.ref z], []⟩) (λfin s'=>∃v,fin= .done (.ret v)/\Q v s') E s:=by
 obtain ⟨zz,zi,⟨x0,y0,zo⟩,z1,z2⟩:=Z
 show wpAny _ _ (field (.ref z) 2 >>= _) _ _ _
 refine wpAny_bind (wpAny_field zz rfl (x:= .bool false) rfl ?_)
 show wpAny _ _ (field (.ref z) 3 >>= _) _ _ _
 refine wpAny_bind (wpAny_field zz rfl (x:= .ref TI) rfl (wpAny_bind (wpAny_seqItems zi rfl ?_)))
 refine wpAny_bind (m:=Builtin.SmallTypes.ownedTupleIsFree (.ref z)) ?_
 unfold Builtin.SmallTypes.ownedTupleIsFree
 refine wpAny_bind (wpAny_field zz rfl (x:= .none) rfl (wpAny_pure ?_))
 simp only [if_true]
 refine wpAny_bind (wpAny_rule (wpAny_bind (wpAny_field zz rfl (x:= .ref TO) rfl (wpAny_bind (wpAny_setField_rec zz (by simp) λg1 e1 b1=> ?_)))))
 have e1:IsZip g1 z TI TO .ellipsis:=e1
 refine wpAny_bind ?_
 simp only [List.zipIdx_cons,List.zipIdx_nil,List.forIn_cons,List.forIn_nil]
 refine wpAny_bind (wpAny_bind (wpAny_onRaise ?_))
 refine wpAny_bind (m:=Builtin.SmallTypes.nextOf (.ref i)) (IF (z1.mv λo=>b1.extBut _ o D.i1z) (hl.mv λo=>b1.extBut _ o D.l1z) hx λg2 e2 b2=>wpAny_pure ?_)
 have o2:IsPair g2 TO x0 y0:=b2.extBut _ _ D.TOi1 (b1.extBut _ _ D.TOz zo)
 refine wpAny_bind (wpAny_seqItems o2 rfl (wpAny_bind (wpAny_updateSeq_pair o2 λg3 o3 b3=>wpAny_bind (wpAny_letGo (wpAny_pure ?_)))))
 have o3:IsPair g3 TO x y0:=o3
 refine wpAny_bind (wpAny_bind (wpAny_onRaise ?_))
 have cH:∀h h':Heap,(∀o,h.get? m=some o->h'.get? m=some o)->IsTup h m ys->IsTup h' m ys:=λh h' e x=>(show LG false h m ys from x).mv e
 have pV:IsTup g3 m ys:=cH _ _ (λo=>b3.extBut _ o D.l2TO) (cH _ _ (λo=>b2.extBut _ o D.l2i1) (cH _ _ (λo=>b1.extBut _ o D.l2z) hm))
 have z23:HF g3 j m ((ys.size:Int)-1-k):=b3.extBut _ _ D.TOi2.symm (b2.extBut _ _ D.i12.symm (b1.extBut _ _ D.i2z z2))
 refine wpAny_bind (m:=Builtin.SmallTypes.nextOf (.ref j)) (ZT z23 pV Q7 hk hy λg4 tk e4 b4=>wpAny_pure ?_)
 have o4:IsPair g4 TO x y0:=b4.extBut _ _ D.TOi2 o3
 refine wpAny_bind (wpAny_seqItems o4 rfl (wpAny_bind (wpAny_updateSeq_pair o4 λg5 o5 b5=>wpAny_bind (wpAny_letGo (wpAny_pure (wpAny_pure ?_))))))
 have o5:IsPair g5 TO x y:=o5
 refine wpAny_bind (wpAny_seqItems o5 rfl (wpAny_bind (wpAny_newTuple ?_)))
 have sz:g5.objs.size=s.heap.objs.size:=by rw [b5.1,b4.1,b3.1,b2.1,b1.1]
 have k5:IsZip g5 z TI TO .ellipsis:=b5.extBut _ _ D.TOz.symm (b4.extBut _ _ D.i2z.symm (b3.extBut _ _ D.TOz.symm (b2.extBut _ _ D.i1z.symm e1)))
 have all5:∀p o,p≠z->p≠TO->p≠i->p≠j->s.heap.get? p=some o->g5.get? p=some o:=λp o q1 q2 q3 q4 e=>
  b5.extBut _ _ q2 (b4.extBut _ _ q4 (b3.extBut _ _ q2 (b2.extBut _ _ q3 (b1.extBut _ _ q1 e))))
 have one5:NQ false g5 i l (k+1):=((e2.mv λo=>b3.extBut _ o D.TOi1.symm).mv λo=>b4.extBut _ o D.i12).mv λo=>b5.extBut _ o D.TOi1.symm
 have two5:HF g5 j m ((ys.size:Int)-1-(k+1:Nat)):=b5.extBut _ _ D.TOi2.symm e4
 have zlt:z<g5.objs.size:=Heap.lt_size k5
 refine wpAny_bind (m:=Builtin.SmallTypes.ownedTupleHandOut (.ref z) (.ref g5.objs.size)) ?_
 unfold Builtin.SmallTypes.ownedTupleHandOut
 have k6:IsZip (g5.push {cls:= .type "tuple",data:= .seq #[x,y] }) z TI TO .ellipsis:=Heap.get?_push_of_some _ k5
 refine wpAny_bind (wpAny_setField_rec k6 (by simp) λg7 k7 b7=> ?_)
 have k7:IsZip g7 z TI TO (rawInt g5.objs.size):=k7
 refine wpAny_setField_rec k7 (by simp) λg8 k8 b8=> ?_
 have k8:IsZip g8 z TI TO (rawInt g5.objs.size):=k8
 have up:∀p o,p≠z->g5.get? p=some o->g8.get? p=some o:=λp o q e=>b8.extBut _ _ q (b7.extBut _ _ q (Heap.get?_push_of_some _ e))
 have new8:IsPair g8 g5.objs.size x y:=b8.extBut _ _ (Nat.ne_of_gt zlt) (b7.extBut _ _ (Nat.ne_of_gt zlt) (Heap.get?_push_size _ rfl))
 rw [sz] at k8 new8
 refine wpAny_pure ⟨_,rfl, ?_⟩
 show Q (.ref g5.objs.size) _
 rw [sz]
 exact hQ g8 tk k8 (up _ _ D.TIz (all5 _ _ D.TIz D.TITO D.TIi1 D.TIi2 zi)) (up _ _ D.TOz o5) (one5.mv λo=>up _ o D.i1z) (up _ _ D.i2z two5) new8 λp o q1 q2 q3 q4 e=>up p o q1 (all5 p o q1 q2 q3 q4 e)
theorem iI {n:Nat} {Q:Fin->Shared->Prop} (hh:A.handled=none) (D:ZipApart z TI TO i j l m) (Z:ZR z TI TO i j l m n k .none s.heap) (hl:LG false s.heap l xs) (hx:xs[k]? =none)
 (hE:∀h' e,(∀p o,p≠z->p≠TO->p≠i->p≠j->s.heap.get? p=some o->h'.get? p=some o)->(∃o,h'.get? e=some o/\o.cls= .type "StopIteration")->E (.ref e) {s with heap:=h'}):
 wpAny (model prog w) A (Builtin.«zip.__next__» ⟨[.ref z], []⟩) Q E s:=by
 obtain ⟨zz,zi,⟨x0,y0,zo⟩,z1,z2⟩:=Z
 show wpAny _ _ (field (.ref z) 2 >>= _) _ _ _
 refine wpAny_bind (wpAny_field zz rfl (x:= .bool false) rfl ?_)
 show wpAny _ _ (field (.ref z) 3 >>= _) _ _ _
 refine wpAny_bind (wpAny_field zz rfl (x:= .ref TI) rfl (wpAny_bind (wpAny_seqItems zi rfl ?_)))
 refine wpAny_bind (m:=Builtin.SmallTypes.ownedTupleIsFree (.ref z)) ?_
 unfold Builtin.SmallTypes.ownedTupleIsFree
 refine wpAny_bind (wpAny_field zz rfl (x:= .none) rfl (wpAny_pure ?_))
 simp only [if_true]
 refine wpAny_bind (wpAny_rule (wpAny_bind (wpAny_field zz rfl (x:= .ref TO) rfl (wpAny_bind (wpAny_setField_rec zz (by simp) λg1 e1 b1=> ?_)))))
 have e1:IsZip g1 z TI TO .ellipsis:=e1
 refine wpAny_bind ?_
 simp only [List.zipIdx_cons,List.zipIdx_nil,List.forIn_cons,List.forIn_nil]
 refine wpAny_bind (wpAny_bind (wpAny_onRaise ?_))
 refine wpAny_bind (m:=Builtin.SmallTypes.nextOf (.ref i)) (Jf hh (z1.mv λo=>b1.extBut _ o D.i1z) (hl.mv λo=>b1.extBut _ o D.l1z) hx λg2 e b2 he=> ?_)
 obtain ⟨oe,ge,ce⟩:=he
 have k2:IsZip g2 z TI TO .ellipsis:=b2 _ _ D.i1z.symm e1
 have ez:e≠z:=λq=>by subst q;rw [k2] at ge;cases ge;simp at ce
 refine wpAny_setField_rec k2 (by simp) λg3 _ b3=>hE g3 e (λp o q1 _ q3 _ q=>b3.extBut _ _ q1 (b2 _ _ q3 (b1.extBut _ _ q1 q))) ⟨oe,b3.extBut _ _ ez ge,ce⟩
end
theorem aK {n l m:Nat} (h1:l<n) (h2:m<n):ZipApart (n+4) (n+2) (n+3) (n+1) n l m where
 TIz:=(by omega:(n+2:Nat)≠n+4)
 TOz:=(by omega:(n+3:Nat)≠n+4)
 i1z:=(by omega:(n+1:Nat)≠n+4)
 i2z:=(by omega:(n:Nat)≠n+4)
 TITO:=(by omega:(n+2:Nat)≠n+3)
 TIi1:=(by omega:(n+2:Nat)≠n+1)
 TIi2:=(by omega:(n+2:Nat)≠n)
 TOi1:=(by omega:(n+3:Nat)≠n+1)
 TOi2:=(by omega:(n+3:Nat)≠n)
 i12:=(by omega:(n+1:Nat)≠n)
 l1z:=(by omega:(l:Nat)≠n+4)
 l1TO:=(by omega:(l:Nat)≠n+3)
 l1i1:=(by omega:(l:Nat)≠n+1)
 l1i2:=(by omega:(l:Nat)≠n)
 l2z:=(by omega:(m:Nat)≠n+4)
 l2TO:=(by omega:(m:Nat)≠n+3)
 l2i1:=(by omega:(m:Nat)≠n+1)
 l2i2:=(by omega:(m:Nat)≠n)
abbrev rA (h:Heap) (l:Addr):Heap:=h.push (VU false l)
abbrev rC (h:Heap) (l r:Addr):Heap:=(rA h l).push {cls:= .type "tuple",data:= .seq #[.ref h.objs.size, .ref r] }
abbrev rD (h:Heap) (l r:Addr):Heap:=(rC h l r).push {cls:= .type "tuple",data:= .seq #[.none, .none] }
abbrev rF (h:Heap) (l r:Addr):Heap:=(rD h l r).push {cls:= .type "zip",data:= .fields #[.none, .bool false, .bool false, .ref (rA h l).objs.size, .ref (rC h l r).objs.size] }
theorem XA {prog:Program} {w:World} {A:Around} {E:Value->Shared->Prop} {h:Heap} {g:Array GenState} {d:Drawn} {tk:Nat} {os:OsState} {q m:Addr} {i:Int} {Q:Value->Shared->Prop} (hq:HF h q m i)
 (k:Q (.ref q) ⟨h,g,d,tk,os⟩):wpAny (model prog w) A (pyIter (.ref q)) Q E ⟨h,g,d,tk,os⟩:=ZL (s:=⟨h,g,d,tk,os⟩) hq k
theorem TM (l r m:Addr) (i:Int) (xs:Array Value):Meets (Builtin.«zip.__new__» ⟨[.type "zip", .ref l, .ref r], []⟩) (λ_ R s=>LG false s.heap l xs/\HF s.heap r m i/\R (.ok (.ret (.ref (rD s.heap l r).objs.size))) {s with heap:=rF s.heap l r}):=
 .of_wp λprog w A R s h=>by
   obtain ⟨hp,g,d,tk,os⟩:=s
   obtain ⟨hl,hm,h⟩:=h
   have jr:=sub_zip
   have jh:LG false hp l xs:=hl
   have jj:HF (hp.push (VU false l)) r m i:=Heap.get?_push_of_some _ hm
   wp_walk using Sc jh,XA jj
   exact ⟨_,rfl,h⟩
section
variable {prog:Program} {w:World} {A:Around} {E:Value->Shared->Prop} {s:Shared} {l m r:Addr} {xs:Array Value} {n:Nat}
theorem aH (hl:LG false s.heap l xs) (hr:HF s.heap r m ((n:Int)-1)) {Q:Value->Shared->Prop}
 (h:∀h',ZR (s.heap.objs.size+3) (s.heap.objs.size+1) (s.heap.objs.size+2) s.heap.objs.size r l m n 0 .none h'->(∀p o,s.heap.get? p=some o->h'.get? p=some o)->Q (.ref (s.heap.objs.size+3)) {s with heap:=h'}):
 wpAny (model prog w) A (call (.type "zip") [.ref l, .ref r]) Q E s:=by
 refine callType_new F.called_zip (by decide) (F.typeCall_zip_2 _ _) (F.newCall_zip_2 _ _) (λobj=>F.args_object_init_3 obj _ _) F.entry_zip_new (TM l r m _ xs) ⟨hl,hr, ?_⟩
 have n1:(rA s.heap l).objs.size=s.heap.objs.size+1:=Heap.size_push ..
 have n3:(rC s.heap l r).objs.size=s.heap.objs.size+2:=by rw [Heap.size_push,n1]
 have n4:(rD s.heap l r).objs.size=s.heap.objs.size+3:=by rw [Heap.size_push,n3]
 have up:∀(g:Heap) (x:Obj) (p:Addr) (o:Obj),g.get? p=some o->(g.push x).get? p=some o:=λg x p o e=>Heap.get?_push_of_some _ e
 have p5:(rF s.heap l r).get? (rD s.heap l r).objs.size=some _:=Heap.get?_push_size _ rfl
 have p4:(rF s.heap l r).get? (rC s.heap l r).objs.size=some _:=up _ _ _ _ (Heap.get?_push_size _ rfl)
 have p3:(rF s.heap l r).get? (rA s.heap l).objs.size=some _:=up _ _ _ _ (up _ _ _ _ (Heap.get?_push_size _ rfl))
 have p1:(rF s.heap l r).get? s.heap.objs.size=some (VU false l):=up _ _ _ _ (up _ _ _ _ (up _ _ _ _ (Heap.get?_push_size _ rfl)))
 have all:∀p o,s.heap.get? p=some o->(rF s.heap l r).get? p=some o:=λp o e=>up _ _ _ _ (up _ _ _ _ (up _ _ _ _ (up _ _ _ _ e)))
 rw [n1,n3,n4] at p5
 rw [n1] at p3
 rw [n3] at p4
 show _/\_
 rw [n4]
 exact ⟨⟨_,p5,rfl⟩,h _ ⟨p5,p3,⟨_,_,p4⟩,W9 p1,by rw [show (n:Int)-1-(0:Nat)=(n:Int)-1 by omega];exact all _ _ hr⟩ all⟩
end
def jD (K:PySem.W.Frag) (l m:Addr) (n:Nat):It:=
 ⟨λi H=>∃xs ys x y,Sq K false H l xs/\Sq K false H m ys/\ys.length=n/\xs[i]? =some x/\i<n/\ys[n-1-i]? =some y,
  λi H v H'=>∃T x y,v= .ref T/\H T=none/\H'=upd H T (.tup [x,y])/\(∀xs,Sq K false H l xs->xs[i]? =some x)/\∀ys,Sq K false H m ys->ys[n-1-i]? =some y,
  λi H=>∃xs,Sq K false H l xs/\xs.length<=i⟩
theorem Vv {P:Program} {w:World} {K:PySem.W.Frag} {es:List Expr} {x1:Nat} {pos:Pos} {z TI TO i j l m:Addr} {n:Nat} (D:ZipApart z TI TO i j l m):
 NS P w K (.Tuple es x1 pos) (jD K l m n) [z,TI,TO,i,j] z (λk h=>ZR z TI TO i j l m n k .none h) where
 mem:=by simp
 obj:=λk h Z p hp=>by
  have DI:p=z\/p=TI\/p=TO\/p=i\/p=j:=by simpa using hp
  rcases DI with e|e|e|e|e
  ·subst e;exact ⟨_,Z.zip,λv q=>nomatch q⟩
  ·subst e;exact ⟨_,Z.its,λv q=>nomatch q⟩
  ·subst e;obtain ⟨x,y,q⟩:=Z.own;exact ⟨_,q,λv q=>nomatch q⟩
  ·subst e;exact Z.one.obj
  ·subst e;exact ⟨_,Z.two,λv q=>nomatch q⟩
 keep:=λk h h' Z e=>Z.mv e
 item:=by
  intro X hP hw hK hc k pins s σ H E I hf Z hg
  subst hP hw hK
  obtain ⟨xs,ys,x,y,hl,hm,hn,hx,hk,hy⟩:=hg
  obtain ⟨us,ru,su,_⟩:=I.sq hl
  obtain ⟨vs,rv,sv,hz⟩:=I.sq hm
  obtain ⟨u,hu,rx⟩:=ru.get hx
  obtain ⟨v,hv,ry⟩:=rv.get hy
  have vn:vs.toArray.size=n:=by rw [List.size_toArray,<-rv.length];exact hn
  have hT:s.TypeIs (.ref z) "zip" :=⟨_,Z.zip,rfl⟩
  rw [<-vn] at Z
  unfold pyNext
  refine wpAny_bind (wpAny_attempt (wpAny_callSpecial?_slot (name:=Str.ofString "__next__") hT F.slot_zip_next (wpAny_call_entry F.slot_zip_next hT F.entry_zip_next
   (d7 D Z su sv (by rw [vn,<-hn];exact Int.lt_of_le_of_lt (Int.ofNat_le.mpr hz) (by decide)) (x:=u) (y:=v) (by simpa using hu) (by rw [vn];exact hk) (by rw [vn];simpa using hv) λh1 tk a1 a2 a3 a4 a5 a6 a7=>wpAny_pure ?_) (F.args_zip_next_1 _))))
  refine ⟨_,rfl,wpAny_letOwnedTupleGo_zip (s:={s with heap:=h1,toks:=tk}) a1 λh2 c1 c2=> ?_⟩
  have nT:∀p∈ [z,TI,TO,i,j],p<s.heap.objs.size:=λp hp=>by
   have DI:p=z\/p=TI\/p=TO\/p=i\/p=j:=by simpa using hp
   rcases DI with e|e|e|e|e
   ·subst e;exact Heap.lt_size Z.zip
   ·subst e;exact Heap.lt_size Z.its
   ·subst e;obtain ⟨x,y,q⟩:=Z.own;exact Heap.lt_size q
   ·subst e;obtain ⟨o,q,_⟩:=Z.one.obj;exact Heap.lt_size q
   ·subst e;exact Heap.lt_size Z.two
  have c2':∀p o,p≠z->h1.get? p=some o->h2.get? p=some o:=λp o q e=>c2.extBut _ _ q e
  have kp:∀p o,p ∉ [z,TI,TO,i,j] ->s.heap.get? p=some o->h2.get? p=some o:=λp o hp e=>by
   have DI:p≠z/\p≠TI/\p≠TO/\p≠i/\p≠j:=by simpa using hp
   exact c2' p o DI.1 (a7 p o DI.1 DI.2.2.1 DI.2.2.2.1 DI.2.2.2.2 e)
  have jv:s.heap.objs.size≠z:=Nat.ne_of_gt (nT z (by simp))
  have I2:Inv X pins σ (upd H s.heap.objs.size (.tup [x,y])) {s with heap:=h2,toks:=tk}:=I.turnedN hf nT kp (Nat.le_refl _)
   ⟨(by show 2<=sizeLine;decide), [u,v], .cons rx (.cons ry .nil),⟨_,c2' _ _ jv a6,rfl,_,rfl⟩⟩
  have VN:H s.heap.objs.size=none:=I.fresh
  refine ⟨.ref s.heap.objs.size,upd H s.heap.objs.size (.tup [x,y]),I2,rfl,⟨_,x,y,rfl,VN,rfl,λxs' h'=> ?_,λys' h'=> ?_⟩, ?_,λp hp=> ?_⟩
  ·rw [I.sq_inj h' hl];exact hx
  ·rw [I.sq_inj h' hm];exact hy
  ·rw [vn] at a5
   exact ⟨c1,c2' _ _ D.TIz a2,⟨_,_,c2' _ _ D.TOz a3⟩,a4.mv λo=>c2' _ o D.i1z,c2' _ _ D.i2z a5⟩
  ·rw [Ak (Nat.ne_of_lt (nT p hp))]
   exact (hf p hp).1
 done:=by
  intro X hP hw hK hc k pins s σ H E I hf Z hg
  subst hP hw hK
  obtain ⟨xs,hl,he⟩:=hg
  obtain ⟨us,ru,su,_⟩:=I.sq hl
  have e1:=ru.length
  have hT:s.TypeIs (.ref z) "zip" :=⟨_,Z.zip,rfl⟩
  unfold pyNext
  refine wpAny_bind (wpAny_attempt (wpAny_callSpecial?_slot (name:=Str.ofString "__next__") hT F.slot_zip_next (wpAny_call_entry F.slot_zip_next hT F.entry_zip_next
   (iI (I.ok.hd hc) D Z su (by simp;omega) λh1 e hk he=> ?_) (F.args_zip_next_1 _))))
  obtain ⟨o,ho,cD⟩:=he
  refine wpAny_bind (wpAny_isInstance (T:="StopIteration") (b:=true) ⟨o,ho,cD⟩ isSubtype_stop (wpAny_pure ⟨rfl, ?_⟩))
  exact I.turnedL (t':=s.toks) hf λp o hp e=>by
   have DI:p≠z/\p≠TI/\p≠TO/\p≠i/\p≠j:=by simpa using hp
   exact hk p o DI.1 DI.2.2.1 DI.2.2.2.1 DI.2.2.2.2 e
 self:=λ_ _ _ _ _ Z h=>wpAny_pyIter_zip Z.zip h
section
variable {X:Cx}
theorem Zk {e f:Expr} {te tf:TE} {p p2 pos pos2 tpos:Pos} {es:List Expr} {x1:Nat} (hg:Gl X "zip") (hm:X.mg "zip" =none) (ja:Gl X "reversed") (jl:X.mg "reversed" =none) (he:PE X e te) (hf:PE X f tf)
 (hs:starEach [e, .Call (.Name "reversed" p2) [f] [] pos2] X.env= [(false,eval e X.env),(false,eval (.Call (.Name "reversed" p2) [f] [] pos2) X.env)] :=by rfl) (Tv:starEach [f] X.env= [(false,eval f X.env)] :=by rfl):
 PI X (.Tuple es x1 tpos) (.Call (.Name "zip" p) [e, .Call (.Name "reversed" p2) [f] [] pos2] [] pos) (λσ H R=>te σ H λu H1=>tf σ H1 λv H2=>∃l m ys,u= .ref l/\v= .ref m/\(∃xs,Sq X.K false H2 l xs)/\Sq X.K false H2 m ys/\R (jD X.K l m ys.length) H2):=by
 intro pins s σ H R I h
 refine Call_ (GD I hg hm boot_zip (PyProof.Rows.callWith_type1 ?_ (by rw [hs];rfl) rfl))
 rw [hs]
 show wpAny _ _ (spliced ((false,eval e X.env) :: [(false,eval (.Call (.Name "reversed" p2) [f] [] pos2) X.env)])) _ _ s
 refine Calls.spliced_cons (Bq (he pins s σ H _ I h) λv s1 ⟨x,H1,I1,r1,q1⟩=> ?_)
 refine Calls.spliced_cons ?_
 refine Call_ (GD I1 ja jl boot_reversed (PyProof.Rows.callWith_type1 ?_ (by rw [Tv];rfl) rfl))
 rw [Tv]
 show wpAny _ _ (spliced ((false,eval f X.env) :: [])) _ _ s1
 refine Calls.spliced_cons (Bq (hf pins s1 σ H1 _ I1 q1) λv2 s2 ⟨x2,H2,I2,r2,q2⟩=>Calls.spliced_nil ?_)
 obtain ⟨l,m,ys,rfl,rfl,⟨xs,hl⟩,cH,q⟩:=q2
 cases r1
 cases r2
 obtain ⟨us,ru,su,_⟩:=I2.sq hl
 obtain ⟨vs,rv,sv,hz⟩:=I2.sq cH
 have vn:vs.toArray.size=ys.length:=by rw [List.size_toArray,<-rv.length]
 have llt:l<s2.heap.objs.size:=by obtain ⟨o,e,_⟩:=su;exact Heap.lt_size e
 have mlt:m<s2.heap.objs.size:=by obtain ⟨o,e,_⟩:=sv;exact Heap.lt_size e
 refine Y1 sv (by rw [vn];exact Int.lt_of_le_of_lt (Int.ofNat_le.mpr hz) (by decide)) (Calls.spliced_nil ?_)
 have up:∀b o,s2.heap.get? b=some o->(s2.heap.push (YZ m ((vs.toArray.size:Int)-1))).get? b=some o:=λb o e=>Heap.get?_push_of_some _ e
 have szp:(s2.heap.push (YZ m ((vs.toArray.size:Int)-1))).objs.size=s2.heap.objs.size+1:=Heap.size_push ..
 have su':LG false (s2.heap.push (YZ m ((vs.toArray.size:Int)-1))) l us.toArray:=su.mv λo e=>up _ o e
 have hR:HF (s2.heap.push (YZ m ((vs.toArray.size:Int)-1))) s2.heap.objs.size m ((ys.length:Int)-1):=by
  rw [<-vn];exact Heap.get?_push_size _ rfl
 refine aH (s:={s2 with heap:=s2.heap.push (YZ m ((vs.toArray.size:Int)-1)),toks:=s2.toks+1+1}) su' hR λh1 Z kp=>wpAny_pyIter_zip Z.zip ?_
 have I3:Inv X pins σ H2 {s2 with heap:=h1,toks:=s2.toks+1+1}:=I2.kept (t':=s2.toks+1+1) λb ob q=>kp b ob (up b ob q)
 have Z':ZR (s2.heap.objs.size+4) (s2.heap.objs.size+2) (s2.heap.objs.size+3) (s2.heap.objs.size+1) s2.heap.objs.size l m ys.length 0 .none h1:=by
  have Z2:=Z
  rw [show ({s2 with heap:=s2.heap.push (YZ m ((vs.toArray.size:Int)-1)),toks:=s2.toks+1+1}:Shared).heap.objs.size=s2.heap.objs.size+1 from szp] at Z2
  exact Z2
 refine ⟨_,_,_,_,H2, ?_,I3,Vv (aK llt mlt),Z',λp hp=> ?_,q⟩
 ·exact congrArg Value.ref (by show (s2.heap.push (YZ m ((vs.toArray.size:Int)-1))).objs.size+3=_;rw [szp])
 have DI:s2.heap.objs.size<=p:=by
  have cM:p=s2.heap.objs.size+4\/p=s2.heap.objs.size+2\/p=s2.heap.objs.size+3\/p=s2.heap.objs.size+1\/p=s2.heap.objs.size:=by simpa using hp
  rcases cM with e|e|e|e|e <;> (rw [e];first | exact Nat.le_refl _|exact Nat.le_add_right _ _)
 exact I2.fpOk DI (I2.hok.fresh DI)
end
end L2
end
section
namespace PL
open PySem PySem.Spec PyProof.Rows L2
theorem Ro {xs ys:List PV} {i:Nat} {u:PV} (h:(Dv xs ys)[i]? =some u):∃x y,xs[i]? =some x/\ys[i]? =some y/\u= .tup [x,y] :=by
 unfold Dv at h
 rw [List.getElem?_zipWith] at h
 cases hx:xs[i]? with
 | none=>rw [hx] at h;simp at h
 | some x=>
   cases hy:ys[i]? with
   | none=>rw [hx,hy] at h;simp at h
   | some y=>rw [hx,hy] at h;simp at h;exact ⟨x,y,rfl,rfl,h.symm⟩
theorem VT {K:PySem.W.Frag} {T M:Addr->Prop} {H:Hp} {l m:Addr} {xs ys:List PV} {n:Nat} (va:J9 T M H) (e1:xs.length=ys.length) (en:ys.length=n)
 (r:Cf K T M H (.ref l) (.tup xs)) (r2:Cf K T M H (.ref m) (.tup ys)):Ry K M (jD K l m n) (Dv xs ys.reverse) T H:=by
 obtain ⟨_,vs,e,hq,rs⟩:=Du r
 cases e
 obtain ⟨_,ws,e,Sa,rs2⟩:=Du r2
 cases e
 have wl:=rs2.length
 have rg:∀i b,ys.reverse[i]? =some b->i<n/\ys[n-1-i]? =some b:=λi b h=>by
  have hi:i<ys.reverse.length:=(List.getElem?_eq_some_iff.mp h).1
  rw [List.length_reverse] at hi
  rw [List.getElem?_reverse hi,en] at h
  exact ⟨by omega,h⟩
 refine ⟨λi w h=> ?_,λi w v H' h yl=> ?_,λi h=>⟨vs,hq, ?_⟩⟩
 ·obtain ⟨a,b,ha,hb,_⟩:=Ro h
  obtain ⟨hi,hb⟩:=rg i b hb
  obtain ⟨u1,h1,_⟩:=rs.get ha
  obtain ⟨u2,h2,_⟩:=rs2.get hb
  exact ⟨vs,ws,u1,u2,hq,Sa,by omega,h1,hi,h2⟩
 ·obtain ⟨a,b,ha,hb,rfl⟩:=Ro h
  obtain ⟨hi,hb⟩:=rg i b hb
  obtain ⟨p,u1,u2,rfl,hn,rfl,h1,h2⟩:=yl
  obtain ⟨a',Q2,ra⟩:=rs.get' (h1 vs hq)
  obtain ⟨b',Q3,rb⟩:=rs2.get' (h2 ws Sa)
  rw [ha] at Q2;cases Q2
  rw [hb] at Q3;cases Q3
  have st:=Dn.lay (o:= .tup [u1,u2]) va.tp hn
  exact ⟨st, .tup (.inl A6) (.cons (ra.stp st va) (.cons (rb.stp st va) .nil))⟩
 ·have:(Dv xs ys.reverse).length=xs.length:=by unfold Dv;rw [List.length_zipWith,List.length_reverse];omega
  rw [this] at h
  rw [rs.length]
  exact h
section
variable {X:Cx}
def bU (ta tb:AE):AI:=λτ Q=>ta τ λx=>tb τ λy=>match x,y with | .tup xs, .tup ys=>xs.length=ys.length/\Q (Dv xs ys.reverse)|_,_=>False
theorem g9 {e f:Expr} {ta tb:AE} {p p2 pos pos2 tpos:Pos} {es:List Expr} {x1:Nat} (hg:Gl X "zip") (hm:X.mg "zip" =none) (ja:Gl X "reversed") (jl:X.mg "reversed" =none) (ha:SE X e ta) (hb:SE X f tb)
 (hs:starEach [e, .Call (.Name "reversed" p2) [f] [] pos2] X.env= [(false,eval e X.env),(false,eval (.Call (.Name "reversed" p2) [f] [] pos2) X.env)] :=by rfl) (Tv:starEach [f] X.env= [(false,eval f X.env)] :=by rfl):
 SI X (.Tuple es x1 tpos) (.Call (.Name "zip" p) [e, .Call (.Name "reversed" p2) [f] [] pos2] [] pos) true (bU ta tb):=by
 obtain ⟨t,pa,s⟩:=ha
 obtain ⟨t',pb,s'⟩:=hb
 refine ⟨_,Zk hg hm ja jl pa pb hs Tv,λB T σ τ H R AQ sr h k=>s B T σ τ H _ _ sr h λu x T1 H1 s1 r1 h1=>s' B T1 σ τ H1 _ _ (sr.stp s1) h1 λv y T2 H2 s2 r2 h2=> ?_⟩
 split at h2 <;> first | exact h2.elim|skip
 obtain ⟨e1,h2⟩:=h2
 have r1':=r1.stp s2 (sr.stp s1).va
 obtain ⟨l,us,rfl,hq,rs⟩:=Du r1'
 obtain ⟨m,ws,rfl,Sa,rs2⟩:=Du r2
 exact ⟨l,m,ws,rfl,rfl,⟨us,hq⟩,Sa,k _ _ T2 H2 (s1.trans s2) (λM2 T3 H3 mv va _=>VT va e1 (by rw [rs2.length]) (r1'.mv mv) (r2.mv mv)) h2⟩
end
end PL
end
section
namespace L2
open PySem PySem.Spec PyProof.Rows
section
variable {X:Cx}
def isStr:Kd->Bool | .str=>true|_=>false
def Xl (K:PySem.W.Frag):List V->Hp->VK->Prop:=λxs H Q=>∃x k,xs= [x, .ty "str"] /\ll K x H k/\Q (.bl (isStr k)) H
theorem U3:Br X (.builtin "isinstance") (Xl X.K):=by
 intro pins s σ H xs us Q I r h
 obtain ⟨x,k,rfl,hk,q⟩:=h
 cases r with
 | cons rx rr=>
 cases rr with
 | cons rt rr=>
 cases rr
 cases rt
 have yes:Q (.bl true) H->EP X pins σ Q (.bool true) s:=λz=>⟨.bl true,H,I,rfl,z⟩
 have no:Q (.bl false) H->EP X pins σ Q (.bool false) {s with toks:=s.toks+1}:=λz=>⟨.bl false,H,I.tok _,rfl,z⟩
 cases k with
 | int=>
   obtain ⟨i,rfl⟩:=hk
   obtain ⟨t,rfl⟩:=rx
   exact IsiPair.int_str (no q)
 | bl=>
   obtain ⟨i,rfl⟩:=hk
   cases rx
   exact IsiPair.bool_str (no q)
 | non=>
   have e:x= .non:=hk
   subst e
   cases rx
   exact IsiPair.NoneType_str (no q)
 | str=>
   obtain ⟨i,rfl⟩:=hk
   obtain ⟨t,rfl⟩:=rx
   exact IsiPair.str_str (yes q)
 | lst=>
   obtain ⟨a,ys,rfl,hq⟩:=hk
   cases rx
   obtain ⟨its,r',pl,hz⟩:=I.list hq
   exact IsiPair.isList_str pl.isList (λ_ _ e=>e) (no q)
 | tup=>
   obtain ⟨a,ys,rfl,hq⟩:=hk
   cases rx
   obtain ⟨its,r',pl,hz⟩:=I.tuple hq
   have pl':s.heap.IsTuple a its.toArray:=pl
   exact IsiPair.isTuple_str pl' (λ_ _ e=>e) (no q)
end
end L2
namespace PL
open PySem PySem.Spec PyProof.Rows L2
section
variable {X:Cx}
def mU (x:PV) (Q:PV->Prop):Prop:=match kdOf x with | some k=>Q (.bl (isStr k))|none=>False
def MG:AF:=λxs Q=>match xs with | [x, .ty T] =>T="str" /\mU x Q|_=>False
theorem Pw:Br X (.builtin "isinstance") (Xl X.K)/\ET X.K (Xl X.K) MG:=by
 refine ⟨U3,λT M H us xs Q AQ va r h k=> ?_⟩
 unfold MG at h
 split at h <;> first | exact h.elim|skip
 rename_i x ty
 obtain ⟨ht,h⟩:=h
 subst ht
 unfold mU at h
 cases r with
 | cons r t=>
   cases t with
   | cons r2 t=>
     cases t;cases r2
     cases r with
     | non=>exact ⟨_, .non,rfl,rfl,k _ _ T H (.refl va.tp) (.bl _) h⟩
     | bl b=>exact ⟨_, .bl,rfl,⟨_,rfl⟩,k _ _ T H (.refl va.tp) (.bl _) h⟩
     | int b=>exact ⟨_, .int,rfl,⟨_,rfl⟩,k _ _ T H (.refl va.tp) (.bl _) h⟩
     | str b=>exact ⟨_, .str,rfl,⟨_,rfl⟩,k _ _ T H (.refl va.tp) (.bl _) h⟩
     | ty b=>exact h.elim
     | tup hq _=>exact ⟨_, .tup,rfl,⟨_,_,rfl,hq.sq⟩,k _ _ T H (.refl va.tp) (.bl _) h⟩
     | lst hq _ _ _=>exact ⟨_, .lst,rfl,⟨_,_,rfl, .inl (.inl hq)⟩,k _ _ T H (.refl va.tp) (.bl _) h⟩
     | tape _=>exact h.elim
     | scr _=>exact h.elim
     | dct _ _ _=>exact h.elim
end
end PL
end
section
namespace L2
open PySem PySem.Spec PyProof.Rows
def FM (h:Heap):Heap:=(h.push {cls:= .type "dict",data:= .dict #[] }).push {cls:= .type "cell",data:= .cell none}
theorem Np {h:Heap} {b:Addr} {o:Obj} (e:h.get? b=some o):(FM h).get? b=some o:=Heap.get?_push_of_some _ (Heap.get?_push_of_some _ e)
theorem S0 {h:Heap}:(FM h).Ns h.objs.size (λ_=>none):=(Heap.Ns.new h (.type "dict")).keeps λb o e=>Heap.get?_push_of_some _ e
theorem Pe {h:Heap}:(FM h).IsCell (h.objs.size+1) none:=by
 have e:(h.push {cls:= .type "dict",data:= .dict #[] }).objs.size=h.objs.size+1:=Heap.size_push ..
 rw [<-e]
 exact ⟨_,Heap.get?_push_size _ rfl,rfl⟩
theorem XO {M:Model} {A:Around} {E:Value->Shared->Prop} {s:Shared} {scope:Scope} {y0:Str} {globals:Addr} {cl:List (Str×Addr)} {qual:Str} {env:Env} {Q:Env->Shared->Prop}
 (cf:∀n acc,cellsFrom n scope.names acc=(y0,n)::acc) (pc:∀h,pushCells h scope.names=h.push {cls:= .type "cell",data:= .cell none})
 (hQ:Q (newEnv scope s.heap.objs.size globals ((y0,s.heap.objs.size+1)::cl) qual none .none (some env) builtinsNs) {s with heap:=FM s.heap}):
 wpAny M A (newFunctionEnv scope globals cl [] qual none .none (some env)) Q E s:=by
 simp only [newFunctionEnv,Option.isSome_some,if_true]
 refine wpAny_bind (wpAny_alloc ?_)
 refine wpAny_bind (wpAny_layCells _ (λname kind cells=>by cases pT:kind==NameKind.cell <;> simp [pT]) _ _ _ _ ?_)
 rw [cf,pc]
 rw [show ({s with heap:=s.heap.push {cls:= .type "dict",data:= .dict #[] }}:Shared).heap.objs.size=s.heap.objs.size+1 from Heap.size_push ..]
 rw [List.forIn_nil]
 exact wpAny_bind (wpAny_pure (wpAny_pure hQ))
def HJ (X:Cx) (sc:Scope) (N:List Str) (y0:Str) (cl:List (Str×Addr)) (C:Addr) (s:Shared) (H:Hp) (ex:List Addr) (pn:List (Addr×Obj)):Cx:=
 {blk X sc N ((y0,C+1)::cl) C s H ex pn with fn:=λx=>x==y0}
section
variable {X:Cx} {pins:List (Addr×Obj)} {σ:St} {H:Hp} {s:Shared} {fp:List Addr} {sc:Scope} {N:List Str} {cl:List (Str×Addr)} {y0:Str}
theorem aj {C:Addr} {y:Str} {c:Addr} (e:((y0,C+1)::cl).lookup y=some c):(y=y0/\c=C+1)\/cl.lookup y=some c:=by
 rw [List.lookup_cons] at e
 cases hb:y==y0 with
 | true=>rw [hb] at e;cases e;exact .inl ⟨beq_iff_eq.mp hb,rfl⟩
 | false=>rw [hb] at e;exact .inr e
theorem Yz (I:Inv X pins σ H s) (hf:∀b∈fp,EO X pins H b) (FJ:∀b∈fp,b<s.heap.objs.size) (hk:sc.kind= .function)
 (h1:∀y c,cl.lookup y=some c->X.env.cells.lookup y=some c) (h2:∀y,(sc.names.lookup y=some .cell\/sc.names.lookup y=some .free)->∃c,((y0,s.heap.objs.size+1)::cl).lookup y=some c):
 (HJ X sc N y0 cl s.heap.objs.size s H fp (X.pn++pins)).Ok where
 mod:=I.ok.mod
 kind:=hk
 glob:=I.ok.glob
 blt:=I.ok.blt
 above:=Nat.le_refl _
 inj:=λx y c a b=>by
  have lo:∀y c,cl.lookup y=some c->c<s.heap.objs.size:=λy c e=>I.szLt (h1 y c e)
  rcases aj a with ⟨e1,e2⟩|a'
  ·rcases aj b with ⟨e3,e4⟩|b'
   ·rw [e1,e3]
   ·rw [e2] at b'
    exact absurd (lo _ _ b') (Nat.not_lt.mpr (Nat.le_succ _))
  ·rcases aj b with ⟨e3,e4⟩|b'
   ·rw [e4] at a'
    exact absurd (lo _ _ a') (Nat.not_lt.mpr (Nat.le_succ _))
   ·exact I.ok.inj x y c (h1 x c a') (h1 y c b')
 has:=λx hx=>h2 x hx
 cab:=λx c z e=>by
  have z:(x==y0)=true:=z
  rcases aj e with ⟨_,rfl⟩|e
  ·exact Nat.le_succ _
  ·have e':((y0,s.heap.objs.size+1)::cl).lookup x=some c:= ‹_›
   rw [List.lookup_cons,z] at e'
   cases e'
   exact Nat.le_succ _
 hd:=I.ok.hd
 frames:=I.ok.frames
 stk:= .inl rfl
 exf:=λb hb=>⟨Nat.ne_of_lt (FJ b hb),λx c e=>by
  rcases aj e with ⟨_,rfl⟩|e
  ·exact Nat.ne_of_gt (Nat.lt_succ_of_lt (FJ b hb))
  ·exact (hf b hb).2.2.2.2.1 x c (h1 x c e)⟩
 bs:=I.bs
 bsz:=Nat.le_trans I.ok.bsz I.sz
 noex:=λb o e hb=>by
  rcases (hf b hb).2.2.2.1 with z|z
  ·exact I.ok.noex b o e z
  ·exact absurd (Nat.lt_of_lt_of_le (Heap.lt_size (I.ok.bs b o e).1) z) (Nat.lt_irrefl _)
 exfs:=λb hb=>I.notStk (hf b hb).2.1 (hf b hb).2.2.1
 funs:=I.stack
 frf:=I.stkFree
theorem Yy {own:Nat} {ix:List Nat} {h':Heap} {m:Str->Option Value} {t':Nat} (I:Inv X pins σ H s) (hf:∀b∈fp,EO X pins H b) (FJ:∀b∈fp,b<s.heap.objs.size) (hk:sc.kind= .function)
 (h1:∀y c,cl.lookup y=some c->X.env.cells.lookup y=some c) (h2:∀y,(sc.names.lookup y=some .cell\/sc.names.lookup y=some .free)->∃c,((y0,s.heap.objs.size+1)::cl).lookup y=some c) (F:N1 X sc own ix N) (far:∀(j i:Nat) (x:Str),ix[j]? =some i->N[own+j]? =some x->x≠y0)
 (hn:h'.Ns s.heap.objs.size m) (cD:h'.IsCell (s.heap.objs.size+1) none) (k:∀b o,s.heap.get? b=some o->h'.get? b=some o):
 Inv (HJ X sc N y0 cl s.heap.objs.size s H fp (X.pn++pins)) [] (Ch own ix σ) H {s with heap:=h',toks:=t'} where
 ok:=Yz I hf FJ hk h1 h2
 os:=rfl
 bare:=I.bare
 base:=Un.kept k
 loc:=by
  refine ⟨m,hn,λi x v e1 e2 e3=> ?_⟩
  obtain ⟨VQ,io,ei,es⟩:=FE e2
  obtain ⟨y,ny,ey,oy,sy⟩:=F.out _ _ ei
  have exy:x=y:=by
   have e1':N[i]? =some x:=e1
   have ny':=ny
   rw [show own+(i-own)=i by omega,e1'] at ny'
   exact Option.some.inj ny'
  subst exy
  have ne:=far _ _ _ ei ny
  obtain ⟨m0,pX,jg⟩:=I.loc
  obtain ⟨u,r,l⟩:=jg io x v ey es (.inr (.inl oy))
  refine ⟨u,r, ?_⟩
  rcases l with ⟨z,_⟩|⟨_,c,ec,z⟩
  ·have z':X.env.scope.names.lookup x=some .local:=z
   rw [oy] at z'
   cases z'
  ·obtain ⟨c',ec'⟩:=h2 x (.inl sy)
   have ec2:cl.lookup x=some c':=by
    rcases aj ec' with ⟨e,_⟩|e
    ·exact absurd e ne
    ·exact e
   have:=h1 x c' ec2
   rw [ec] at this
   cases this
   obtain ⟨o,ho,hd⟩:=z
   exact .inr ⟨.inl sy,c,ec',o,k c o ho,hd⟩
 cell:=λx c e=>by
  rcases aj e with ⟨_,rfl⟩|e
  ·exact ⟨none,cD⟩
  ·obtain ⟨v,o,ho,hd⟩:=I.cell x c (h1 x c e)
   exact ⟨v,o,k c o ho,hd⟩
 free:=I.hok.fresh (Nat.le_refl _)
 freeC:=λx c e=>by
  rcases aj e with ⟨_,rfl⟩|e
  ·exact I.hok.fresh (Nat.le_succ _)
  ·exact I.freeC x c (h1 x c e)
 pin:=λp hp=>by
  have DI:p∈X.pn++pins:=by simpa [HJ,blk] using hp
  obtain ⟨a,b,c,d,e⟩:=I.pin p DI
  exact ⟨k _ _ a,b,Nat.ne_of_lt (Heap.lt_size a),I.notStk c d,e⟩
 hok:=I.hok.kept k
 len:=by rw [OA];exact F.len.symm
theorem WP {own:Nat} {ix:List Nat} {σ':St} {H':Hp} {s':Shared} {pins':List (Addr×Obj)} (I:Inv X pins σ H s) (hf:∀b∈fp,EO X pins H b) (FJ:∀b∈fp,b<s.heap.objs.size)
 (B:Inv (HJ X sc N y0 cl s.heap.objs.size s H fp (X.pn++pins)) pins' σ' H' s'):Inv X pins σ H' s':=
 I.call' (ch:=fp) B.os B.base B.hok B.bare λb hb=>⟨(hf b hb).2.2.2.1,(hf b hb).2.1,(hf b hb).2.2.2.2.1,(hf b hb).2.2.2.2.2⟩
end
section
variable {X:Cx} {tg elt iter:Expr} {ifs:List Expr} {scope:Scope} {pos:Pos} {wi:TI} {own:Nat} {ix:List Nat} {N:List Str} {y0:Str} {g:TG} {tt:TT} {te:TE}
structure LF (X:Cx) (tg elt:Expr) (ifs:List Expr) (scope:Scope) (own:Nat) (ix:List Nat) (N:List Str) (y0:Str) (g:TG) (tt:TT) (te:TE):Prop where
 kind:scope.kind= .function
 cells:∀y∈scope.names,y.2= .cell->y.1=y0
 cf:∀n acc,cellsFrom n scope.names acc=(y0,n)::acc
 pc:∀h,pushCells h scope.names=h.push {cls:= .type "cell",data:= .cell none}
 far:∀(j i:Nat) (x:Str),ix[j]? =some i->N[own+j]? =some x->x≠y0
 names:∀y∈scope.names,y.2= .local->scope.names.lookup y.1=some .local
 frees:∀y∈scope.names,y.2= .free->X.env.scope.names.lookup y.1=some .cell
 ins:N1 X (relabel scope X.env) own ix N
 keep:Gx own g
 tgt:∀cl C s H ex pn,PG (HJ X (relabel scope X.env) N y0 cl C s H ex pn) tg g
 tst:∀cl C s H ex pn,WE (HJ X (relabel scope X.env) N y0 cl C s H ex pn) ifs tt
 val:∀cl C s H ex pn,PE (HJ X (relabel scope X.env) N y0 cl C s H ex pn) elt te
theorem IT {env:Env} {y:Str} {k:NameKind} (W2:∀y∈scope.names,y.2= .cell->y.1=y0) (h:(y,k)∈(relabel scope env).names) (hk:k= .cell\/k= .free):(y,NameKind.free)∈scope.names\/y=y0:=by
 obtain ⟨⟨n,k'⟩,hm,e⟩:=List.mem_map.mp (show (y,k)∈scope.names.map _ from h)
 dsimp only at e
 split at e
 ·rename_i hc
  cases e
  have:k'= .free:=by
   cases k' <;> simp_all
  subst this
  exact .inl hm
 ·cases e
  rcases hk with z|z
  ·subst z
   exact .inr (W2 _ hm rfl)
  ·subst z
   exact .inl hm
theorem R8 {pins:List (Addr×Obj)} {σ:St} {H:Hp} {s:Shared} {fp:List Addr} {cl:List (Str×Addr)} {it:Addr} {tn:Nat->Heap->Prop} {J:It} {D:Addr} {R:Result->Shared->Prop} {Qh:Hp->Prop} {W:Nat->Nat->Hp->Prop}
 (hc:X.calm=true) (O:LF X tg elt ifs scope own ix N y0 g tt te) (T:NS X.prog X.w X.K tg J fp it tn) (I:Inv X pins σ H s) (hf:∀b∈fp,EO X pins H b) (FJ:∀b∈fp,b<s.heap.objs.size)
 (hW:MA J D (Ch own ix σ) g tt te Qh W)
 (hR:∀σ' H' s',Inv (HJ X (relabel scope X.env) N y0 cl s.heap.objs.size s H fp (X.pn++pins)) [] σ' H' s'->Qh H'->R (.ok .next) s')
 (n:Nat) (s0:Shared) (h0:∃i H',Inv (HJ X (relabel scope X.env) N y0 cl s.heap.objs.size s H fp (X.pn++pins)) [] (Ch own ix σ) H' s0/\tn i s0.heap/\(∀b∈fp,H' b=none)/\W i n H'):
 codeAny (model X.prog X.w) X.A (.compLoop (.ListComp elt [⟨tg,iter,ifs,0⟩] scope pos) 0 (.ref it) (.ref D) (HK X.env (relabel scope X.env) ((y0,s.heap.objs.size+1)::cl) s.heap.objs.size)) R s0:=by
 refine codeAny_loop rfl (λn s'=>∃i H',Inv (HJ X (relabel scope X.env) N y0 cl s.heap.objs.size s H fp (X.pn++pins)) [] (Ch own ix σ) H' s'/\tn i s'.heap/\(∀b∈fp,H' b=none)/\W i n H') (λn s1 h1=> ?_) n h0
 obtain ⟨i,H1,B1,st1,fr1,w1⟩:=h1
 generalize hY:HJ X (relabel scope X.env) N y0 cl s.heap.objs.size s H fp (X.pn++pins)=Y at *
 have eA:Y.A=X.A:=by rw [<-hY];rfl
 have eP:Y.prog=X.prog:=by rw [<-hY];rfl
 have eW:Y.w=X.w:=by rw [<-hY];rfl
 have eK:Y.K=X.K:=by rw [<-hY];rfl
 have eE:HK X.env (relabel scope X.env) ((y0,s.heap.objs.size+1)::cl) s.heap.objs.size=Y.env:=by rw [<-hY];rfl
 have eX:Y.xe=λ_ _=>False:=by rw [<-hY];rfl
 have eC:Y.calm=true:=by rw [<-hY];exact hc
 have hg:PG Y tg g:=by rw [<-hY];exact O.tgt _ _ _ _ _ _
 have ht:WE Y ifs tt:=by rw [<-hY];exact O.tst _ _ _ _ _ _
 have hv:PE Y elt te:=by rw [<-hY];exact O.val _ _ _ _ _ _
 have stat:∀{H':Hp},(∀b∈fp,H' b=none)->∀b∈fp,EO Y [] H' b:=λ{H'} hn b hb=>by
  obtain ⟨_,a1,a2,a3,a4,a5⟩:=hf b hb
  refine ⟨hn b hb, ?_, ?_, ?_, ?_, ?_⟩
  ·rw [<-hY];exact Nat.ne_of_lt (FJ b hb)
  ·rw [<-hY];exact I.notStk a1 a2
  ·rw [<-hY];exact .inl hb
  ·intro x c e
   exact (B1.ok.exf b (by rw [<-hY];exact hb)).2 x c e
  ·intro p hp
   have:p∈X.pn++pins:=by rw [<-hY] at hp;simpa [HJ,blk] using hp
   exact a5 p this
 rw [eE,<-eA,<-eP,<-eW]
 show wpAny _ _ ((compTurn (.ListComp elt [⟨tg,iter,ifs,0⟩] scope pos) 0 (.ref it) (.ref D) Y.env).onRaise (λx=>do noteFrame x Y.env;theTreesLotGoes x)) _ _ s1
 refine wpAny_noted ?_
 rw [compTurn_list]
 have ff:∀{α:Type} {t:Sem α} {Q:α->Shared->Prop} {E:Value->Shared->Prop} {s:Shared},wpAny (model Y.prog Y.w) Y.A t Q Y.xe s->wpAny (model Y.prog Y.w) Y.A t Q E s:=λh=>wpAny_mono h (λ_ _ q=>q) λ_ _ z=>by rw [eX] at z;exact z.elim
 refine wpAny_bind (wpAny_standAt (wpAny_bind ?_))
 rcases hW i n H1 w1 with ⟨stop,qn⟩|⟨go,step⟩
 ·have zd:=λE=>T.done Y eP eW eK eC i [] s1 _ H1 E B1 (stat fr1) st1 stop
  rw [<-eP,<-eW] at zd
  refine Bq (zd _) λr s4 ⟨hr,I4⟩=> ?_
  subst hr
  exact wpAny_pure (hR _ _ _ I4 qn)
 ·have zi:=λE=>T.item Y eP eW eK eC i [] s1 _ H1 E B1 (stat fr1) st1 go
  rw [<-eP,<-eW] at zi
  refine Bq (zi _) λr s4 ⟨u,hr,h4⟩=> ?_
  subst hr
  refine wpAny_bind (Bq h4 λ_ s5 ⟨x,H5,I5,r5,y5,st5,fr5⟩=> ?_)
  have I5':=I5.pinned (stat fr5) (T.obj _ _ st5)
  refine wpAny_bind (Bq (ff (hg _ s5 _ H5 x u _ I5' r5 (O.keep _ _ _ _ (step x H5 y5)))) λ_ s6 ⟨σ6,H6,I6,q6,l6,k6⟩=> ?_)
  refine wpAny_bind (Bq (ff (ht _ s6 σ6 H6 _ I6 q6)) λok s7 ⟨H7,I7,q7⟩=> ?_)
  have back:∀{H8:Hp} {s8:Shared} {m':Nat},Inv Y ([] ++ Ju fp s5.heap) σ6 H8 s8->m'<n->W (i+1) m' H8->
   ∃m,m<n/\∃i H',Inv Y [] (Ch own ix σ) H' s8/\tn i s8.heap/\(∀b∈fp,H' b=none)/\W i m H':=λ{H8 s8 m'} I8 hm w8=>by
   refine ⟨m',hm,i+1,H8,I8.unpinned.weak l6.symm (λj v hj=> ?_),T.keep _ _ _ st5 λb hb o e=>(I8.pin (b,o) (List.mem_append_right _ (List.mem_append_right _ (DS hb e)))).1,λb hb=> ?_,w8⟩
   ·rw [k6 j (FE hj).1]
    exact hj
   ·obtain ⟨o,e,d⟩:=T.obj _ _ st5 b hb
    exact (I8.pin (b,o) (List.mem_append_right _ (List.mem_append_right _ (DS hb e)))).2.1
  cases ok with
  | false=>
    obtain ⟨m',hm,w8⟩:=q7
    exact wpAny_pure ⟨rfl,back I7 hm w8⟩
  | true=>
    refine wpAny_bind (wpAny_bind (Bq (ff (hv _ s7 σ6 H7 _ I7 q7)) λyv s8 ⟨y,H8,I8,r8,ys,hD,hz,m',hm,w8⟩=> ?_))
    refine wpAny_bind (Bq (ff (Jl _ s8 σ6 H8 (.ref D) [y] (.ref D) [yv] (λ_ H9=>H9=upd H8 D (.lst (ys ++ [y]))) I8 rfl (.cons r8 .nil) ⟨D,ys,y,rfl,rfl,hD,hz,rfl⟩)) λ_ s9 ⟨_,H9,I9,_,e9⟩=> ?_)
    subst e9
    exact wpAny_pure (wpAny_pure ⟨rfl,back I9 hm w8⟩)
theorem VA {pins:List (Addr×Obj)} {σ:St} {H:Hp} {s:Shared} {use:Option (Value->Sem Unit)} {Q:Value->Shared->Prop} {it:Addr} {fp:List Addr} {cl:List (Str×Addr)} {tn:Nat->Heap->Prop} {J:It} {Qd:Addr->Hp->Prop}
 (hc:X.calm=true) (O:LF X tg elt ifs scope own ix N y0 g tt te) (T:NS X.prog X.w X.K tg J fp it tn) (I:Inv X pins σ H s) (hf:∀b∈fp,EO X pins H b) (st:tn 0 s.heap)
 (h1:∀y c,cl.lookup y=some c->X.env.cells.lookup y=some c) (h2:∀y,(y,NameKind.free)∈scope.names->∃c,cl.lookup y=some c)
 (hq:∀D,H D=none->∃W:Nat->Nat->Hp->Prop,(∃m,W 0 m (upd H D (.lst [])))/\MA J D (Ch own ix σ) g tt te (Qd D) W)
 (hR:∀D C H' s',(∃m,s'.heap.Ns C m)->Inv X pins σ H' s'->(∀σ2 s2,Inv X pins σ2 H' s2->∀h',Heap.SameBut C s2.heap h'->Inv X pins σ2 H' {s2 with heap:=h'})->C≠X.env.locals->(∀x c,X.env.cells.lookup x=some c->C≠c)->Qd D H'->
   compPost (model X.prog X.w) X.A X.xe use Q (.ref D) C (.ok .next) s'):
 wpAny (model X.prog X.w) X.A (newList []) (λacc s₃=>wpAny (model X.prog X.w) X.A (newFunctionEnv scope X.env.globals cl [] X.env.qual none .none (some X.env)) (λcenv s₄=>
  codeAny (model X.prog X.w) X.A (.compStart (.ListComp elt [⟨tg,iter,ifs,0⟩] scope pos) 0 (.ref it) acc {cenv with scope:=relabel scope X.env}) (compPost (model X.prog X.w) X.A X.xe use Q acc cenv.locals) s₄) X.xe s₃) X.xe s:=by
 refine wpAny_newObj_type ?_ (by simp [sizeOk])
 have I3:Inv X pins σ (upd H s.heap.objs.size (.lst [])) {s with heap:=s.heap.push {cls:= .type "list",data:= .seq ([] :List Value).toArray}}:=I.lnew (t':=s.toks) .nil (Nat.zero_le _)
 have VN:=I.fresh
 obtain ⟨W,⟨m0,w0⟩,hW⟩:=hq _ VN
 have cG:∀b∈fp,b<s.heap.objs.size:=λb hb=>by
  obtain ⟨o,e,_⟩:=T.obj _ _ st b hb
  exact Heap.lt_size e
 have ZH:∀b∈fp,EO X pins (upd H s.heap.objs.size (.lst [])) b:=λb hb=>by
  obtain ⟨a0,ar⟩:=hf b hb
  exact ⟨by rw [Ak (Nat.ne_of_lt (cG b hb))];exact a0,ar⟩
 generalize jq:({s with heap:=s.heap.push {cls:= .type "list",data:= .seq ([] :List Value).toArray}}:Shared)=s3 at I3
 have st3:tn 0 s3.heap:=T.keep _ _ _ st λb hb o e=>by rw [<-jq];exact Heap.get?_push_of_some _ e
 have FJ:∀b∈fp,b<s3.heap.objs.size:=λb hb=>by
  obtain ⟨o,e,_⟩:=T.obj _ _ st3 b hb
  exact Heap.lt_size e
 refine XO O.cf O.pc ?_
 have kp:∀b o,s3.heap.get? b=some o->(FM s3.heap).get? b=some o:=λb o e=>Np e
 have eJ:=S0 (h:=s3.heap)
 have cD:=Pe (h:=s3.heap)
 have jb:∀y,((relabel scope X.env).names.lookup y=some .cell\/(relabel scope X.env).names.lookup y=some .free)->∃c,((y0,s3.heap.objs.size+1)::cl).lookup y=some c:=λy hy=>by
  have go:(y,NameKind.free)∈scope.names\/y=y0:=by
   rcases hy with z|z
   ·exact IT O.cells (Ji z) (.inl rfl)
   ·exact IT O.cells (Ji z) (.inr rfl)
  rw [List.lookup_cons]
  cases hb:y==y0 with
  | true=>exact ⟨_,rfl⟩
  | false=>
    rcases go with z|z
    ·exact h2 y z
    ·rw [z] at hb;simp at hb
 have B:=Yy (N:=N) (t':=s3.toks) I3 ZH FJ (sc:=relabel scope X.env) O.kind h1 jb O.ins O.far eJ cD kp
 have st4:tn 0 (FM s3.heap):=T.keep _ _ _ st3 λb hb o e=>kp b o e
 have loop:∀s4:Shared,s4={s3 with heap:=FM s3.heap}->
  codeAny (model X.prog X.w) X.A (.compLoop (.ListComp elt [⟨tg,iter,ifs,0⟩] scope pos) 0 (.ref it) (.ref s.heap.objs.size) (HK X.env (relabel scope X.env) ((y0,s3.heap.objs.size+1)::cl) s3.heap.objs.size)) (compPost (model X.prog X.w) X.A X.xe use Q (.ref s.heap.objs.size) s3.heap.objs.size) s4:=by
  rintro s4 rfl
  refine R8 (cl:=cl) (Qh:=Qd s.heap.objs.size) hc O T I3 ZH FJ hW (λσ' H' s' B' q'=> ?_) m0 _ ⟨0,_,B,st4,λb hb=>(ZH b hb).1,w0⟩
  refine hR _ _ H' s' (let ⟨m,hm,_⟩:=B'.loc;⟨m,hm⟩) (WP (own:=own) (ix:=ix) I3 ZH FJ B') (λσ2 s2 I2 h' hs=>Qk I3 rfl I2 B'.free hs) (Nat.ne_of_gt I3.lt) (λx c e=>Nat.ne_of_gt (I3.szLt e)) q'
 exact codeAny_compStart_list (loop _ rfl) (T.self _ 0 _ _ _ st4 (loop _ rfl))
theorem Xb (hc:X.calm=true) (hi:PI X tg iter wi) (O:LF X tg elt ifs scope own ix N y0 g tt te) (hs:∀x,foldedSetIterable iter X.env x=pure x:=by intro _;rfl):
 PE X (.ListComp elt [⟨tg,iter,ifs,0⟩] scope pos) (Uh wi own ix g tt te):=by
 intro pins s σ H Q I h
 obtain ⟨cl,Q6,h1,h2⟩:=HL (env:=X.env) (scope:=scope) λy hy e=>I.ok.has y.1 (.inl (O.frees y hy e))
 rw [eval_ListComp]
 refine wpAny_comprehension_free (use:=none) rfl hs Q6 O.kind O.names (Bq (hi pins s σ H _ I h) λv s1 hv=>Bq hv λitv s2 fo=> ?_)
 obtain ⟨it,fp,tn,J,H2,rfl,I2,T,st2,f2,q⟩:=fo
 exact VA (Qd:=λD H'=>Q (.ref D) H') hc O T I2 f2 st2 h1 h2 q λD C H' s' hn I' gone nl nc q'=>by
  obtain ⟨m,hm⟩:=hn
  exact ⟨m,hm,λh' hs=>⟨.ref D,H',gone σ s' I' h' hs,rfl,q'⟩⟩
end
end L2
end
section
namespace PL
open PySem PySem.Spec PyProof.Rows L2
section
variable {X:Cx} {ta:AE} {pos:Pos}
structure V7 (X:Cx) (tg elt:Expr) (ifs:List Expr) (scope:Scope) (own:Nat) (ix:List Nat) (N:List Str) (y0:Str) (g:AG) (t:AT) (te:AE):Prop where
 ex:∃g' t' te',LF X tg elt ifs scope own ix N y0 g' t' te'/\Kv X.K g' g/\NR X.K t' t/\Fn X.K te' te
theorem Xw {tg elt iter:Expr} {ifs:List Expr} {scope:Scope} {own:Nat} {ix:List Nat} {N:List Str} {y0:Str} {g:AG} {t:AT} {s:Bool} {ai:AI} (hc:X.calm=true) (hi:SI X tg iter s ai) (O:V7 X tg elt ifs scope own ix N y0 g t ta) (hs:∀x,foldedSetIterable iter X.env x=pure x:=by intro _;rfl):
 SF X (.ListComp elt [⟨tg,iter,ifs,0⟩] scope pos) (CL ai own ix g t ta):=by
 obtain ⟨wi,pi,si⟩:=hi
 obtain ⟨g',t',te',O,sg,st,se⟩:=O.ex
 exact ⟨_,Xb hc pi O hs,Ms si sg st se⟩
theorem Y3 {tg elt:Expr} {ifs:List Expr} {scope:Scope} {own:Nat} {ix:List Nat} {N:List Str} (y0:Str) {g:AG} {t:AT} {te:AE} (h1:scope.kind= .function) (h2:(scope.names.all λy=> !decide (y.2= .cell)||decide (y.1=y0))=true)
 (cf:∀n acc,cellsFrom n scope.names acc=(y0,n)::acc) (pc:∀h,pushCells h scope.names=h.push {cls:= .type "cell",data:= .cell none})
 (h3:(scope.names.all λy=> !decide (y.2= .local)||decide (scope.names.lookup y.1=some .local))=true)
 (h4:(scope.names.all λy=> !decide (y.2= .free)||decide (X.env.scope.names.lookup y.1=some .cell))=true) (h5:N.length=own+ix.length) (h6:O1 X (relabel scope X.env) own ix N=true)
 (h7:((N.drop own).all λx=> !decide (x=y0))=true)
 (tgt:∀cl C s H ex pn,SK own (HJ X (relabel scope X.env) N y0 cl C s H ex pn) tg g)
 (tst:∀cl C s H ex pn,eF (HJ X (relabel scope X.env) N y0 cl C s H ex pn) ifs t)
 (val:∀cl C s H ex pn,SE (HJ X (relabel scope X.env) N y0 cl C s H ex pn) elt te):V7 X tg elt ifs scope own ix N y0 g t te:=by
 refine ⟨fU X.K own g,im X.K t,iT X.K te,⟨h1,λy hy e=> ?_,cf,pc,λj i x hj hx=> ?_,λy hy e=> ?_,λy hy e=> ?_,Qt h5 h6,RD,λcl C s H ex pn=>(tgt cl C s H ex pn).of,λcl C s H ex pn=>(tst cl C s H ex pn).of,λcl C s H ex pn=>(val cl C s H ex pn).of⟩,UW,UX,UV⟩
 ·have:=List.all_eq_true.mp h2 y hy
  simpa [e] using this
 ·have hm:x∈N.drop own:=List.mem_of_getElem? (i:=j) (by rw [List.getElem?_drop];exact hx)
  have:=List.all_eq_true.mp h7 x hm
  simpa using this
 ·have:=List.all_eq_true.mp h3 y hy
  simpa [e] using this
 ·have:=List.all_eq_true.mp h4 y hy
  simpa [e] using this
end
end PL
end
section
namespace L2
open PySem PySem.Spec PyProof.Rows
section
variable {X:Cx}
end
end L2
namespace PL
open PySem PySem.Spec PyProof.Rows L2
section
variable {X:Cx}
end
end PL
end
section
namespace PL
open PySem L2 PyProof.Rows
class WH (Ts:List String):Prop where
 q:Ts.any (O8 .tup)=true/\Ts.any (O8 .lst)=true/\Ts.any (O8 .int)=false/\Ts.any (O8 .bl)=false/\Ts.any (O8 .non)=false/\Ts.any (O8 .str)=false
instance:WH ["tuple","list"] :=⟨by decide⟩
instance:WH ["list","tuple"] :=⟨by decide⟩
section
variable {Ts:List String} [h:WH Ts] {Q:PV->Prop} {xs:List PV}
end
end PL
end
section
namespace L2
open PySem PySem.Spec PyProof.Rows
section
variable {κ:Type} [DecidableEq κ]
def J2 (kvs:List (κ×V)) (k:κ):Option V:=(kvs.find? λkv=>decide (kv.1=k)).map (·.2)
def Nq (kvs:List (κ×V)) (k:κ) (v:V):List (κ×V):=
 if (kvs.any λkv=>decide (kv.1=k))=true then kvs.map (λkv=>if kv.1=k then (kv.1,v) else kv) else kvs ++ [(k,v)]
def aS (kvs:List (κ×V)) (k:κ):List (κ×V):=kvs.filter λkv=>decide (kv.1≠k)
theorem JB {p:κ×V} {r:List (κ×V)} {k:κ} (e:p.1=k):J2 (p::r) k=some p.2:=by simp [J2,List.find?_cons,e]
theorem JA {p:κ×V} {r:List (κ×V)} {k:κ} (e:¬p.1=k):J2 (p::r) k=J2 r k:=by simp [J2,List.find?_cons,e]
theorem M9 (k:κ):∀kvs:List (κ×V),(kvs.any λkv=>decide (kv.1=k))=(J2 kvs k).isSome
 | [] =>rfl
 | p::r=>by
   rw [List.any_cons]
   by_cases e:p.1=k
   ·simp only [JB e,decide_eq_true e,Bool.true_or,Option.isSome_some]
   ·rw [JA e,decide_eq_false e,Bool.false_or];exact M9 k r
theorem L0.isSome_eq {o:Option V} {u:Option Value} (r:L0 o u):o.isSome=u.isSome:=by
 cases o with
 | none=>cases u with
   | none=>rfl
   | some _=>exact (show False from r).elim
 | some _=>cases u with
   | none=>exact (show False from r).elim
   | some _=>rfl
theorem L0.getD {o:Option V} {u:Option Value} {d:V} {d':Value} (r:L0 o u) (rd:RelV d d'):RelV (o.getD d) (u.getD d'):=by
 cases o with
 | none=>cases u with
   | none=>exact rd
   | some _=>exact (show False from r).elim
 | some _=>cases u with
   | none=>exact (show False from r).elim
   | some _=>exact r
theorem KV.val {kvs:List (κ×V)} {vs:List (κ×Value)} (r:KV kvs vs) (k:κ):L0 (J2 kvs k) (valueAt vs k):=by
 unfold KV at r
 induction r with
 | nil=>exact True.intro
 | @cons p q ps qs h t ih=>
   obtain ⟨h1,h2⟩:=h
   by_cases e:p.1=k
   ·have e':q.1=k:=h1.symm.trans e
    have b:valueAt (q::qs) k=some q.2:=by simp [valueAt,List.find?_cons,e']
    rw [JB e,b];exact h2
   ·have e':¬q.1=k:=λz=>e (h1.trans z)
    have b:valueAt (q::qs) k=valueAt qs k:=by simp [valueAt,List.find?_cons,e']
    rw [JA e,b];exact ih
theorem KV.any {kvs:List (κ×V)} {vs:List (κ×Value)} (r:KV kvs vs) (k:κ):(kvs.any λkv=>decide (kv.1=k))=vs.any λkv=>decide (kv.1=k):=by
 unfold KV at r
 induction r with
 | nil=>rfl
 | cons h t ih=>rw [List.any_cons,List.any_cons,ih,h.1]
theorem KV.repl {kvs:List (κ×V)} {vs:List (κ×Value)} (r:KV kvs vs) (k:κ) {y:V} {u:Value} (ry:RelV y u):
 KV (kvs.map λkv=>if kv.1=k then (kv.1,y) else kv) (vs.map λkv=>if kv.1=k then (kv.1,u) else kv):=by
 unfold KV at r ⊢
 induction r with
 | nil=>exact .nil
 | @cons p q ps qs h t ih=>
   rw [List.map_cons,List.map_cons]
   refine .cons ?_ ih
   obtain ⟨h1,h2⟩:=h
   by_cases e:p.1=k
   ·rw [if_pos e,if_pos (h1.symm.trans e)];exact ⟨h1,ry⟩
   ·rw [if_neg e,if_neg (λz=>e (h1.trans z))];exact ⟨h1,h2⟩
theorem KV.put {kvs:List (κ×V)} {vs:List (κ×Value)} (r:KV kvs vs) (k:κ) {y:V} {u:Value} (ry:RelV y u):KV (Nq kvs k y) (stored vs k u):=by
 unfold Nq stored
 rw [r.any k]
 by_cases e:(vs.any λkv=>decide (kv.1=k))=true
 ·rw [if_pos e,if_pos e];exact r.repl k ry
 ·rw [if_neg e,if_neg e];exact Paired.snoc r ⟨rfl,ry⟩
theorem KV.drop {kvs:List (κ×V)} {vs:List (κ×Value)} (r:KV kvs vs) (k:κ):KV (aS kvs k) (without vs k):=by
 unfold KV at r ⊢
 unfold aS without
 induction r with
 | nil=>exact .nil
 | @cons p q ps qs h t ih=>
   obtain ⟨h1,h2⟩:=h
   rw [List.filter_cons,List.filter_cons]
   by_cases e:p.1=k
   ·have a:¬decide (p.1≠k)=true:=by simp [e]
    have b:¬decide (q.1≠k)=true:=by simp [h1.symm.trans e]
    rw [if_neg a,if_neg b];exact ih
   ·have e':¬q.1=k:=λz=>e (h1.trans z)
    have a:decide (p.1≠k)=true:=by simp [e]
    have b:decide (q.1≠k)=true:=by simp [e']
    rw [if_pos a,if_pos b];exact .cons ⟨h1,h2⟩ ih
theorem KV.keys {kvs:List (κ×V)} {vs:List (κ×Value)} (r:KV kvs vs):kvs.map (·.1)=vs.map (·.1):=by
 unfold KV at r
 induction r with
 | nil=>rfl
 | cons h t ih=>rw [List.map_cons,List.map_cons,ih,h.1]
theorem KV.length {kvs:List (κ×V)} {vs:List (κ×Value)} (r:KV kvs vs):kvs.length=vs.length:=Paired.length r
end
abbrev KT (H:Hp):List (List Er×V)->List (List Er×Addr×Value)->Prop:=Paired λp q=>p.1=q.1/\H q.2.1=some (.tup (p.1.map kV))/\RelV p.2 q.2.2
theorem KT.val {H:Hp} {kvs:List (List Er×V)} {xs:List (List Er×Addr×Value)} (r:KT H kvs xs) (k:List Er):L0 (J2 kvs k) ((atKey xs k).map (·.2)):=by
 induction r with
 | nil=>exact True.intro
 | @cons p q ps qs h t ih=>
   obtain ⟨h1,_,h2⟩:=h
   by_cases e:p.1=k
   ·have e':q.1=k:=h1.symm.trans e
    have b:atKey (q::qs) k=some q.2:=by simp [atKey,List.find?_cons,e']
    rw [JB e,b];exact h2
   ·have e':¬q.1=k:=λz=>e (h1.trans z)
    have b:atKey (q::qs) k=atKey qs k:=by simp [atKey,List.find?_cons,e']
    rw [JA e,b];exact ih
theorem KT.repl {H:Hp} {kvs:List (List Er×V)} {xs:List (List Er×Addr×Value)} (r:KT H kvs xs) (k:List Er) {y:V} {u:Value} (ry:RelV y u):
 KT H (kvs.map λkv=>if kv.1=k then (kv.1,y) else kv) (xs.map (putAt k u)):=by
 induction r with
 | nil=>exact .nil
 | @cons p q ps qs h t ih=>
   rw [List.map_cons,List.map_cons]
   refine .cons ?_ ih
   obtain ⟨h1,h2,h3⟩:=h
   unfold putAt
   by_cases e:p.1=k
   ·rw [if_pos e,if_pos (h1.symm.trans e)];exact ⟨h1,h2,ry⟩
   ·rw [if_neg e,if_neg (λz=>e (h1.trans z))];exact ⟨h1,h2,h3⟩
theorem KT.put {H:Hp} {kvs:List (List Er×V)} {xs:List (List Er×Addr×Value)} (r:KT H kvs xs) (k:List Er) {b:Addr} {y:V} {u:Value} (hb:H b=some (.tup (k.map kV))) (ry:RelV y u):
 KT H (Nq kvs k y) (storedH xs k b u):=by
 have e:(kvs.any λkv=>decide (kv.1=k))=(atKey xs k).isSome:=by
  rw [M9,(r.val k).isSome_eq,Option.isSome_map]
 unfold Nq storedH
 rw [e]
 by_cases q:(atKey xs k).isSome=true
 ·rw [if_pos q,if_pos q];exact r.repl k ry
 ·rw [if_neg q,if_neg q];exact Paired.snoc r ⟨rfl,hb,ry⟩
theorem KT.keeps {H H':Hp} {kvs:List (List Er×V)} {xs:List (List Er×Addr×Value)} (r:KT H kvs xs) (ht:∀b ys,H b=some (.tup ys)->H' b=some (.tup ys)):KT H' kvs xs:=
 Paired.mapP r λ_ _ z=>⟨z.1,ht _ _ z.2.1,z.2.2⟩
section
variable {P:Program} {w:World} {H:Hp} {h:Heap} {a:Addr}
end
def Yj (H:Hp) (a:Addr) (y:V) (r:Option V):Prop:=
 (∃kvs k,Rd H a (.dK kvs)/\y=kV k/\r=J2 kvs k)\/∃kvs k b,Rd H a (.dT kvs)/\y= .ref b/\H b=some (.tup (k.map kV))/\r=J2 kvs k
def Yk (H:Hp) (a:Addr) (y v:V) (H':Hp):Prop:=
 (∃kvs k,H a=some (.dK kvs)/\y=kV k/\kvs.length<sizeLine/\H'=upd H a (.dK (Nq kvs k v)))\/
 ∃kvs k b,H a=some (.dT kvs)/\y= .ref b/\H b=some (.tup (k.map kV))/\kvs.length<sizeLine/\H'=upd H a (.dT (Nq kvs k v))
theorem Yj.k {H:Hp} {a:Addr} {kvs:List (Er×V)} {k:Er} (e:H a=some (.dK kvs)):Yj H a (kV k) (J2 kvs k):= .inl ⟨kvs,k, .inl e,rfl,rfl⟩
theorem Yj.t {H:Hp} {a b:Addr} {kvs:List (List Er×V)} {k:List Er} (e:H a=some (.dT kvs)) (eb:H b=some (.tup (k.map kV))):Yj H a (.ref b) (J2 kvs k):= .inr ⟨kvs,k,b, .inl e,rfl,eb,rfl⟩
theorem Yk.k {H:Hp} {a:Addr} {kvs:List (Er×V)} {k:Er} {v:V} (e:H a=some (.dK kvs)) (hl:kvs.length<sizeLine):Yk H a (kV k) v (upd H a (.dK (Nq kvs k v))):= .inl ⟨kvs,k,e,rfl,hl,rfl⟩
theorem Yk.t {H:Hp} {a b:Addr} {kvs:List (List Er×V)} {k:List Er} {v:V} (e:H a=some (.dT kvs)) (eb:H b=some (.tup (k.map kV))) (hl:kvs.length<sizeLine):
 Yk H a (.ref b) v (upd H a (.dT (Nq kvs k v))):= .inr ⟨kvs,k,b,e,rfl,eb,hl,rfl⟩
section
variable {X:Cx} {pins:List (Addr×Obj)} {σ:St} {H:Hp} {s:Shared} {a:Addr} {y v:V} {u r:Value} {o:Option V} {A:Around} {E:Value->Shared->Prop}
theorem Inv.big (I:Inv X pins σ H s):sysModules<s.heap.objs.size:=by
 have h:mainGlobals<s.heap.objs.size:=(I.mod.glob.keeps I.bk).lt
 exact Nat.lt_trans (by decide) h
end
section
variable {X:Cx} {pins:List (Addr×Obj)} {σ:St} {H:Hp} {s:Shared} {a:Addr} {kvs:List (Er×V)} {k:Er} {u:Value} {A:Around} {E:Value->Shared->Prop}
end
section
variable {X:Cx} {o i e value:Expr} {pos pos' tpos:Pos} {td ty tv:TE}
end
section
variable {X:Cx} {pos:Pos}
end
structure M1 (X:Cx) (o:Expr) (m:Str) (apos:Pos) (e:Expr) (cpos:Pos):Prop where
 base:attributeBase o m X.env (eval o X.env)=eval o X.env
 few:((backTo cpos (starEach [e] X.env)).all (λx=> !x.1)&&(backToKw cpos (keywordEach [] X.env)).all (λx=>x.1.isSome)
  && decide (([e] :List Expr).length+([] :List Keyword).length+(if ([] :List Keyword).isEmpty then 0 else 1)<30))=true
 line:(apos.endLine==cpos.line)=true
 trees:backTo cpos (starEach [e] X.env)= [(false,eval e X.env)]
structure M2 (X:Cx) (o:Expr) (m:Str) (apos:Pos) (e f:Expr) (cpos:Pos):Prop where
 base:attributeBase o m X.env (eval o X.env)=eval o X.env
 few:((backTo cpos (starEach [e,f] X.env)).all (λx=> !x.1)&&(backToKw cpos (keywordEach [] X.env)).all (λx=>x.1.isSome)
  && decide (([e,f] :List Expr).length+([] :List Keyword).length+(if ([] :List Keyword).isEmpty then 0 else 1)<30))=true
 line:(apos.endLine==cpos.line)=true
 trees:backTo cpos (starEach [e,f] X.env)= [(false,eval e X.env),(false,eval f X.env)]
section
variable {X:Cx} {pins:List (Addr×Obj)} {σ:St} {H:Hp} {s:Shared} {a:Addr} {y d:V} {u r:Value} {o:Option V} {A:Around} {E:Value->Shared->Prop}
end
section
variable {X:Cx} {o e f:Expr} {apos cpos:Pos} {td ty tx:TE}
end
section
variable {X:Cx} {pins:List (Addr×Obj)} {σ:St} {H:Hp} {s:Shared} {a:Addr} {kvs:List (Er×V)} {A:Around} {E:Value->Shared->Prop}
end
section
variable {X:Cx} {pins:List (Addr×Obj)} {σ:St} {H:Hp} {s:Shared} {a:Addr} {y:V} {u:Value} {A:Around} {E:Value->Shared->Prop}
end
end L2
end
section
namespace L2
open PySem PySem.Spec PyProof.Rows
abbrev KN (K:PySem.W.Frag) (H:Hp):List (FK×V)->List (FK×Addr×Value)->Prop:=Paired λp q=>p.1=q.1/\Ut K H q.2.1 p.1/\RelV p.2 q.2.2
theorem KN.val {K:PySem.W.Frag} {H:Hp} {kvs:List (FK×V)} {xs:List (FK×Addr×Value)} (r:KN K H kvs xs) (k:FK):L0 (J2 kvs k) ((atKey xs k).map (·.2)):=by
 induction r with
 | nil=>exact True.intro
 | @cons p q ps qs h t ih=>
   obtain ⟨h1,_,h2⟩:=h
   by_cases e:p.1=k
   ·have e':q.1=k:=h1.symm.trans e
    have b:atKey (q::qs) k=some q.2:=by simp [atKey,List.find?_cons,e']
    rw [JB e,b];exact h2
   ·have e':¬q.1=k:=λz=>e (h1.trans z)
    have b:atKey (q::qs) k=atKey qs k:=by simp [atKey,List.find?_cons,e']
    rw [JA e,b];exact ih
theorem KN.repl {K:PySem.W.Frag} {H:Hp} {kvs:List (FK×V)} {xs:List (FK×Addr×Value)} (r:KN K H kvs xs) (k:FK) {y:V} {u:Value} (ry:RelV y u):
 KN K H (kvs.map λkv=>if kv.1=k then (kv.1,y) else kv) (xs.map (putAt k u)):=by
 induction r with
 | nil=>exact .nil
 | @cons p q ps qs h t ih=>
   rw [List.map_cons,List.map_cons]
   refine .cons ?_ ih
   obtain ⟨h1,h2,h3⟩:=h
   unfold putAt
   by_cases e:p.1=k
   ·rw [if_pos e,if_pos (h1.symm.trans e)];exact ⟨h1,h2,ry⟩
   ·rw [if_neg e,if_neg (λz=>e (h1.trans z))];exact ⟨h1,h2,h3⟩
theorem KN.put {K:PySem.W.Frag} {H:Hp} {kvs:List (FK×V)} {xs:List (FK×Addr×Value)} (r:KN K H kvs xs) (k:FK) {b:Addr} {y:V} {u:Value} (hb:Ut K H b k) (ry:RelV y u):
 KN K H (Nq kvs k y) (storedH xs k b u):=by
 have e:(kvs.any λkv=>decide (kv.1=k))=(atKey xs k).isSome:=by
  rw [M9,(r.val k).isSome_eq,Option.isSome_map]
 unfold Nq storedH
 rw [e]
 by_cases q:(atKey xs k).isSome=true
 ·rw [if_pos q,if_pos q];exact r.repl k ry
 ·rw [if_neg q,if_neg q];exact Paired.snoc r ⟨rfl,hb,ry⟩
theorem KN.keeps {K:PySem.W.Frag} {H H':Hp} {kvs:List (FK×V)} {xs:List (FK×Addr×Value)} (r:KN K H kvs xs) (ht:∀b ys,H b=some (.tup ys)->H' b=some (.tup ys)):KN K H' kvs xs:=
 Paired.mapP r λ_ _ z=>⟨z.1,z.2.1.stay ht,z.2.2⟩
section
variable {P:Program} {w:World} {H:Hp} {h:Heap} {a:Addr} {K:PySem.W.Frag}
end
section
variable {X:Cx} {pins:List (Addr×Obj)} {σ:St} {H:Hp} {s:Shared} {a b:Addr} {v d:V} {r:Value} {kvs:List (FK×V)} {k:FK} {A:Around} {E:Value->Shared->Prop}
end
section
variable {X:Cx} {o i e f value:Expr} {pos pos' apos cpos:Pos} {td ty tv tx:TE}
end
end L2
end
section
namespace PySem
open Sem (wp)
def WG (h:Heap) (d:Addr) (es:Array DictEntry) (ep:Nat):Prop:=∃o,h.get? d=some o/\o.ExactDict/\o.data= .dict es ep
section
variable {prog:Program} {w:World} {A:Around} {E:Value->Shared->Prop} {s:Shared} {d it:Addr} {es:Array DictEntry} {ep i:Nat}
theorem WG.typeIs (x:WG s.heap d es ep):s.TypeIs (.ref d) "dict" :=let ⟨o,ho,hc,_⟩:=x;⟨o,ho,hc.1⟩
theorem WG.at {h h':Heap} (x:WG h d es ep) (e:∀o,h.get? d=some o->h'.get? d=some o):WG h' d es ep:=let ⟨o,ho,r⟩:=x;⟨o,e _ ho,r⟩
end
section
variable {prog:Program} {w:World} {A:Around} {s:Shared} {R:Result->Shared->Prop} {d:Addr} {es:Array DictEntry} {ep:Nat}
end
section
variable {prog:Program} {w:World} {A:Around} {E:Value->Shared->Prop} {s:Shared} {d:Addr} {es:Array DictEntry} {ep:Nat}
end
end PySem
end
section
namespace L2
open PySem PySem.Spec PyProof.Rows
section
variable {X:Cx}
end
end L2
namespace PL
open PySem PySem.Spec PyProof.Rows L2
def kQ (kvs:List (FK×Int)) (k:FK):Option Int:=(kvs.find? λp=>decide (p.1=k)).map (·.2)
section
variable {K:PySem.W.Frag} {T M:Addr->Prop} {H:Hp}
end
section
variable {X:Cx} {a b d:Expr} {pos p1:Pos} {ta tb td:AE}
end
end PL
end
section
namespace PL
open PySem PySem.Spec PyProof.Rows L2
section
variable {K:PySem.W.Frag} {T M:Addr->Prop} {H H':Hp}
theorem J9.ext (va:J9 T M H) (ex:∀b o,H b=some o->H' b=some o):Mv K T M H T M H':=⟨va,λb o _ _ e=>ex b o e,λ_ t=>t,λ_ _ t=>t,λ_ _ m=>m⟩
end
section
variable {K:PySem.W.Frag} {T M:Addr->Prop} {H H':Hp}
end
end PL
end
section
namespace L2
open PySem PySem.Spec PyProof.Rows
section
variable {X:Cx} {a b:Expr} {rest:List Expr} {pos:Pos} {ta tb:TE}
end
end L2
namespace PL
open PySem PySem.Spec PyProof.Rows L2
section
variable {X:Cx} {a b:Expr} {rest:List Expr} {pos:Pos} {ta tb:AE}
end
end PL
end
section
namespace L2
open PySem PySem.Spec PyProof.Rows
section
variable {elt tg iter tg2 iter2:Expr} {ifs ifs2:List Expr} {scope:Scope} {pos:Pos} {it acc:Value} {env:Env}
variable {prog:Program} {w:World} {A:Around} {R:Result->Shared->Prop} {s:Shared}
end
def SC (own:Nat) (σ:St):St:=List.replicate own none++σ.drop own
theorem VB {own:Nat} {σ:St} {j:Nat} {v:V} (h:(SC own σ)[j]? =some (some v)):own<=j/\σ[j]? =some (some v):=by
 unfold SC at h
 by_cases hj:j<own
 ·rw [List.getElem?_append_left (by simpa using hj),List.getElem?_replicate,if_pos hj] at h
  cases h
 ·have VQ:own<=j:=by omega
  rw [List.getElem?_append_right (by simpa using VQ),List.length_replicate,List.getElem?_drop] at h
  rw [show own+(j-own)=j by omega] at h
  exact ⟨VQ,h⟩
section
variable {X:Cx} {tg elt iter tg2 iter2:Expr} {ifs ifs2:List Expr} {scope:Scope} {pos:Pos} {wi wi2:TI} {own own2:Nat} {ix:List Nat} {N:List Str} {g g2:TG} {tt tt2:TT} {te:TE}
structure Yi (X:Cx) (tg elt:Expr) (ifs:List Expr) (tg2 iter2:Expr) (ifs2:List Expr) (scope:Scope) (own:Nat) (ix:List Nat) (N:List Str) (g:TG) (tt:TT) (wi2:TI) (own2:Nat) (g2:TG) (tt2:TT) (te:TE):Prop where
 kind:scope.kind= .function
 nocell:∀y∈scope.names,y.2≠ .cell
 names:∀y∈scope.names,y.2= .local->scope.names.lookup y.1=some .local
 frees:∀y∈scope.names,y.2= .free->X.env.scope.names.lookup y.1=some .cell
 ins:N1 X (relabel scope X.env) own ix N
 keep:Gx own g
 keep2:Gx own2 g2
 le2:own2<=own
 tgt:∀cl C s H ex pn,PG (blk X (relabel scope X.env) N cl C s H ex pn) tg g
 tst:∀cl C s H ex pn,WE (blk X (relabel scope X.env) N cl C s H ex pn) ifs tt
 itr2:∀cl C s H ex pn,PI (blk X (relabel scope X.env) N cl C s H ex pn) tg2 iter2 wi2
 set2:∀cl C s H ex pn x,foldedSetIterable iter2 (blk X (relabel scope X.env) N cl C s H ex pn).env x=pure x
 tgt2:∀cl C s H ex pn,PG (blk X (relabel scope X.env) N cl C s H ex pn) tg2 g2
 tst2:∀cl C s H ex pn,WE (blk X (relabel scope X.env) N cl C s H ex pn) ifs2 tt2
 val:∀cl C s H ex pn,PE (blk X (relabel scope X.env) N cl C s H ex pn) elt te
end
end L2
end
section
namespace PL
open PySem PySem.Spec PyProof.Rows L2
def SB (own:Nat) (τ:BG):BG:=List.replicate own none++τ.drop own
theorem SR.noOwn {K:PySem.W.Frag} {B:Cq} {T:Addr->Prop} {H:Hp} {σ:L2.St} {τ:BG} (s:SR K B T H σ τ) (W2:∀b,¬C2 σ τ b) {i:Nat} {xs:List PV}:τ[i]? ≠some (some (.own xs)):=λe=>by
 obtain ⟨p,vs,e2,_⟩:=s.own i xs e
 exact W2 p ⟨i,xs,e,e2⟩
theorem IE {own:Nat} {τ:BG} {j:Nat} {x:AV} (h:(SB own τ)[j]? =some (some x)):own<=j/\τ[j]? =some (some x):=by
 unfold SB at h
 by_cases hj:j<own
 ·rw [List.getElem?_append_left (by simpa using hj),List.getElem?_replicate,if_pos hj] at h
  cases h
 ·have VQ:own<=j:=by omega
  rw [List.getElem?_append_right (by simpa using VQ),List.length_replicate,List.getElem?_drop] at h
  rw [show own+(j-own)=j by omega] at h
  exact ⟨VQ,h⟩
theorem SR.cut {K:PySem.W.Frag} {B:Cq} {T:Addr->Prop} {H:Hp} {σ:L2.St} {τ:BG} {own:Nat} (s:SR K B T H σ τ) (W2:∀b,¬C2 σ τ b):SR K B T H (SC own σ) (SB own τ)/\∀b,¬C2 (SC own σ) (SB own τ) b:=by
 have fh:∀b,¬C2 (SC own σ) (SB own τ) b:=λb ⟨i,xs,e1,e2⟩=>W2 b ⟨i,xs,(IE e1).2,(VB e2).2⟩
 refine ⟨⟨by simp [SC,SB,s.len],λi x e=> ?_,λi xs e=>absurd (IE e).2 (s.noOwn W2),λi j xs ys p e=>absurd (IE e).2 (s.noOwn W2),s.tp,s.bm,s.bt,s.st⟩,fh⟩
 obtain ⟨VQ,e2⟩:=IE e
 obtain ⟨v,hv,r⟩:=s.val i x e2
 refine ⟨v, ?_,r.mv (.anti s.va λa z=>z.elim .inl λz=>absurd z (fh a))⟩
 unfold SC
 rw [List.getElem?_append_right (by simpa using VQ),List.length_replicate,List.getElem?_drop,show own+(i-own)=i by omega]
 exact hv
structure Qi (D:Addr) (T:Addr->Prop) (H:Hp) (T':Addr->Prop) (H':Hp):Prop where
 keep:∀b o,¬T b->b≠D->H b=some o->H' b=some o
 sub:∀b,T b->T' b
 new:∀b,T' b->T b\/H b=none
 tp:∀b,H b≠none->H' b≠none
theorem Qi.refl {D:Addr} {T:Addr->Prop} {H:Hp}:Qi D T H T H:=⟨λ_ _ _ _ e=>e,λ_ e=>e,λ_ e=> .inl e,λ_ e=>e⟩
theorem Qi.upd {D:Addr} {T:Addr->Prop} {H:Hp} {o:HO}:Qi D T H T (upd H D o):=⟨λb o' _ n e=>by rw [Ak n];exact e,λ_ e=>e,λ_ e=> .inl e,λb e=>by
 by_cases h:b=D
 ·subst h;rw [A6];exact λz=>nomatch z
 ·rw [Ak h];exact e⟩
theorem Qi.trans {D:Addr} {T T1 T2:Addr->Prop} {H H1 H2:Hp} (a:Qi D T H T1 H1) (b:Qi D T1 H1 T2 H2):Qi D T H T2 H2 where
 keep:=λx o t n e=>b.keep x o (λz=>(a.new x z).elim t λz=>by rw [e] at z;cases z) n (a.keep x o t n e)
 sub:=λx t=>b.sub x (a.sub x t)
 new:=λx t=>(b.new x t).elim (λz=>a.new x z) λz=> .inr (by
  cases e:H x with
  | none=>rfl
  | some o=>exact absurd z (a.tp x (by rw [e];exact λz=>nomatch z)))
 tp:=λx e=>b.tp x (a.tp x e)
def pq (K:PySem.W.Frag) (s:Bool) (a:AI):TI:=λσ H R=>∃(B:Cq) (T:Addr->Prop) (τ:BG) (AQ:List PV->Prop),SR K B T H σ τ/\a τ AQ/\
 ∀J xs T' H',Dn T H T' H'->(∀M2 T2 H2,Mv K T' (mt B σ τ) H' T2 M2 H2->J9 T2 M2 H2->(s=true\/TR T' H' H2)->Ry K M2 J xs T2 H2)->AQ xs->R J H'
section
variable {X:Cx}
theorem SI.of {tg iter:Expr} {s:Bool} {a:AI} (h:SI X tg iter s a):PI X tg iter (pq X.K s a):=by
 obtain ⟨t,p,si⟩:=h
 intro pins sh σ H R I hw
 obtain ⟨B,T,τ,AQ,sr,h,c⟩:=hw
 exact p pins sh σ H R I (si B T σ τ H R AQ sr h c)
structure i7 (X:Cx) (tg elt:Expr) (ifs:List Expr) (tg2 iter2:Expr) (ifs2:List Expr) (scope:Scope) (own:Nat) (ix:List Nat) (N:List Str) (g:AG) (t:AT) (ai2:AI) (own2:Nat) (g2:AG) (t2:AT) (te:AE):Prop where
 ex:∃g' t' wi2 g2' t2' te',Yi X tg elt ifs tg2 iter2 ifs2 scope own ix N g' t' wi2 own2 g2' t2' te'/\Kv X.K g' g/\NR X.K t' t/\bQ X.K true wi2 ai2/\Kv X.K g2' g2/\NR X.K t2' t2/\Fn X.K te' te
end
end PL
end
section
namespace PL
open PySem PySem.Spec PyProof.Rows L2
section
variable {X:Cx}
end
end PL
end
section
namespace PL
open PySem L2 PyProof.Rows
class n9 (n:Nat) (τ:BG) (τ':outParam BG):Prop where
 e:SB n τ=τ'
section
variable {ai ai2:AI} {g g2:AG} {tt t2:AT} {te:AE} {τ τ':BG} {QL:List PV->Prop} {own own2:Nat} {ix:List Nat}
end
end PL
end
section
namespace PL
open PySem PySem.Spec PyProof.Rows L2
section
variable {X:Cx} {a b c:Expr} {ta tb tc:AE} {pos:Pos}
def iS (f f':HG) (ta tb tc:AE):AE:=λτ Q=>ta τ λx=>tb τ λy=>f x y λz=>Zb z λk=>if k=true then tc τ λw=>f' y w Q else Q (.bl false)
theorem db {r r':R2} {f f':HG} {t u v:TE} (hr:Bu X.K r f) (aY:Bu X.K r' f') (ha:Fn X.K t ta) (hb:Fn X.K u tb) (hc:Fn X.K v tc):Fn X.K (YF r r' t u v) (iS f f' ta tb tc):=by
 intro B T σ τ H Q AQ s h k
 refine ha B T σ τ H _ _ s h λv1 x T1 H1 s1 r1 h1=> ?_
 refine hb B T1 σ τ H1 _ _ (s.stp s1) h1 λv2 y T2 H2 s2 r2 h2=> ?_
 have s':=(s.stp s1).stp s2
 refine hr T2 _ H2 v1 v2 x y _ _ s'.va (r1.stp s2 (s.stp s1).va) r2 h2 λw z T3 H3 s3 r3 q=> ?_
 obtain ⟨i,rfl,q'⟩:=Pa q
 clear q
 refine ⟨i,r3.toB, ?_⟩
 have s'':=s'.stp s3
 cases i with
 | false=>
   rw [if_neg (by decide)] at q' ⊢
   exact k _ _ T3 H3 ((s1.trans s2).trans s3) (.bl false) q'
 | true=>
   rw [if_pos rfl] at q' ⊢
   refine hc B T3 σ τ H3 _ _ s'' q' λv4 y4 T4 H4 s4 r4 h4=> ?_
   exact aY T4 _ H4 v2 v4 y y4 Q AQ (s''.stp s4).va ((r2.stp s3 s'.va).stp s4 s''.va) r4 h4 λw z T5 H5 s5 r5 q=>k w z T5 H5 (((s1.trans s2).trans s3).trans (s4.trans s5)) r5 q
theorem hJ {op op':CmpOp} {r r':R2} {f f':HG} (ho:Dy X (compareOp op) r/\Bu X.K r f) (Q8:Dy X (compareOp op') r'/\Bu X.K r' f') (ha:SE X a ta) (hb:SE X b tb) (hc:SE X c tc) (hm:lastMarks [op,op'] [b,c] =false:=by with_unfolding_all rfl):Qf X (.Compare a [op,op'] [b,c] pos) (Av (iS f f' ta tb tc)):=
 let ⟨_,p,s⟩:=ha;let ⟨_,p',s'⟩:=hb;let ⟨_,p2,s2⟩:=hc;⟨_,Xj ho.1 Q8.1 p p' p2 hm,P5 (db ho.2 Q8.2 s s' s2)⟩
end
instance qI {f f':HG} {ta tb tc:AE} {τ:BG} {Q:PV->Prop}:Wp (iS f f' ta tb tc τ Q) (ta τ λx=>tb τ λy=>f x y λz=>Zb z λk=>if k=true then tc τ λw=>f' y w Q else Q (.bl false)):=⟨id⟩
end PL
end
section
namespace L2
open PySem PySem.Spec PyProof.Rows
section
variable {prog:Program} {w:World} {A:Around} {E:Value->Shared->Prop} {R:Result->Shared->Prop} {I:Addr} {fp wr:List Addr} {n:Nat} {P:Nat->Value->Prop} {St:Nat->Heap->Prop} {kw:List (Str×Value)}
end
section
variable {prog:Program} {w:World} {A:Around} {E:Value->Shared->Prop} {s:Shared}
end
section
variable {X:Cx} {pins:List (Addr×Obj)} {σ:St} {H:Hp}
theorem ints_of:∀{ns:List Int} {its:List Value},Au (ns.map V.int) its->∃xs:Array (Int×Tok),its.toArray=intItems xs/\xs.toList.map (·.1)=ns
 | [],_,h=>by cases h;exact ⟨#[],by simp [intItems],rfl⟩
 | n::ns,_,h=>by
   cases h with
   | cons r t=>
     obtain ⟨tk,rfl⟩:=r
     obtain ⟨xs,e,f⟩:=ints_of t
     refine ⟨((n,tk)::xs.toList).toArray, ?_,by simp [f]⟩
     have e':=congrArg Array.toList e
     apply Array.ext'
     simp only [intItems,List.map_toArray,List.map_cons] at e' ⊢
     simp only [Array.toList_map] at e'
     rw [<-e']
theorem Oz {xs:Array (Int×Tok)} {ns:List Int} {v:Value} (hx:xs.toList.map (·.1)=ns) (hp:0<xs.size) (h:(intItems xs)[argBest (λi j=>decide (numAt xs i>numAt xs j)) (xs.size-1)]? =some v):∃M t,v= .int M t/\M∈ns/\∀a∈ns,a<=M:=by
 obtain ⟨t,rfl⟩:=intItems_at h
 obtain ⟨h1,h2⟩:=argBest_gt (numAt xs) (xs.size-1)
 have nat:∀i (hi:i<xs.size),numAt xs i=(xs[i]).1:=λi hi=>by simp [numAt,hi]
 refine ⟨_,t,rfl, ?_,λa ha=> ?_⟩
 ·rw [nat _ (by omega),<-hx]
  exact List.mem_map.mpr ⟨_,by simp,rfl⟩
 ·rw [<-hx] at ha
  obtain ⟨p,ph,rfl⟩:=List.mem_map.mp ha
  obtain ⟨i,hi,e⟩:=List.getElem_of_mem ph
  have VO:i<xs.size:=by simpa using hi
  have:=h2 i (by omega)
  rw [nat i VO] at this
  have e2:xs[i] =p:=by simpa using e
  rw [e2] at this
  exact this
theorem U4 (hc:X.calm=true):Br X (.builtin "max") (λvs H Q=>∃p ns,vs= [.ref p] /\Ff X.K H p (ns.map V.int)/\ns≠ [] /\∀M,M∈ns->(∀a∈ns,a<=M)->Q (.int M) H):=by
 intro pins s σ H xs us Q I r h
 obtain ⟨p,ns,rfl,hq,YX,q⟩:=h
 obtain ⟨u,rfl,rx⟩:=vals1 r
 cases rx
 obtain ⟨its,r',pl,hz⟩:=I.list hq
 obtain ⟨xs,e,f⟩:=ints_of r'
 have hl:=pl.isList
 rw [e] at hl
 have sz:0<xs.size:=by
  have:=congrArg List.length f
  simp only [List.length_map,Array.length_toList] at this
  have:=List.length_pos_iff.mpr YX
  omega
 refine max_intList (I.ok.hd hc) hl sz λv h' tk hv hk=> ?_
 obtain ⟨M,t,rfl,m1,m2⟩:=Oz f sz hv
 exact ⟨.int M,H,I.kept (t':=tk) hk,⟨t,rfl⟩,q M m1 m2⟩
end
end L2
end
section
namespace PL
open PySem PySem.Spec PyProof.Rows L2
def GC:List PV->Option (List Int)
 | [] =>some []
 | .int i::r=>(GC r).map (i :: ·)
 | _=>none
theorem RA {K:PySem.W.Frag} {T M:Addr->Prop} {H:Hp}:∀{vs:List V} {xs:List PV} {ns:List Int},A3 K T M H vs xs->GC xs=some ns->vs=ns.map V.int
 | _,_,_, .nil,e=>by simp [GC] at e;subst e;rfl
 | _,_,ns, .cons h t,e=>by
   cases h <;> simp [GC] at e
   obtain ⟨c,e1,e2⟩:=e
   subst e2
   simp [RA t e1]
theorem ints_map (ns:List Int):GC (ns.map PV.int)=some ns:=by
 induction ns with
 | nil=>rfl
 | cons a b ih=>show (GC (b.map PV.int)).map (a :: ·)=_;rw [ih];rfl
section
variable {X:Cx}
def ax (K:PySem.W.Frag):List V->Hp->VK->Prop:=λvs H Q=>∃p ns,vs= [.ref p] /\Ff K H p (ns.map V.int)/\ns≠ [] /\∀M,M∈ns->(∀a∈ns,a<=M)->Q (.int M) H
def To:AF:=λxs Q=>match xs with | [.lst ys] =>(match GC ys with | some ns=>ns≠ [] /\∀M,M∈ns->(∀a∈ns,a<=M)->Q (.int M)|none=>False)|_=>False
theorem Zx (hc:X.calm=true):Br X (.builtin "max") (ax X.K)/\ET X.K (ax X.K) To:=by
 refine ⟨U4 hc,λT M H us xs Q AQ va r h k=> ?_⟩
 unfold To at h
 split at h <;> first | exact h.elim|skip
 split at h <;> first | exact h.elim|skip
 rename_i ns e
 cases r with
 | cons r t=>
   cases t
   obtain ⟨a,ws,rfl,hq,_,_,r'⟩:=EL r
   have:=RA r' e
   subst this
   exact ⟨a,ns,rfl, .inl (.inl hq),h.1,λM m1 m2=>k _ _ T H (.refl va.tp) (.int _) (h.2 M m1 m2)⟩
end
end PL
end
section
namespace PL
open PySem PySem.Spec PyProof.Rows L2
section
variable {X:Cx} {a b c d e:Expr} {ta tb tc td:AE} {pos:Pos}
theorem B5 (ha:SE X a ta) (h:starEach [a] X.env=(false,eval a X.env)::starEach [] X.env:=by rfl):SA X [a] (AB ta AL):=B0 ha GH h
theorem Am (ha:SE X a ta) (hb:SE X b tb) (h:starEach [a,b] X.env=(false,eval a X.env)::starEach [b] X.env:=by rfl) (h2:starEach [b] X.env=(false,eval b X.env)::starEach [] X.env:=by rfl):SA X [a,b] (AB ta (AB tb AL)):=B0 ha (B5 hb h2) h
theorem Gc (ha:SE X a ta) (hb:SE X b tb) (hc:SE X c tc) (h:starEach [a,b,c] X.env=(false,eval a X.env)::starEach [b,c] X.env:=by rfl) (h2:starEach [b,c] X.env=(false,eval b X.env)::starEach [c] X.env:=by rfl) (h3:starEach [c] X.env=(false,eval c X.env)::starEach [] X.env:=by rfl):SA X [a,b,c] (AB ta (AB tb (AB tc AL))):=B0 ha (Am hb hc h2 h3) h
theorem AW (ha:SE X a ta) (hb:SE X b tb) (hs:Ot b:=by exact λ_ _=>rfl):SE X (.Subscript a b pos) (AX Aj ta tb):=g6 hI ha hb hs
theorem Gq {op:CmpOp} {r:R2} {f:HG} (ho:Dy X (compareOp op) r/\Bu X.K r f) (ha:SE X a ta) (hb:SE X b tb) (hm:behindInMarks op b=false:=by exact Dq _):Qf X (.Compare a [op] [b] pos) (Av (AX f ta tb)):=dg ho ha hb hm
theorem C5 (i:Nat) {x:Str} {pos':Pos} (hN:X.N.Nodup) (he:SE X e ta) (hi:X.N[i]? =some x:=by rfl) (hx:Loc X.env.scope x:=by exact Or.inl rfl) (hs:swapsWith e (some (.Name x pos')) pos.line X.env=pure false:=by rfl) (hf:X.fn x=true\/X.env.scope.names.lookup x=some .local:=by first | exact .inl rfl|exact .inr rfl|assumption):
 SS X (.Assign [.Name x pos'] e pos) (As ta (A0 i)):=GR hN hi hx he hs hf
theorem G7 (i:Nat) {x:Str} (hN:X.N.Nodup) (hi:X.N[i]? =some x:=by rfl) (hx:Loc X.env.scope x:=by exact Or.inl rfl) (hf:X.fn x=true\/X.env.scope.names.lookup x=some .local:=by first | exact .inl rfl|exact .inr rfl|assumption):SG X (.Name x pos) (A0 i):=Ej hN hi hx hf
theorem OU (i:Nat) {own:Nat} {x:Str} (hN:X.N.Nodup) (hi:X.N[i]? =some x:=by rfl) (hx:Loc X.env.scope x:=by exact Or.inl rfl) (hk:i<own:=by decide) (hf:X.fn x=true\/X.env.scope.names.lookup x=some .local:=by first | exact .inl rfl|exact .inr rfl|assumption):SK own X (.Name x pos) (A0 i):=UZ hN hi hx hk hf
end
theorem BZ {P:Program} {w:World} {K:PySem.W.Frag} {mg:Str->Option Value} {base:Heap} {k k':Nat} {x:Str} {ps:List Str} {sp:Sp} (H:Has P w K mg base k x ps sp) (h:k<=k':=by decide):Has P w K mg base k' x ps sp:=H.mono h
end PL
end
open PySem L2 PL PyProof.Rows
local macro_rules | `(tactic| decreasing_trivial_pre_omega)=> `(tactic| first | assumption|omega|((apply Bd.mono);(focus (repeat' (first | assumption|exact Fs.m (by assumption)|exact Fs.x (by assumption)|exact Fs.y (by assumption)|exact Fs.z (by assumption)|exact eG|exact jN|with_reducible apply Bd.add|with_reducible apply Bd.sub|with_reducible apply Bd.mul|with_reducible apply Bd.neg|with_reducible apply Bd.mx|with_reducible apply Bd.mn)));first | omega|decide)|decide|(simp only [List.length_map,List.length_append,List.length_cons,List.length_nil,List.length_take,List.length_drop,List.length_zip,List.length_reverse];omega)|(show _<=16777216;simp only [List.length_map,List.length_append,List.length_cons,List.length_nil,List.length_take,List.length_drop,List.length_zip,List.length_reverse];omega)|(show _<16777216;simp only [List.length_map,List.length_append,List.length_cons,List.length_nil,List.length_take,List.length_drop,List.length_zip,List.length_reverse];omega)|(refine And.intro ?_ ?_ <;> decreasing_trivial_pre_omega)|exact rfl)
local macro_rules | `(tactic| array_mem_dec)=> `(tactic| first
 | refine Wp.go ?_
 | ((refine NA.go ?_ ?_);focus (first | exact True.intro|decreasing_trivial_pre_omega))
 | ((with_reducible apply And.intro);focus decreasing_trivial_pre_omega)
 | ((with_reducible apply s_ifdT);focus decide)
 | ((with_reducible apply s_ifdF);focus decide)
 | ((with_reducible apply s_ifnT);focus decide)
 | ((with_reducible apply s_ifnF);focus decide)
 | refine jK.go (λ_=> ?_) (λ_=> ?_)
 | ((with_reducible apply dQ);focus assumption)
 | ((with_reducible apply gk);focus exact rfl)
 | ((with_reducible apply gx);(focus (first | exact .inl rfl|exact .inr (.inl rfl)|exact .inr (.inr (.inl rfl))|exact .inr (.inr (.inr rfl))));(focus exact rfl))
 | ((with_reducible apply gu);focus exact rfl)
 | ((with_reducible apply gt);focus exact rfl)
 | intro _
 | with_reducible rfl)
local macro_rules | `(tactic| array_get_dec)=> `(tactic| first | array_mem_dec|refine lu.go ?_|fail)
local macro_rules | `(tactic| ac_rfl)=> `(tactic| repeat' array_mem_dec)
section
namespace PL
open PySem L2 PyProof.Rows
theorem CK.open {n B:Nat} {cs:List C4} (p:CK n B cs):∃a r l,cs=a::r/\r≠ [] /\(a::r).getLast?=some l/\a.1<l.1:=by
 obtain ⟨two,few,bd,ris⟩:=p
 match cs,two,ris with
 | a::b0::r,_,ris=>exact ⟨a,b0::r,_,rfl,by simp,List.getLast?_eq_some_getLast (by simp),(List.pairwise_cons.mp ris).1 _ (List.mem_of_getLast? (VV (List.getLast?_eq_some_getLast (by simp))))⟩
abbrev Nz:AS:=
 (Ay (aQ (Av (AX Kz (aV 1) (aC (.int 2)))) (AX Aj (aV 0) (aC (.int 1))) (AX Aj (aV 0) (aC (.int 0)))))
def D9:AF:=Ax 2 Nz
theorem RY {x0 x1:PV} {Q:PV->Prop} (h:Nz ⟨λ_=>Q .non,Q,λ_=>False,λ_=>False⟩ [some (.val x0),some (.val x1)]):D9 [x0,x1] Q:=h
def bH (b:T3) (v:PV):Prop:=v=hV b\/v= .lst [fr b.1,fr b.2.1,fr b.2.2]
def e7 (cs:List C4) (b:T3) (v:PV):Prop:=∃p w,Bj cs p/\bH b w/\(v= .tup [p,w] \/v= .lst [p,w])
def Ul (d:Rat×Rat) (v:PV):Prop:=v= .tup [fr d.1,fr d.2] \/v= .lst [fr d.1,fr d.2]
theorem mV {a:C4} {r:List C4} {v:PV} {R:PV->Prop} (hv:Bj (a::r) v) (h:∀x,(x=cor a\/x=corL a)->R x):Aj v (.int 0) R:=by
 obtain ⟨f,hf,hv⟩:=hv
 have hx:f a=cor a\/f a=corL a:=by rcases hf with rfl|rfl <;> simp
 rcases hv with rfl|rfl
 ·show XV (HI (f a::r.map f) 0) R
  rw [show HI (f a::r.map f) 0=some (f a) from CC (j:=0) rfl]
  exact h _ hx
 ·show XV (HI (f a::r.map f) 0) R
  rw [show HI (f a::r.map f) 0=some (f a) from CC (j:=0) rfl]
  exact h _ hx
theorem mW {cs:List C4} {l:C4} {v:PV} {R:PV->Prop} (hv:Bj cs v) (el:cs.getLast?=some l) (h:∀x,(x=cor l\/x=corL l)->R x):Aj v (.int (-1)) R:=by
 obtain ⟨f,hf,hv⟩:=hv
 have hx:f l=cor l\/f l=corL l:=by rcases hf with rfl|rfl <;> simp
 rcases hv with rfl|rfl
 ·exact IJ el (h _ hx)
 ·exact IJ el (h _ hx)
theorem c0 {x:PV} {c:C4} {R:PV->Prop} (hx:x=cor c\/x=corL c) (h:R (fr c.1)):Aj x (.int 0) R:=by
 rcases hx with rfl|rfl <;> exact h
theorem f0 {cs:List C4} {b:T3} {v:PV} {R:PV->Prop} (hv:e7 cs b v) (h:∀p,Bj cs p->R p):Aj v (.int 0) R:=by
 obtain ⟨p,w,hp,hw,hv⟩:=hv
 rcases hv with rfl|rfl <;> exact h p hp
theorem f1 {cs:List C4} {b:T3} {v:PV} {R:PV->Prop} (hv:e7 cs b v) (h:∀w,bH b w->R w):Aj v (.int 1) R:=by
 obtain ⟨p,w,hp,hw,hv⟩:=hv
 rcases hv with rfl|rfl <;> exact h w hw
theorem b2 {b:T3} {w:PV} {R:PV->Prop} (hw:bH b w) (h:R (fr b.2.2)):Aj w (.int 2) R:=by
 rcases hw with rfl|rfl <;> exact h
theorem gF {k n:Nat} (h:k<=n) (hn:n<1000000):k<sizeLine:=Nat.lt_of_le_of_lt h (Nat.lt_of_lt_of_le hn (Nat.le_of_ble_eq_true rfl))
theorem Z5 {w:PV} {x y:Rat} {k:Int} (h0:∀{R:PV->Prop},R (fr x)->Aj w (.int 0) R) (h1:∀{R:PV->Prop},R (fr y)->Aj w (.int 1) R) {Q:PV->Prop} (q:Q (fr (if k=2 then y else x))):D9 [w, .int k] Q:=by
 apply RY
 ac_rfl
 ·rename_i h
  rw [if_pos h] at q
  exact h1 q
 ·rename_i h
  rw [if_neg h] at q
  exact h0 q
theorem L5 {d:Rat×Rat} {w:PV} {k:Int} (hw:Ul d w) {Q:PV->Prop} (q:Q (fr (if k=2 then d.2 else d.1))):D9 [w, .int k] Q:=
 Z5 (λh=>by rcases hw with rfl|rfl <;> exact h) (λh=>by rcases hw with rfl|rfl <;> exact h) q
def pr (x y z:Rat):Bool:=decide (x-y<z)&&decide (-(x-y)<z)
def Fx:AS:=
 (Ad (Bx (Av (AX fR (aV 5) (aC (.int 3)))) (As (GU (EF (AB (AN 1 Aw (AB (aV 0) AL)) (AB (AN 1 Aw (AB (aV 0) AL)) (AB (AN 1 Aw (AB (aV 0) AL)) AL))))) (A0 3)) (Bx (Av (AX fR (aV 5) (aC (.int 0)))) (As (AX BK (AX BK (Uw (aV 3) Uy (Uz (AX Gm (aV 5) (aC (.int 1))))) (GU (EF (AB (AN 1 Aw (AB (aV 0) AL)) AL)))) (Uw (aV 3) (Uz (aV 5)) Uy)) (A0 3)) BI))
   (Fg 4 Nh (AB (BJ (AB (aV 2) (AB (AX Aj (aV 3) (aC (.int 0))) (AB (AX Aj (aV 3) (aC (.int 1))) (AB (AX Aj (aV 3) (aC (.int 2))) AL))))) AL)))
def Fw:AS:=
 (Ad (As (AN 2 BR (AB (aV 0) (AB (aC (.int 6)) AL))) (A0 5))
   Fx)
def Hk:AS:=
 (Ad (As (AN 2 BY (AB (aV 2) (AB (AN 1 Bt (AB (aV 0) AL)) AL))) (A0 2))
   Fw)
def Hq:AS:=
 (Ad (Jc (Av (AX VC (Es FG (AB (aV 4) AL)) (aV 1))) Hk)
   (Ay (Es EG (AB (aV 4) AL))))
def Ho:AS:=
 (Ad (L3 (EF (AB (BJ (AB (aV 2) (AB (AX Aj (aV 3) (aC (.int 0))) (AB (AX Aj (aV 3) (aC (.int 1))) (AB (AX Aj (aV 3) (aC (.int 2))) AL))))) AL)) 4)
   Hq)
def Hm:AS:=
 (Ad (As (GU (EF (AB (AN 1 Aw (AB (aV 0) AL)) (AB (AN 1 Aw (AB (aV 0) AL)) (AB (AN 1 Aw (AB (aV 0) AL)) AL))))) (A0 3))
   Ho)
def EQ:AS:=
 (Ad (As (BJ (AB (AN 2 BR (AB (aV 0) (AB (aC (.int 12)) AL))) (AB (aC (.int 1)) AL))) (A0 2))
   Hm)
def Hl:AS:=
 (Ad (Bx (Av (AX Kz (AN 2 BR (AB (aV 0) (AB (aC (.int 8)) AL))) (aC (.int 0)))) (As (AX Aj (GU (EF (AB (aC (.int 7)) (AB (aC (.int 8)) (AB (aC (.int 9)) (AB (aC (.int 12)) AL)))))) (AN 2 BR (AB (aV 0) (AB (aC (.int 4)) AL)))) (A0 1)) BI)
   EQ)
def Ld:AS:=
 (Ad (As (AX BK (aC (.int 2)) (AN 2 BR (AB (aV 0) (AB (aC (.int 4)) AL)))) (A0 1))
   Hl)
def Bn:AF:=Ax 6 Ld
theorem E3 (many:Int) (z2 z3 z5:Option AV) (z4:Option AV) (h0:2<=many) (h1:many<=12) {Q:PV->Prop} (h:∀cs,Lz 12 6 600 cs->Q (Ao cs)):
 EQ {nx:=λ_=>Q .non,rt:=Q,bk:=λ_=>False,ct:=λ_=>False} [some (.val .tape),some (.val (.int many)),z2,z3,z4,z5] :=by
 refine ⟨rfl,CS (by decide) (by decide) λm m0 m1=>⟨lz, ?_⟩⟩
 refine ⟨rfl,A5 λx hx=>⟨rfl,A5 λy hy=>⟨rfl,A5 λz hz=>⟨lz, ?_⟩⟩⟩⟩
 refine ⟨lz,lz, ?_⟩
 refine ⟨(many-1).toNat+1,TL (λn τ=>∃(cs:List C4) (c:C4) (z5:Option AV),n+(cs.length+1)=many.toNat+1/\1<=n/\(∀d∈cs ++ [c],Ln 6 (66+48*cs.length) d)/\(Mul 6 60 c.2.1/\Mul 6 60 c.2.2.1/\Mul 6 60 c.2.2.2)/\Ku (cs ++ [c])/\
  τ= [some (.val .tape),some (.val (.int many)),some (.val (fr c.1)),some (.val (.lst [fr c.2.1,fr c.2.2.1,fr c.2.2.2])),some (.own ((cs ++ [c]).map cor)),z5]) ?_ ?_ _ _ ⟨[],((m:Rat),x,y,z),z5, ?_, ?_, ?_, ?_, ?_, ?_⟩⟩
 ·rintro τ ⟨cs,c,z5,_,hn,_⟩
  omega
 ·rintro n τ R hR ⟨cs,c,z5,hn,ZE,hb,h8,hr,rfl⟩
  have DJ:(((cs ++ [c]).map cor).length:Int)=(cs.length:Int)+1:=by simp
  refine Eo (b:=decide ((((cs ++ [c]).map cor).length:Int)<many)) (λz=> ?_) (λz=> ?_)
  ·have z':(((cs ++ [c]).map cor).length:Int)<many:=of_decide_eq_true z
   rw [DJ] at z'
   have cb:=hb c (by simp)
   refine ⟨rfl,Fe λs sb s0 sm=>⟨rfl,Cd ((cb.m.bd (n:=12) (by omega) (by decide)).mono (by omega)) (sb.mono (by omega)) ?_⟩⟩
   refine ⟨rfl,CS (by decide) (by decide) λw w0 w1=> ?_⟩
   have fin:∀(D':Ft) (x y z:Rat) (z5:Option AV),D'.nx=R->Mul 6 60 x->Mul 6 60 y->Mul 6 60 z->Fg 4 Nh (AB (BJ (AB (aV 2) (AB (AX Aj (aV 3) (aC (.int 0))) (AB (AX Aj (aV 3) (aC (.int 1))) (AB (AX Aj (aV 3) (aC (.int 2))) AL))))) AL)
    D' [some (.val .tape),some (.val (.int many)),some (.val (fr (c.1+s))),some (.val (.lst [fr x,fr y,fr z])),some (.own ((cs ++ [c]).map cor)),z5] :=by
    intro D' x y z z5 eD bx by' bz
    refine ⟨lz, ?_, ?_⟩
    ·show _<16777216;omega
    ·rw [eD]
     have mb:Mul 6 (66+48*(cs.length+1)) (c.1+s):=(cb.m.add sm).mono (by omega)
     refine hR _ ⟨cs ++ [c],(c.1+s,x,y,z),z5,by simp;omega,by omega, ?_,⟨bx,by',bz⟩,Xn hr ?_, ?_⟩
     ·intro d hd
      rcases List.mem_append.mp hd with hd|hd
      ·exact (hb d hd).mono (by simp;omega)
      ·simp at hd;subst hd
       have e:(cs ++ [c]).length=cs.length+1:=by simp
       rw [e]
       exact ⟨mb,bx.mono (by omega),by'.mono (by omega),bz.mono (by omega)⟩
     ·show c.1<c.1+s;grind
     ·rw [List.map_append (l₁:=cs ++ [c])];rfl
   refine Eo (b:=decide (3<w)) (λ_=> ?_) (λz3=> ?_)
   ·exact ⟨rfl,A5 λx hx=>⟨rfl,A5 λy hy=>⟨rfl,A5 λz hz=>⟨lz,fin _ x y z _ rfl hx hy hz⟩⟩⟩⟩
   refine Eo (b:=decide (0<w)) (λz4=> ?_) (λz4=> ?_)
   ·have a3:¬3<w:=of_decide_eq_false z3
    have a4:0<w:=of_decide_eq_true z4
    have hw:w=1\/w=2\/w=3:=by omega
    rcases hw with rfl|rfl|rfl
    ·exact D6 ⟨rfl,A5 λp hp=>⟨lz,lz,D6 ⟨lz,fin _ p _ _ _ rfl hp h8.2.1 h8.2.2⟩⟩⟩
    ·exact D6 ⟨rfl,A5 λp hp=>⟨lz,lz,D6 ⟨lz,fin _ _ p _ _ rfl h8.1 hp h8.2.2⟩⟩⟩
    ·exact D6 ⟨rfl,A5 λp hp=>⟨lz,lz,D6 ⟨lz,fin _ _ _ p _ rfl h8.1 h8.2.1 hp⟩⟩⟩
   ·exact fin _ _ _ _ _ rfl h8.1 h8.2.1 h8.2.2
  ·have z':¬(((cs ++ [c]).map cor).length:Int)<many:=of_decide_eq_false z
   rw [DJ] at z'
   refine h (cs ++ [c]) ⟨by simp;omega,by simp;omega,λd hd=>(hb d hd).mono (by omega),hr⟩
 ·simp;omega
 ·omega
 ·intro d hd
  simp at hd;subst hd
  exact ⟨.int (by decide) (by simp;omega),hx.mono (by decide),hy.mono (by decide),hz.mono (by decide)⟩
 ·exact ⟨hx,hy,hz⟩
 ·exact List.pairwise_singleton _ _
 ·simp only [cor,Wi,List.nil_append,List.map_cons,List.map_nil]
  rfl
theorem Jv {Q:PV->Prop} (h:∀cs,Lz 12 6 600 cs->Q (Ao cs)):Bn [.tape] Q:=by
 refine ⟨rfl,CS (by decide) (by decide) λa a0 a1=>⟨rfl,CS (by decide) (by decide) λb b0 b1=> ?_⟩⟩
 refine Eo (b:=decide (b=0)) (λ_=> ?_) (λ_=> ?_)
 ·refine ⟨lz,rfl,CS (by decide) (by decide) λc c0 c1=> ?_⟩
  have hc:c=0\/c=1\/c=2\/c=3:=by omega
  rcases hc with rfl|rfl|rfl|rfl
  ·exact E3 7 _ _ _ _ (by omega) (by omega) h
  ·exact E3 8 _ _ _ _ (by omega) (by omega) h
  ·exact E3 9 _ _ _ _ (by omega) (by omega) h
  ·exact E3 12 _ _ _ _ (by omega) (by omega) h
 ·exact E3 (2+a) _ _ _ _ (by omega) (by omega) h
abbrev Fa:AS:=
 (Ay (Es EG (AB (GU (CL (NU (aV 0)) 1 [1,2] (A0 0) FD (AX BK (BJ (AB (AN 2 BY (AB (AX Aj (aV 0) (aC (.int 0))) (AB (aV 1) AL))) AL)) (Es EG (AB (GU (CL (Oy (AB (aC (.int 3)) AL)) 1 [0,2] (A0 0) FD (AN 2 BY (AB (AX Aj (aV 1) (AX BK (aV 0) (aC (.int 1)))) (AB (AX Aj (aV 2) (aV 0)) AL))))) AL))))) AL)))
def BX:AF:=Ax 3 Fa
theorem IX {x0 x1 x2:PV} {Q:PV->Prop} (h:Fa ⟨λ_=>Q .non,Q,λ_=>False,λ_=>False⟩ [some (.val x0),some (.val x1),some (.val x2)]):BX [x0,x1,x2] Q:=h
abbrev He:AS:=
 (Ad (As (GU (EF (AB (BJ (AB (aC (.int 1)) (AB (aC (.int 1)) AL))) (AB (BJ (AB (aC (.int 2)) (AB (aC (.int 1)) AL))) (AB (BJ (AB (aC (.int 3)) (AB (aC (.int 2)) AL))) (AB (BJ (AB (aC (.int 1)) (AB (aC (.int 3)) AL))) (AB (BJ (AB (aC (.int 5)) (AB (aC (.int 1)) AL))) AL))))))) (A0 1))
   (Ay (BJ (AB (AX Aj (aV 1) (AN 2 BR (AB (aV 0) (AB (aC (.int 5)) AL)))) (AB (AX Aj (aV 1) (AN 2 BR (AB (aV 0) (AB (aC (.int 5)) AL)))) AL)))))
def CP:AF:=Ax 2 He
theorem Mf {x0:PV} {Q:PV->Prop} (h:He ⟨λ_=>Q .non,Q,λ_=>False,λ_=>False⟩ [some (.val x0),none]):CP [x0] Q:=h
theorem ZM {xs:List PV} {k:Int} {R:PV->Prop} (h0:0<=k) (h1:k<xs.length) (h:∀x∈xs,R x):Aj (.lst xs) (.int k) R:=by
 show XV (HI xs k) R
 have hk:xs[k.toNat]? =some (xs[k.toNat]'(by omega)):=List.getElem?_eq_getElem (by omega)
 have e:=CC hk
 rw [show ((k.toNat:Nat):Int)=k by omega] at e
 rw [e]
 exact h _ (List.getElem_mem _)
theorem O9 {xs:List Rat} {k:Int} {R:PV->Prop} (h0:0<=k) (h1:k<xs.length) (h:∀x∈xs,R (fr x)):Aj (.lst (xs.map fr)) (.int k) R:=by
 refine ZM h0 (by simpa using h1) λx hx=> ?_
 obtain ⟨y,hy,rfl⟩:=List.mem_map.mp hx
 exact h y hy
abbrev ca (t:Rat) (o:T3) (c:C4):C4:=(c.1+t,c.2.1+o.1,c.2.2.1+o.2.1,c.2.2.2+o.2.2)
theorem HR {cs:List C4} {t:Rat} {o:T3} {v:PV} {B m:Nat} (hv:v= .lst [fr o.1,fr o.2.1,fr o.2.2]) (hl:cs.length<=100) (hc:∀c∈cs,Fs B c) (bt:Bd m t) (bo:E1 m o) (hB:B<=4000) (hm:m<=4000) {Q:PV->Prop} (q:Q (Ao (cs.map (ca t o)))):BX [Ao cs,fr t,v] Q:=by
 subst hv
 have bx:=bo.x
 have by':=bo.y
 have bz:=bo.z
 apply IX
 ac_rfl
 refine EU cor cor (ca t o) (Fs B) (λc bc R hR=> ?_) cs [] hc ?_
 ·ac_rfl
  rw [show rng 0 (Int.toNat 3)= [.int 0, .int 1, .int 2] from rfl]
  repeat' array_get_dec
  rw [show (0:Int)+1=1 from rfl]
  repeat' array_get_dec
  rw [show (1:Int)+1=2 from rfl]
  repeat' array_get_dec
  rw [show (2:Int)+1=3 from rfl]
  repeat' array_get_dec
  exact hR
 ac_rfl
 exact q
instance m8 {ta tb:AE} {τ:BG} {QL:List PV->Prop}:Wp (bU ta tb τ QL) (ta τ λx=>tb τ λy=>match x,y with | .tup xs, .tup ys=>xs.length=ys.length/\QL (Dv xs ys.reverse)|_,_=>False):=⟨id⟩
section
variable {τ:BG}
instance iu {i:Nat} {ti ta:AE} {nx bk ct:BG->Prop} {rt:PV->Prop}:Wp (Yu i ti ta ⟨nx,rt,bk,ct⟩ τ) (ta τ λy=>L4 i τ λxs=>ti τ λk=>YY k λk=>Zc (RC xs.length k) λj=>Rf τ i (.own (xs.set j y)) nx):=⟨id⟩
instance ir {i:Nat} {xs:List PV} {P:List PV->Prop} [h:aO τ i (.own xs)] :Wp (L4 i τ P) (P xs):=⟨λk=>by unfold L4;rw [h.e];exact k⟩
end
instance lU {c:C4} {Q:PV->Prop}:Wp (Tj (cor c) none (some 1) Q) (Q (.tup [fr c.1])):=⟨λh=>Gg h⟩
abbrev JC:AS:=
 (Ad (As (AN 1 Bn (AB (aV 0) AL)) (A0 6))
   (Ay (AN 3 BX (AB (aV 6) (AB (AN 2 A8 (AB (AX Aj (AX Aj (aV 1) (Ow GB (aC (.int 1)))) (aC (.int 0))) (AB (AX Aj (AX Aj (aV 6) (aC (.int 0))) (aC (.int 0))) AL))) (AB (GU (EF (AB (BJ (AB (aC (.int 0)) (AB (aC (.int 1)) AL))) (AB (BJ (AB (aC (.int 0)) (AB (aC (.int 1)) AL))) (AB (BJ (AB (aC (.int 0)) (AB (aC (.int 1)) AL))) AL))))) AL))))))
abbrev Gi:AS:=
 (Ad (As (BJ (AB (AN 1 Aw (AB (aV 0) AL)) (AB (AN 1 Aw (AB (aV 0) AL)) (AB (AN 1 Aw (AB (aV 0) AL)) AL)))) (A0 8))
   (Ay (AX BK (AX BK (Uw (aV 1) Uy (Uz (aV 7))) (BJ (AB (AX BK (Uw (AX Aj (aV 1) (aV 7)) Uy (Uz (aC (.int 1)))) (aV 8)) AL))) (Uw (aV 1) (Uz (AX BK (aV 7) (aC (.int 1)))) Uy))))
abbrev JD:AS:=
 (Ad (As (AN 2 BR (AB (aV 0) (AB (Es FG (AB (aV 1) AL)) AL))) (A0 7))
   Gi)
abbrev JE:AS:=
 (Ad (As (Uw (AX Aj (aV 1) (AN 2 BR (AB (aV 0) (AB (Es FG (AB (aV 1) AL)) AL)))) (Uz (aC (.int 1))) Uy) (A0 8))
   (Ay (BJ (AB (AX BK (BJ (AB (AX Aj (AX Aj (aV 1) (aC (.int 0))) (aC (.int 0))) AL)) (aV 8)) (AB (AX BK (BJ (AB (AN 2 BY (AB (AX Aj (AX Aj (aV 1) (Ow GB (aC (.int 1)))) (aC (.int 0))) (AB (AN 1 Bt (AB (aV 0) AL)) AL))) AL)) (aV 8)) AL)))))
abbrev Hf:AS:=
 (Ad (Bx (Av (AX Kz (aV 3) (aC (.int 6)))) JE BI)
   (Ay (AN 1 Bn (AB (aV 0) AL))))
abbrev JM:AS:=
 (Ad (Bx (Av (AX Kz (aV 3) (aC (.int 5)))) JD BI)
   Hf)
abbrev JL:AS:=
 (Ad (Bx (Av (AX Kz (aV 3) (aC (.int 4)))) JC BI)
   JM)
abbrev JK:AS:=
 (Ad (Bx (Av (AX Kz (aV 3) (aC (.int 3)))) (Ay (Es EG (AB (GU (CL (bU (aV 1) (aV 1)) 2 [] (NT 2 (Aq (A0 0) (Aq (A0 1) Cg))) FD (AX BK (BJ (AB (AX Aj (aV 0) (aC (.int 0))) AL)) (Uw (aV 1) (Uz (aC (.int 1))) Uy)))) AL))) BI)
   JL)
abbrev JJ:AS:=
 (Ad (Bx (Av (AX Kz (aV 3) (aC (.int 2)))) (Ay (AN 3 BX (AB (aV 1) (AB (AX Aj (GU (EF (AB (AN 1 Bt (AB (aV 0) AL)) (AB (BJ (AB (aC (.int 0)) (AB (aC (.int 1)) AL))) AL)))) (AN 2 BR (AB (aV 0) (AB (aC (.int 2)) AL)))) (AB (aV 4) AL))))) BI)
   JK)
abbrev Et:AS:=
 (Ad (Bx (Av (AX VC (aV 3) (aC (.int 2)))) (Ay (AN 3 BX (AB (aV 1) (AB (BJ (AB (aC (.int 0)) (AB (aC (.int 1)) AL))) (AB (aV 4) AL))))) BI)
   JJ)
abbrev JI:AS:=
 (Ad (Bx (Av (AX Kz (aV 3) (aC (.int 0)))) (Yu 4 (aV 5) (Uv (AN 2 BQ (AB (AX Aj (aV 4) (aV 5)) (AB (AX Aj (GU (EF (AB (BJ (AB (aC (.int 1)) (AB (aC (.int 2)) AL))) (AB (BJ (AB (Ow GB (aC (.int 1))) (AB (aC (.int 1)) AL))) (AB (BJ (AB (Ow GB (aC (.int 1))) (AB (aC (.int 3)) AL))) AL))))) (AN 2 BR (AB (aV 0) (AB (aC (.int 3)) AL)))) AL))))) BI)
   Et)
abbrev JH:AS:=
 (Ad (Yu 4 (aV 5) (AX Aj (aV 2) (Es VF (AB (AX Kz (aV 5) (aC (.int 2))) AL))))
   JI)
abbrev JG:AS:=
 (Ad (As (AN 2 BR (AB (aV 0) (AB (aC (.int 3)) AL))) (A0 5))
   JH)
abbrev JF:AS:=
 (Ad (L3 (EF (AB (BJ (AB (aC (.int 0)) (AB (aC (.int 1)) AL))) (AB (BJ (AB (aC (.int 0)) (AB (aC (.int 1)) AL))) (AB (BJ (AB (aC (.int 0)) (AB (aC (.int 1)) AL))) AL)))) 4)
   JG)
abbrev Gr:AS:=
 (Ad (As (AN 2 BR (AB (aV 0) (AB (aC (.int 9)) AL))) (A0 3))
   JF)
def CZ:AF:=Ax 9 Gr
theorem K8 {x0 x1 x2:PV} {Q:PV->Prop} (h:Gr ⟨λ_=>Q .non,Q,λ_=>False,λ_=>False⟩ [some (.val x0),some (.val x1),some (.val x2),none,none,none,none,none,none]):CZ [x0,x1,x2] Q:=h
theorem UL {cs ds:List C4} (h:Ku cs) (e:ds.map (·.1)=cs.map (·.1)):Ku ds:=by
 have h1:(cs.map (·.1)).Pairwise (· < ·):=List.pairwise_map.mpr h
 rw [<-e] at h1
 exact List.pairwise_map.mp h1
theorem aI (a b:List C4):Dv (a.map cor) (b.map cor)=(a.zip b).map λp:C4×C4=> .tup [cor p.1,cor p.2] :=by
 unfold Dv
 rw [List.zipWith_map,List.zip,List.map_zipWith]
theorem Mul.negQ {D N:Nat} {a:Rat} (h:Mul D N a):Mul D N (-a):=by
 obtain ⟨h0,k,rfl,hk⟩:=h
 exact ⟨h0, -k,by rw [Rat.neg_divInt],by omega⟩
theorem Mul.subQ {D N M:Nat} {a b:Rat} (ha:Mul D N a) (hb:Mul D M b):Mul D (N+M) (a-b):=by
 rw [Rat.sub_eq_add_neg];exact ha.add (Mul.negQ hb)
theorem aa {a b c:PV}:RC [a,b,c].length 0=some 0:=by show RC 3 0=_;decide
theorem ab {a b c:PV}:RC [a,b,c].length 1=some 1:=by show RC 3 1=_;decide
theorem ae {a b c:PV}:RC [a,b,c].length 2=some 2:=by show RC 3 2=_;decide
theorem iD:PV.tup [.int (-1), .int 3] =fr (-1/3):=by
 unfold fr
 rw [show (-1/3:Rat).num= -1 by decide +kernel,show (-1/3:Rat).den=3 by decide +kernel]
 rfl
abbrev LY:AS:=
 (Ad (Bx (Av (AX Kz (AN 2 BR (AB (aV 2) (AB (aC (.int 2)) AL))) (aC (.int 0)))) (Ov 4 5 (AB (aV 5) (AB (aV 4) AL))) BI)
   (Ay (BJ (AB (aV 2) (AB (aV 4) (AB (aV 5) (AB (aV 3) AL)))))))
abbrev LX:AS:=
 (Ad (As (AN 3 CZ (AB (aV 2) (AB (aV 4) (AB (aV 3) AL)))) (A0 5))
   LY)
abbrev LW:AS:=
 (Ad (As (AN 1 Bn (AB (aV 2) AL)) (A0 4))
   LX)
abbrev LV:AS:=
 (Ad (As (AN 1 CP (AB (aV 2) AL)) (A0 3))
   LW)
abbrev J4:AS:=
 (Ad (As (AN 2 Lv (AB (aV 0) (AB (aV 1) AL))) (A0 2))
   LV)
def Dc:AF:=Ax 6 J4
theorem Nr {x0 x1:PV} {Q:PV->Prop} (h:J4 ⟨λ_=>Q .non,Q,λ_=>False,λ_=>False⟩ [some (.val x0),some (.val x1),none,none,none,none]):Dc [x0,x1] Q:=h
abbrev NM:AS:=
 (Ad (As (AN 2 F5 (AB (AX Aj (AX Aj (aV 0) (Ow GB (aC (.int 1)))) (aC (.int 0))) (AB (AX Aj (AX Aj (aV 1) (Ow GB (aC (.int 1)))) (aC (.int 0))) AL))) (A0 3))
   (Ay (aQ (Av (AN 2 Ah (AB (aV 2) (AB (aV 3) AL)))) (BJ (AB (aV 2) (AB (aV 3) AL))) (aC .non))))
abbrev Lm:AS:=
 (Ad (As (AN 2 CI (AB (AX Aj (AX Aj (aV 0) (aC (.int 0))) (aC (.int 0))) (AB (AX Aj (AX Aj (aV 1) (aC (.int 0))) (aC (.int 0))) AL))) (A0 2))
   NM)
def DP:AF:=Ax 4 Lm
theorem Pq {x0 x1:PV} {Q:PV->Prop} (h:Lm ⟨λ_=>Q .non,Q,λ_=>False,λ_=>False⟩ [some (.val x0),some (.val x1),none,none]):DP [x0,x1] Q:=h
abbrev Oj:AS:=
 (Ad (As (AN 2 Ey (AB (aV 1) (AB (aV 3) AL))) (A0 5))
   (Ay (GU (CL (Oy (AB (aC (.int 3)) AL)) 1 [2,4,5] (A0 0) FD (AN 2 Ja (AB (AN 2 DU (AB (AX Aj (aV 2) (aV 0)) (AB (AX Aj (aV 3) (aV 0)) AL))) (AB (AN 2 D9 (AB (aV 1) (AB (aV 0) AL))) AL)))))))
abbrev Ny:AS:=
 (Ad (As (AN 2 Ey (AB (aV 0) (AB (aV 3) AL))) (A0 4))
   Oj)
def Ex:AF:=Ax 6 Ny
theorem RX {x0 x1 x2 x3:PV} {Q:PV->Prop} (h:Ny ⟨λ_=>Q .non,Q,λ_=>False,λ_=>False⟩ [some (.val x0),some (.val x1),some (.val x2),some (.val x3),none,none]):Ex [x0,x1,x2,x3] Q:=h
def absR (r:Rat):Rat:=if r<0 then -r else r
theorem Bd.absR {n:Nat} {r:Rat} (h:Bd n r):Bd n (absR r):=by unfold PL.absR;split;exact h.neg;exact h
def Jn (p q:T3) (d:Rat×Rat):T3:=((p.1-q.1)/d.1,(p.2.1-q.2.1)/d.1,(p.2.2-q.2.2)/d.2)
def HP (o:T3):Rat:=mx (mx (mx 0 (absR o.1)) (absR o.2.1)) (absR o.2.2)
def YJ (a l a2 l2:C4) (m:Rat):Prop:=(¬m<a.1/\¬m<a2.1)/\m<l.1/\m<l2.1
instance {a l a2 l2:C4} {m:Rat}:Decidable (YJ a l a2 l2 m):=by unfold YJ;infer_instance
theorem ZX {cs ds:List C4} {v w u:PV} {d:Rat×Rat} {m:Rat} {p q':T3} (hv:Bj cs v) (hw:Bj ds w) (hu:Ul d u) (hc:∀c∈cs,Fs 150 c) (Q5:∀c∈ds,Fs 150 c) (hr:Ku cs) (ia:Ku ds) (h0:cs≠ []) (Wr:ds≠ []) (hl:cs.length<=100) (iZ:ds.length<=100) (bm:Bd 200 m) (b1:Bd 100 d.1) (b2:Bd 100 d.2) (p1:d.1≠0) (p2:d.2≠0)
 (e1:spotC cs m=some p) (e2:spotC ds m=some q') {Q:PV->Prop} (q:Q (.lst [fr (Jn p q' d).1,fr (Jn p q' d).2.1,fr (Jn p q' d).2.2])):Ex [v,w,u,fr m] Q:=by
 have t1:=E1.spotC bm hr hc p e1
 have t2:=E1.spotC bm ia Q5 q' e2
 have x1:=t1.x
 have x2:=t1.y
 have x3:=t1.z
 have y1:=t2.x
 have y2:=t2.y
 have y3:=t2.z
 have z1:=x1.sub y1
 have z2:=x2.sub y2
 have z3:=x3.sub y3
 apply RX
 ac_rfl
 refine Hw hv hc hr h0 (by omega) bm (by decide) ?_
 rw [e1,show KY (some p)= .tup [fr p.1,fr p.2.1,fr p.2.2] from rfl]
 ac_rfl
 refine Hw hw Q5 ia Wr (by omega) bm (by decide) ?_
 rw [e2,show KY (some q')= .tup [fr q'.1,fr q'.2.1,fr q'.2.2] from rfl]
 ac_rfl
 rw [show rng 0 (Int.toNat 3)= [.int 0, .int 1, .int 2] from rfl]
 repeat' array_get_dec
 refine L5 hu ?_
 rw [if_neg (by decide)]
 repeat' array_get_dec
 refine L5 hu ?_
 rw [if_neg (by decide)]
 repeat' array_get_dec
 refine L5 hu ?_
 rw [if_pos (by decide)]
 repeat' array_get_dec
 exact q
theorem Rl {a l a2 l2:C4} {r r2:List C4} {v w:PV} (hv:Bj (a::r) v) (hw:Bj (a2::r2) w) (el:(a::r).getLast?=some l) (el2:(a2::r2).getLast?=some l2) (ba:Bd 3000 a.1) (bl:Bd 3000 l.1) (ba2:Bd 3000 a2.1) (bl2:Bd 3000 l2.1)
 {Q:PV->Prop} (q1:mx a.1 a2.1<mn l.1 l2.1->Q (.tup [fr (mx a.1 a2.1),fr (mn l.1 l2.1)])) (q2:¬mx a.1 a2.1<mn l.1 l2.1->Q .non):DP [v,w] Q:=by
 apply Pq
 ac_rfl
 refine mV hv λx hx=> ?_
 ac_rfl
 refine c0 hx ?_
 ac_rfl
 refine mV hw λx hx=> ?_
 ac_rfl
 refine c0 hx ?_
 ac_rfl
 refine mW hv el λx hx=> ?_
 ac_rfl
 refine c0 hx ?_
 ac_rfl
 refine mW hw el2 λx hx=> ?_
 ac_rfl
 refine c0 hx ?_
 ac_rfl
 ·exact q1 ‹_›
 ·exact q2 ‹_›
abbrev JS:AS:=
 (Ad (As (AX O0 (AX BK (aV 2) (aV 3)) (aC (.int 2))) (A0 4))
   (Bx (Av (AN 2 Ah (AB (AX Aj (aV 0) (aV 4)) (AB (aV 1) AL)))) (As (AX BK (aV 4) (aC (.int 1))) (A0 2)) (As (aV 4) (A0 3))))
abbrev JU:AS:=
 (Ad (Jc (Av (AX VC (aV 2) (aV 3))) JS)
   (Ay (aV 2)))
abbrev JT:AS:=
 (Ad (As (Es FG (AB (aV 0) AL)) (A0 3))
   JU)
abbrev Gv:AS:=
 (Ad (As (aC (.int 0)) (A0 2))
   JT)
def Ce:AF:=Ax 5 Gv
theorem LB {x0 x1:PV} {Q:PV->Prop} (h:Gv ⟨λ_=>Q .non,Q,λ_=>False,λ_=>False⟩ [some (.val x0),some (.val x1),none,none,none]):Ce [x0,x1] Q:=h
abbrev J7:AS:=
 (Ad (As (Uv (AN 2 Ce (AB (aV 1) (AB (aV 2) AL)))) (A0 3))
   (Bx (Qj (Ky (Av (AX Kz (aV 3) (Es FG (AB (aV 1) AL)))) (Av (AX Wg (AX Aj (aV 1) (aV 3)) (aV 2))))) (Fg 1 XH (AB (aV 3) (AB (aV 2) AL))) BI))
abbrev QY:AS:=
 (Ad (E2 (NU (aV 0)) (A0 2) J7)
   (Ay (aV 1)))
abbrev QX:AS:=
 (Ad (L3 (EF AL) 1)
   QY)
def F7:AF:=Ax 4 QX
theorem S6 {x0:PV} {Q:PV->Prop} (h:QX ⟨λ_=>Q .non,Q,λ_=>False,λ_=>False⟩ [some (.val x0),none,none,none]):F7 [x0] Q:=h
def ins:List Rat->Rat->List Rat
 | [],x=> [x]
 | q::r,x=>if q<x then q::ins r x else if q=x then q::r else x::q::r
abbrev QJ (qs:List Rat):Prop:=qs.Pairwise (· < ·)
theorem PD {x y:Rat}:∀{qs:List Rat},y∈ins qs x↔y=x\/y∈qs
 | [] =>by simp [ins]
 | q::r=>by
   unfold ins
   split
   ·rw [List.mem_cons,PD,List.mem_cons];grind
   ·split
    ·rename_i h;subst h;simp
    ·simp
theorem Ud {x:Rat}:∀{qs:List Rat},QJ qs->QJ (ins qs x)
 | [],_=>by simp [ins]
 | q::r,h=>by
   obtain ⟨h1,h2⟩:=List.pairwise_cons.mp h
   unfold ins
   split
   ·rename_i hq
    refine List.pairwise_cons.mpr ⟨λy hy=> ?_,Ud h2⟩
    rcases PD.mp hy with rfl|hy
    ·exact hq
    ·exact h1 y hy
   ·split
    ·exact h
    ·refine List.pairwise_cons.mpr ⟨λy hy=> ?_,h⟩
     rcases List.mem_cons.mp hy with rfl|hy
     ·grind
     ·have:=h1 y hy;grind
theorem Tz {x:Rat}:∀{qs:List Rat},(ins qs x).length<=qs.length+1
 | [] =>by simp [ins]
 | q::r=>by
   have:=Tz (x:=x) (qs:=r)
   unfold ins
   split
   ·simp;omega
   ·split <;> simp
structure At (qs:List Rat) (x:Rat) (k:Nat):Prop where
 le:k<=qs.length
 lo:∀q∈qs.take k,q<x
 hi:∀q∈qs.drop k,¬q<x
theorem R3:∀{qs:List Rat} {x:Rat} {k:Nat},QJ qs->At qs x k->ins qs x=if qs[k]? =some x then qs else qs.take k++x::qs.drop k
 | [],x,k,_,h=>by
   have:=h.le
   simp at this
   subst this
   simp [ins]
 | q::r,x,0,_,h=>by
   have:=h.hi q (by simp)
   unfold ins
   rw [if_neg this]
   by_cases e:q=x
   ·rw [if_pos e,if_pos (by simp [e])]
   ·rw [if_neg e,if_neg (by simp [e])];rfl
 | q::r,x,k+1,hs,h=>by
   have hq:=h.lo q (by simp)
   have ih:=R3 (qs:=r) (x:=x) (k:=k) (List.pairwise_cons.mp hs).2 ⟨by have:=h.le;simp at this;exact this,λy hy=>h.lo y (by simp [hy]),λy hy=>h.hi y (by simpa using hy)⟩
   unfold ins
   rw [if_pos hq,ih]
   simp only [List.getElem?_cons_succ,List.take_succ_cons,List.drop_succ_cons]
   split <;> rfl
theorem QD:∀{a b:List Rat},QJ a->QJ b->(∀x,x∈a↔x∈b)->a=b
 | [], [],_,_,_=>rfl
 | [],y::b,_,_,h=>by have:=(h y).mpr (by simp);simp at this
 | x::a, [],_,_,h=>by have:=(h x).mp (by simp);simp at this
 | x::a,y::b,ha,hb,h=>by
   obtain ⟨a1,a2⟩:=List.pairwise_cons.mp ha
   obtain ⟨b1,b2⟩:=List.pairwise_cons.mp hb
   have exy:x=y:=by
    rcases List.mem_cons.mp ((h x).mp (by simp)) with e|e
    ·exact e
    ·rcases List.mem_cons.mp ((h y).mpr (by simp)) with e2|e2
     ·exact e2.symm
     ·have:=b1 x e;have:=a1 y e2;grind
   subst exy
   congr 1
   refine QD a2 b2 λz=>⟨λhz=> ?_,λhz=> ?_⟩
   ·rcases List.mem_cons.mp ((h z).mp (by simp [hz])) with e|e
    ·subst e;have:=a1 z hz;grind
    ·exact e
   ·rcases List.mem_cons.mp ((h z).mpr (by simp [hz])) with e|e
    ·subst e;have:=b1 z hz;grind
    ·exact e
def C3 (xs:List Rat):List Rat:=xs.foldl ins []
theorem LO:∀(xs qs:List Rat),QJ qs->QJ (xs.foldl ins qs)/\(∀y,y∈xs.foldl ins qs↔y∈xs\/y∈qs)/\(xs.foldl ins qs).length<=qs.length+xs.length
 | [],qs,h=>⟨h,by simp,by simp⟩
 | x::xs,qs,h=>by
   obtain ⟨h1,h2,h3⟩:=LO xs (ins qs x) (Ud h)
   refine ⟨h1,λy=> ?_, ?_⟩
   ·rw [List.foldl_cons,h2,PD,List.mem_cons];grind
   ·have:=Tz (x:=x) (qs:=qs)
    rw [List.foldl_cons,List.length_cons];omega
theorem Ci {xs:List Rat}:QJ (C3 xs):=(LO xs [] .nil).1
theorem CN {xs:List Rat} {y:Rat}:y∈C3 xs↔y∈xs:=by rw [C3,(LO xs [] .nil).2.1];simp
theorem IU {xs:List Rat}:(C3 xs).length<=xs.length:=by have:=(LO xs [] .nil).2.2;unfold C3;simpa using this
theorem Ui:∀{qs:List Rat} {m:Nat} {c x:Rat},QJ qs->qs[m]? =some c->c<x->∀q∈qs.take (m+1),q<x
 | [],m,c,x,_,e,_=>by simp at e
 | a::r,0,c,x,_,e,h=>by simp at e;subst e;simp [h]
 | a::r,m+1,c,x,hs,e,h=>by
   obtain ⟨h1,h2⟩:=List.pairwise_cons.mp hs
   have e':r[m]? =some c:=by simpa using e
   intro q hq
   rw [List.take_succ_cons] at hq
   rcases List.mem_cons.mp hq with rfl|hq
   ·have:=h1 c (List.mem_of_getElem? e');grind
   ·exact Ui h2 e' h q hq
theorem Ti:∀{qs:List Rat} {m:Nat} {c x:Rat},QJ qs->qs[m]? =some c->¬c<x->∀q∈qs.drop m,¬q<x
 | [],m,c,x,_,e,_=>by simp at e
 | a::r,0,c,x,hs,e,h=>by
   simp at e;subst e
   intro q hq
   rcases List.mem_cons.mp hq with rfl|hq
   ·exact h
   ·have:=(List.pairwise_cons.mp hs).1 q hq;grind
 | a::r,m+1,c,x,hs,e,h=>by
   intro q hq
   exact Ti (List.pairwise_cons.mp hs).2 (by simpa using e) h q (by simpa using hq)
theorem WV {qs:List Rat} {x:Rat} {B M:Nat} (hs:QJ qs) (hl:qs.length<=1000000) (hq:∀q∈qs,Bd B q) (hx:Bd M x) (hB:B<=4000) (hM:M<=4000) {Q:PV->Prop} (q:∀k:Nat,At qs x k->Q (.int k)):Ce [.lst (qs.map fr),fr x] Q:=by
 apply LB
 repeat' array_get_dec
 refine iG (λn τ=>∃(lo hi:Nat) (z:Option AV),hi-lo<n/\lo<=hi/\hi<=qs.length/\(∀q∈qs.take lo,q<x)/\(∀q∈qs.drop hi,¬q<x)/\τ= [some (.val (.lst (qs.map fr))),some (.val (fr x)),some (.val (.int lo)),some (.val (.int hi)),z]) ?_ ?_ (n:=qs.length+1) ⟨0,qs.length,none,by omega,by omega,by omega,by simp,by simp,rfl⟩
 ·rintro n τ R hR ⟨lo,hi,z,h1,h2,h3,h4,h5,rfl⟩
  have ef:frz [some (.val (.lst (qs.map fr))),some (.val (fr x)),some (.val (.int lo)),some (.val (.int hi)),z] = [some (.val (.lst (qs.map fr))),some (.val (fr x)),some (.val (.int lo)),some (.val (.int hi)),Y6 z] :=rfl
  rw [ef]
  repeat' array_get_dec
  ·rename_i FJ
   refine ⟨⟨by decide,by decide⟩, ?_⟩
   have em:((lo:Int)+hi).fdiv 2=((lo+hi)/2:Nat):=by rw [Int.fdiv_eq_ediv_of_nonneg _ (by decide)];omega
   rw [em]
   have m1:(lo+hi)/2<hi:=by omega
   have m2:lo<=(lo+hi)/2:=by omega
   generalize (lo+hi)/2=m at *
   repeat' array_get_dec
   rename_i c ec hc
   have ec':qs[m]? =some c:=ec
   have bc:=hq c hc
   repeat' array_get_dec
   ·rename_i jY
    refine hR _ ⟨m+1,hi,_,by omega,by omega,h3,Ui hs ec' jY,h5,rfl⟩
   ·rename_i jY
    refine hR _ ⟨lo,m,_,by omega,m2,by omega,h4,Ti hs ec' jY,rfl⟩
  ·rename_i FJ
   have e:lo=hi:=by omega
   subst e
   exact q lo ⟨by omega,h4,h5⟩
 ·rintro τ ⟨lo,hi,z,h,_⟩
  omega
theorem Vl {v:PV} {xs:List Rat} {B:Nat} (hv:v= .lst (xs.map fr)\/v= .tup (xs.map fr)) (hl:xs.length<=1000) (hx:∀x∈xs,Bd B x) (hB:B<=4000) {Q:PV->Prop} (q:Q (.lst ((C3 xs).map fr))):F7 [v] Q:=by
 apply S6
 have key:∀{z2 z3:Option AV},Dw (A0 2) J7 ⟨Ay (aV 1) ⟨λ_=>Q .non,Q,λ_=>False,λ_=>False⟩,Q,λ_=>False,λ_=>False⟩ (xs.map fr) [some (.val v),some (.own []),z2,z3] :=by
  intro z2 z3
  refine C9 fr (λus vs τ=>∃z2 z3,τ= [some (.val v),some (.own ((C3 us).map fr)),z2,z3]) ?_ ?_ ⟨_,_,rfl⟩
  ·rintro τ ⟨z2,z3,rfl⟩
   repeat' array_get_dec
   exact q
  ·rintro us c vs e τ R hR ⟨z2,z3,rfl⟩
   have ul:us.length<=1000:=by have:=congrArg List.length e;simp at this;omega
   have rl:=IU (xs:=us)
   have bu:∀y∈C3 us,Bd B y:=λy hy=>hx y (by rw [<-e];simp [CN.mp hy])
   have bc:Bd B c:=hx c (by rw [<-e];simp)
   have fin:∀(ws:List Rat) z2 z3,ws=ins (C3 us) c->R [some (.val v),some (.own (ws.map fr)),z2,z3] :=λws z2 z3 h=>hR _ ⟨z2,z3,by rw [h,show C3 (us ++ [c])=ins (C3 us) c by unfold C3;rw [List.foldl_append];rfl]⟩
   repeat' array_get_dec
   refine WV Ci (by omega) bu bc hB hB λk hk=> ?_
   have kl:=hk.le
   have ei:=R3 Ci hk
   repeat' array_get_dec
   ·rename_i h1
    have e1:(C3 us)[k]? =none:=List.getElem?_eq_none (by omega)
    rw [e1,if_neg (by simp)] at ei
    have:=fin _ (some (.val (fr c))) (some (.val (.int k))) ei.symm
    rw [List.map_append,List.map_cons,List.map_take,List.map_drop] at this
    exact this
   ·rename_i h1 d e1 _ h2
    have e1':(C3 us)[k]? =some d:=e1
    rw [e1',if_neg (by simpa using h2)] at ei
    have:=fin _ (some (.val (fr c))) (some (.val (.int k))) ei.symm
    rw [List.map_append,List.map_cons,List.map_take,List.map_drop] at this
    exact this
   ·rename_i h1 d e1 _ h2
    have e1':(C3 us)[k]? =some d:=e1
    rw [e1',if_pos (by rw [h2])] at ei
    exact fin _ _ _ ei.symm
 rcases hv with rfl|rfl
 all_goals
  ac_rfl
  exact key
abbrev Pl:=Rat×Int
abbrev B4:=Rat×Int×Option Rat
def bp (s:B4):Pl:=(s.1,1-s.2.1)
def ep (s:B4):Option Pl:=s.2.2.map λe=>(e,0)
def fP:Option Rat->PV|none=> .non|some e=>fr e
def j8 (s:B4):PV:= .tup [fr s.1, .int s.2.1,fP s.2.2]
def j7 (s:B4):PV:= .lst [fr s.1, .int s.2.1,fP s.2.2]
def RN (s:B4) (p:Pl):Int:=(if bp s=p then 1 else 0)-(if ep s=some p then 1 else 0)
def cnt (ss:List B4) (p:Pl):Int:=(ss.map λs=>RN s p).sum
def fy (ss:List B4) (p:Pl):Prop:=∃s∈ss,bp s=p\/ep s=some p
inductive N2:List PV->List B4->Prop where
 | nil:N2 [] []
 | cons {x:PV} {s:B4} {xs:List PV} {ss:List B4} (h:x=j8 s\/x=j7 s) (t:N2 xs ss):N2 (x::xs) (s::ss)
theorem N2.length:∀{xs:List PV} {ss:List B4},N2 xs ss->xs.length=ss.length
 | _,_, .nil=>rfl
 | _,_, .cons _ t=>by simp [t.length]
def NC (x p:Pl):Bool:=decide (x.1<p.1)||(decide (x.1=p.1)&&decide (x.2<=p.2))
def CT (s:B4) (p:Pl):Bool:=(decide (s.1<p.1)||(decide (s.1=p.1)&&decide (0<s.2.1+p.2)))&&(match s.2.2 with | none=>true|some e=>decide (p.1<e))
structure Ez (B:Nat) (s:B4):Prop where
 b:Bd B s.1
 h:s.2.1=0\/s.2.1=1
 e:∀e,s.2.2=some e->s.1<e/\Bd B e
def tm (s:B4) (p:Pl):Int:=(if NC (bp s) p=true then 1 else 0)-(if (ep s).any (NC · p)=true then 1 else 0)
theorem iE {B:Nat} {s:B4} {p:Pl} (ok:Ez B s) (hp:0<=p.2):tm s p=if CT s p=true then 1 else 0:=by
 obtain ⟨b,h,e⟩:=s
 obtain ⟨q,i⟩:=p
 have hh:h=0\/h=1:=ok.h
 have hp:0<=i:=hp
 have e1:NC (bp (b,h,e)) (q,i)=(decide (b<q)||(decide (b=q)&&decide (0<h+i))):=by
  unfold NC bp
  congr 2
  exact decide_eq_decide.mpr (by show 1-h<=i↔0<h+i;omega)
 cases e with
 | none=>
   unfold tm CT
   rw [e1]
   simp [ep]
 | some e=>
   have Tq:b<e:=(ok.e e rfl).1
   have e2:(ep (b,h,some e)).any (NC · (q,i))= !decide (q<e):=by
    show NC (e,0) (q,i)=_
    unfold NC
    by_cases z:q<e
    ·have z1:¬e<q:=by grind
     have z2:¬e=q:=by grind
     simp [z,z1,z2]
    ·by_cases z1:e<q
     ·simp [z,z1]
     ·have z2:e=q:=by grind
      simp [z2,hp]
   unfold tm CT
   rw [e1,e2]
   by_cases z:q<e
   ·simp [z]
   ·have z1:b<q:=by grind
    simp [z,z1]
def Hn (ss:List B4) (p:Pl):Nat:=(ss.filter (CT · p)).length
theorem SY {B:Nat} {p:Pl} (hp:0<=p.2):∀{ss:List B4},(∀s∈ss,Ez B s)->(Hn ss p:Int)=(ss.map λs=>tm s p).sum
 | [],_=>rfl
 | s::ss,h=>by
   have ih:=SY hp (ss:=ss) λx hx=>h x (by simp [hx])
   have e:=iE (p:=p) (h s (by simp)) hp
   rw [List.map_cons,List.sum_cons,<-ih,e]
   unfold Hn
   rw [List.filter_cons]
   split
   ·simp;omega
   ·simp
def LL (x p:Pl):Prop:=x.1<p.1\/(x.1=p.1/\x.2<p.2)
theorem Jj {a b c:Pl} (h:LL a b) (h2:LL b c):LL a c:=by
 unfold LL at *
 rcases h with h|⟨h,h'⟩ <;> rcases h2 with h2|⟨h2,iU⟩
 ·left;grind
 ·left;grind
 ·left;grind
 ·right;exact ⟨by grind,by omega⟩
theorem GE {x p:Pl}:NC x p=true↔LL x p\/x=p:=by
 obtain ⟨a,i⟩:=x
 obtain ⟨b,j⟩:=p
 unfold NC LL
 simp only [Bool.or_eq_true,Bool.and_eq_true,decide_eq_true_iff,Prod.mk.injEq]
 constructor
 ·rintro (h|⟨h,h2⟩)
  ·exact .inl (.inl h)
  ·by_cases e:i=j
   ·exact .inr ⟨h,e⟩
   ·exact .inl (.inr ⟨h,by omega⟩)
 ·rintro ((h|⟨h,h2⟩)|⟨h,h2⟩)
  ·exact .inl h
  ·exact .inr ⟨h,by omega⟩
  ·exact .inr ⟨h,by omega⟩
theorem LM {p:Pl}:¬LL p p:=by
 unfold LL
 rintro (h|⟨_,h⟩)
 ·grind
 ·omega
def RF (x:Pl):Option Pl->Bool|none=>false|some p=>NC x p
def aA (s:B4) (o:Option Pl):Int:=(if RF (bp s) o=true then 1 else 0)-(if (ep s).any (RF · o)=true then 1 else 0)
def j1:Option Pl->Pl->Prop|none,_=>True|some q,p=>LL q p
theorem Iz {x p:Pl} {o:Option Pl} (hx:RF x o=true\/x=p\/LL p x) (ho:j1 o p):NC x p=(RF x o||decide (x=p))/\¬(RF x o=true/\x=p):=by
 have h1:RF x o=true->LL x p:=λh=>by
  cases o with
  | none=>cases h
  | some q=>rcases GE.mp h with h|h
            ·exact Jj h ho
            ·rw [h];exact ho
 refine ⟨?_,λh=>by rw [h.2] at h1;exact LM (h1 (h.2 ▸ h.1))⟩
 rw [Bool.eq_iff_iff,Bool.or_eq_true,decide_eq_true_iff,GE]
 constructor
 ·rintro (h|h)
  ·rcases hx with z|z|z
   ·exact .inl z
   ·exact .inr z
   ·exact absurd (Jj h z) LM
  ·exact .inr h
 ·rintro (h|h)
  ·exact .inl (h1 h)
  ·exact .inr h
theorem W4 {A:Bool} {E:Prop} [Decidable E] (h:¬(A=true/\E)):(if (A||decide E)=true then (1:Int) else 0)=(if A=true then 1 else 0)+if E then 1 else 0:=by
 cases A <;> by_cases e:E <;> simp_all
theorem aB {s:B4} {p:Pl} {o:Option Pl} (hb:RF (bp s) o=true\/bp s=p\/LL p (bp s)) (he:∀x,ep s=some x->RF x o=true\/x=p\/LL p x) (ho:j1 o p):tm s p=aA s o+RN s p:=by
 obtain ⟨b1,b2⟩:=Iz hb ho
 unfold tm aA RN
 rw [b1,W4 b2]
 cases e:ep s with
 | none=>simp
 | some x=>
   obtain ⟨e1,e2⟩:=Iz (he x e) ho
   have h1:(if (some x).any (NC · p)=true then (1:Int) else 0)=(if RF x o=true then 1 else 0)+if x=p then 1 else 0:=by
    show (if NC x p=true then (1:Int) else 0)=_
    rw [e1,W4 e2]
   rw [h1]
   show _=(_-(if RF x o=true then (1:Int) else 0))+(_-(if some x=some p then (1:Int) else 0))
   have h2:(if some x=some p then (1:Int) else 0)=if x=p then 1 else 0:=by by_cases z:x=p <;> simp [z]
   rw [h2]
   omega
def WF (X:List Pl):Prop:=X.Pairwise LL
def JX (ss:List B4):Int->List Pl->Prop
 | _, [] =>True
 | c,p::r=>(Hn ss p:Int)=c+cnt ss p/\JX ss (Hn ss p) r
theorem Uf {α:Type} (f g:α->Int):∀xs:List α,(xs.map λx=>f x+g x).sum=(xs.map f).sum+(xs.map g).sum
 | [] =>rfl
 | x::xs=>by simp only [List.map_cons,List.sum_cons,Uf f g xs];omega
theorem MC {B:Nat} {ss:List B4} (ok:∀s∈ss,Ez B s):∀(X:List Pl) (o:Option Pl),WF X->(∀p∈X,j1 o p/\0<=p.2)->(∀s∈ss,(RF (bp s) o=true\/bp s∈X)/\∀x,ep s=some x->RF x o=true\/x∈X)->JX ss ((ss.map λs=>aA s o).sum) X
 | [],_,_,_,_=>True.intro
 | p::r,o,hs,ho,hk=>by
   obtain ⟨h1,h2⟩:=List.pairwise_cons.mp hs
   obtain ⟨op,p0⟩:=ho p (by simp)
   have cls:∀x,(RF x o=true\/x∈p::r)->RF x o=true\/x=p\/LL p x:=λx h=>by
    rcases h with h|h
    ·exact .inl h
    ·rcases List.mem_cons.mp h with h|h
     ·exact .inr (.inl h)
     ·exact .inr (.inr (h1 x h))
   have e:(Hn ss p:Int)=(ss.map λs=>aA s o).sum+cnt ss p:=by
    rw [SY p0 ok]
    unfold cnt
    rw [<-Uf]
    congr 1
    apply List.map_congr_left
    intro s hs
    exact aB (cls _ (hk s hs).1) (λx ex=>cls x ((hk s hs).2 x ex)) op
   refine ⟨e, ?_⟩
   have:=MC ok r (some p) h2 (λq hq=>⟨h1 q hq,(ho q (by simp [hq])).2⟩) (λs hs=>⟨?_,λx ex=> ?_⟩)
   ·rw [show (ss.map λs=>aA s (some p)).sum=(Hn ss p:Int) from (SY p0 ok).symm] at this
    exact this
   ·rcases cls _ (hk s hs).1 with z|z|z
    ·exact .inl (by rw [show RF (bp s) (some p)=NC (bp s) p from rfl,(Iz (.inl z) op).1,z];rfl)
    ·exact .inl (GE.mpr (.inr z))
    ·rcases (hk s hs).1 with y|y
     ·exact .inl (by rw [show RF (bp s) (some p)=NC (bp s) p from rfl,(Iz (.inl y) op).1,y];rfl)
     ·rcases List.mem_cons.mp y with y|y
      ·exact .inl (GE.mpr (.inr y))
      ·exact .inr y
   ·rcases (hk s hs).2 x ex with y|y
    ·exact .inl (by rw [show RF x (some p)=NC x p from rfl,(Iz (.inl y) op).1,y];rfl)
    ·rcases List.mem_cons.mp y with y|y
     ·exact .inl (GE.mpr (.inr y))
     ·exact .inr y
def places (qs:List Rat):List Pl:=qs.flatMap λq=> [(q,0),(q,1)]
theorem Bc {qs:List Rat} {p:Pl}:p∈places qs↔p.1∈qs/\(p.2=0\/p.2=1):=by
 obtain ⟨a,i⟩:=p
 unfold places
 simp only [List.mem_flatMap,List.mem_cons,List.not_mem_nil,or_false,Prod.mk.injEq]
 constructor
 ·rintro ⟨q,hq,⟨rfl,rfl⟩|⟨rfl,rfl⟩⟩
  ·exact ⟨hq, .inl rfl⟩
  ·exact ⟨hq, .inr rfl⟩
 ·rintro ⟨h,h2⟩
  exact ⟨a,h,h2.elim (λz=> .inl ⟨rfl,z⟩) (λz=> .inr ⟨rfl,z⟩)⟩
theorem EM:∀{qs:List Rat},QJ qs->WF (places qs)
 | [],_=>List.Pairwise.nil
 | q::r,h=>by
   obtain ⟨h1,h2⟩:=List.pairwise_cons.mp h
   have ih:=EM h2
   have lt:∀(i:Int),∀p∈places r,LL (q,i) p:=λi p hp=> .inl (h1 _ (Bc.mp hp).1)
   show WF ((q,0)::(q,1)::places r)
   refine List.pairwise_cons.mpr ⟨λp hp=> ?_,List.pairwise_cons.mpr ⟨lt 1,ih⟩⟩
   rcases List.mem_cons.mp hp with rfl|hp
   ·exact .inr ⟨rfl,by show (0:Int)<1;decide⟩
   ·exact lt 0 p hp
def DL (ss:List B4):List Rat:=ss.flatMap λs=>s.1::s.2.2.toList
def Dx (ss:List B4):List Pl:=places (C3 (DL ss))
theorem MM {B:Nat} {ss:List B4} (ok:∀s∈ss,Ez B s) {s:B4} (hs:s∈ss):bp s∈Dx ss/\∀x,ep s=some x->x∈Dx ss:=by
 refine ⟨Bc.mpr ⟨CN.mpr (List.mem_flatMap.mpr ⟨s,hs,by simp [bp]⟩), ?_⟩,λx ex=> ?_⟩
 ·have:=(ok s hs).h;unfold bp;simp only;omega
 ·obtain ⟨e,he,rfl⟩:=Option.map_eq_some_iff.mp ex
  exact Bc.mpr ⟨CN.mpr (List.mem_flatMap.mpr ⟨s,hs,by simp [he]⟩), .inl rfl⟩
theorem Qp {B:Nat} {ss:List B4} (ok:∀s∈ss,Ez B s):JX ss 0 (Dx ss):=by
 have h:=MC ok (Dx ss) none (EM Ci) (λp hp=>⟨True.intro,by rcases (Bc.mp hp).2 with z|z <;> omega⟩) (λs hs=>⟨.inr (MM ok hs).1,λx ex=> .inr ((MM ok hs).2 x ex)⟩)
 have:(ss.map λs=>aA s none).sum=0:=by
  clear h ok
  induction ss with
  | nil=>rfl
  | cons s ss ih=>
    rw [List.map_cons,List.sum_cons,ih]
    unfold aA
    cases ep s <;> rfl
 rw [this] at h
 exact h
section
variable {ta tb td:AE} {r:AA} {τ:BG} {Q:PV->Prop} {QL:List PV->Prop} {m:List (FK×Int)}
class o6 (m:List (FK×Int)) (k:FK) (i:outParam Int):Prop where
 e:kQ m k=some i
end
def un (k:FK):Rat:=mkRat k.1.1 k.1.2.toNat
def stepI (st:List B4×Option Pl) (x:Pl×Bool):List B4×Option Pl:=
 match st.2,x.2 with
 | none,true=>(st.1,some x.1)
 | some b,false=>(st.1 ++ [(b.1,1-b.2,some x.1.1)],none)
 | _,_=>st
def Qs (st:List B4×Option Pl):List B4:=match st.2 with | none=>st.1|some b=>st.1 ++ [(b.1,1-b.2,none)]
def Me (X:List (Pl×Bool)):List B4:=Qs (X.foldl stepI ([],none))
theorem OI:∀{ss:List B4},(DL ss).length<=2*ss.length
 | [] =>by simp [DL]
 | s::ss=>by
   have ih:=OI (ss:=ss)
   unfold DL at *
   rw [List.flatMap_cons,List.length_append,List.length_cons,List.length_cons]
   have:s.2.2.toList.length<=1:=by cases s.2.2 <;> simp
   omega
theorem Mb:∀{qs:List Rat},(places qs).length=2*qs.length
 | [] =>rfl
 | q::qs=>by
   have ih:=Mb (qs:=qs)
   unfold places at *
   rw [List.flatMap_cons,List.length_append,ih,List.length_cons];simp;omega
def Rz (In key:Pl->Bool):Bool->List Pl->Prop
 | _, [] =>True
 | c,p::r=>(key p=false->In p=c)/\Rz In key (In p) r
theorem TH {st:List B4×Option Pl} {p:Pl} {i:Bool}:(stepI st (p,i)).2.isSome=i:=by
 obtain ⟨L,b⟩:=st
 cases b <;> cases i <;> rfl
theorem TF {st:List B4×Option Pl} {p:Pl} {i:Bool} (h:i=st.2.isSome):stepI st (p,i)=st:=by
 obtain ⟨L,b⟩:=st
 cases b <;> cases i <;> first | rfl|cases h
theorem Jw {In key:Pl->Bool}:∀(X:List Pl) (st:List B4×Option Pl),Rz In key st.2.isSome X->(X.map λp=>(p,In p)).foldl stepI st=((X.filter key).map λp=>(p,In p)).foldl stepI st
 | [],st,_=>rfl
 | p::r,st,h=>by
   rw [List.map_cons,List.foldl_cons,List.filter_cons]
   cases k:key p with
   | true=>
     rw [if_pos rfl,List.map_cons,List.foldl_cons]
     exact Jw r _ (by rw [TH];exact h.2)
   | false=>
     have e:=h.1 k
     rw [if_neg (by decide),TF e]
     exact Jw r st (by have:=h.2;rw [e] at this;exact this)
theorem Mu {ss:List B4} {key:Pl->Bool} {n:Int} (hk:∀p,key p=false->cnt ss p=0):∀(X:List Pl) (c:Int),JX ss c X->Rz (λp=>decide (n<=(Hn ss p:Int))) key (decide (n<=c)) X
 | [],_,_=>True.intro
 | p::r,c,h=>⟨λk=>(by show decide (n<=(Hn ss p:Int))=_;rw [h.1,hk p k,Int.add_zero]),Mu hk r _ h.2⟩
def canon (n:Int) (ss:List B4):List B4:=Me ((Dx ss).map λp=>(p,decide (n<=(Hn ss p:Int))))
theorem WU {ss:List B4} {p:Pl} (h:¬fy ss p):cnt ss p=0:=by
 have key:∀ss:List B4,(∀s∈ss,¬(bp s=p\/ep s=some p))->cnt ss p=0:=by
  intro ss
  induction ss with
  | nil=>intro _;rfl
  | cons s ss ih=>
    intro h
    have h1:=h s (by simp)
    have e:cnt (s::ss) p=RN s p+cnt ss p:=by simp [cnt]
    rw [e,ih λx hx=>h x (by simp [hx])]
    unfold RN
    rw [if_neg λz=>h1 (.inl z),if_neg λz=>h1 (.inr z)]
    rfl
 exact key ss λs hs z=>h ⟨s,hs,z⟩
theorem MK {ss:List B4} {p:Pl}:decide ((1:Int)<=(Hn ss p:Int))=ss.any (CT · p):=by
 rw [Bool.eq_iff_iff,decide_eq_true_iff,List.any_eq_true]
 unfold Hn
 constructor
 ·intro h
  obtain ⟨s,hs⟩:=List.exists_mem_of_length_pos (l:=ss.filter (CT · p)) (by omega)
  have:=List.mem_filter.mp hs
  exact ⟨s,this.1,this.2⟩
 ·rintro ⟨s,hs,h⟩
  have:=List.length_pos_of_mem (List.mem_filter.mpr ⟨hs,h⟩:s∈ss.filter (CT · p))
  omega
def Dr (In:Pl->Bool):List Pl->Option Pl->List B4
 | [],none=> []
 | [],some b=> [(b.1,1-b.2,none)]
 | p::r,none=>if In p=true then Dr In r (some p) else Dr In r none
 | p::r,some b=>if In p=true then Dr In r (some b) else (b.1,1-b.2,some p.1)::Dr In r none
theorem Md {In:Pl->Bool}:∀(X:List Pl) (acc:List B4) (b:Option Pl),Qs ((X.map λp=>(p,In p)).foldl stepI (acc,b))=acc++Dr In X b
 | [],acc,none=>by simp [Qs,Dr]
 | [],acc,some b=>by simp [Qs,Dr]
 | p::r,acc,none=>by
   rw [List.map_cons,List.foldl_cons]
   unfold Dr
   cases e:In p with
   | true=>exact Md r acc (some p)
   | false=>exact Md r acc none
 | p::r,acc,some b=>by
   rw [List.map_cons,List.foldl_cons]
   unfold Dr
   cases e:In p with
   | true=>exact Md r acc (some b)
   | false=>
     show Qs ((r.map λp=>(p,In p)).foldl stepI (acc ++ [(b.1,1-b.2,some p.1)],none))=acc++((b.1,1-b.2,some p.1)::Dr In r none)
     rw [Md r _ none];simp
theorem OM {In:Pl->Bool} {X:List Pl}:Me (X.map λp=>(p,In p))=Dr In X none:=by
 unfold Me;rw [Md];rfl
theorem LJ {q p:Pl} {e:Option Rat} (hq:q.2=0\/q.2=1) (hp:0<=p.2):CT (q.1,1-q.2,e) p=(NC q p&&(match e with | none=>true|some e=>decide (p.1<e))):=by
 unfold CT NC
 congr 2
 congr 1
 exact decide_eq_decide.mpr (by show 0<1-q.2+p.2↔q.2<=p.2;omega)
def JZ (In:Pl->Bool):Bool->List Pl->Prop
 | _, [] =>True
 | c,p::r=>(c=true->In p=false->p.2=0)/\JZ In (In p) r
theorem UK {In:Pl->Bool}:∀(X:List Pl),WF X->(∀x∈X,x.2=0\/x.2=1)->
 (JZ In false X->(∀p:Pl,0<=p.2->(∀x∈X,LL p x)->(Dr In X none).any (CT · p)=false)/\∀p∈X,(Dr In X none).any (CT · p)=In p)/\
 (JZ In true X->∀q:Pl,(q.2=0\/q.2=1)->(∀x∈X,LL q x)->(∀p:Pl,0<=p.2->(∀x∈X,LL p x)->(Dr In X (some q)).any (CT · p)=NC q p)/\∀p∈X,(Dr In X (some q)).any (CT · p)=In p)
 | [],_,_=>⟨λ_=>⟨λp _ _=>rfl,λp hp=>by cases hp⟩,λ_ q hq _=>⟨λp hp _=>by show (CT (q.1,1-q.2,none) p||false)=_;rw [LJ hq hp];simp,λp hp=>by cases hp⟩⟩
 | x::r,hs,SN=>by
   obtain ⟨h1,h2⟩:=List.pairwise_cons.mp hs
   have ih:=UK (In:=In) r h2 λy hy=>SN y (by simp [hy])
   have x01:=SN x (by simp)
   have x0:0<=x.2:=by omega
   have lr:∀p:Pl,(∀y∈x::r,LL p y)->∀y∈r,LL p y:=λp h y hy=>h y (by simp [hy])
   have nl:∀p:Pl,LL p x->NC x p=false:=λp h=>by
    rw [<-Bool.not_eq_true,GE]
    rintro (z|z)
    ·exact LM (Jj z h)
    ·rw [z] at h;exact LM h
   have lx:NC x x=true:=GE.mpr (.inr rfl)
   refine ⟨λhd=> ?_,λhd q hq mJ=> ?_⟩
   ·unfold Dr
    cases e:In x with
    | true=>
      have d2:=hd.2;rw [e] at d2
      obtain ⟨a1,a2⟩:=ih.2 d2 x x01 h1
      rw [if_pos rfl]
      refine ⟨λp p0 hp=> ?_,λp hp=> ?_⟩
      ·rw [a1 p p0 (lr p hp),nl p (hp x (by simp))]
      ·rcases List.mem_cons.mp hp with rfl|hp
       ·rw [a1 p x0 h1,lx,e]
       ·exact a2 p hp
    | false=>
      have d2:=hd.2;rw [e] at d2
      obtain ⟨a1,a2⟩:=ih.1 d2
      rw [if_neg (by decide)]
      refine ⟨λp p0 hp=>a1 p p0 (lr p hp),λp hp=> ?_⟩
      rcases List.mem_cons.mp hp with rfl|hp
      ·rw [a1 p x0 h1,e]
      ·exact a2 p hp
   ·unfold Dr
    have qx:NC q x=true:=GE.mpr (.inl (mJ x (by simp)))
    cases e:In x with
    | true=>
      have d2:=hd.2;rw [e] at d2
      obtain ⟨a1,a2⟩:=ih.2 d2 q hq (lr q mJ)
      rw [if_pos rfl]
      refine ⟨λp p0 hp=>a1 p p0 (lr p hp),λp hp=> ?_⟩
      rcases List.mem_cons.mp hp with rfl|hp
      ·rw [a1 p x0 h1,qx,e]
      ·exact a2 p hp
    | false=>
      have d2:=hd.2;rw [e] at d2
      obtain ⟨a1,a2⟩:=ih.1 d2
      have xz:=hd.1 rfl e
      rw [if_neg (by decide)]
      have off:∀p:Pl,(p=x\/LL x p)->¬p.1<x.1:=λp h=>by
       rcases h with h|h|⟨h,_⟩ <;> grind
      refine ⟨λp p0 hp=> ?_,λp hp=> ?_⟩
      ·have lt:p.1<x.1:=by
        rcases hp x (by simp) with z|⟨_,z⟩
        ·exact z
        ·omega
       show (CT (q.1,1-q.2,some x.1) p||(Dr In r none).any (CT · p))=_
       rw [LJ hq p0,a1 p p0 (lr p hp)]
       simp [lt]
      ·show (CT (q.1,1-q.2,some x.1) p||(Dr In r none).any (CT · p))=_
       rcases List.mem_cons.mp hp with rfl|hp
       ·rw [LJ hq x0,a1 p x0 h1,e]
        simp [off p (.inl rfl)]
       ·rw [LJ hq (by have:=SN p (by simp [hp]);omega),a2 p hp]
        simp [off p (.inr (h1 p hp))]
theorem RU {In:Pl->Bool} (P:Rat->Prop):∀(X:List Pl) (b:Option Pl),WF X->(∀x∈X,(x.2=0\/x.2=1)/\P x.1)->JZ In b.isSome X->(∀q,b=some q->(q.2=0\/q.2=1)/\P q.1/\∀x∈X,LL q x)->
 ∀s∈Dr In X b,P s.1/\(s.2.1=0\/s.2.1=1)/\∀e,s.2.2=some e->s.1<e/\P e
 | [],none,_,_,_,_=>λs hs=>by cases hs
 | [],some q,_,_,_,hb=>λs hs=>by
   obtain ⟨h1,h2,_⟩:=hb q rfl
   simp only [Dr,List.mem_singleton] at hs
   subst hs
   exact ⟨h2,by show 1-q.2=0\/1-q.2=1;omega,λe he=>by cases he⟩
 | x::r,b,hs,SN,hd,hb=>by
   obtain ⟨h1,h2⟩:=List.pairwise_cons.mp hs
   have ih:=λb d hb=>RU (In:=In) P r b h2 (λy hy=>SN y (by simp [hy])) d hb
   have d2:=hd.2
   cases b with
   | none=>
     unfold Dr
     cases e:In x with
     | true=>
       rw [if_pos rfl]
       rw [e] at d2
       exact ih (some x) d2 λq hq=>by cases hq;exact ⟨(SN x (by simp)).1,(SN x (by simp)).2,h1⟩
     | false=>
       rw [if_neg (by decide)]
       rw [e] at d2
       exact ih none d2 λq hq=>by cases hq
   | some q=>
     obtain ⟨q1,q2,q3⟩:=hb q rfl
     unfold Dr
     cases e:In x with
     | true=>
       rw [if_pos rfl]
       rw [e] at d2
       exact ih (some q) d2 λq' hq=>by cases hq;exact ⟨q1,q2,λy hy=>q3 y (by simp [hy])⟩
     | false=>
       rw [if_neg (by decide)]
       rw [e] at d2
       have xz:=hd.1 rfl e
       intro s hs
       rcases List.mem_cons.mp hs with rfl|hs
       ·refine ⟨q2,by show 1-q.2=0\/1-q.2=1;omega,λe' he=> ?_⟩
        cases he
        refine ⟨?_,(SN x (by simp)).2⟩
        rcases q3 x (by simp) with z|⟨_,z⟩
        ·exact z
        ·omega
       ·exact ih none d2 (λq hq=>by cases hq) s hs
theorem HN {ss:List B4}:∀(X:List Pl) (c:Int),(∀x∈X,x.2=0\/x.2=1)->JX ss c X->JZ (λp=>ss.any (CT · p)) (decide (1<=c)) X
 | [],_,_,_=>True.intro
 | p::r,c,SN,h=>by
   have ih:=HN r (Hn ss p) (λx hx=>SN x (by simp [hx])) h.2
   rw [MK] at ih
   refine ⟨λhc hi=> ?_,ih⟩
   rcases SN p (by simp) with z|z
   ·exact z
   ·have hc:1<=c:=by simpa using hc
    have hi:ss.any (CT · p)=false:=hi
    rw [<-MK] at hi
    have hi:¬(1:Int)<=Hn ss p:=by simpa using hi
    have c0:0<=cnt ss p:=by
     have go:∀ss:List B4,0<=cnt ss p:=by
      intro ss
      induction ss with
      | nil=>exact Int.le_refl _
      | cons s ss ih=>
        have e:cnt (s::ss) p=RN s p+cnt ss p:=by simp [cnt]
        have o:0<=RN s p:=by
         unfold RN
         have:¬ep s=some p:=λy=>by
          obtain ⟨e',_,e2⟩:=Option.map_eq_some_iff.mp y
          have:(0:Int)=p.2:=congrArg Prod.snd e2
          omega
         rw [if_neg this]
         split <;> decide
        omega
     exact go ss
    have:=h.1
    omega
theorem Ub {ss:List B4}:∀x∈Dx ss,x.2=0\/x.2=1:=λx hx=>(Bc.mp hx).2
theorem U8 {ss:List B4}:canon 1 ss=Dr (λp=>ss.any (CT · p)) (Dx ss) none:=by
 unfold canon
 rw [<-OM]
 congr 1
 apply List.map_congr_left
 intro p _
 rw [MK]
theorem TD {ss:List B4} {B:Nat} (ok:∀s∈ss,Ez B s):JZ (λp=>ss.any (CT · p)) false (Dx ss):=HN (Dx ss) 0 Ub (Qp ok)
theorem R7 {ss:List B4} {B:Nat} (ok:∀s∈ss,Ez B s):∀s∈canon 1 ss,s.1∈DL ss/\(s.2.1=0\/s.2.1=1)/\∀e,s.2.2=some e->s.1<e/\e∈DL ss:=by
 rw [U8]
 exact RU (· ∈DL ss) (Dx ss) none (EM Ci) (λx hx=>⟨Ub x hx,CN.mp (Bc.mp hx).1⟩) (TD ok) λq hq=>by cases hq
theorem T9 {ss:List B4} {B:Nat} (ok:∀s∈ss,Ez B s):∀x∈DL ss,Bd B x:=λx h=>by
 obtain ⟨s,hs,hx⟩:=List.mem_flatMap.mp h
 rcases List.mem_cons.mp hx with rfl|hx
 ·exact (ok s hs).b
 ·exact ((ok s hs).e x (by simpa using hx)).2
theorem WR {ss:List B4} {B:Nat} (ok:∀s∈ss,Ez B s):∀s∈canon 1 ss,Ez B s:=λs hs=>by
 obtain ⟨h1,h2,h3⟩:=R7 ok s hs
 exact ⟨T9 ok _ h1,h2,λe he=>⟨(h3 e he).1,T9 ok _ (h3 e he).2⟩⟩
theorem G1 (f:Rat->Bool):∀qs:List Rat,(places qs).filter (λp=>f p.1)=places (qs.filter f)
 | [] =>rfl
 | q::qs=>by
   show ((q,0)::(q,1)::places qs).filter (λp=>f p.1)=_
   rw [List.filter_cons,List.filter_cons,List.filter_cons,G1 f qs]
   cases f q <;> rfl
theorem N5:∀{qs:List Rat} {x:Rat},QJ qs->At qs x (qs.filter λq=>decide (q<x)).length
 | [],x,_=>⟨Nat.le_refl _,by simp,by simp⟩
 | q::r,x,h=>by
   obtain ⟨h1,h2⟩:=List.pairwise_cons.mp h
   obtain ⟨a1,a2,a3⟩:=N5 (x:=x) h2
   rw [List.filter_cons]
   by_cases e:q<x
   ·rw [if_pos (decide_eq_true e),List.length_cons]
    refine ⟨by rw [List.length_cons];omega,λy hy=> ?_,λy hy=>a3 y (by simpa using hy)⟩
    rw [List.take_succ_cons] at hy
    rcases List.mem_cons.mp hy with rfl|hy
    ·exact e
    ·exact a2 y hy
   ·have hn:∀y∈q::r,¬y<x:=λy hy=>by
     rcases List.mem_cons.mp hy with rfl|hy
     ·exact e
     ·have:=h1 y hy;grind
    have hf:r.filter (λq=>decide (q<x))= [] :=List.filter_eq_nil_iff.mpr λy hy=>by simpa using hn y (by simp [hy])
    rw [if_neg (by simpa using e),hf]
    exact ⟨Nat.zero_le _,by simp,λy hy=>hn y (by simpa using hy)⟩
def TC (sets:List (List B4)):List Pl:=places (C3 (DL sets.flatten))
def nS (sets:List (List B4)) (p:Pl):Nat:=(sets.filter λss=>ss.any (CT · p)).length
def fK (n:Int) (sets:List (List B4)):List B4:=Me ((TC sets).map λp=>(p,decide (n<=(nS sets p:Int))))
theorem IG {ss:List B4}:fK 1 [ss] =canon 1 ss:=by
 unfold fK canon
 have e1:TC [ss] =Dx ss:=by unfold TC Dx;simp
 rw [e1]
 congr 1
 apply List.map_congr_left
 intro p _
 rw [MK]
 unfold nS
 rw [List.filter_cons]
 cases ss.any (CT · p) <;> rfl
def Cw (ms:List Rat) (ss:List B4):List Pl:=places (C3 (ms++DL ss))
theorem ID {B:Nat} {ms:List Rat} {ss:List B4} (ok:∀s∈ss,Ez B s):JX ss 0 (Cw ms ss):=by
 have kin:∀s∈ss,bp s∈Cw ms ss/\∀x,ep s=some x->x∈Cw ms ss:=λs hs=>by
  obtain ⟨h1,h2⟩:=MM ok hs
  have up:∀x∈Dx ss,x∈Cw ms ss:=λx hx=>by
   obtain ⟨a,b⟩:=Bc.mp hx
   exact Bc.mpr ⟨CN.mpr (List.mem_append_right _ (CN.mp a)),b⟩
  exact ⟨up _ h1,λx ex=>up _ (h2 x ex)⟩
 have h:=MC ok (Cw ms ss) none (EM Ci) (λp hp=>⟨True.intro,by rcases (Bc.mp hp).2 with z|z <;> omega⟩) (λs hs=>⟨.inr (kin s hs).1,λx ex=> .inr ((kin s hs).2 x ex)⟩)
 have z:(ss.map λs=>aA s none).sum=0:=by
  clear h kin ok
  induction ss with
  | nil=>rfl
  | cons s ss ih=>
    rw [List.map_cons,List.sum_cons,ih]
    unfold aA
    cases ep s <;> rfl
 rw [z] at h
 exact h
theorem R6 {B:Nat} {ms:List Rat} {ss:List B4} {n:Int} (ok:∀s∈ss,Ez B s) (hn:0<n):Me ((Cw ms ss).map λp=>(p,decide (n<=(Hn ss p:Int))))=canon n ss:=by
 have hk:∀p:Pl,decide (p.1∈DL ss)=false->cnt ss p=0:=λp hp=>WU λ⟨s,hs,z⟩=>by
  have hp:¬p.1∈DL ss:=by simpa using hp
  refine hp (List.mem_flatMap.mpr ⟨s,hs, ?_⟩)
  rcases z with z|z
  ·rw [<-z];simp [bp]
  ·obtain ⟨e',he,rfl⟩:=Option.map_eq_some_iff.mp z
   simp [he]
 have sk:=Mu (n:=n) (ss:=ss) (key:=λp=>decide (p.1∈DL ss)) hk (Cw ms ss) 0 (ID ok)
 rw [decide_eq_false (by omega)] at sk
 have h:=Jw (Cw ms ss) ([],none) sk
 have e1:(Cw ms ss).filter (λp=>decide (p.1∈DL ss))=Dx ss:=by
  unfold Cw Dx
  rw [G1 (λx=>decide (x∈DL ss))]
  congr 1
  refine QD (Ci.filter _) Ci λx=> ?_
  rw [List.mem_filter,CN,CN,decide_eq_true_iff]
  exact ⟨λh=>h.2,λh=>⟨List.mem_append_right _ h,h⟩⟩
 rw [e1] at h
 show Qs _=Qs _
 rw [h]
theorem Qm {B:Nat} {ss:List B4} (ok:∀s∈ss,Ez B s) {p:Pl} (hp:p.2=0\/p.2=1):(canon 1 ss).any (CT · p)=ss.any (CT · p):=by
 have hm:p∈Cw [p.1] ss:=Bc.mpr ⟨CN.mpr (by simp),hp⟩
 have SN:∀x∈Cw [p.1] ss,x.2=0\/x.2=1:=λx hx=>(Bc.mp hx).2
 have dr:=HN (Cw [p.1] ss) 0 SN (ID ok)
 have e:canon 1 ss=Dr (λp=>ss.any (CT · p)) (Cw [p.1] ss) none:=by
  rw [<-R6 (ms:= [p.1]) ok (by decide),<-OM]
  congr 1
  apply List.map_congr_left
  intro q _
  rw [MK]
 rw [e]
 exact ((UK (Cw [p.1] ss) (EM Ci) SN).1 dr).2 p hm
def hN (L:List B4) (p:Pl):Nat:=(L.filter (CT · p)).length
theorem jO (xs:List PV):Gk xs (some 1) none=xs.drop 1:=by
 unfold Gk
 rw [HT.sIx_none,show ((1:Int))=((1:Nat):Int) from rfl,HT.sIx_nat]
 cases xs with
 | nil=>rfl
 | cons x xs=>
   rw [Nat.min_eq_left (by simp)]
   simp
theorem dz (a b:List Rat):Dv (a.map fr) (b.map fr)=(a.zip b).map λp=> .tup [fr p.1,fr p.2] :=by
 unfold Dv
 rw [List.zipWith_map,List.zip,List.map_zipWith]
theorem MF:∀(X:List (Pl×Bool)) (st:List B4×Option Pl),2*(X.foldl stepI st).1.length+(if (X.foldl stepI st).2.isSome then 1 else 0)<=2*st.1.length+(if st.2.isSome then 1 else 0)+X.length
 | [],st=>Nat.le_refl _
 | x::X,st=>by
   have h1:=MF X (stepI st x)
   have h2:2*(stepI st x).1.length+(if (stepI st x).2.isSome then 1 else 0)<=2*st.1.length+(if st.2.isSome then 1 else 0)+1:=by
    obtain ⟨L,b⟩:=st
    obtain ⟨p,c⟩:=x
    cases b <;> cases c <;> simp [stepI] <;> omega
   rw [List.foldl_cons,List.length_cons];omega
theorem Vm (X:List (Pl×Bool)):2*(Me X).length<=X.length+1:=by
 have h:=MF X ([],none)
 unfold Me
 generalize X.foldl stepI ([],none)=st at *
 obtain ⟨L,b⟩:=st
 cases b <;> simp [Qs] at * <;> omega
theorem R5 {n:Int} {ss:List B4}:(canon n ss).length<=2*ss.length:=by
 unfold canon Dx
 have h:=Vm ((places (C3 (DL ss))).map λp=>(p,decide (n<=(Hn ss p:Int))))
 have a1:=IU (xs:=DL ss)
 have a2:=OI (ss:=ss)
 have a3:=Mb (qs:=C3 (DL ss))
 rw [List.length_map] at h
 omega
inductive Qg:List PV->List (List B4)->Prop where
 | nil:Qg [] []
 | cons {x:PV} {xs:List PV} {ss:List B4} {r:List PV} {rs:List (List B4)} (h:x= .tup xs\/x= .lst xs) (hr:N2 xs ss) (t:Qg r rs):Qg (x::r) (ss::rs)
theorem Qg.length:∀{xs:List PV} {ss:List (List B4)},Qg xs ss->xs.length=ss.length
 | _,_, .nil=>rfl
 | _,_, .cons _ _ t=>by simp [t.length]
theorem lt_size {k n:Nat} (h:k<=n) (hn:n<1000000):k<sizeLine:=Nat.lt_of_le_of_lt h (Nat.lt_of_lt_of_le hn (Nat.le_of_ble_eq_true rfl))
def lin (p q:T3) (s:Rat):T3:=(p.1+s*(q.1-p.1),p.2.1+s*(q.2.1-p.2.1),p.2.2+s*(q.2.2-p.2.2))
theorem cU {a0 D b e m x X:Rat} (hD:D≠0) (h:e-b≠0):x+(m-a0)/D*X=(x+(b-a0)/D*X)+(m-b)/(e-b)*((x+(e-a0)/D*X)-(x+(b-a0)/D*X)):=by
 grind
theorem VR {a c:C4} {b e m:Rat} (h1:a.1<c.1) (h2:b<e):inter a c m=lin (inter a c b) (inter a c e) ((m-b)/(e-b)):=by
 have n1:c.1-a.1≠0:=by grind
 have n2:e-b≠0:=by grind
 simp only [inter,lin]
 rw [<-cU n1 n2,<-cU n1 n2,<-cU n1 n2]
theorem XF (p q:T3):lin p q 0=p:=by
 obtain ⟨a,b,c⟩:=p
 simp [lin,Rat.zero_mul,Rat.add_zero]
theorem Jz {b e m:Rat} {p q:T3} (Tq:b<e) (h1:b<=m) (h2:m<=e):∀{a:C4} {r:List C4},Ku (a::r)->(∀c∈r,¬(b<c.1/\c.1<e))->spotG a r b=some p->spotG a r e=some q->spotG a r m=some (lin p q ((m-b)/(e-b)))
 | a, [],_,_,hp,_=>by cases hp
 | a,c::r,hr,hn,hp,hq=>by
   have jV:=(List.pairwise_cons.mp hr).1 c (by simp)
   have aY:Ku (c::r):=(List.pairwise_cons.mp hr).2
   by_cases k1:c.1<b
   ·simp only [spotG] at hp hq ⊢
    rw [if_pos k1] at hp
    rw [if_pos (by grind)] at hq ⊢
    exact Jz Tq h1 h2 aY (λx hx=>hn x (by simp [hx])) hp hq
   ·simp only [spotG] at hp hq ⊢
    rw [if_neg k1] at hp
    by_cases k2:b=c.1
    ·subst k2
     rw [ML jV] at hp
     cases hp
     by_cases k3:c.1<m
     ·rw [if_pos k3]
      rw [if_pos (by grind)] at hq
      refine Jz Tq h1 h2 aY (λx hx=>hn x (by simp [hx])) ?_ hq
      cases r with
      | nil=>cases hq
      | cons d r=>
        have NB:=(List.pairwise_cons.mp aY).1 d (by simp)
        simp only [spotG]
        rw [if_neg (by grind),Q9 NB]
     ·have e1:m=c.1:=by grind
      subst e1
      rw [if_neg k3,ML jV]
      have z:(c.1-c.1)/(e-c.1)=0:=by grind
      rw [z,XF]
    ·have k4:¬c.1<e:=λz=>hn c (by simp) ⟨by grind,z⟩
     cases hp
     rw [if_neg k4] at hq
     cases hq
     rw [if_neg (by grind)]
     rw [<-VR jV Tq]
theorem OW {b e m:Rat} {p q:T3} {cs:List C4} (hr:Ku cs) (Tq:b<e) (h1:b<=m) (h2:m<=e) (hn:∀c∈cs,¬(b<c.1/\c.1<e)) (hp:spotC cs b=some p) (hq:spotC cs e=some q):spotC cs m=some (lin p q ((m-b)/(e-b))):=by
 cases cs with
 | nil=>cases hp
 | cons a r=>
   simp only [spotC] at hp hq ⊢
   by_cases k:b<a.1
   ·rw [if_pos k] at hp;cases hp
   ·rw [if_neg k] at hp
    rw [if_neg (by grind)] at hq ⊢
    exact Jz Tq h1 h2 hr (λc hc=>hn c (by simp [hc])) hp hq
theorem Ez.mono {B C:Nat} {s:B4} (h:Ez B s) (k:B<=C):Ez C s:=⟨h.b.mono k,h.h,λe he=>⟨(h.e e he).1,(h.e e he).2.mono k⟩⟩
section
variable {B:Nat} {s:B4} {a:List B4} {e:Rat}
end
abbrev HB:AS:=
 (Ad (E2 (NU (aV 0)) (NT 2 (Aq (A0 2) (Aq (A0 3) Cg))) (Uu 1 CY (AX O0 (aV 3) (AN 2 F4 (AB (aV 1) (AB (aV 3) AL))))))
   (Ay (aV 1)))
abbrev Fc:AS:=
 (Ad (As (aC (.int 1)) (A0 1))
   HB)
def B3:AF:=Ax 4 Fc
theorem IY {x0:PV} {Q:PV->Prop} (h:Fc ⟨λ_=>Q .non,Q,λ_=>False,λ_=>False⟩ [some (.val x0),none,none,none]):B3 [x0] Q:=h
def Rg (xs:List Rat):Nat:=xs.foldl (λN r=>N*(r.den/Nat.gcd N r.den)) 1
theorem UT (xs:List Rat) (r:Rat):Rg (xs ++ [r])=Rg xs*(r.den/Nat.gcd (Rg xs) r.den):=by unfold Rg;rw [List.foldl_append];rfl
theorem Zz {N d:Nat} (hN:0<N) (hd:0<d):0<N*(d/Nat.gcd N d)/\N ∣ N*(d/Nat.gcd N d)/\d ∣ N*(d/Nat.gcd N d)/\N*(d/Nat.gcd N d)<=N*d:=by
 have g:Nat.gcd N d ∣ d:=Nat.gcd_dvd_right ..
 have gp:0<Nat.gcd N d:=Nat.gcd_pos_of_pos_right _ hd
 refine ⟨Nat.mul_pos hN (Nat.div_pos (Nat.le_of_dvd hd g) gp),Nat.dvd_mul_right .., ?_,Nat.mul_le_mul_left _ (Nat.div_le_self ..)⟩
 rw [<-Nat.mul_div_assoc _ g]
 exact Nat.dvd_lcm_right ..
theorem Px {W:Nat}:∀(n:Nat) (xs:List Rat),xs.length=n->(∀x∈xs,Bd W x)->0<Rg xs/\(∀x∈xs,x.den ∣ Rg xs)/\Rg xs<2^(n*W+1)
 | 0,xs,e,_=>by
   have:xs= [] :=List.length_eq_zero_iff.mp e
   subst this
   exact ⟨by decide,by simp,by simp [Rg]⟩
 | n+1,xs,e,h=>by
   obtain ⟨ys,r,rfl⟩:∃ys r,xs=ys ++ [r] :=⟨xs.dropLast,xs.getLast (by intro z;subst z;cases e),(List.dropLast_concat_getLast _).symm⟩
   have el:ys.length=n:=by simpa using e
   obtain ⟨h1,h2,h3⟩:=Px n ys el λx hx=>h x (by simp [hx])
   have br:=(h r (by simp)).bot
   rw [UT]
   obtain ⟨k1,k2,k3,k4⟩:=Zz h1 r.den_pos
   refine ⟨k1,λx hx=> ?_, ?_⟩
   ·rcases List.mem_append.mp hx with hx|hx
    ·exact Nat.dvd_trans (h2 x hx) k2
    ·simp at hx;subst hx;exact k3
   ·refine Nat.lt_of_le_of_lt k4 ?_
    have:=XN h3 br
    rw [show n*W+1+W=(n+1)*W+1 by rw [Nat.succ_mul];omega] at this
    exact this
theorem Vp {v:PV} {xs:List Rat} {W:Nat} (hv:v= .lst (xs.map fr)) (hx:∀x∈xs,Bd W x) (hl:xs.length<=6) (hW:W<=1400) {Q:PV->Prop} (q:Q (.int (Rg xs:Nat))):B3 [v] Q:=by
 subst hv
 apply IY
 ac_rfl
 refine C9 fr (λus vs τ=>∃z2 z3,τ= [some (.val (.lst (xs.map fr))),some (.val (.int (Rg us:Nat))),z2,z3]) ?_ ?_ ⟨_,_,rfl⟩
 ·rintro τ ⟨z2,z3,rfl⟩
  ac_rfl
  exact q
 ·rintro us c vs e τ R hR ⟨z2,z3,rfl⟩
  have hu:∀x∈us,Bd W x:=λx fq=>hx x (by rw [<-e];simp [fq])
  have ul:us.length<=6:=by rw [<-e] at hl;simp at hl;omega
  obtain ⟨h1,h2,h3⟩:=Px us.length us rfl hu
  have bc:=(hx c (by rw [<-e];simp)).bot
  have mm:us.length*W<=6*1400:=Nat.mul_le_mul ul hW
  have g0:0<Nat.gcd (Rg us) c.den:=Nat.gcd_pos_of_pos_right _ c.den_pos
  have gl:Nat.gcd (Rg us) c.den<2^8900:=Ai (Nat.lt_of_le_of_lt (Nat.le_of_dvd c.den_pos (Nat.gcd_dvd_right ..)) bc) (by omega)
  ac_rfl
  refine J8 _ _ _ ?_
  ac_rfl
  refine ⟨⟨by omega,by simpa using gl⟩, ?_⟩
  have ed:((c.den:Nat):Int).fdiv ((Nat.gcd (Rg us) c.den:Nat):Int)=((c.den/Nat.gcd (Rg us) c.den:Nat):Int):=by
   rw [Int.fdiv_eq_ediv_of_nonneg _ (by omega),Int.natCast_ediv]
  rw [ed]
  have dl:c.den/Nat.gcd (Rg us) c.den<2^1400:=Ai (Nat.lt_of_le_of_lt (Nat.div_le_self ..) bc) hW
  ac_rfl
  refine ⟨MulOk.of (m:=8401) (n:=1400) (by simpa using Ai h3 (by omega)) (by rw [Int.natAbs_natCast];exact dl), ?_⟩
  exact hR _ ⟨some (.val (.int c.num)),some (.val (.int c.den)),by rw [UT,Int.natCast_mul];rfl⟩
abbrev JW:AS:=
 (Ad (Fg 3 Nh (AB (BJ (AB (aV 6) (AB (aV 7) AL))) AL))
   (Fg 3 Nh (AB (BJ (AB (Ow GB (aV 6)) (AB (Ow GB (aV 7)) AL))) AL)))
abbrev JV:AS:=
 (Ad (As (AX CY (AX Aj (aV 5) (aC (.int 0))) (AX O0 (aV 2) (AX Aj (aV 5) (aC (.int 1))))) (A0 7))
   JW)
abbrev NJ:AS:=
 (Ad (As (AX CY (AX Aj (aV 4) (aC (.int 0))) (AX O0 (aV 2) (AX Aj (aV 4) (aC (.int 1))))) (A0 6))
   JV)
abbrev NL:AS:=
 (Ad (E2 (aR (AB (aV 0) (AB (aV 1) AL))) (NT 2 (Aq (A0 4) (Aq (A0 5) Cg))) NJ)
   (Ay (BJ (AB (aV 2) (AB (aV 3) AL)))))
abbrev NK:AS:=
 (Ad (L3 (EF AL) 3)
   NL)
abbrev Lj:AS:=
 (Ad (As (AN 1 B3 (AB (AX BK (aV 0) (aV 1)) AL)) (A0 2))
   NK)
def EE:AF:=Ax 8 Lj
theorem Pp {x0 x1:PV} {Q:PV->Prop} (h:Lj ⟨λ_=>Q .non,Q,λ_=>False,λ_=>False⟩ [some (.val x0),some (.val x1),none,none,none,none,none,none]):EE [x0,x1] Q:=h
def Gd (N:Nat) (r:Rat):Int:=r.num*((N:Int).fdiv (r.den:Int))
theorem dW {N:Nat} {r:Rat} (h:r.den ∣ N):(Gd N r:Rat)=r*N:=by
 obtain ⟨k,rfl⟩:=h
 have hd:=r.den_pos
 unfold Gd
 rw [Int.natCast_mul,Int.mul_fdiv_cancel_left _ (by omega),Rat.intCast_mul]
 have hn:((r.den:Int):Rat)≠0:=λz=>by
  have:(r.den:Int)=0:=Rat.intCast_inj.mp z
  omega
 have e:r=(r.num:Rat)/((r.den:Int):Rat):=by rw [<-Rat.divInt_eq_div,Rat.num_divInt_den]
 have e2:r*((r.den:Int):Rat)=r.num:=by
  conv=>lhs;arg 1;rw [e]
  grind
 rw [<-e2,show ((r.den*k:Nat):Rat)=((r.den:Int):Rat)*((k:Int):Rat) by rw [<-Rat.intCast_mul,<-Int.natCast_mul,Rat.intCast_natCast]]
 grind
abbrev Ep (p:Int×Int):PV:= .tup [.int p.1, .int p.2]
def Ss (t:T3):PV:= .lst [fr t.1,fr t.2.1,fr t.2.2]
structure Pc where
 b:Rat
 e:Rat
 o0:T3
 o1:T3
def Pc.six (p:Pc):List Rat:= [p.o0.1,p.o0.2.1,p.o0.2.2,p.o1.1,p.o1.2.1,p.o1.2.2]
def Pc.N (p:Pc):Nat:=Rg p.six
def Pc.lns (p:Pc):List (Int×Int):= [(Gd p.N p.o0.1,Gd p.N p.o1.1),(-Gd p.N p.o0.1, -Gd p.N p.o1.1),(Gd p.N p.o0.2.1,Gd p.N p.o1.2.1),(-Gd p.N p.o0.2.1, -Gd p.N p.o1.2.1),(Gd p.N p.o0.2.2,Gd p.N p.o1.2.2),(-Gd p.N p.o0.2.2, -Gd p.N p.o1.2.2)]
def aq (p:Pc):PV:= .tup [fr p.b,fr p.e, .int p.N, .lst (p.lns.map Ep)]
theorem X5 {W:Nat} {p:Pc} (h0:E1 W p.o0) (h1:E1 W p.o1):∀x∈p.six,Bd W x:=by
 intro x hx
 simp only [Pc.six,List.mem_cons,List.not_mem_nil,or_false] at hx
 rcases hx with rfl|rfl|rfl|rfl|rfl|rfl
 ·exact h0.x
 ·exact h0.y
 ·exact h0.z
 ·exact h1.x
 ·exact h1.y
 ·exact h1.z
theorem Tl {N d k:Nat} (h:N<2^k):((N:Int).fdiv (d:Int)).natAbs<2^k:=by
 rw [Int.fdiv_eq_ediv_of_nonneg _ (by omega),<-Int.natCast_ediv,Int.natAbs_natCast]
 exact Nat.lt_of_le_of_lt (Nat.div_le_self ..) h
theorem XG {p:Pc} {W:Nat} (h0:E1 W p.o0) (h1:E1 W p.o1) (hW:W<=1400) {Q:PV->Prop} (q:Q (.tup [.int p.N, .lst (p.lns.map Ep)])):EE [Ss p.o0,Ss p.o1] Q:=by
 have hs:=X5 h0 h1
 obtain ⟨k1,k2,k3⟩:=Px 6 p.six rfl hs
 have n0:(p.N:Nat)<2^8401:=Ai k3 (by omega)
 have dv:∀r:Rat,Bd W r->Qa (p.N:Int) (r.den:Int)/\MulOk r.num ((p.N:Int).fdiv (r.den:Int)):=λr br=>
  ⟨⟨BS r,by simpa using Ai br.bot (by omega)⟩,MulOk.of (m:=1400) (n:=8401) (Ai br.top hW) (Tl n0)⟩
 unfold Ss
 apply Pp
 repeat' array_get_dec
 refine Vp (xs:=p.six) (W:=W) rfl hs (by show 6<=6;omega) hW ?_
 have q:Q (.tup [.int p.N, .lst [Ep (Gd p.N p.o0.1,Gd p.N p.o1.1),Ep (-Gd p.N p.o0.1, -Gd p.N p.o1.1),Ep (Gd p.N p.o0.2.1,Gd p.N p.o1.2.1),Ep (-Gd p.N p.o0.2.1, -Gd p.N p.o1.2.1),Ep (Gd p.N p.o0.2.2,Gd p.N p.o1.2.2),Ep (-Gd p.N p.o0.2.2, -Gd p.N p.o1.2.2)]]):=q
 unfold Gd at q
 rw [show Rg p.six=p.N from rfl]
 generalize p.N=N at *
 repeat' array_get_dec
 refine ⟨(dv _ h0.x).1,(dv _ h0.x).2, ?_⟩
 repeat' array_get_dec
 refine ⟨(dv _ h1.x).1,(dv _ h1.x).2, ?_⟩
 repeat' array_get_dec
 refine ⟨(dv _ h0.y).1,(dv _ h0.y).2, ?_⟩
 repeat' array_get_dec
 refine ⟨(dv _ h1.y).1,(dv _ h1.y).2, ?_⟩
 repeat' array_get_dec
 refine ⟨(dv _ h0.z).1,(dv _ h0.z).2, ?_⟩
 repeat' array_get_dec
 refine ⟨(dv _ h1.z).1,(dv _ h1.z).2, ?_⟩
 repeat' array_get_dec
 exact q
abbrev TN:AS:=
 (Ad (As (AX BK (AN 3 Be (AB (aV 0) (AB (aV 2) (AB (aV 3) AL)))) (AN 3 Be (AB (aV 1) (AB (aV 2) (AB (aV 3) AL))))) (A0 4))
   (Ay (AN 1 F7 (AB (AX BK (GU (EF (AB (aV 2) (AB (aV 3) AL)))) (GU (CL (NU (aV 4)) 1 [] (A0 0) FD (AX Aj (aV 0) (aC (.int 0)))))) AL))))
def Hy:AF:=Ax 5 TN
theorem Vn {x0 x1 x2 x3:PV} {Q:PV->Prop} (h:TN ⟨λ_=>Q .non,Q,λ_=>False,λ_=>False⟩ [some (.val x0),some (.val x1),some (.val x2),some (.val x3),none]):Hy [x0,x1,x2,x3] Q:=h
def EN (cs ds:List C4) (b e:Rat):List Rat:=C3 ([b,e] ++ ((cs.filter (Jd b e)++ds.filter (Jd b e)).map (·.1)))
theorem E7 {cs ds:List C4} {b e x:Rat}:x∈EN cs ds b e↔x=b\/x=e\/(b<x/\x<e/\∃c,(c∈cs\/c∈ds)/\c.1=x):=by
 unfold EN
 rw [CN]
 simp only [List.cons_append,List.nil_append,List.mem_cons,List.mem_map,List.mem_append,List.mem_filter,Jd,Bool.and_eq_true,decide_eq_true_eq]
 constructor
 ·rintro (h|h|⟨c,h,rfl⟩)
  ·exact .inl h
  ·exact .inr (.inl h)
  ·rcases h with ⟨h1,h2,h3⟩|⟨h1,h2,h3⟩
   ·exact .inr (.inr ⟨h2,h3,c, .inl h1,rfl⟩)
   ·exact .inr (.inr ⟨h2,h3,c, .inr h1,rfl⟩)
 ·rintro (h|h|⟨h1,h2,c,h,rfl⟩)
  ·exact .inl h
  ·exact .inr (.inl h)
  ·exact .inr (.inr ⟨c,h.elim (λh=> .inl ⟨h,h1,h2⟩) (λh=> .inr ⟨h,h1,h2⟩),rfl⟩)
theorem Oa {cs ds:List C4} {b e:Rat}:(EN cs ds b e).length<=2+(cs.length+ds.length):=by
 unfold EN
 refine Nat.le_trans IU ?_
 have h1:=List.length_filter_le (Jd b e) cs
 have h2:=List.length_filter_le (Jd b e) ds
 simp only [List.length_append,List.length_map,List.length_cons,List.length_nil]
 omega
theorem YQ {cs ds:List C4} {v w:PV} {b e:Rat} {B:Nat} (hv:Bj cs v) (hw:Bj ds w) (hl:cs.length<=100) (iZ:ds.length<=100) (hc:∀c∈cs,Fs B c) (Q5:∀c∈ds,Fs B c) (hB:B<=4000) (bb:Bd B b) (be:Bd B e) {Q:PV->Prop} (q:Q (.lst ((EN cs ds b e).map fr))):Hy [v,w,fr b,fr e] Q:=by
 have h1:=List.length_filter_le (Jd b e) cs
 have h2:=List.length_filter_le (Jd b e) ds
 apply Vn
 ac_rfl
 refine De hv (by omega) hc hB (bb.mono hB) (be.mono hB) ?_
 ac_rfl
 refine De hw (by omega) Q5 hB (bb.mono hB) (be.mono hB) ?_
 ac_rfl
 rw [<-List.map_append]
 ac_rfl
 refine EU cor fr (λc=>c.1) (λ_=>True) (λc _ R hR=> ?_) _ [] (by simp) ?_
 ·ac_rfl
  exact hR
 rw [List.nil_append]
 ac_rfl
 refine Vl (xs:= [b,e] ++ (cs.filter (Jd b e)++ds.filter (Jd b e)).map (·.1)) (B:=B) (.inl rfl) (by simp only [List.length_append,List.length_map,List.length_cons,List.length_nil];omega) (λx hx=> ?_) hB q
 rcases List.mem_append.mp hx with hx|hx
 ·simp only [List.mem_cons,List.not_mem_nil,or_false] at hx
  rcases hx with rfl|rfl
  ·exact bb
  ·exact be
 ·obtain ⟨c,h,rfl⟩:=List.mem_map.mp hx
  rcases List.mem_append.mp h with h|h
  ·exact (hc c (List.mem_filter.mp h).1).m
  ·exact (Q5 c (List.mem_filter.mp h).1).m
abbrev QQ:AS:=
 (Ad (As (AN 2 EE (AB (AX Aj (aV 5) (AX Gm (aV 7) (aC (.int 1)))) (AB (AX Aj (aV 5) (aV 7)) AL))) (NT 2 (Aq (A0 8) (Aq (A0 9) Cg))))
   (Fg 6 Nh (AB (BJ (AB (AX Aj (aV 4) (AX Gm (aV 7) (aC (.int 1)))) (AB (AX Aj (aV 4) (aV 7)) (AB (aV 8) (AB (aV 9) AL))))) AL)))
abbrev QW:AS:=
 (Ad (E2 (Yv (AB (aC (.int 1)) (AB (Es FG (AB (aV 4) AL)) AL))) (A0 7) QQ)
   (Ay (aV 6)))
abbrev QV:AS:=
 (Ad (L3 (EF AL) 6)
   QW)
abbrev QU:AS:=
 (Ad (As (GU (CL (NU (aV 4)) 1 [0,1,2] (A0 0) FD (AN 4 Ex (AB (aV 1) (AB (aV 2) (AB (aV 3) (AB (aV 0) AL))))))) (A0 5))
   QV)
abbrev QS:AS:=
 (Ad (As (AN 4 Hy (AB (aV 0) (AB (aV 1) (AB (AX Aj (aV 3) (aC (.int 0))) (AB (AX Aj (aV 3) (aC (.int 1))) AL))))) (A0 4))
   QU)
abbrev QR:AS:=
 (Ad (Bx (Av (AX Qr (aV 3) (aC .non))) (Ay (GU (EF AL))) BI)
   QS)
abbrev QP:AS:=
 (Ad (As (AN 2 DP (AB (aV 0) (AB (aV 1) AL))) (A0 3))
   QR)
def F6:AF:=Ax 10 QP
theorem S5 {x0 x1 x2:PV} {Q:PV->Prop} (h:QP ⟨λ_=>Q .non,Q,λ_=>False,λ_=>False⟩ [some (.val x0),some (.val x1),some (.val x2),none,none,none,none,none,none,none]):F6 [x0,x1,x2] Q:=h
def Fp (cs ds:List C4) (d:Rat×Rat) (m:Rat):T3:=Jn ((spotC cs m).getD (0,0,0)) ((spotC ds m).getD (0,0,0)) d
def K7 (cs ds:List C4) (d:Rat×Rat) (ts:List Rat):List Pc:=(ts.zip ts.tail).map λp=>⟨p.1,p.2,Fp cs ds d p.1,Fp cs ds d p.2⟩
theorem zip_get {ts:List Rat} {i:Nat} {x y:Rat} (hx:ts[i]? =some x) (hy:ts[i+1]? =some y):(ts.zip ts.tail)[i]? =some (x,y):=by
 rw [List.getElem?_zip_eq_some]
 exact ⟨hx,by rw [List.getElem?_tail];exact hy⟩
structure fF (cs ds:List C4) (b e:Rat):Prop where
 lt:b<e
 one:∀m,b<=m->m<=e->∃t,spotC cs m=some t
 other:∀m,b<=m->m<=e->∃t,spotC ds m=some t
theorem YK {a l a2 l2:C4} {r r2:List C4} (h0:r≠ []) (Wr:r2≠ []) (el:(a::r).getLast?=some l) (el2:(a2::r2).getLast?=some l2) (h:mx a.1 a2.1<mn l.1 l2.1):fF (a::r) (a2::r2) (mx a.1 a2.1) (mn l.1 l2.1):=by
 have e1:a.1<=mx a.1 a2.1:=by unfold mx;split <;> grind
 have e2:a2.1<=mx a.1 a2.1:=by unfold mx;split <;> grind
 have e3:mn l.1 l2.1<=l.1:=by unfold mn;split <;> grind
 have e4:mn l.1 l2.1<=l2.1:=by unfold mn;split <;> grind
 exact ⟨h,λm h1 h2=>My h0 el (by grind) (by grind),λm h1 h2=>My Wr el2 (by grind) (by grind)⟩
theorem cj {cs ds:List C4} {d:Rat×Rat} {b e m:Rat} {B M D:Nat} (tg:fF cs ds b e) (h1:b<=m) (h2:m<=e) (hr:Ku cs) (ia:Ku ds) (hc:∀c∈cs,Fs B c) (Q5:∀c∈ds,Fs B c) (bm:Bd M m) (b1:Bd D d.1) (b2:Bd D d.2) (p1:d.1≠0) (p2:d.2≠0):E1 (2*(M+6*B+10)+1+D) (Fp cs ds d m):=by
 obtain ⟨s,es⟩:=tg.one m h1 h2
 obtain ⟨t,et⟩:=tg.other m h1 h2
 have k1:=E1.spotC bm hr hc s es
 have k2:=E1.spotC bm ia Q5 t et
 unfold Fp
 rw [es,et]
 exact ⟨(((k1.x.sub k2.x).div p1 b1)).mono (by omega),(((k1.y.sub k2.y).div p1 b1)).mono (by omega),(((k1.z.sub k2.z).div p2 b2)).mono (by omega)⟩
theorem eO {α:Type} {f:α->PV} {xs:List α} {k:Nat} {x:α} {R:PV->Prop} (e:xs[k]? =some x) (h:R (f x)):Aj (.lst (xs.map f)) (.int (k:Int)) R:=by
 show XV (HI (xs.map f) (k:Int)) R
 rw [CC (v:=f x) (by rw [List.getElem?_map,e];rfl)]
 exact h
theorem aJ (ts:List Rat):(ts.zip ts.tail).length=ts.length-1:=by
 rw [List.length_zip,List.length_tail];omega
theorem UF {cs ds:List C4} {d:Rat×Rat} {ts:List Rat}:(K7 cs ds d ts).length=ts.length-1:=by unfold K7;rw [List.length_map,aJ]
theorem Gh {cs ds:List C4} {b e:Rat}:QJ (EN cs ds b e):=Ci
theorem M8 {cs ds:List C4} {b e x:Rat} (h:b<e) (hx:x∈EN cs ds b e):b<=x/\x<=e:=by
 rcases E7.mp hx with rfl|rfl|⟨h1,h2,_⟩ <;> exact ⟨by grind,by grind⟩
theorem M7 {cs ds:List C4} {b e x:Rat} {M:Nat} (hc:∀c∈cs,Bd M c.1) (Q5:∀c∈ds,Bd M c.1) (bb:Bd M b) (be:Bd M e) (hx:x∈EN cs ds b e):Bd M x:=by
 rcases E7.mp hx with rfl|rfl|⟨_,_,c,h,rfl⟩
 ·exact bb
 ·exact be
 ·rcases h with h|h
  ·exact hc c h
  ·exact Q5 c h
def O3 (cs:List C4):Rat:=(cs.head?.getD (0,0,0,0)).1
def lstM (cs:List C4):Rat:=(cs.getLast?.getD (0,0,0,0)).1
def B8 (cs ds:List C4):Rat:=mx (O3 cs) (O3 ds)
def B9 (cs ds:List C4):Rat:=mn (lstM cs) (lstM ds)
def Rm (cs ds:List C4):List Rat:=EN cs ds (B8 cs ds) (B9 cs ds)
structure Hd (cs ds:List C4) (d:Rat×Rat) (M W:Nat):Prop where
 c1:∀c∈cs,Fs 150 c
 c2:∀c∈ds,Fs 150 c
 r1:Ku cs
 r2:Ku ds
 t1:2<=cs.length
 t2:2<=ds.length
 f1:cs.length<=100
 f2:ds.length<=100
 m1:∀c∈cs,Bd M c.1
 m2:∀c∈ds,Bd M c.1
 b1:Bd 100 d.1
 b2:Bd 100 d.2
 p1:0<d.1
 p2:0<d.2
 w:B8 cs ds<B9 cs ds->∀m∈Rm cs ds,E1 W (Fp cs ds d m)
 hM:M<=150
 hW:W<=1050
theorem open2 {cs:List C4} (h:2<=cs.length):∃a r l,cs=a::r/\r≠ [] /\(a::r).getLast?=some l:=by
 match cs,h with
 | a::b::r,_=>
   obtain ⟨l,el⟩:∃l,(a::b::r).getLast?=some l:=⟨_,List.getLast?_eq_some_getLast (by simp)⟩
   exact ⟨a,b::r,l,rfl,by simp,el⟩
theorem EV {a:C4} {r:List C4}:O3 (a::r)=a.1:=rfl
theorem Bk {cs:List C4} {l:C4} (e:cs.getLast?=some l):lstM cs=l.1:=by unfold lstM;rw [e];rfl
section
variable {cs ds:List C4} {d:Rat×Rat} {M W:Nat}
theorem Hd.fstB (D:Hd cs ds d M W):Bd M (O3 cs):=by
 obtain ⟨a,r,l,rfl,h0,el⟩:=open2 D.t1
 exact D.m1 a (by simp)
theorem Hd.fstB2 (D:Hd cs ds d M W):Bd M (O3 ds):=by
 obtain ⟨a,r,l,rfl,h0,el⟩:=open2 D.t2
 exact D.m2 a (by simp)
theorem Hd.lstB (D:Hd cs ds d M W):Bd M (lstM cs):=by
 obtain ⟨a,r,l,rfl,h0,el⟩:=open2 D.t1
 rw [Bk el]
 exact D.m1 l (List.mem_of_getLast? el)
theorem Hd.lstB2 (D:Hd cs ds d M W):Bd M (lstM ds):=by
 obtain ⟨a,r,l,rfl,h0,el⟩:=open2 D.t2
 rw [Bk el]
 exact D.m2 l (List.mem_of_getLast? el)
theorem Hd.begB (D:Hd cs ds d M W):Bd M (B8 cs ds):=D.fstB.mx D.fstB2
theorem Hd.endB (D:Hd cs ds d M W):Bd M (B9 cs ds):=D.lstB.mn D.lstB2
theorem Hd.tog (D:Hd cs ds d M W) (h:B8 cs ds<B9 cs ds):fF cs ds (B8 cs ds) (B9 cs ds):=by
 obtain ⟨a,r,l,rfl,h0,el⟩:=open2 D.t1
 obtain ⟨a2,r2,l2,rfl,Wr,el2⟩:=open2 D.t2
 unfold B8 B9 at h ⊢
 rw [EV,EV,Bk el,Bk el2] at h ⊢
 exact YK h0 Wr el el2 h
end
theorem aD {cs ds:List C4} {d:Rat×Rat} {M W:Nat} (D:Hd cs ds d M W) {v w:PV} (hv:Bj cs v) (hw:Bj ds w) {Q:PV->Prop} (q1:B8 cs ds<B9 cs ds->Q (.tup [fr (B8 cs ds),fr (B9 cs ds)])) (q2:¬B8 cs ds<B9 cs ds->Q .non):DP [v,w] Q:=by
 have k1:=D.fstB
 have k2:=D.fstB2
 have k3:=D.lstB
 have k4:=D.lstB2
 have hM:=D.hM
 obtain ⟨a,r,l,rfl,h0,el⟩:=open2 D.t1
 obtain ⟨a2,r2,l2,rfl,Wr,el2⟩:=open2 D.t2
 unfold B8 B9 at q1 q2
 rw [EV,EV,Bk el,Bk el2] at q1 q2
 rw [Bk el] at k3
 rw [Bk el2] at k4
 exact Rl hv hw el el2 (k1.mono (by omega)) (k3.mono (by omega)) (k2.mono (by omega)) (k4.mono (by omega)) q1 q2
def HV (cs ds:List C4) (d:Rat×Rat):List Pc:=if B8 cs ds<B9 cs ds then K7 cs ds d (Rm cs ds) else []
theorem Vi {cs ds:List C4} {d:Rat×Rat} {M W:Nat} (D:Hd cs ds d M W) {v w u:PV} (hv:Bj cs v) (hw:Bj ds w) (hu:Ul d u) {Q:PV->Prop} (q:Q (.lst ((HV cs ds d).map aq))):F6 [v,w,u] Q:=by
 have hM:=D.hM
 have hW:=D.hW
 have l9:=D.f1
 have mB:=D.f2
 apply S5
 ac_rfl
 refine aD D hv hw (λh=> ?_) (λh=> ?_)
 rotate_left
 ·unfold HV at q
  rw [if_neg h] at q
  ac_rfl
  exact q
 unfold HV at q
 rw [if_pos h] at q
 have tg:=D.tog h
 ac_rfl
 refine YQ (B:=150) hv hw l9 mB D.c1 D.c2 (by decide) (D.begB.mono hM) (D.endB.mono hM) ?_
 have tl:=Oa (cs:=cs) (ds:=ds) (b:=B8 cs ds) (e:=B9 cs ds)
 have ti:∀x∈Rm cs ds,B8 cs ds<=x/\x<=B9 cs ds:=λx hx=>M8 h hx
 have tb:∀x∈Rm cs ds,Bd M x:=λx hx=>M7 D.m1 D.m2 D.begB D.endB hx
 have tw:∀x∈Rm cs ds,E1 W (Fp cs ds d x):=D.w h
 have tl':(Rm cs ds).length<=2+(cs.length+ds.length):=tl
 rw [show EN cs ds (B8 cs ds) (B9 cs ds)=Rm cs ds from rfl]
 generalize Rm cs ds=ts at *
 ac_rfl
 refine EU fr Ss (Fp cs ds d) (λx=>x∈ts) (λx hx R hR=> ?_) ts [] (λx hx=>hx) ?_
 ·obtain ⟨s,es⟩:=tg.one x (ti x hx).1 (ti x hx).2
  obtain ⟨t,et⟩:=tg.other x (ti x hx).1 (ti x hx).2
  have hR:R (Ss (Jn ((spotC cs x).getD (0,0,0)) ((spotC ds x).getD (0,0,0)) d)):=hR
  rw [es,et] at hR
  ac_rfl
  exact ZX hv hw hu D.c1 D.c2 D.r1 D.r2 (by have:=D.t1;intro z;subst z;simp at this) (by have:=D.t2;intro z;subst z;simp at this) l9 mB ((tb x hx).mono (by omega)) D.b1 D.b2 (by have:=D.p1;grind) (by have:=D.p2;grind) es et hR
 rw [List.nil_append]
 ac_rfl
 refine LI (λi τ=>∃z8 z9 z10,τ= [some (.val v),some (.val w),some (.val u),some (.val (.tup [fr (B8 cs ds),fr (B9 cs ds)])),some (.val (.lst (ts.map fr))),some (.val (.lst ((ts.map (Fp cs ds d)).map Ss))),some (.own (((K7 cs ds d ts).take i).map aq)),z8,z9,z10]) ?_ ?_ ⟨_,_,_,rfl⟩
 ·rintro τ ⟨z8,z9,z10,rfl⟩
  rw [List.take_of_length_le (by rw [UF];omega)]
  ac_rfl
  exact q
 ·rintro i hi τ R hR ⟨z8,z9,z10,rfl⟩
  have VO:i+1<ts.length:=by omega
  obtain ⟨x,ex⟩:∃x,ts[i]? =some x:=⟨_,List.getElem?_eq_getElem (by omega)⟩
  obtain ⟨y,ey⟩:∃y,ts[i+1]? =some y:=⟨_,List.getElem?_eq_getElem VO⟩
  have pl:=UF (cs:=cs) (ds:=ds) (d:=d) (ts:=ts)
  have k1:=tw x (List.mem_of_getElem? ex)
  have k2:=tw y (List.mem_of_getElem? ey)
  have ep:(K7 cs ds d ts).take (i+1)=(K7 cs ds d ts).take i ++ [⟨x,y,Fp cs ds d x,Fp cs ds d y⟩] :=by
   have e1:(K7 cs ds d ts)[i]? =some ⟨x,y,Fp cs ds d x,Fp cs ds d y⟩:=by
    unfold K7
    rw [List.getElem?_map,zip_get ex ey]
    rfl
   rw [List.take_succ,e1]
   rfl
  have t1:((1:Int)+(i:Int)-1).toNat=i:=by omega
  have t2:((1:Int)+(i:Int)).toNat=i+1:=by omega
  have fin:∀z8 z9 z10,R [some (.val v),some (.val w),some (.val u),some (.val (.tup [fr (B8 cs ds),fr (B9 cs ds)])),some (.val (.lst (ts.map fr))),some (.val (.lst ((ts.map (Fp cs ds d)).map Ss))),some (.own (((K7 cs ds d ts).take i).map aq ++ [aq ⟨x,y,Fp cs ds d x,Fp cs ds d y⟩])),z8,z9,z10] :=λz8 z9 z10=>hR _ ⟨z8,z9,z10,by rw [ep,List.map_append];rfl⟩
  ac_rfl
  rename_i c1 ec1 _ c2 ec2 _
  rw [t1,List.getElem?_map,ex] at ec1
  rw [t2,List.getElem?_map,ey] at ec2
  cases ec1
  cases ec2
  refine XG (p:=⟨x,y,Fp cs ds d x,Fp cs ds d y⟩) k1 k2 (by omega) ?_
  ac_rfl
  rename_i c1 ec1 _ c2 ec2 _
  rw [t1,ex] at ec1
  cases ec1
  rw [t2,ey] at ec2
  cases ec2
  ac_rfl
  exact fin _ _ _
abbrev J6:AS:=
 (Ay (AN 2 HD (AB (aV 0) (AB (AN 2 FC (AB (AN 2 FB (AB (AX Aj (aV 2) (aC (.int 0))) (AB (AX Aj (aV 2) (aC (.int 1))) AL))) (AB (AN 2 DU (AB (aV 1) (AB (aV 0) AL))) AL))) AL))))
def Df:AF:=Ax 3 J6
theorem Nu {x0 x1 x2:PV} {Q:PV->Prop} (h:J6 ⟨λ_=>Q .non,Q,λ_=>False,λ_=>False⟩ [some (.val x0),some (.val x1),some (.val x2)]):Df [x0,x1,x2] Q:=h
def sv (p:Int×Int):Rat:=(p.1:Rat)/(p.2:Rat)
theorem Je {i:Int} (h:0<i):(0:Rat)<(i:Rat):=by
 have:=Rat.intCast_lt_intCast.mpr h
 simpa using this
theorem Ug {a b:Int×Int} (ha:0<a.2) (hb:0<b.2):sv a<sv b↔a.1*b.2<b.1*a.2:=by
 have h1:=Je ha
 have h2:=Je hb
 unfold sv
 rw [Rat.div_lt_iff h1,<-Rat.intCast_lt_intCast,Rat.intCast_mul,Rat.intCast_mul]
 have e:(b.1:Rat)/(b.2:Rat)*(a.2:Rat)=(b.1:Rat)*(a.2:Rat)/(b.2:Rat):=by grind
 rw [e,Rat.lt_div_iff h2]
structure Sz (p:Int×Int):Prop where
 pos:0<p.2
 t:p.1.natAbs<2^8850
 n:p.2.natAbs<2^8850
theorem Sm {b e:Rat} {p:Int×Int} {M S:Nat} (hp:Sz p) (bs:Bd S (sv p)) (bb:Bd M b) (be:Bd M e) (hM:M<=300) (hS:S<=3200) {Q:PV->Prop} (q:Q (fr (b+sv p*(e-b)))):Df [fr b,fr e,Ep p] Q:=by
 have ne:p.2≠0:=by have:=hp.pos;omega
 have es:Rat.divInt p.1 p.2=sv p:=Rat.divInt_eq_div ..
 have k:=be.sub bb
 have k2:=bs.mul k
 apply Nu
 ac_rfl
 refine D8 _ _ ne (Ai hp.n (by decide)) _ ?_
 rw [es]
 ac_rfl
 exact q
def lv (l:Int×Int) (s:Rat):Rat:=(l.1:Rat)+s*((l.2:Rat)-(l.1:Rat))
structure NI (N:Nat) (S:Nat) (us:List (Int×Int)) (lo hi:Int×Int) (h:Int):Prop where
 l:Sz lo
 r:Sz hi
 bl:Bd S (sv lo)
 br:Bd S (sv hi)
 SN:h=0\/h=1
 lo0:0<=sv lo
 qo:sv hi<=1
 sem:∀s,0<=s->s<1->((∀l∈us,lv l s<N)↔(sv lo<s\/(sv lo=s/\h=1))/\s<sv hi)
theorem dh:sv (0,1)=0:=by decide +kernel
theorem di:sv (1,1)=1:=by decide +kernel
structure ou (N W:Nat) (l:Int×Int):Prop where
 a:l.1.natAbs<2^8848
 b:l.2.natAbs<2^8848
 n:N<2^8848
 n0:0<N
 ex:∃u v:Rat,Bd W u/\Bd W v/\(l.1:Rat)=u*N/\(l.2:Rat)=v*N
theorem TU {N:Nat} (h:0<N):(0:Rat)<(N:Rat):=Rat.natCast_pos.mpr h
theorem Ue {a b:Int} {k:Nat} (ha:a.natAbs<2^k) (hb:b.natAbs<2^k):(a-b).natAbs<2^(k+1):=QE ha hb
theorem fJ (N:Nat):((N:Int):Rat)=(N:Rat):=Rat.intCast_natCast N
section
variable {N W:Nat} {us:List (Int×Int)} {lo hi l:Int×Int} {h:Int}
end
def gL (N:Nat) (lns:List (Int×Int)) (b e m:Rat):Prop:=b<=m/\m<e/\∀l∈lns,lv l ((m-b)/(e-b))<N
structure ln (N:Nat) (lns:List (Int×Int)) (b e:Rat) (B:Nat) (ss:List B4):Prop where
 few:ss.length<=1
 ok:∀s∈ss,Ez B s
 fin:∀s∈ss,∃x,s.2.2=some x
 sem:∀m,ss.any (CT · (m,0))=true↔gL N lns b e m
theorem UY {W:Nat} {p:Pc} (h0:E1 W p.o0) (h1:E1 W p.o1):0<p.N/\(∀x∈p.six,x.den ∣ p.N)/\p.N<2^(6*W+1):=Px 6 p.six rfl (X5 h0 h1)
theorem Xs {N W:Nat} {r:Rat} (br:Bd W r) (hN:N<2^(6*W+1)):(Gd N r).natAbs<2^(W+(6*W+1)):=BH br.top (Tl hN)
theorem ZW {p q p' q':T3} {d:Rat×Rat} {s:Rat}:Jn (lin p q s) (lin p' q' s) d=lin (Jn p p' d) (Jn q q' d) s:=by
 unfold Jn lin
 simp only [Rat.div_def]
 congr 1
 ·grind
 ·congr 1 <;> grind
theorem YW {ts:List Rat} (h:QJ ts):∀p∈ts.zip ts.tail,p.1∈ts/\p.2∈ts/\p.1<p.2/\∀x∈ts,¬(p.1<x/\x<p.2):=by
 induction ts with
 | nil=>intro p hp;simp at hp
 | cons a r ih=>
   cases r with
   | nil=>intro p hp;simp at hp
   | cons b r=>
     have h1:=List.pairwise_cons.mp h
     intro p hp
     simp only [List.tail_cons,List.zip_cons_cons,List.mem_cons] at hp
     rcases hp with rfl|hp
     ·refine ⟨by simp,by simp,h1.1 b (by simp),λx hx z=> ?_⟩
      rcases List.mem_cons.mp hx with rfl|hx
      ·grind
      ·rcases List.mem_cons.mp hx with rfl|hx
       ·grind
       ·have:=(List.pairwise_cons.mp h1.2).1 x hx
        grind
     ·obtain ⟨k1,k2,k3,k4⟩:=ih h1.2 p hp
      refine ⟨by simp [k1],by simp [k2],k3,λx hx z=> ?_⟩
      rcases List.mem_cons.mp hx with rfl|hx
      ·have:=h1.1 p.1 k1;grind
      ·exact k4 x hx z
section
variable {cs ds:List C4} {d:Rat×Rat} {M W:Nat}
structure Os (cs ds:List C4) (d:Rat×Rat) (M W:Nat) (p:Pc):Prop where
 lt:p.b<p.e
 w0:E1 W p.o0
 w1:E1 W p.o1
 bb:Bd M p.b
 be:Bd M p.e
 lo:B8 cs ds<=p.b
 hi:p.e<=B9 cs ds
 at0:p.o0=Fp cs ds d p.b
 lw:p.o1=Fp cs ds d p.e
 lin:∀m,p.b<=m->m<=p.e->Fp cs ds d m=lin p.o0 p.o1 ((m-p.b)/(p.e-p.b))
theorem Hd.pc (D:Hd cs ds d M W):∀p∈HV cs ds d,Os cs ds d M W p:=by
 intro p hp
 unfold HV at hp
 by_cases h:B8 cs ds<B9 cs ds
 ·rw [if_pos h] at hp
  have tg:=D.tog h
  have ti:∀x∈Rm cs ds,B8 cs ds<=x/\x<=B9 cs ds:=λx hx=>M8 h hx
  have tb:∀x∈Rm cs ds,Bd M x:=λx hx=>M7 D.m1 D.m2 D.begB D.endB hx
  have tw:∀x∈Rm cs ds,E1 W (Fp cs ds d x):=D.w h
  unfold K7 at hp
  obtain ⟨q,hq,rfl⟩:=List.mem_map.mp hp
  obtain ⟨k1,k2,k3,k4⟩:=YW Gh q hq
  have i1:=ti _ k1
  have i2:=ti _ k2
  refine ⟨k3,tw _ k1,tw _ k2,tb _ k1,tb _ k2,i1.1,i2.2,rfl,rfl,λm m1 m2=> ?_⟩
  have m1:q.1<=m:=m1
  have m2:m<=q.2:=m2
  have no:∀c,c∈cs\/c∈ds->¬(q.1<c.1/\c.1<q.2):=λc hc z=>by
   refine k4 c.1 (E7.mpr (.inr (.inr ⟨by grind,by grind,c,hc,rfl⟩))) z
  obtain ⟨s1,e1⟩:=tg.one q.1 i1.1 i1.2
  obtain ⟨s2,e2⟩:=tg.one q.2 i2.1 i2.2
  obtain ⟨t1,f1⟩:=tg.other q.1 i1.1 i1.2
  obtain ⟨t2,f2⟩:=tg.other q.2 i2.1 i2.2
  have l1:=OW D.r1 k3 m1 m2 (λc hc=>no c (.inl hc)) e1 e2
  have l2:=OW D.r2 k3 m1 m2 (λc hc=>no c (.inr hc)) f1 f2
  show Fp cs ds d m=PL.lin (Fp cs ds d q.1) (Fp cs ds d q.2) ((m-q.1)/(q.2-q.1))
  unfold Fp
  rw [l1,l2,e1,e2,f1,f2]
  exact ZW
 ·rw [if_neg h] at hp;cases hp
def PH (cs ds:List C4) (d:Rat×Rat) (m:Rat):Prop:=B8 cs ds<=m/\m<B9 cs ds/\HP (Fp cs ds d m)<1
instance {m:Rat}:Decidable (PH cs ds d m):=by unfold PH;infer_instance
structure aN (cs ds:List C4) (d:Rat×Rat) (B:Nat) (ss:List B4):Prop where
 few:ss.length<=201
 ok:∀s∈ss,Ez B s
 fin:∀s∈ss,∃x,s.2.2=some x
 sem:∀m,ss.any (CT · (m,0))=true↔PH cs ds d m
theorem ZQ {p:Pc}:p.lns.length=6:=rfl
end
abbrev JN:AS:=
 (Ad (As (Uv (Es FG (AB (GU (CL (NU (aV 1)) 1 [2] (A0 0) (Av (AN 2 Ah (AB (aV 0) (AB (aV 1) AL)))) (aV 0))) AL))) (A0 3))
   (Bx (Qj (Ky (Av (AX Kz (aV 3) (Es FG (AB (aV 1) AL)))) (Av (AX Wg (AX Aj (aV 1) (aV 3)) (aV 2))))) (Fg 1 XH (AB (aV 3) (AB (aV 2) AL))) BI))
abbrev JO:AS:=
 (Ad (E2 (NU (aV 0)) (A0 2) JN)
   (Ay (aV 1)))
abbrev Gs:AS:=
 (Ad (L3 (EF AL) 1)
   JO)
def Ca:AF:=Ax 4 Gs
theorem K9 {x0:PV} {Q:PV->Prop} (h:Gs ⟨λ_=>Q .non,Q,λ_=>False,λ_=>False⟩ [some (.val x0),none,none,none]):Ca [x0] Q:=h
abbrev Kg:AS:=
 (Ad (As (GU (CL (NU (AX BK (aV 0) (aV 1))) 1 [2,3] (A0 0) (KB (Av (AN 2 Ah (AB (aV 1) (AB (AX Aj (aV 0) (aC (.int 0))) AL)))) (Av (AN 2 Ah (AB (AX Aj (aV 0) (aC (.int 0))) (AB (aV 2) AL))))) (AX Aj (aV 0) (aC (.int 0))))) (A0 4))
   (Ay (AN 1 Ca (AB (AX BK (GU (EF (AB (aV 2) (AB (aV 3) AL)))) (aV 4)) AL))))
abbrev Dm:AS:=
 (Ad (Bx (Gy (Av (AN 2 Ah (AB (aV 2) (AB (aV 3) AL))))) (Ay (GU (EF AL))) BI)
   Kg)
abbrev Fb:AS:=
 (Ad (As (aQ (Av (AN 2 Ah (AB (AX Aj (AX Aj (aV 0) (Ow GB (aC (.int 1)))) (aC (.int 0))) (AB (AX Aj (AX Aj (aV 1) (Ow GB (aC (.int 1)))) (aC (.int 0))) AL)))) (AX Aj (AX Aj (aV 0) (Ow GB (aC (.int 1)))) (aC (.int 0))) (AX Aj (AX Aj (aV 1) (Ow GB (aC (.int 1)))) (aC (.int 0)))) (A0 3))
   Dm)
abbrev E8:AS:=
 (Ad (As (aQ (Av (AN 2 Ah (AB (AX Aj (AX Aj (aV 1) (aC (.int 0))) (aC (.int 0))) (AB (AX Aj (AX Aj (aV 0) (aC (.int 0))) (aC (.int 0))) AL)))) (AX Aj (AX Aj (aV 0) (aC (.int 0))) (aC (.int 0))) (AX Aj (AX Aj (aV 1) (aC (.int 0))) (aC (.int 0)))) (A0 2))
   Fb)
def C7:AF:=Ax 5 E8
theorem Mh {x0 x1:PV} {Q:PV->Prop} (h:E8 ⟨λ_=>Q .non,Q,λ_=>False,λ_=>False⟩ [some (.val x0),some (.val x1),none,none,none]):C7 [x0,x1] Q:=h
abbrev La:AS:=
 (Ad (As (GU (CL (Oy (AB (aC (.int 3)) AL)) 1 [2,5,6] (A0 0) FD (AN 2 Bw (AB (AN 2 A8 (AB (AX Aj (aV 2) (aV 0)) (AB (AX Aj (aV 3) (aV 0)) AL))) (AB (AX Aj (aV 1) (Es VF (AB (AX Kz (aV 0) (aC (.int 2))) AL))) AL))))) (A0 4))
   (Ay (AX BK (aV 4) (GU (CL (NU (aV 4)) 1 [] (A0 0) FD (BJ (AB (Ow GB (AX Aj (aV 0) (aC (.int 0)))) (AB (AX Aj (aV 0) (aC (.int 1))) AL))))))))
abbrev J5:AS:=
 (Ad (As (BJ (AB (AN 2 Dd (AB (aV 0) (AB (aV 3) AL))) (AB (AN 2 Dd (AB (aV 1) (AB (aV 3) AL))) AL))) (NT 2 (Aq (A0 5) (Aq (A0 6) Cg))))
   La)
def Cy:AF:=Ax 7 J5
theorem Nt {x0 x1 x2 x3:PV} {Q:PV->Prop} (h:J5 ⟨λ_=>Q .non,Q,λ_=>False,λ_=>False⟩ [some (.val x0),some (.val x1),some (.val x2),some (.val x3),none,none,none]):Cy [x0,x1,x2,x3] Q:=h
theorem Nf {v:PV} {ms:List Rat} {B:Nat} (hv:v= .lst (ms.map fr)) (hB:B<=4000) (hl:ms.length<=10000) (hb:∀m∈ms,Bd B m) {Q:PV->Prop} (q:Q (.lst ((C3 ms).map fr))):Ca [v] Q:=by
 subst hv
 apply K9
 ac_rfl
 refine C9 fr (λus vs τ=>∃(z2 z3:Option AV),τ= [some (.val (.lst (ms.map fr))),some (.own ((C3 us).map fr)),z2,z3]) ?_ ?_ ⟨_,_,rfl⟩
 ·rintro τ ⟨z2,z3,rfl⟩
  ac_rfl
  exact q
 ·rintro us m vs e τ R hR ⟨z2,z3,rfl⟩
  have ul:us.length<=10000:=by rw [<-e] at hl;simp at hl;omega
  have rl:=IU (xs:=us)
  have bm:=hb m (by rw [<-e];simp)
  have bu:∀x∈C3 us,Bd B x:=λx hx=>hb x (by rw [<-e];simp [CN.mp hx])
  have hs:QJ (C3 us):=Ci
  have fin:∀(ws:List Rat) z2 z3,ws=ins (C3 us) m->R [some (.val (.lst (ms.map fr))),some (.own (ws.map fr)),z2,z3] :=λws z2 z3 h=>hR _ ⟨z2,z3,by rw [h,show C3 (us ++ [m])=ins (C3 us) m by unfold C3;rw [List.foldl_append];rfl]⟩
  clear hR
  generalize C3 us=rs at *
  ac_rfl
  refine DR fr fr (λx=>decide (x<m)) (Bd B) (λx bx R N h1 h2=> ?_) rs [] bu ?_
  ·ac_rfl
   ·rename_i z;exact h1 (decide_eq_true z)
   ·rename_i z;exact h2 (decide_eq_false z)
  have fl:(rs.filter λx=>decide (x<m)).length<=rs.length:=List.length_filter_le _ _
  have ei:=R3 hs (N5 (x:=m) hs)
  rw [List.nil_append]
  generalize (rs.filter λx=>decide (x<m))=fs at *
  ac_rfl
  ·rename_i h1
   have e1:rs[fs.length]? =none:=List.getElem?_eq_none (by omega)
   rw [e1,if_neg (by simp)] at ei
   have:=fin _ (some (.val (fr m))) (some (.val (.int fs.length))) ei.symm
   rw [List.map_append,List.map_cons,List.map_take,List.map_drop] at this
   exact this
  ·rename_i h1 d e1 _ h2
   have e1':rs[fs.length]? =some d:=e1
   rw [e1',if_neg (by simpa using h2)] at ei
   have:=fin _ (some (.val (fr m))) (some (.val (.int fs.length))) ei.symm
   rw [List.map_append,List.map_cons,List.map_take,List.map_drop] at this
   exact this
  ·rename_i h1 d e1 _ h2
   have e1':rs[fs.length]? =some d:=e1
   rw [e1',if_pos (by rw [h2])] at ei
   exact fin _ _ _ ei.symm
theorem gJ {a b:Rat} (h:b<a):a=mx a b:=by unfold mx;split <;> grind
theorem gK {a b:Rat} (h:¬b<a):b=mx a b:=by unfold mx;split <;> grind
theorem gH {a b:Rat} (h:a<b):a=mn a b:=by unfold mn;split <;> grind
theorem gI {a b:Rat} (h:¬a<b):b=mn a b:=by unfold mn;split <;> grind
def YN (cs ds:List C4):List Rat:=if B8 cs ds<B9 cs ds then Rm cs ds else []
theorem PC {cs ds:List C4} {d:Rat×Rat} {M W:Nat} (D:Hd cs ds d M W) {Q:PV->Prop} (q:Q (.lst ((YN cs ds).map fr))):C7 [Ao cs,Ao ds] Q:=by
 have k1:=D.fstB
 have k2:=D.fstB2
 have k3:=D.lstB
 have k4:=D.lstB2
 have k5:=D.begB
 have k6:=D.endB
 have hM:=D.hM
 have f1:=D.f1
 have f2:=D.f2
 have hc:∀c∈cs++ds,Bd M c.1:=λc hc=>by
  rcases List.mem_append.mp hc with h|h
  ·exact D.m1 c h
  ·exact D.m2 c h
 unfold YN Rm EN B8 B9 at q
 unfold B8 at k5
 unfold B9 at k6
 obtain ⟨a,r,l,ecs,h0,el⟩:=open2 D.t1
 obtain ⟨a2,r2,l2,eds,Wr,el2⟩:=open2 D.t2
 have el':cs.getLast?=some l:=by rw [ecs];exact el
 have el2':ds.getLast?=some l2:=by rw [eds];exact el2
 rw [Bk el',Bk el2'] at q k6
 rw [show O3 cs=a.1 by rw [ecs];rfl,show O3 ds=a2.1 by rw [eds];rfl] at q k5
 rw [Bk el'] at k3
 rw [Bk el2'] at k4
 rw [show O3 cs=a.1 by rw [ecs];rfl] at k1
 rw [show O3 ds=a2.1 by rw [eds];rfl] at k2
 have P0:∀{Q:PV->Prop},Q (cor a)->Aj (Ao cs) (.int 0) Q:=λh=>by rw [ecs];exact Xp h
 have P1:∀{Q:PV->Prop},Q (cor a2)->Aj (Ao ds) (.int 0) Q:=λh=>by rw [eds];exact Xp h
 have rest:∀{f t:Rat} {z4:Option AV},f=mx a.1 a2.1->t=mn l.1 l2.1->Dm ⟨λ_=>Q .non,Q,λ_=>False,λ_=>False⟩ [some (.val (Ao cs)),some (.val (Ao ds)),some (.val (fr f)),some (.val (fr t)),z4] :=by
  rintro f t z4 ef et
  rw [<-ef] at q k5
  rw [<-et] at q k6
  ac_rfl
  ·rename_i z
   rw [if_neg z] at q
   exact q
  ·rename_i z
   rw [if_pos z] at q
   refine DR cor (λc=>fr c.1) (Jd f t) (λc=>Bd M c.1) (λc bc R N h1 h2=> ?_) (cs++ds) [] hc ?_
   ·ac_rfl
    ·rename_i y1 y2;exact h1 (by unfold Jd;rw [decide_eq_true y1,decide_eq_true y2];rfl)
    ·rename_i y1 y2;exact h2 (by unfold Jd;rw [decide_eq_true y1,decide_eq_false y2];rfl)
    ·rename_i y1;exact h2 (by unfold Jd;rw [decide_eq_false y1];rfl)
   rw [List.nil_append]
   have fl1:=List.length_filter_le (Jd f t) (cs++ds)
   rw [List.length_append] at fl1
   ac_rfl
   refine Nf (ms:= [f,t] ++ (cs.filter (Jd f t)++ds.filter (Jd f t)).map (·.1)) (B:=M) ?_ (by omega) ?_ ?_ q
   ·rw [<-List.filter_append,List.map_append,List.map_map];rfl
   ·rw [<-List.filter_append]
    simp only [List.length_append,List.length_map,List.length_cons,List.length_nil]
    omega
   ·intro x hx
    rcases List.mem_append.mp hx with hx|hx
    ·simp only [List.mem_cons,List.not_mem_nil,or_false] at hx
     rcases hx with rfl|rfl
     ·exact k5
     ·exact k6
    ·obtain ⟨c,h,rfl⟩:=List.mem_map.mp hx
     rw [<-List.filter_append] at h
     exact hc c (List.mem_filter.mp h).1
 apply Mh
 unfold E8 Fb
 generalize Dm=T at rest ⊢
 clear q
 ac_rfl
 refine P1 ?_
 ac_rfl
 refine P0 ?_
 ac_rfl
 ·rename_i z
  refine P0 ?_
  ac_rfl
  ·rename_i y
   exact rest (gJ z) (gH y)
  ·rename_i y
   exact rest (gJ z) (gI y)
 ·rename_i z
  refine P1 ?_
  ac_rfl
  ·rename_i y
   exact rest (gK z) (gH y)
  ·rename_i y
   exact rest (gK z) (gI y)
def HQ (o:T3):List Rat:= [o.1,o.2.1,o.2.2, -o.1, -o.2.1, -o.2.2]
theorem KH {cs ds:List C4} {d:Rat×Rat} {M W:Nat} (D:Hd cs ds d M W) {b e m:Rat} (tg:fF cs ds b e) (h1:b<=m) (h2:m<=e) (bm:Bd M m) {Q:PV->Prop} (q:Q (.lst ((HQ (Fp cs ds d m)).map fr))):Cy [Ao cs,Ao ds, .tup [fr d.1,fr d.2],fr m] Q:=by
 have hM:=D.hM
 obtain ⟨s,es⟩:=tg.one m h1 h2
 obtain ⟨t,et⟩:=tg.other m h1 h2
 have t1:=(E1.spotC bm D.r1 D.c1 s es).mono (B':=1060) (by omega)
 have t2:=(E1.spotC bm D.r2 D.c2 t et).mono (B':=1060) (by omega)
 have x1:=t1.x
 have x2:=t1.y
 have x3:=t1.z
 have y1:=t2.x
 have y2:=t2.y
 have y3:=t2.z
 have z1:=x1.sub y1
 have z2:=x2.sub y2
 have z3:=x3.sub y3
 have b1:=D.b1
 have b2:=D.b2
 have n1:d.1≠0:=by have:=D.p1;grind
 have n2:d.2≠0:=by have:=D.p2;grind
 have f1:=D.f1
 have f2:=D.f2
 have k1:=D.t1
 have k2:=D.t2
 apply Nt
 ac_rfl
 refine F3 D.c1 D.r1 (by intro z;subst z;simp at k1) (by omega) bm (by omega) ?_
 rw [es,show KY (some s)= .tup [fr s.1,fr s.2.1,fr s.2.2] from rfl]
 ac_rfl
 refine F3 D.c2 D.r2 (by intro z;subst z;simp at k2) (by omega) bm (by omega) ?_
 rw [et,show KY (some t)= .tup [fr t.1,fr t.2.1,fr t.2.2] from rfl]
 ac_rfl
 rw [show rng 0 (Int.toNat 3)= [.int 0, .int 1, .int 2] from rfl]
 repeat' array_get_dec
 rw [show (if decide ((0:Int)=2)=true then (1:Int) else 0)=0 from rfl]
 repeat' array_get_dec
 rw [show (if decide ((1:Int)=2)=true then (1:Int) else 0)=0 from rfl]
 repeat' array_get_dec
 rw [show (if decide ((2:Int)=2)=true then (1:Int) else 0)=1 from rfl]
 repeat' array_get_dec
 have q:Q (.lst ((HQ (Jn ((spotC cs m).getD (0,0,0)) ((spotC ds m).getD (0,0,0)) d)).map fr)):=q
 rw [es,et] at q
 exact q
abbrev ap (p:Rat×Rat):PV:= .tup [fr p.1,fr p.2]
theorem YU (ts:List Rat):Dv (ts.map fr) (Gk (ts.map fr) (some 1) none)=(ts.zip ts.tail).map ap:=by
 rw [jO,<-List.map_drop,dz]
 rw [List.drop_one]
def Fq (cs ds:List C4) (d:Rat×Rat) (p:Rat×Rat):Pc:=⟨p.1,p.2,Fp cs ds d p.1,Fp cs ds d p.2⟩
theorem aE {cs ds:List C4} {d:Rat×Rat} {M W:Nat} (D:Hd cs ds d M W):(YN cs ds).length<=202:=by
 have h1:=D.f1
 have h2:=D.f2
 unfold YN
 split
 ·have:=Oa (cs:=cs) (ds:=ds) (b:=B8 cs ds) (e:=B9 cs ds)
  unfold Rm
  omega
 ·simp
theorem p8 {r:Rat} (h:r.num.natAbs<2^3:=by decide +kernel) (h2:r.den<2^3:=by decide +kernel):Bd 3 r:=⟨h,h2⟩
theorem p7 {r:Rat} (h:r.num.natAbs<2^2:=by decide +kernel) (h2:r.den<2^2:=by decide +kernel):Bd 2 r:=⟨h,h2⟩
theorem N4 {Q:PV->Prop} (q:∀d:Rat×Rat,Bd 3 d.1->Bd 3 d.2->1/3<=d.1->1/3<=d.2->Q (.tup [fr d.1,fr d.2])):CP [.tape] Q:=by
 apply Mf
 have all:∀x∈ [(1:Rat),2,3/2,1/3,5],Bd 3 x/\1/3<=x:=by
  intro x hx
  simp only [List.mem_cons,List.not_mem_nil,or_false] at hx
  rcases hx with rfl|rfl|rfl|rfl|rfl <;> exact ⟨p8,by decide +kernel⟩
 ac_rfl
 refine O9 (xs:= [(1:Rat),2,3/2,1/3,5]) (by omega) (by show _<(5:Int);omega) λx hx=> ?_
 ac_rfl
 refine O9 (xs:= [(1:Rat),2,3/2,1/3,5]) (by omega) (by show _<(5:Int);omega) λy hy=> ?_
 ac_rfl
 exact q (x,y) (all x hx).1 (all y hy).1 (all x hx).2 (all y hy).2
theorem Sn {n:Nat} {cs:List C4} {t:Rat} {o:T3} (p:CK n 10 cs) (bt:Bd 11 t) (bo:E1 11 o):CK n 22 (cs.map (ca t o)):=by
 refine ⟨by simpa using p.two,by simpa using p.few,λc hc=> ?_, ?_⟩
 ·obtain ⟨d,hd,rfl⟩:=List.mem_map.mp hc
  have b:=p.bd d hd
  exact ⟨(b.m.add bt).mono (by decide),(b.x.add bo.x).mono (by decide),(b.y.add bo.y).mono (by decide),(b.z.add bo.z).mono (by decide)⟩
 ·refine List.pairwise_map.mpr (p.ris.imp λ{a b} h=> ?_)
  show a.1+t<b.1+t
  grind
theorem DQ {cs:List C4} {w:Int} {o:T3} {z2 z5 z6 z7 z8:Option AV} {X Y Z:BG->Prop} (pm:Lz 12 6 600 cs) (bo:E1 11 o) {Q:PV->Prop} (q:∀ds,CK 12 22 ds->Q (Ao ds)):
 Et {nx:=X,rt:=Q,bk:=Y,ct:=Z} [some (.val .tape),some (.val (Ao cs)),z2,some (.val (.int w)),some (.own [fr o.1,fr o.2.1,fr o.2.2]),z5,z6,z7,z8] :=by
 have few:=pm.few
 have two:=pm.two
 have p12:CK 12 10 cs:=pm.ok (by decide) (by decide)
 obtain ⟨a,r,l,ecs,h0,el,al⟩:=p12.open
 have el':cs.getLast?=some l:=by rw [ecs];exact el
 have ml:l∈cs:=List.mem_of_getLast? el'
 have bl:=(p12.bd l ml).m
 have b20:=eG.mono (n:=11) (by decide)
 have ok40:∀{ds:List C4},Lz 12 6 600 ds->CK 12 22 ds:=λp=>⟨p.two,p.few,λc hc=>(p.mu c hc).bd (by decide) (by decide),p.ris⟩
 ac_rfl
 ·exact HR rfl (by omega) p12.bd b20 bo (by decide) (by decide) (q _ (Sn p12 b20 bo))
 ·rename_i sp bs ps k k0 k1
  refine O9 (xs:= [sp,0]) k0 k1 λt ht=> ?_
  have bt:Bd 11 t:=by
   simp only [List.mem_cons,List.not_mem_nil,or_false] at ht
   rcases ht with rfl|rfl
   ·exact bs.mono (by decide)
   ·exact b20
  ac_rfl
  exact HR rfl (by omega) p12.bd bt bo (by decide) (by decide) (q _ (Sn p12 bt bo))
 ·show (cs.map cor).length=(cs.map cor).length/\_
  refine ⟨rfl, ?_⟩
  rw [<-List.map_reverse,aI]
  refine ⟨gF (n:=12) (by simp;omega) (by decide), ?_⟩
  refine EU (λp:C4×C4=> .tup [cor p.1,cor p.2]) cor (λp=>(p.1.1,p.2.2)) (λ_=>True) (λp _ R hR=> ?_) _ [] (by simp) ?_
  ·ac_rfl
   exact hR
  rw [List.nil_append]
  ac_rfl
  refine q _ ⟨by simp;omega,by simp;omega,λc hc=> ?_, ?_⟩
  ·obtain ⟨⟨u,v⟩,hu,rfl⟩:=List.mem_map.mp hc
   have h1:=p12.bd u (List.of_mem_zip hu).1
   have h2:=p12.bd v (List.mem_reverse.mp (List.of_mem_zip hu).2)
   exact ⟨h1.m.mono (by decide),h2.x.mono (by decide),h2.y.mono (by decide),h2.z.mono (by decide)⟩
  ·refine UL pm.ris ?_
   rw [List.map_map]
   have e:((λx:C4=>x.1) ∘ λp:C4×C4=>((p.1.1,p.2.2):C4))=(λx:C4=>x.1) ∘ Prod.fst:=rfl
   rw [e,<-List.map_map,List.map_fst_zip (by simp)]
 ·refine Jv λds pd=> ?_
  have pd12:CK 12 10 ds:=pd.ok (by decide) (by decide)
  obtain ⟨a2,r2,l2,eds,Wr,el2,al2⟩:=pd12.open
  have few2:=pd.few
  have ba2:=(pd12.bd a2 (by rw [eds];simp)).m
  subst eds
  have bt:Bd 11 (l.1-a2.1):=(Mul.subQ (pm.mu l ml).m (pd.mu a2 (by simp)).m).bd (by decide) (by decide)
  ac_rfl
  exact HR (o:=(0,0,0)) rfl (by omega) pd12.bd bt ⟨b20,b20,b20⟩ (by decide) (by decide) (q _ (Sn pd12 bt ⟨b20,b20,b20⟩))
 ·rename_i k k0 k1 x bx y by' z bz c ec mc
  have bc:=p12.bd c mc
  have hk:k.toNat<cs.length:=by omega
  have ec':cs[k.toNat] =c:=by rw [List.getElem?_eq_getElem hk] at ec;exact Option.some.inj ec
  rw [show (k+1).toNat=k.toNat+1 by omega]
  refine q _ ⟨by simp;omega,by simp;omega,λd hd=> ?_, ?_⟩
  ·rcases List.mem_append.mp hd with hd|hd
   ·rcases List.mem_append.mp hd with hd|hd
    ·exact (p12.bd d (List.mem_of_mem_take hd)).mono (by decide)
    ·simp at hd;subst hd
     exact ⟨bc.m.mono (by decide),bx.mono (by decide),by'.mono (by decide),bz.mono (by decide)⟩
   ·exact (p12.bd d (List.mem_of_mem_drop hd)).mono (by decide)
  ·refine UL pm.ris ?_
   have e:cs=cs.take k.toNat ++ [c] ++ cs.drop (k.toNat+1):=by
    rw [List.append_assoc,List.singleton_append,<-ec',<-List.drop_eq_getElem_cons hk,List.take_append_drop]
   conv=>rhs;rw [e]
   simp only [List.map_append,List.map_cons,List.map_nil]
 ·rename_i k k0 k1 c ec mc c0 ec0 mc0 sp bs ps
  have bc:=p12.bd c mc
  have bc0:=p12.bd c0 mc0
  have e0:c0=a:=by rw [ecs] at ec0;exact (Option.some.inj ec0).symm
  refine q [(c0.1,c.2.1,c.2.2.1,c.2.2.2),(l.1+sp,c.2.1,c.2.2.1,c.2.2.2)] ⟨by simp,by simp,λd hd=> ?_, ?_⟩
  ·simp only [List.mem_cons,List.not_mem_nil,or_false] at hd
   rcases hd with rfl|rfl
   ·exact ⟨bc0.m.mono (by decide),bc.x.mono (by decide),bc.y.mono (by decide),bc.z.mono (by decide)⟩
   ·exact ⟨(bl.add bs).mono (by decide),bc.x.mono (by decide),bc.y.mono (by decide),bc.z.mono (by decide)⟩
  ·refine List.pairwise_cons.mpr ⟨λd hd=> ?_,List.pairwise_singleton _ _⟩
   simp at hd;subst hd
   show c0.1<l.1+sp
   rw [e0]
   grind
 ·exact Jv λds pd=>q ds (ok40 pd)
theorem R4 {cs:List C4} {d:Rat×Rat} (p:Lz 12 6 600 cs) (b1:Bd 3 d.1) (b2:Bd 3 d.2) {Q:PV->Prop} (q:∀ds,CK 12 22 ds->Q (Ao ds)):CZ [.tape,Ao cs, .tup [fr d.1,fr d.2]] Q:=by
 have few:=p.few
 have two:=p.two
 apply K8
 ac_rfl
 rename_i w w0 w1 r r0 r1
 have hr:r=0\/r=1\/r=2:=by omega
 have bz:Bd 11 (0:Rat):=eG.mono (by decide)
 have fac:∀{k:Int} {R:PV->Prop},0<=k->k<3->(∀f:Rat,Bd 2 f->R (fr f))->Aj (.lst [fr (1/2),fr ((-1:Int):Rat), .tup [.int (-1), .int 3]]) (.int k) R:=λk0 k1 h=>by
  rw [iD]
  refine O9 (xs:= [(1/2:Rat),((-1:Int):Rat), -1/3]) k0 k1 λx hx=>h x ?_
  simp only [List.mem_cons,List.not_mem_nil,or_false] at hx
  rcases hx with rfl|rfl|rfl <;> exact p7
 rcases hr with rfl|rfl|rfl
 ·ac_rfl
  rw [show (if decide ((0:Int)=2)=true then (1:Int) else 0)=0 from rfl]
  ac_rfl
  simp only [aa,Zc,List.set_cons_zero,List.set_cons_succ]
  repeat' (first | exact DQ (o:=(d.1,0,0)) p ⟨b1.mono (by decide),bz,bz⟩ q|array_mem_dec)
  refine fac (by omega) (by omega) λf bf=> ?_
  ac_rfl
  simp only [aa,Zc,List.set_cons_zero,List.set_cons_succ]
  repeat' (first | exact DQ (o:=(d.1*f,0,0)) p ⟨(b1.mul bf).mono (by decide),bz,bz⟩ q|array_mem_dec)
 ·ac_rfl
  rw [show (if decide ((1:Int)=2)=true then (1:Int) else 0)=0 from rfl]
  ac_rfl
  simp only [ab,Zc,List.set_cons_zero,List.set_cons_succ]
  repeat' (first | exact DQ (o:=(0,d.1,0)) p ⟨bz,b1.mono (by decide),bz⟩ q|array_mem_dec)
  refine fac (by omega) (by omega) λf bf=> ?_
  ac_rfl
  simp only [ab,Zc,List.set_cons_zero,List.set_cons_succ]
  repeat' (first | exact DQ (o:=(0,d.1*f,0)) p ⟨bz,(b1.mul bf).mono (by decide),bz⟩ q|array_mem_dec)
 ·ac_rfl
  rw [show (if decide ((2:Int)=2)=true then (1:Int) else 0)=1 from rfl]
  ac_rfl
  simp only [ae,Zc,List.set_cons_zero,List.set_cons_succ]
  repeat' (first | exact DQ (o:=(0,0,d.2)) p ⟨bz,bz,b2.mono (by decide)⟩ q|array_mem_dec)
  refine fac (by omega) (by omega) λf bf=> ?_
  ac_rfl
  simp only [ae,Zc,List.set_cons_zero,List.set_cons_succ]
  repeat' (first | exact DQ (o:=(0,0,d.2*f)) p ⟨bz,bz,(b2.mul bf).mono (by decide)⟩ q|array_mem_dec)
theorem WS {ns:List Int} {k:Nat} (hk:k<=1000) {Q:PV->Prop} (q:∀cs ds (d:Rat×Rat),CK 12 22 cs->CK 12 22 ds->Bd 3 d.1->Bd 3 d.2->1/3<=d.1->1/3<=d.2->Q (.tup [.tape,Ao cs,Ao ds, .tup [fr d.1,fr d.2]])):Dc [.scr ns, .int k] Q:=by
 apply Nr
 ac_rfl
 refine N4 λd b1 b2 p1 p2=> ?_
 ac_rfl
 refine Jv λcs pc=> ?_
 ac_rfl
 refine R4 pc b1 b2 λds pd=> ?_
 have pc40:CK 12 22 cs:=⟨pc.two,pc.few,λc hc=>(pc.mu c hc).bd (by decide) (by decide),pc.ris⟩
 ac_rfl
 ·exact q ds cs d pd pc40 b1 b2 p1 p2
 ·exact q cs ds d pc40 pd b1 b2 p1 p2
theorem Vr {cs ds:List C4} (t1:2<=cs.length) (t2:2<=ds.length) (h:B8 cs ds<B9 cs ds):fF cs ds (B8 cs ds) (B9 cs ds):=by
 obtain ⟨a,r,l,rfl,h0,el⟩:=open2 t1
 obtain ⟨a2,r2,l2,rfl,Wr,el2⟩:=open2 t2
 unfold B8 B9 at h ⊢
 rw [EV,EV,Bk el,Bk el2] at h ⊢
 exact YK h0 Wr el el2 h
theorem Y5 {cs ds:List C4} {M:Nat} (t1:2<=cs.length) (t2:2<=ds.length) (m1:∀c∈cs,Bd M c.1) (m2:∀c∈ds,Bd M c.1):Bd M (B8 cs ds)/\Bd M (B9 cs ds):=by
 obtain ⟨a,r,l,rfl,h0,el⟩:=open2 t1
 obtain ⟨a2,r2,l2,rfl,Wr,el2⟩:=open2 t2
 unfold B8 B9
 rw [EV,EV,Bk el,Bk el2]
 exact ⟨(m1 a (by simp)).mx (m2 a2 (by simp)),(m1 l (List.mem_of_getLast? el)).mn (m2 l2 (List.mem_of_getLast? el2))⟩
theorem bZ {cs ds:List C4} {d:Rat×Rat} {n B D:Nat} (hn:n<=100) (p:CK n B cs) (p2:CK n B ds) (b1:Bd D d.1) (b2:Bd D d.2) (g1:0<d.1) (g2:0<d.2) (hB:B<=150) (hD:D<=100) (hW:2*(7*B+10)+1+D<=1050):Hd cs ds d B (2*(7*B+10)+1+D) where
 c1:=λc hc=>(p.bd c hc).mono hB
 c2:=λc hc=>(p2.bd c hc).mono hB
 r1:=p.ris
 r2:=p2.ris
 t1:=p.two
 t2:=p2.two
 f1:=Nat.le_trans p.few hn
 f2:=Nat.le_trans p2.few hn
 m1:=λc hc=>(p.bd c hc).m
 m2:=λc hc=>(p2.bd c hc).m
 b1:=b1.mono hD
 b2:=b2.mono hD
 p1:=g1
 p2:=g2
 w:=λh m hm=>by
  have tg:=Vr p.two p2.two h
  obtain ⟨e1,e2⟩:=Y5 p.two p2.two (λc hc=>(p.bd c hc).m) (λc hc=>(p2.bd c hc).m)
  have ti:=M8 h hm
  have bm:=M7 (λc hc=>(p.bd c hc).m) (λc hc=>(p2.bd c hc).m) e1 e2 hm
  exact (cj tg ti.1 ti.2 p.ris p2.ris p.bd p2.bd bm b1 b2 (by grind) (by grind)).mono (by omega)
 hM:=hB
 hW:=hW
theorem ZG {ss:List B4} (fin:∀s∈ss,∃x,s.2.2=some x) (k:Rat):∃m,k<m/\ss.any (CT · (m,0))=false:=by
 induction ss with
 | nil=>exact ⟨k+1,by grind,rfl⟩
 | cons s ss ih=>
   obtain ⟨x,hx⟩:=fin s (by simp)
   have big:∀(tt:List B4),(∀s∈tt,∃x,s.2.2=some x)->∃n:Rat,k<n/\∀s∈tt,∀x,s.2.2=some x->x<n:=by
    intro tt
    induction tt with
    | nil=>intro _;exact ⟨k+1,by grind,by simp⟩
    | cons t tt ih2=>
      intro hf
      obtain ⟨n,h1,h2⟩:=ih2 λs hs=>hf s (by simp [hs])
      obtain ⟨y,hy⟩:=hf t (by simp)
      by_cases z:y<n
      ·refine ⟨n,h1,λs hs x hx=> ?_⟩
       rcases List.mem_cons.mp hs with rfl|hs
       ·rw [hy] at hx;cases hx;exact z
       ·exact h2 s hs x hx
      ·refine ⟨y+1,by grind,λs hs x hx=> ?_⟩
       rcases List.mem_cons.mp hs with rfl|hs
       ·rw [hy] at hx;cases hx;grind
       ·have:=h2 s hs x hx;grind
   obtain ⟨n,h1,h2⟩:=big (s::ss) fin
   refine ⟨n,h1, ?_⟩
   rw [List.any_eq_false]
   intro t ht z
   obtain ⟨y,hy⟩:=fin t ht
   have:=h2 t ht y hy
   unfold CT at z
   rw [hy] at z
   simp at z
   grind
theorem U7 {B:Nat} {ss:List B4} (ok:∀s∈ss,Ez B s) (fin:∀s∈ss,∃x,s.2.2=some x):∀r∈canon 1 ss,∃x,r.2.2=some x:=by
 intro r hr
 cases e:r.2.2 with
 | some x=>exact ⟨x,rfl⟩
 | none=>
   exfalso
   obtain ⟨m,h1,h2⟩:=ZG fin r.1
   rw [<-Qm ok (p:=(m,0)) (.inl rfl)] at h2
   rw [List.any_eq_false] at h2
   refine h2 r hr ?_
   unfold CT
   rw [e]
   simp
   exact .inl h1
structure Told (P:Rat->Prop) (B:Nat) (cc:List B4):Prop where
 ok:∀s∈cc,Ez B s
 fin:∀s∈cc,∃x,s.2.2=some x
 few:cc.length<=2000
 sem:∀m,cc.any (CT · (m,0))=true↔P m
theorem aN.told {cs ds:List C4} {d:Rat×Rat} {B:Nat} {ss:List B4} (n:aN cs ds d B ss):Told (PH cs ds d) B (canon 1 ss):=
 ⟨WR n.ok,U7 n.ok n.fin,by have:=R5 (n:=1) (ss:=ss);have:=n.few;omega,λm=>by rw [Qm n.ok (p:=(m,0)) (.inl rfl)];exact n.sem m⟩
structure qd (Bm Bs:Nat) (c:C4):Prop where
 m:Bd Bm c.1
 p:E1 Bs c.2
theorem Ux (r:Rat):absR (-r)=absR r:=by
 unfold absR
 split <;> split <;> grind
theorem Wm (p q:T3) (d:Rat×Rat):HP (Jn q p d)=HP (Jn p q d):=by
 have h:∀x y z:Rat,(y-x)/z= -((x-y)/z):=λx y z=>by
  rw [Rat.div_def,Rat.div_def,<-Rat.neg_mul]
  congr 1
  grind
 unfold HP Jn
 simp only [h p.1 q.1,h p.2.1 q.2.1,h p.2.2 q.2.2,Ux]
theorem UC (a b:Rat):mx a b=mx b a:=by unfold mx;split <;> split <;> grind
theorem UB (a b:Rat):mn a b=mn b a:=by unfold mn;split <;> split <;> grind
abbrev fL (l:Rat×Rat) (s:Rat):Rat:=l.1+s*(l.2-l.1)
def F9 (ls:List (Rat×Rat)) (s g:Rat):Prop:=(∃l∈ls,fL l s=g)/\∀l∈ls,fL l s<=g
theorem Jm {ls:List (Rat×Rat)} {s g h:Rat} (a:F9 ls s g) (b:F9 ls s h):g=h:=by
 obtain ⟨⟨l,hl,el⟩,ha⟩:=a
 obtain ⟨⟨m,hm,em⟩,hb⟩:=b
 have:=ha m hm
 have:=hb l hl
 grind
def Bg (a b:Rat×Rat):Rat:=(a.1-b.1)/(a.1-b.1+b.2-a.2)
def F8 (a b:Rat×Rat):Prop:=b.1<a.1/\a.2<b.2
theorem LN {a b:Rat×Rat} (h:F8 a b):0<Bg a b/\Bg a b<1/\∀s,fL a s<=fL b s↔Bg a b<=s:=by
 obtain ⟨h1,h2⟩:=h
 have d:0<a.1-b.1+b.2-a.2:=by grind
 have e:Bg a b*(a.1-b.1+b.2-a.2)=a.1-b.1:=by unfold Bg;grind
 refine ⟨?_, ?_,λs=> ?_⟩
 ·unfold Bg;rw [Rat.lt_div_iff d];grind
 ·unfold Bg;rw [Rat.div_lt_iff d];grind
 ·constructor
  ·intro h
   rw [<-Rat.not_lt]
   intro z
   have:=Rat.mul_lt_mul_of_pos_right z d
   unfold fL at h
   grind
  ·intro h
   have:=Rat.mul_le_mul_of_nonneg_right h (show 0<=a.1-b.1+b.2-a.2 by grind)
   unfold fL
   grind
theorem ZS {a b:Rat×Rat} (h:F8 a b):fL a (Bg a b)=fL b (Bg a b):=by
 obtain ⟨h1,h2⟩:=h
 have d:a.1-b.1+b.2-a.2≠0:=by grind
 have e:Bg a b*(a.1-b.1+b.2-a.2)=a.1-b.1:=by unfold Bg;grind
 unfold fL
 grind
def Ko (ls:List (Rat×Rat)) (c:Rat):Prop:=c=0\/c=1\/∃a∈ls,∃b∈ls,F8 a b/\c=Bg a b
theorem IC {ls:List (Rat×Rat)} {c:Rat} (h:Ko ls c):0<=c/\c<=1:=by
 rcases h with rfl|rfl|⟨a,_,b,_,f,rfl⟩
 ·exact ⟨by grind,by grind⟩
 ·exact ⟨by grind,by grind⟩
 ·have:=LN f;exact ⟨by grind,by grind⟩
theorem Sj {α:Type} (f:α->Rat):∀{xs:List α},xs≠ [] ->∃x∈xs,∀y∈xs,f y<=f x
 | [],h=>absurd rfl h
 | [x],_=>⟨x,by simp,λy hy=>by simp at hy;subst hy;exact Rat.le_refl⟩
 | x::y::r,_=>by
   obtain ⟨k,hk,h⟩:=Sj f (xs:=y::r) (by simp)
   by_cases z:f x<=f k
   ·refine ⟨k,by simp [hk],λw hw=> ?_⟩
    rcases List.mem_cons.mp hw with rfl|hw
    ·exact z
    ·exact h w hw
   ·refine ⟨x,by simp,λw hw=> ?_⟩
    rcases List.mem_cons.mp hw with rfl|hw
    ·exact Rat.le_refl
    ·have:=h w hw;grind
def Ta (ls:List (Rat×Rat)):List Rat:=0::1::ls.flatMap λa=>(ls.filter λb=>decide (b.1<a.1/\a.2<b.2)).map λb=>Bg a b
theorem EA {ls:List (Rat×Rat)} {c:Rat}:c∈Ta ls↔Ko ls c:=by
 unfold Ta Ko F8
 simp only [List.mem_cons,List.mem_flatMap,List.mem_map,List.mem_filter,decide_eq_true_eq]
 constructor
 ·rintro (h|h|⟨a,ha,b,⟨hb,f⟩,e⟩)
  ·exact .inl h
  ·exact .inr (.inl h)
  ·exact .inr (.inr ⟨a,ha,b,hb,f,e.symm⟩)
 ·rintro (h|h|⟨a,ha,b,hb,f,e⟩)
  ·exact .inl h
  ·exact .inr (.inl h)
  ·exact .inr (.inr ⟨a,ha,b,⟨hb,f⟩,e.symm⟩)
theorem Wh {j i:Rat×Rat} {p s:Rat} (p0:0<=p) (ps:p<s) (s1:s<1) (h1:fL i p<fL j p) (h2:fL j s<=fL i s):F8 j i:=by
 have e:∀x y,fL j x-fL i x-(fL j y-fL i y)=(x-y)*((j.2-j.1)-(i.2-i.1)):=λx y=>by unfold fL;grind
 have e1:=e p s
 have n:(j.2-j.1)-(i.2-i.1)<0:=by
  rw [<-Rat.not_le];intro z
  have:=Rat.mul_nonneg (show 0<=s-p by grind) z
  grind
 have a1:=e 0 p
 have a2:=e 1 s
 have m1:=Rat.mul_nonneg p0 (show 0<= -((j.2-j.1)-(i.2-i.1)) by grind)
 have m2:=Rat.mul_pos (show 0<1-s by grind) (show 0 < -((j.2-j.1)-(i.2-i.1)) by grind)
 unfold F8
 unfold fL at a1 a2 h1 h2
 exact ⟨by grind,by grind⟩
theorem VD {j i:Rat×Rat} {s q:Rat} (s0:0<s) (sq:s<q) (q1:q<=1) (h1:fL i q<fL j q) (h2:fL j s<=fL i s):F8 i j:=by
 have e:∀x y,fL j x-fL i x-(fL j y-fL i y)=(x-y)*((j.2-j.1)-(i.2-i.1)):=λx y=>by unfold fL;grind
 have e1:=e q s
 have n:0<(j.2-j.1)-(i.2-i.1):=by
  rw [<-Rat.not_le];intro z
  have:=Rat.mul_nonneg (show 0<=q-s by grind) (show 0<= -((j.2-j.1)-(i.2-i.1)) by grind)
  grind
 have a1:=e 0 s
 have a2:=e 1 q
 have m1:=Rat.mul_pos s0 n
 have m2:=Rat.mul_nonneg (show 0<=1-q by grind) (show 0<=(j.2-j.1)-(i.2-i.1) by grind)
 unfold F8
 unfold fL at a1 a2 h1 h2
 exact ⟨by grind,by grind⟩
theorem Ql {ls:List (Rat×Rat)} {s g:Rat} (s0:0<=s) (s1:s<=1) (h:F9 ls s g):∃c k,Ko ls c/\F9 ls c k/\(k<g\/(k=g/\c<=s)):=by
 by_cases sc:Ko ls s
 ·exact ⟨s,g,sc,h, .inr ⟨rfl,Rat.le_refl⟩⟩
 have n0:s≠0:=λe=>sc (.inl e)
 have n1:s≠1:=λe=>sc (.inr (.inl e))
 have s0':0<s:=by grind
 have s1':s<1:=by grind
 obtain ⟨⟨i,hi,ei⟩,hm⟩:=h
 obtain ⟨p,hp,px⟩:=Sj (λc:Rat=>c) (xs:=(Ta ls).filter λc=>decide (c<=s)) (by
  intro z
  have:=List.filter_eq_nil_iff.mp z 0 (EA.mpr (.inl rfl))
  simp at this
  grind)
 obtain ⟨q,hq,qx⟩:=Sj (λc:Rat=> -c) (xs:=(Ta ls).filter λc=>decide (s<c)) (by
  intro z
  have:=List.filter_eq_nil_iff.mp z 1 (EA.mpr (.inr (.inl rfl)))
  simp at this
  grind)
 have DI:=List.mem_filter.mp hp
 have Tu:=List.mem_filter.mp hq
 have pc:=EA.mp DI.1
 have qc:=EA.mp Tu.1
 have ps:p<=s:=of_decide_eq_true DI.2
 have sq:s<q:=of_decide_eq_true Tu.2
 have pn:p<s:=by
  have:p≠s:=λe=>sc (e ▸ pc)
  grind
 have pin:=IC pc
 have qin:=IC qc
 by_cases d:0<=i.2-i.1
 ·refine ⟨p,fL i p,pc,⟨⟨i,hi,rfl⟩,λj hj=> ?_⟩, ?_⟩
  ·rw [<-Rat.not_lt]
   intro z
   have f:=Wh pin.1 pn s1' z (by rw [ei];exact hm j hj)
   have mt:=LN f
   have m1:Bg j i<=s:=(mt.2.2 s).mp (by rw [ei];exact hm j hj)
   have m2:¬Bg j i<=p:=λw=>absurd ((mt.2.2 p).mpr w) (by grind)
   have:=px (Bg j i) (List.mem_filter.mpr ⟨EA.mpr (.inr (.inr ⟨j,hj,i,hi,f,rfl⟩)),decide_eq_true m1⟩)
   grind
  ·have e:fL i s=fL i p+(s-p)*(i.2-i.1):=by unfold fL;grind
   have:=Rat.mul_nonneg (show 0<=s-p by grind) d
   by_cases w:fL i p<g
   ·exact .inl w
   ·exact .inr ⟨by grind,ps⟩
 ·refine ⟨q,fL i q,qc,⟨⟨i,hi,rfl⟩,λj hj=> ?_⟩, ?_⟩
  ·rw [<-Rat.not_lt]
   intro z
   have f:=VD s0' sq qin.2 z (by rw [ei];exact hm j hj)
   have mt:=LN f
   have m1:Bg i j<=q:=(mt.2.2 q).mp (by grind)
   have m0:Bg i j≠q:=λw=>by
    have:=ZS f
    rw [w] at this
    grind
   have m2:¬Bg i j<=s:=λw=>by
    have h1:=(mt.2.2 s).mpr w
    have h2:=hm j hj
    have h3:fL j s=fL i s:=by grind
    have h4:s<=Bg i j:=by
     rw [<-Rat.not_lt];intro v
     obtain ⟨f1,f2⟩:=f
     have dd:0<i.1-j.1+j.2-i.2:=by grind
     have e:Bg i j*(i.1-j.1+j.2-i.2)=i.1-j.1:=by unfold Bg;grind
     have:=Rat.mul_lt_mul_of_pos_right v dd
     unfold fL at h3
     grind
    exact sc (.inr (.inr ⟨i,hi,j,hj,f,by grind⟩))
   have:=qx (Bg i j) (List.mem_filter.mpr ⟨EA.mpr (.inr (.inr ⟨i,hi,j,hj,f,rfl⟩)),decide_eq_true (by grind)⟩)
   grind
  ·left
   have e:fL i q=fL i s+(q-s)*(i.2-i.1):=by unfold fL;grind
   have:=Rat.mul_pos (show 0<q-s by grind) (show 0 < -(i.2-i.1) by grind)
   grind
abbrev Hu:AS:=
 (Ad (As (GU (CL (NU (aV 1)) 2 [4,5] (NT 2 (Aq (A0 0) (Aq (A0 1) Cg))) FD (AX BK (AX CY (aV 0) (AX Gm (aV 3) (aV 2))) (AX CY (aV 1) (aV 2))))) (A0 3))
   (Ay (BJ (AB (Es To (AB (aV 3) AL)) (AB (AX CY (aV 0) (aV 5)) AL)))))
abbrev Fz:AS:=
 (Ad (As (aV 2) (NT 2 (Aq (A0 4) (Aq (A0 5) Cg))))
   Hu)
def Bo:AF:=Ax 6 Fz
theorem Jy {x0 x1 x2:PV} {Q:PV->Prop} (h:Fz ⟨λ_=>Q .non,Q,λ_=>False,λ_=>False⟩ [some (.val x0),some (.val x1),some (.val x2),none,none,none]):Bo [x0,x1,x2] Q:=h
theorem XI {ns:List Int} {Q:PV->Prop} (h0:ns≠ []) (h:∀M,M∈ns->(∀a∈ns,a<=M)->Q (.int M)):To [.lst (ns.map PV.int)] Q:=by
 show (match GC (ns.map PV.int) with | some ns=>ns≠ [] /\∀M,M∈ns->(∀a∈ns,a<=M)->Q (.int M)|none=>False)
 rw [ints_map]
 exact ⟨h0,h⟩
def Vz (N:Nat) (lns:List (Int×Int)):List (Rat×Rat):=lns.map λl=>((l.1:Rat)/N,(l.2:Rat)/N)
structure d9 (N K:Nat) (lns:List (Int×Int)):Prop where
 n0:0<N
 n:N<2^K
 a:∀l∈lns,l.1.natAbs<2^K/\l.2.natAbs<2^K
 ne:lns≠ []
 k:K<=4300
 len:lns.length<=100
structure Yr (K:Nat) (p:Int×Int):Prop where
 pos:0<p.2
 t:p.1.natAbs<2^(K+3)
 n:p.2.natAbs<2^(K+3)
def fZ (p:Int×Int) (l:Int×Int):Int:=l.1*(p.2-p.1)+l.2*p.1
theorem Wz {N:Nat} {p l:Int×Int} (h0:0<N) (hp:0<p.2):sv (fZ p l,(N:Int)*p.2)=fL ((l.1:Rat)/N,(l.2:Rat)/N) (sv p):=by
 have h1:=Je hp
 have h2:=TU h0
 unfold sv fZ fL
 simp only [Rat.intCast_add,Rat.intCast_mul,Rat.intCast_sub,fJ]
 have:(N:Rat)*(p.2:Rat)≠0:=by
  have:=Rat.mul_pos h2 h1
  grind
 grind
theorem OF {N K:Nat} {lns:List (Int×Int)} {p:Int×Int} (h:d9 N K lns) (hp:Yr K p) {Q:PV->Prop} (q:∀x:Int,F9 (Vz N lns) (sv p) (sv (x,(N:Int)*p.2))->x.natAbs<2^(2*K+6)->Q (Ep (x,(N:Int)*p.2))):Bo [.int N, .lst (lns.map Ep),Ep p] Q:=by
 have hk:=h.k
 apply Jy
 ac_rfl
 refine ⟨by have:=h.len;omega,EU Ep PV.int (fZ p) (λl=>l.1.natAbs<2^K/\l.2.natAbs<2^K) ?_ lns [] h.a ?_⟩
 ·rintro l ⟨l1,l2⟩ R r
  have d:=Ue (Ai hp.n (Nat.le_refl _)) hp.t
  ac_rfl
  refine ⟨MulOk.of l1 d (by omega) (by omega), ?_⟩
  refine ⟨MulOk.of l2 hp.t (by omega) (by omega), ?_⟩
  exact r
 ·rw [List.nil_append]
  ac_rfl
  refine XI (by simpa using h.ne) λx hx hm=> ?_
  obtain ⟨l,hl,rfl⟩:=List.mem_map.mp hx
  have nb:((N:Int)).natAbs<2^K:=by simpa using h.n
  refine ⟨MulOk.of nb hp.n (by omega) (by omega), ?_⟩
  ac_rfl
  refine q _ ⟨⟨_,List.mem_map.mpr ⟨l,hl,rfl⟩,(Wz h.n0 hp.pos).symm⟩,λu hu=> ?_⟩ ?_
  ·obtain ⟨l',jf,rfl⟩:=List.mem_map.mp hu
   have:=hm _ (List.mem_map.mpr ⟨l',jf,rfl⟩)
   rw [<-Wz h.n0 hp.pos]
   have p0:(0:Int)<(N:Int)*p.2:=Int.mul_pos (by have:=h.n0;omega) hp.pos
   rw [<-Rat.not_lt,Ug p0 p0]
   intro z
   have z:fZ p l*((N:Int)*p.2)<fZ p l'*((N:Int)*p.2):=z
   have:=Int.mul_le_mul_of_nonneg_right this (Int.le_of_lt p0)
   omega
  ·obtain ⟨l1,l2⟩:=h.a l hl
   have m1:=BH l1 (Ue hp.n hp.t)
   have m2:=BH l2 hp.t
   have:=LH (Ai m1 (show _<=2*K+5 by omega)) (Ai m2 (show _<=2*K+5 by omega))
   exact this
abbrev Gj:AS:=
 (Ad (E2 (NU (aV 0)) (NT 2 (Aq (A0 2) (Aq (A0 3) Cg))) (E2 (NU (aV 0)) (NT 2 (Aq (A0 4) (Aq (A0 5) Cg))) (Bx (KB (Av (AX VC (aV 4) (aV 2))) (Av (AX VC (aV 3) (aV 5)))) (Fg 1 Nh (AB (BJ (AB (AX Gm (aV 2) (aV 4)) (AB (AX Gm (AX BK (AX Gm (aV 2) (aV 4)) (aV 5)) (aV 3)) AL))) AL)) BI)))
   (Ay (aV 1)))
abbrev Ev:AS:=
 (Ad (L3 (EF AL) 1)
   Gj)
def Bp:AF:=Ax 6 Ev
theorem HX {x0:PV} {Q:PV->Prop} (h:Ev ⟨λ_=>Q .non,Q,λ_=>False,λ_=>False⟩ [some (.val x0),none,none,none,none,none]):Bp [x0] Q:=h
def MP (a b:Int×Int):Int×Int:=(a.1-b.1,a.1-b.1+b.2-a.2)
def EH (lns:List (Int×Int)) (a:Int×Int):List (Int×Int):=(lns.filter λb=>decide (b.1<a.1/\a.2<b.2)).map (MP a)
theorem Jk {vs:List (Int×Int)} {a b:Int×Int}:EH (vs ++ [b]) a=EH vs a++(if b.1<a.1/\a.2<b.2 then [MP a b] else []):=by
 unfold EH
 rw [List.filter_append,List.map_append]
 by_cases h:b.1<a.1/\a.2<b.2
 ·rw [if_pos h];simp [h]
 ·rw [if_neg h]
  rw [List.filter_cons_of_neg (by simpa using h)]
  simp
theorem OJ {vs:List (Int×Int)} {a:Int×Int}:(EH vs a).length<=vs.length:=by unfold EH;rw [List.length_map];exact List.length_filter_le ..
theorem ME {ws:List (Int×Int)}:∀us:List (Int×Int),(us.flatMap (EH ws)).length<=us.length*ws.length
 | [] =>by simp
 | a::us=>by
   rw [List.flatMap_cons,List.length_append,List.length_cons,Nat.succ_mul]
   have:=ME (ws:=ws) us
   have:=OJ (vs:=ws) (a:=a)
   omega
theorem Sk {lns:List (Int×Int)} (hl:lns.length<=100) {Q:PV->Prop} (q:Q (.lst ((lns.flatMap (EH lns)).map Ep))):Bp [.lst (lns.map Ep)] Q:=by
 apply HX
 ac_rfl
 refine C9 Ep (λus vs τ=>∃z2 z3 z4 z5,τ= [some (.val (.lst (lns.map Ep))),some (.own ((us.flatMap (EH lns)).map Ep)),z2,z3,z4,z5]) ?_ ?_ ?_
 ·rintro τ ⟨z2,z3,z4,z5,rfl⟩
  ac_rfl
  exact q
 ·rintro us c vs el τ R hR ⟨z2,z3,z4,z5,rfl⟩
  have ul:us.length<=100:=by have:=congrArg List.length el;simp at this;omega
  have fl:=ME (ws:=lns) us
  have ff:us.length*lns.length<=100*100:=Nat.mul_le_mul ul hl
  ac_rfl
  refine C9 Ep (λus2 vs2 τ=>∃z4 z5,τ= [some (.val (.lst (lns.map Ep))),some (.own ((us.flatMap (EH lns)++EH us2 c).map Ep)),some (.val (.int c.1)),some (.val (.int c.2)),z4,z5]) ?_ ?_ ?_
  ·rintro τ ⟨z4,z5,rfl⟩
   refine hR _ ?_
   rw [List.flatMap_append,List.flatMap_cons,List.flatMap_nil,List.append_nil]
   exact ⟨_,_,_,_,rfl⟩
  ·rintro us2 c2 vs2 el2 τ R hR ⟨z4,z5,rfl⟩
   have ml:=OJ (vs:=us2) (a:=c)
   have ul2:us2.length<=100:=by have:=congrArg List.length el2;simp at this;omega
   ac_rfl
   ·rename_i k1 k2
    refine hR _ ?_
    rw [Jk,if_pos ⟨k1,k2⟩,<-List.append_assoc,List.map_append (l₂:= [MP c c2])]
    exact ⟨_,_,rfl⟩
   ·rename_i k1 k2
    refine hR _ ?_
    rw [Jk,if_neg (λz=>k2 z.2),List.append_nil]
    exact ⟨_,_,rfl⟩
   ·rename_i k1
    refine hR _ ?_
    rw [Jk,if_neg (λz=>k1 z.1),List.append_nil]
    exact ⟨_,_,rfl⟩
  ·have e:us.flatMap (EH lns)++EH [] c=us.flatMap (EH lns):=List.append_nil _
   rw [e]
   exact ⟨_,_,rfl⟩
 ·exact ⟨_,_,_,_,rfl⟩
abbrev ND:AS:=
 (Ad (As (aV 3) (A0 1))
   (As (aV 8) (A0 2)))
abbrev NE:AS:=
 (Ad (As (AN 3 Bo (AB (aV 6) (AB (aV 7) (AB (aV 3) AL)))) (A0 8))
   (Bx (Ky (Av (AN 2 Ah (AB (aV 8) (AB (aV 2) AL)))) (KB (Gy (Av (AN 2 Ah (AB (aV 2) (AB (aV 8) AL))))) (Av (AN 2 Ah (AB (aV 3) (AB (aV 1) AL)))))) ND BI))
abbrev NH:AS:=
 (Ad (E2 (NU (AX BK (AN 1 Bp (AB (aV 7) AL)) (GU (EF (AB (BJ (AB (aC (.int 1)) (AB (aC (.int 1)) AL))) AL))))) (A0 3) NE)
   (Ay (BJ (AB (AN 2 FB (AB (AX Aj (aV 2) (aC (.int 0))) (AB (AX Aj (aV 2) (aC (.int 1))) AL))) (AB (AN 3 Df (AB (aV 4) (AB (aV 5) (AB (aV 1) AL)))) AL)))))
abbrev NG:AS:=
 (Ad (As (AN 3 Bo (AB (aV 6) (AB (aV 7) (AB (aV 1) AL)))) (A0 2))
   NH)
abbrev NF:AS:=
 (Ad (As (BJ (AB (aC (.int 0)) (AB (aC (.int 1)) AL))) (A0 1))
   NG)
abbrev Li:AS:=
 (Ad (As (aV 0) (NT 4 (Aq (A0 4) (Aq (A0 5) (Aq (A0 6) (Aq (A0 7) Cg))))))
   NF)
def DN:AF:=Ax 9 Li
theorem Po {x0:PV} {Q:PV->Prop} (h:Li ⟨λ_=>Q .non,Q,λ_=>False,λ_=>False⟩ [some (.val x0),none,none,none,none,none,none,none,none]):DN [x0] Q:=h
theorem L8 {a b:Int×Int} {m:Nat} (pa:0<a.2) (pb:0<b.2) (ha:a.1.natAbs<2^m/\a.2.natAbs<2^m) (hb:b.1.natAbs<2^m/\b.2.natAbs<2^m) (hm:m<=20000) {Q:PV->Prop} (q:Q (.bl (decide (sv a<sv b)))):Ah [Ep a,Ep b] Q:=by
 refine ⟨MulOk.of ha.1 hb.2 (by omega) (by omega),MulOk.of hb.1 ha.2 (by omega) (by omega), ?_⟩
 rw [decide_eq_decide.mpr (Ug pa pb)] at q
 exact q
def au (N:Nat) (l:Int×Int):Rat×Rat:=((l.1:Rat)/N,(l.2:Rat)/N)
theorem Th {N:Nat} {a b:Int} (h:0<N):((a:Rat)/N<(b:Rat)/N)↔a<b:=by
 have:=TU h
 rw [Rat.div_lt_iff this,<-Rat.intCast_lt_intCast]
 have e:(b:Rat)/(N:Rat)*(N:Rat)=(b:Rat):=by grind
 rw [e]
theorem Tk {N:Nat} {a b:Int×Int} (h:0<N):F8 (au N a) (au N b)↔b.1<a.1/\a.2<b.2:=by
 unfold F8 au
 rw [Th h,Th h]
theorem XJ {N:Nat} {a b:Int×Int} (h:0<N) (f:b.1<a.1/\a.2<b.2):sv (MP a b)=Bg (au N a) (au N b):=by
 have n0:=TU h
 have f1:=Rat.intCast_lt_intCast.mpr f.1
 have f2:=Rat.intCast_lt_intCast.mpr f.2
 unfold sv MP Bg au
 simp only [Rat.intCast_add,Rat.intCast_sub]
 have d:(a.1:Rat)-b.1+b.2-a.2≠0:=by grind
 have e:(a.1:Rat)/N-(b.1:Rat)/N+(b.2:Rat)/N-(a.2:Rat)/N=((a.1:Rat)-b.1+b.2-a.2)/N:=by grind
 have e2:(a.1:Rat)/N-(b.1:Rat)/N=((a.1:Rat)-b.1)/N:=by grind
 rw [e,e2]
 grind
theorem cZ {K:Nat} {a b:Int×Int} (ha:a.1.natAbs<2^K/\a.2.natAbs<2^K) (hb:b.1.natAbs<2^K/\b.2.natAbs<2^K) (f:b.1<a.1/\a.2<b.2):Yr K (MP a b):=by
 have s1:=Ue ha.1 hb.1
 have s2:=LH s1 (Ai hb.2 (show K<=K+1 by omega))
 have s3:=Ue s2 (Ai ha.2 (show K<=K+1+1 by omega))
 refine ⟨?_,Ai s1 (by omega),s3⟩
 show 0<a.1-b.1+b.2-a.2
 omega
structure bK (N K:Nat) (lns us:List (Int×Int)) (best:Int×Int) (x:Int):Prop where
 z:Yr K best
 mem:best∈us
 xb:x.natAbs<2^(2*K+6)
 mx:F9 (Vz N lns) (sv best) (sv (x,(N:Int)*best.2))
 le:∀c∈us,∀g,F9 (Vz N lns) (sv c) g->sv (x,(N:Int)*best.2)<g\/(sv (x,(N:Int)*best.2)=g/\sv best<=sv c)
theorem T7 {N K:Nat} {lns us:List (Int×Int)} {best c:Int×Int} {x y:Int} (i:bK N K lns us best x) (hc:Yr K c) (hy:y.natAbs<2^(2*K+6)) (my:F9 (Vz N lns) (sv c) (sv (y,(N:Int)*c.2))) (h:sv (y,(N:Int)*c.2)<sv (x,(N:Int)*best.2)\/(¬sv (x,(N:Int)*best.2)<sv (y,(N:Int)*c.2)/\sv c<sv best)):bK N K lns (us ++ [c]) c y:=by
 refine ⟨hc,by simp,hy,my,λd hd g hg=> ?_⟩
 rcases List.mem_append.mp hd with hd|hd
 ·rcases i.le d hd g hg with k|⟨k1,k2⟩
  ·rcases h with h|⟨h1,h2⟩
   ·left;grind
   ·left;grind
  ·rcases h with h|⟨h1,h2⟩
   ·left;grind
   ·by_cases z:sv (y,(N:Int)*c.2)<g
    ·exact .inl z
    ·exact .inr ⟨by grind,by grind⟩
 ·simp at hd;subst hd
  exact .inr ⟨Jm my hg,Rat.le_refl⟩
theorem T8 {N K:Nat} {lns us:List (Int×Int)} {best c:Int×Int} {x y:Int} (i:bK N K lns us best x) (my:F9 (Vz N lns) (sv c) (sv (y,(N:Int)*c.2))) (h1:¬sv (y,(N:Int)*c.2)<sv (x,(N:Int)*best.2)) (h2:sv (x,(N:Int)*best.2)<sv (y,(N:Int)*c.2)\/¬sv c<sv best):bK N K lns (us ++ [c]) best x:=by
 refine ⟨i.z,by simp [i.mem],i.xb,i.mx,λd hd g hg=> ?_⟩
 rcases List.mem_append.mp hd with hd|hd
 ·exact i.le d hd g hg
 ·simp at hd;subst hd
  have:=Jm my hg
  rcases h2 with h2|h2
  ·left;grind
  ·by_cases z:sv (x,(N:Int)*best.2)<g
   ·exact .inl z
   ·exact .inr ⟨by grind,by grind⟩
def Gf (lns:List (Int×Int)):List (Int×Int):=lns.flatMap (EH lns) ++ [(1,1)]
theorem Xx {N K:Nat} {lns:List (Int×Int)} (h:d9 N K lns):∀c∈Gf lns,Yr K c:=by
 intro c hc
 rcases List.mem_append.mp hc with hc|hc
 ·obtain ⟨a,ha,hc⟩:=List.mem_flatMap.mp hc
  obtain ⟨b,hb,rfl⟩:=List.mem_map.mp hc
  have hb:=List.mem_filter.mp hb
  exact cZ (h.a a ha) (h.a b hb.1) (of_decide_eq_true hb.2)
 ·simp at hc;subst hc
  exact ⟨by decide,Ai (m:=1) (by decide) (by omega),Ai (m:=1) (by decide) (by omega)⟩
theorem GP {N K:Nat} {lns:List (Int×Int)} (h:d9 N K lns) (s:Rat):Ko (Vz N lns) s↔∃c∈(0,1)::Gf lns,sv c=s:=by
 constructor
 ·rintro (rfl|rfl|⟨a,ha,b,hb,f,rfl⟩)
  ·exact ⟨_,by simp,dh⟩
  ·exact ⟨(1,1),by simp [Gf],di⟩
  ·obtain ⟨a',Q2,rfl⟩:=List.mem_map.mp ha
   obtain ⟨b',Q3,rfl⟩:=List.mem_map.mp hb
   have f':=(Tk h.n0).mp f
   refine ⟨MP a' b', ?_,XJ h.n0 f'⟩
   refine List.mem_cons_of_mem _ (List.mem_append.mpr (.inl (List.mem_flatMap.mpr ⟨a',Q2,List.mem_map.mpr ⟨b',List.mem_filter.mpr ⟨Q3,decide_eq_true f'⟩,rfl⟩⟩)))
 ·rintro ⟨c,hc,rfl⟩
  rcases List.mem_cons.mp hc with rfl|hc
  ·exact .inl dh
  ·rcases List.mem_append.mp hc with hc|hc
   ·obtain ⟨a,ha,hc⟩:=List.mem_flatMap.mp hc
    obtain ⟨b,hb,rfl⟩:=List.mem_map.mp hc
    have hb:=List.mem_filter.mp hb
    have f:=of_decide_eq_true hb.2
    exact .inr (.inr ⟨au N a,List.mem_map.mpr ⟨a,ha,rfl⟩,au N b,List.mem_map.mpr ⟨b,hb.1,rfl⟩,(Tk h.n0).mpr f,XJ h.n0 f⟩)
   ·simp at hc;subst hc
    exact .inr (.inl di)
theorem hU {N K W:Nat} {lns:List (Int×Int)} (h:d9 N K lns) (bw:∀l∈lns,Bd W ((l.1:Rat)/N)/\Bd W ((l.2:Rat)/N)) {c:Int×Int} (hc:c∈(0,1)::Gf lns):Bd (6*W+6) (sv c):=by
 rcases (GP h (sv c)).mpr ⟨c,hc,rfl⟩ with e|e|⟨a,ha,b,hb,f,e⟩
 ·rw [e];exact eG.mono (by omega)
 ·rw [e];exact jN.mono (by omega)
 ·obtain ⟨a',Q2,rfl⟩:=List.mem_map.mp ha
  obtain ⟨b',Q3,rfl⟩:=List.mem_map.mp hb
  obtain ⟨x1,x2⟩:=bw a' Q2
  obtain ⟨y1,y2⟩:=bw b' Q3
  rw [e]
  obtain ⟨f1,f2⟩:=f
  unfold Bg
  exact ((x1.sub y1).div (by grind) (((x1.sub y1).add y2).sub x2)).mono (by omega)
theorem XD {N K M W:Nat} {b e:Rat} {lns:List (Int×Int)} (h:d9 N K lns) (bw:∀l∈lns,Bd W ((l.1:Rat)/N)/\Bd W ((l.2:Rat)/N)) (hW:W<=530) (bb:Bd M b) (be:Bd M e) (hM:M<=300) {Q:PV->Prop}
 (q:∀c g,Ko (Vz N lns) c->F9 (Vz N lns) c g->(∀c' g',Ko (Vz N lns) c'->F9 (Vz N lns) c' g'->g<g'\/(g=g'/\c<=c'))->Bd (6*W+6) c->Q (.tup [fr g,fr (b+c*(e-b))])):DN [.tup [fr b,fr e, .int N, .lst (lns.map Ep)]] Q:=by
 have hk:=h.k
 have n0:=h.n0
 have nb:((N:Int)).natAbs<2^K:=by simpa using h.n
 have pN:∀{p:Int×Int},Yr K p->(0:Int)<(N:Int)*p.2:=λhp=>Int.mul_pos (by omega) hp.pos
 have bN:∀{p:Int×Int},Yr K p->((N:Int)*p.2).natAbs<2^(2*K+6):=λhp=>Ai (BH nb hp.n) (by omega)
 have z01:Yr K (0,1):=⟨by decide,Ai (m:=1) (by decide) (by omega),Ai (m:=1) (by decide) (by omega)⟩
 apply Po
 ac_rfl
 refine OF (p:=(0,1)) h z01 λx mx xb=> ?_
 ac_rfl
 refine Sk h.len ?_
 ac_rfl
 have fl:=ME (ws:=lns) lns
 have fm:lns.length*lns.length<=100*100:=Nat.mul_le_mul h.len h.len
 have sl:20000<=sizeLine:=by decide
 refine ⟨by rw [List.length_map,List.length_singleton];omega, ?_⟩
 have e0:(lns.flatMap (EH lns)).map Ep ++ [fr 1] =(Gf lns).map Ep:=by unfold Gf;rw [List.map_append];rfl
 rw [e0]
 refine C9 Ep (λus vs τ=>∃best x z3 z8,bK N K lns ((0,1)::us) best x/\τ= [some (.val (.tup [fr b,fr e, .int N, .lst (lns.map Ep)])),some (.val (Ep best)),some (.val (Ep (x,(N:Int)*best.2))),z3,some (.val (fr b)),some (.val (fr e)),some (.val (.int N)),some (.val (.lst (lns.map Ep))),z8]) ?_ ?_ ?_
 ·rintro τ ⟨best,x,z3,z8,i,rfl⟩
  ac_rfl
  have es:Rat.divInt x ((N:Int)*best.2)=sv (x,(N:Int)*best.2):=Rat.divInt_eq_div ..
  refine D8 _ _ (by have:=pN i.z;omega) (Ai (BH nb i.z.n) (by omega)) _ ?_
  rw [es]
  ac_rfl
  have bs:=hU h bw i.mem
  refine Sm ⟨i.z.pos,Ai i.z.t (by omega),Ai i.z.n (by omega)⟩ bs bb be hM (by omega) ?_
  ac_rfl
  refine q _ _ ((GP h _).mpr ⟨best,i.mem,rfl⟩) i.mx (λc' g' hc hg=> ?_) bs
  obtain ⟨c,Q5,rfl⟩:=(GP h c').mp hc
  exact i.le c Q5 g' hg
 ·rintro us c vs el τ R hR ⟨best,x,z3,z8,i,rfl⟩
  have zc:Yr K c:=Xx h c (by rw [<-el];simp)
  have old:∀{y:Int},bK N K lns ((0,1)::us ++ [c]) best x->R [some (.val (.tup [fr b,fr e, .int N, .lst (lns.map Ep)])),some (.val (Ep best)),some (.val (Ep (x,(N:Int)*best.2))),some (.val (Ep c)),some (.val (fr b)),some (.val (fr e)),some (.val (.int N)),some (.val (.lst (lns.map Ep))),some (.val (Ep (y,(N:Int)*c.2)))] :=λi=>hR _ ⟨_,_,_,_,i,rfl⟩
  have new:∀{y:Int},bK N K lns ((0,1)::us ++ [c]) c y->R [some (.val (.tup [fr b,fr e, .int N, .lst (lns.map Ep)])),some (.val (Ep c)),some (.val (Ep (y,(N:Int)*c.2))),some (.val (Ep c)),some (.val (fr b)),some (.val (fr e)),some (.val (.int N)),some (.val (.lst (lns.map Ep))),some (.val (Ep (y,(N:Int)*c.2)))] :=λi=>hR _ ⟨_,_,_,_,i,rfl⟩
  ac_rfl
  refine OF h zc λy my yb=> ?_
  ac_rfl
  have s1:(y,(N:Int)*c.2).1.natAbs<2^(2*K+6)/\(y,(N:Int)*c.2).2.natAbs<2^(2*K+6):=⟨yb,bN zc⟩
  have s2:(x,(N:Int)*best.2).1.natAbs<2^(2*K+6)/\(x,(N:Int)*best.2).2.natAbs<2^(2*K+6):=⟨i.xb,bN i.z⟩
  refine L8 (pN zc) (pN i.z) s1 s2 (by omega) ?_
  ac_rfl
  ·rename_i k
   exact new (T7 i zc yb my (.inl k))
  ·rename_i k
   refine L8 (pN i.z) (pN zc) s2 s1 (by omega) ?_
   ac_rfl
   ·rename_i k2
    have m1:c.1.natAbs<2^(2*K+6)/\c.2.natAbs<2^(2*K+6):=⟨Ai zc.t (by omega),Ai zc.n (by omega)⟩
    have m2:best.1.natAbs<2^(2*K+6)/\best.2.natAbs<2^(2*K+6):=⟨Ai i.z.t (by omega),Ai i.z.n (by omega)⟩
    refine L8 zc.pos i.z.pos m1 m2 (by omega) ?_
    ac_rfl
    ·rename_i k3
     exact new (T7 i zc yb my (.inr ⟨k2,k3⟩))
    ·rename_i k3
     exact old (T8 i my k (.inr k3))
   ·rename_i k2
    exact old (T8 i my k (.inl k2))
 ·refine ⟨(0,1),x,none,none,⟨z01,by simp,xb,mx,λc hc g hg=> ?_⟩,rfl⟩
  simp at hc;subst hc
  exact .inr ⟨Jm mx hg,Rat.le_refl⟩
abbrev Oh:AS:=
 (Ad (As (AN 1 DN (AB (aV 4) AL)) (A0 5))
   (Bx (Ky (Av (AX Qr (aV 3) (aC .non))) (Av (AN 2 Ah (AB (AX Aj (aV 5) (aC (.int 0))) (AB (AX Aj (aV 3) (aC (.int 0))) AL))))) (As (aV 5) (A0 3)) BI))
abbrev Oi:AS:=
 (Ad (E2 (NU (AN 3 F6 (AB (aV 0) (AB (aV 1) (AB (aV 2) AL))))) (A0 4) Oh)
   (Ay (aV 3)))
abbrev Nx:AS:=
 (Ad (As (aC .non) (A0 3))
   Oi)
def CQ:AF:=Ax 6 Nx
theorem RW {x0 x1 x2:PV} {Q:PV->Prop} (h:Nx ⟨λ_=>Q .non,Q,λ_=>False,λ_=>False⟩ [some (.val x0),some (.val x1),some (.val x2),none,none,none]):CQ [x0,x1,x2] Q:=h
def Pc.rl (p:Pc):List (Rat×Rat):=Vz p.N p.lns
structure V5 (p:Pc) (c g:Rat):Prop where
 c0:0<=c
 c1:c<=1
 mx:F9 p.rl c g
 le:∀s h,0<=s->s<=1->F9 p.rl s h->g<h\/(g=h/\c<=s)
theorem Oz {p:Pc} {c g:Rat} (hc:Ko p.rl c) (mx:F9 p.rl c g) (le:∀c' g',Ko p.rl c'->F9 p.rl c' g'->g<g'\/(g=g'/\c<=c')):V5 p c g:=by
 refine ⟨(IC hc).1,(IC hc).2,mx,λs h s0 s1 hs=> ?_⟩
 obtain ⟨d,k,cd,md,o⟩:=Ql s0 s1 hs
 rcases le d k cd md with z|⟨z1,z2⟩ <;> rcases o with y|⟨y1,y2⟩
 ·left;grind
 ·left;grind
 ·left;grind
 ·by_cases q:g<h
  ·exact .inl q
  ·exact .inr ⟨by grind,by grind⟩
def Mt (o q:T3):List (Rat×Rat):= [(o.1,q.1),(-o.1, -q.1),(o.2.1,q.2.1),(-o.2.1, -q.2.1),(o.2.2,q.2.2),(-o.2.2, -q.2.2)]
theorem Ge {N:Nat} {r:Rat} (h0:0<N) (h:r.den ∣ N):((Gd N r:Int):Rat)/N=r/\((-Gd N r:Int):Rat)/N= -r:=by
 have n0:=TU h0
 have e:=dW h
 constructor
 ·rw [e];grind
 ·rw [Rat.intCast_neg,e];grind
theorem UM {W:Nat} {p:Pc} (h0:E1 W p.o0) (h1:E1 W p.o1):p.rl=Mt p.o0 p.o1:=by
 obtain ⟨n0,dv,_⟩:=UY h0 h1
 have d1:=Ge n0 (dv p.o0.1 (by simp [Pc.six]))
 have d2:=Ge n0 (dv p.o0.2.1 (by simp [Pc.six]))
 have d3:=Ge n0 (dv p.o0.2.2 (by simp [Pc.six]))
 have d4:=Ge n0 (dv p.o1.1 (by simp [Pc.six]))
 have d5:=Ge n0 (dv p.o1.2.1 (by simp [Pc.six]))
 have d6:=Ge n0 (dv p.o1.2.2 (by simp [Pc.six]))
 unfold Pc.rl Vz Pc.lns Mt
 simp only [List.map_cons,List.map_nil]
 rw [d1.1,d1.2,d2.1,d2.2,d3.1,d3.2,d4.1,d4.2,d5.1,d5.2,d6.1,d6.2]
theorem Ox (x:Rat):(absR x=x\/absR x= -x)/\x<=absR x/\ -x<=absR x/\0<=absR x:=by
 unfold absR
 split
 ·exact ⟨.inr rfl,by grind,by grind,by grind⟩
 ·exact ⟨.inl rfl,by grind,by grind,by grind⟩
theorem OK (a b:Rat):(mx a b=a\/mx a b=b)/\a<=mx a b/\b<=mx a b:=by
 unfold mx
 split
 ·exact ⟨.inr rfl,by grind,by grind⟩
 ·exact ⟨.inl rfl,by grind,by grind⟩
theorem Y8 (o:T3):(∀x∈ [o.1, -o.1,o.2.1, -o.2.1,o.2.2, -o.2.2],x<=HP o)/\HP o∈ [o.1, -o.1,o.2.1, -o.2.1,o.2.2, -o.2.2] :=by
 obtain ⟨a1,a2,a3,a4⟩:=Ox o.1
 obtain ⟨b1,b2,b3,b4⟩:=Ox o.2.1
 obtain ⟨c1,c2,c3,c4⟩:=Ox o.2.2
 unfold HP
 obtain ⟨u1,u2,u3⟩:=OK 0 (absR o.1)
 obtain ⟨v1,v2,v3⟩:=OK (mx 0 (absR o.1)) (absR o.2.1)
 obtain ⟨w1,w2,w3⟩:=OK (mx (mx 0 (absR o.1)) (absR o.2.1)) (absR o.2.2)
 generalize mx (mx (mx 0 (absR o.1)) (absR o.2.1)) (absR o.2.2)=g at *
 generalize mx (mx 0 (absR o.1)) (absR o.2.1)=g2 at *
 generalize mx 0 (absR o.1)=g1 at *
 generalize absR o.1=x1 at *
 generalize absR o.2.1=x2 at *
 generalize absR o.2.2=x3 at *
 constructor
 ·intro x hx
  simp only [List.mem_cons,List.not_mem_nil,or_false] at hx
  rcases hx with rfl|rfl|rfl|rfl|rfl|rfl <;> grind
 ·simp only [List.mem_cons,List.not_mem_nil,or_false]
  have g1x:g1=x1:=by grind
  rcases w1 with w|w
  ·rcases v1 with v|v
   ·rcases a1 with a|a <;> grind
   ·rcases b1 with a|a <;> grind
  ·rcases c1 with a|a <;> grind
theorem P7 (o q:T3) (s:Rat):F9 (Mt o q) s (HP (lin o q s)):=by
 obtain ⟨h1,h2⟩:=Y8 (lin o q s)
 have e:(Mt o q).map (λl=>fL l s)= [(lin o q s).1, -(lin o q s).1,(lin o q s).2.1, -(lin o q s).2.1,(lin o q s).2.2, -(lin o q s).2.2] :=by
  simp only [Mt,List.map_cons,List.map_nil,fL,lin,List.cons.injEq,and_true,true_and]
  refine ⟨?_, ?_, ?_⟩ <;> grind
 rw [<-e] at h1 h2
 refine ⟨?_,λl hl=>h1 _ (List.mem_map.mpr ⟨l,hl,rfl⟩)⟩
 obtain ⟨l,hl,k⟩:=List.mem_map.mp h2
 exact ⟨l,hl,k⟩
section
variable {cs ds:List C4} {d:Rat×Rat} {M W:Nat}
def CM (cs ds:List C4) (d:Rat×Rat) (m:Rat):Rat:=HP (Fp cs ds d m)
theorem RQ {p:Pc} (o:Os cs ds d M W p) {m:Rat} (h1:p.b<=m) (h2:m<=p.e):F9 p.rl ((m-p.b)/(p.e-p.b)) (CM cs ds d m):=by
 rw [UM o.w0 o.w1]
 unfold CM
 rw [o.lin m h1 h2]
 exact P7 ..
theorem Rh {p:Pc} (o:Os cs ds d M W p) {m:Rat} (h1:p.b<=m) (h2:m<=p.e):0<=(m-p.b)/(p.e-p.b)/\(m-p.b)/(p.e-p.b)<=1/\p.b+(m-p.b)/(p.e-p.b)*(p.e-p.b)=m:=by
 have dd:0<p.e-p.b:=by have:=o.lt;grind
 refine ⟨?_, ?_,by grind⟩
 ·rw [<-Rat.not_lt,Rat.div_lt_iff dd];grind
 ·rw [<-Rat.not_lt,Rat.lt_div_iff dd];grind
theorem PF {p:Pc} (o:Os cs ds d M W p) {s:Rat} (h1:0<=s) (h2:s<=1):p.b<=p.b+s*(p.e-p.b)/\p.b+s*(p.e-p.b)<=p.e/\(p.b+s*(p.e-p.b)-p.b)/(p.e-p.b)=s:=by
 have dd:0<p.e-p.b:=by have:=o.lt;grind
 have k1:=Rat.mul_nonneg h1 (show 0<=p.e-p.b by grind)
 have k2:=Rat.mul_nonneg (show 0<=1-s by grind) (show 0<=p.e-p.b by grind)
 exact ⟨by grind,by grind,by grind⟩
structure DZ (cs ds:List C4) (d:Rat×Rat) (us:List Pc) (m g:Rat):Prop where
 ex:∃p∈us,p.b<=m/\m<=p.e
 at_:CM cs ds d m=g
 le:∀p∈us,∀k,p.b<=k->k<=p.e->g<CM cs ds d k\/(g=CM cs ds d k/\m<=k)
theorem Yx {p:Pc} (o:Os cs ds d M W p) {c g:Rat} (h:V5 p c g):DZ cs ds d [p] (p.b+c*(p.e-p.b)) g:=by
 have dd:0<p.e-p.b:=by have:=o.lt;grind
 obtain ⟨k1,k2,k3⟩:=PF o h.c0 h.c1
 have m1:=RQ o k1 k2
 rw [k3] at m1
 refine ⟨⟨p,by simp,k1,k2⟩,Jm m1 h.mx,λp' DI k l1 l2=> ?_⟩
 simp at DI;subst DI
 obtain ⟨s0,s1,es⟩:=Rh o l1 l2
 rcases h.le _ _ s0 s1 (RQ o l1 l2) with z|⟨z,y⟩
 ·exact .inl z
 ·refine .inr ⟨z, ?_⟩
  have:=Rat.mul_le_mul_of_nonneg_right y (show 0<=p'.e-p'.b by grind)
  grind
theorem WL {us:List Pc} {p:Pc} {m g k h:Rat} (i:DZ cs ds d us m g) (j:DZ cs ds d [p] k h) (l:h<g):DZ cs ds d (us ++ [p]) k h:=by
 obtain ⟨q,hq,e⟩:=j.ex
 refine ⟨⟨q,by simp at hq;subst hq;simp,e⟩,j.at_,λp' DI r h1 h2=> ?_⟩
 rcases List.mem_append.mp DI with DI|DI
 ·rcases i.le p' DI r h1 h2 with z|⟨z,_⟩ <;> (left;grind)
 ·exact j.le p' DI r h1 h2
theorem WM {us:List Pc} {p:Pc} {m g k h:Rat} (i:DZ cs ds d us m g) (j:DZ cs ds d [p] k h) (l:¬h<g) (f:∀q∈us,q.e<=p.b):DZ cs ds d (us ++ [p]) m g:=by
 obtain ⟨q,hq,e1,e2⟩:=i.ex
 refine ⟨⟨q,by simp [hq],e1,e2⟩,i.at_,λp' DI r h1 h2=> ?_⟩
 rcases List.mem_append.mp DI with DI|DI
 ·exact i.le p' DI r h1 h2
 ·simp at DI;subst DI
  have:=f q hq
  rcases j.le p' (by simp) r h1 h2 with z|⟨z,_⟩
  ·left;grind
  ·by_cases y:g<CM cs ds d r
   ·exact .inl y
   ·exact .inr ⟨by grind,by grind⟩
theorem YV:∀{ts:List Rat},QJ ts->(ts.zip ts.tail).Pairwise λp q=>p.2<=q.1
 | [],_=>by simp
 | [a],_=>by simp
 | a::b::r,h=>by
   have h2:QJ (b::r):=(List.pairwise_cons.mp h).2
   refine List.pairwise_cons.mpr ⟨λq hq=> ?_,YV h2⟩
   have hm:q.1∈b::r:=(List.of_mem_zip (a:=q.1) (b:=q.2) hq).1
   show b<=q.1
   rcases List.mem_cons.mp hm with e|e
   ·rw [e];exact Rat.le_refl
   ·have:=(List.pairwise_cons.mp h2).1 _ e
    grind
theorem c6:(HV cs ds d).Pairwise λp q=>p.e<=q.b:=by
 unfold HV
 split
 ·unfold K7
  rw [List.pairwise_map]
  exact YV Gh
 ·simp
theorem aU {l:Rat×Rat} {c:Rat} {S:Nat} (h1:Bd W l.1) (h2:Bd W l.2) (hc:Bd S c):Bd (W+(S+(W+W+1))+1) (fL l c):=h1.add (hc.mul (h2.sub h1))
theorem LS {o q:T3} (h0:E1 W o) (h1:E1 W q):∀l∈Mt o q,Bd W l.1/\Bd W l.2:=by
 intro l hl
 simp only [Mt,List.mem_cons,List.not_mem_nil,or_false] at hl
 rcases hl with rfl|rfl|rfl|rfl|rfl|rfl
 ·exact ⟨h0.x,h1.x⟩
 ·exact ⟨h0.x.neg,h1.x.neg⟩
 ·exact ⟨h0.y,h1.y⟩
 ·exact ⟨h0.y.neg,h1.y.neg⟩
 ·exact ⟨h0.z,h1.z⟩
 ·exact ⟨h0.z.neg,h1.z.neg⟩
theorem c5 {p:Pc} (o:Os cs ds d M W p) (hW:W<=440):d9 p.N (7*W+1) p.lns:=by
 obtain ⟨n0,dv,nl⟩:=UY o.w0 o.w1
 have one:∀{u v:Rat},Bd W u->Bd W v->((Gd p.N u).natAbs<2^(7*W+1)/\(Gd p.N v).natAbs<2^(7*W+1))/\((-Gd p.N u).natAbs<2^(7*W+1)/\(-Gd p.N v).natAbs<2^(7*W+1)):=λ{u v} bu bv=>by
  have s1:=Ai (Xs bu nl) (show W+(6*W+1)<=7*W+1 by omega)
  have s2:=Ai (Xs bv nl) (show W+(6*W+1)<=7*W+1 by omega)
  exact ⟨⟨s1,s2⟩,by rw [Int.natAbs_neg];exact s1,by rw [Int.natAbs_neg];exact s2⟩
 have l1:=one o.w0.x o.w1.x
 have l2:=one o.w0.y o.w1.y
 have l3:=one o.w0.z o.w1.z
 refine ⟨n0,Ai nl (by omega),λl hl=> ?_,by simp [Pc.lns],by omega,by rw [ZQ];decide⟩
 simp only [Pc.lns,List.mem_cons,List.not_mem_nil,or_false] at hl
 rcases hl with rfl|rfl|rfl|rfl|rfl|rfl
 ·exact l1.1
 ·exact l1.2
 ·exact l2.1
 ·exact l2.2
 ·exact l3.1
 ·exact l3.2
theorem XE {p:Pc} (o:Os cs ds d M W p) (hW:W<=440) (hM:M<=300) {Q:PV->Prop} (q:∀m g,DZ cs ds d [p] m g->Bd 4000 g->Q (.tup [fr g,fr m])):DN [aq p] Q:=by
 have rb:∀l∈p.rl,Bd W l.1/\Bd W l.2:=by rw [UM o.w0 o.w1];exact LS o.w0 o.w1
 refine XD (c5 o hW) (λl hl=>rb _ (List.mem_map.mpr ⟨l,hl,rfl⟩)) (by omega) o.bb o.be hM λc g hc hg hl hb=> ?_
 have B:V5 p c g:=Oz hc hg hl
 refine q _ _ (Yx o B) ?_
 obtain ⟨⟨l,iZ,rfl⟩,_⟩:=hg
 obtain ⟨b1,b2⟩:=rb l iZ
 exact (aU b1 b2 hb).mono (by omega)
def YL (cs ds:List C4) (d:Rat×Rat) (us:List Pc) (t:PV):Prop:=(us= [] /\t= .non)\/∃m g,DZ cs ds d us m g/\Bd 4000 g/\t= .tup [fr g,fr m]
theorem MQ (D:Hd cs ds d M W) (hW:W<=440) {v w u:PV} (hv:Bj cs v) (hw:Bj ds w) (hu:Ul d u) {Q:PV->Prop} (q0:HV cs ds d= [] ->Q .non) (q1:∀m g,DZ cs ds d (HV cs ds d) m g->Q (.tup [fr g,fr m])):CQ [v,w,u] Q:=by
 have hM:=D.hM
 apply RW
 ac_rfl
 refine Vi D hv hw hu ?_
 ac_rfl
 refine C9 aq (λus vs τ=>∃t z4 z5,YL cs ds d us t/\τ= [some (.val v),some (.val w),some (.val u),some (.val t),z4,z5]) ?_ ?_ ?_
 ·rintro τ ⟨t,z4,z5,h,rfl⟩
  ac_rfl
  rcases h with ⟨h,rfl⟩|⟨m,g,h,_,rfl⟩
  ·exact q0 h
  ·exact q1 m g h
 ·rintro us p vs el τ R hR ⟨t,z4,z5,h,rfl⟩
  have o:=D.pc p (by rw [<-el];simp)
  have ff:∀q∈us,q.e<=p.b:=λq hq=>by
   have pw:=c6 (cs:=cs) (ds:=ds) (d:=d)
   rw [<-el] at pw
   exact (List.pairwise_append.mp pw).2.2 q hq p (by simp)
  ac_rfl
  refine XE o hW (by omega) λm g bm bg=> ?_
  have nw:YL cs ds d (us ++ [p]) (.tup [fr g,fr m])->R [some (.val v),some (.val w),some (.val u),some (.val (.tup [fr g,fr m])),some (.val (aq p)),some (.val (.tup [fr g,fr m]))] :=λh=>hR _ ⟨_,_,_,h,rfl⟩
  have ol:YL cs ds d (us ++ [p]) t->R [some (.val v),some (.val w),some (.val u),some (.val t),some (.val (aq p)),some (.val (.tup [fr g,fr m]))] :=λh=>hR _ ⟨_,_,_,h,rfl⟩
  rcases h with ⟨rfl,rfl⟩|⟨k,h,bh,bb,rfl⟩
  ·ac_rfl
   exact nw (.inr ⟨m,g,bm,bg,rfl⟩)
  ·ac_rfl
   ·rename_i k1
    exact nw (.inr ⟨m,g,WL bh bm k1,bg,rfl⟩)
   ·rename_i k1
    exact ol (.inr ⟨k,h,WM bh bm k1 ff,bb,rfl⟩)
 ·exact ⟨_,_,_, .inl ⟨rfl,rfl⟩,rfl⟩
end
abbrev G9:AS:=
 (Ad (As (AN 2 BY (AB (aV 4) (AB (AN 2 BQ (AB (aV 2) (AB (AN 2 A8 (AB (aV 5) (AB (aV 4) AL))) AL))) AL))) (A0 6))
   (Bx (Av (AN 2 Ah (AB (aV 3) (AB (aV 6) AL)))) (As (aV 6) (A0 3)) BI))
abbrev HA:AS:=
 (Ad (E2 (aR (AB (aV 0) (AB (aV 1) AL))) (NT 2 (Aq (A0 4) (Aq (A0 5) Cg))) G9)
   (Ay (aV 3)))
abbrev FZ:AS:=
 (Ad (As (BJ (AB (aC (.int 0)) (AB (aC (.int 1)) AL))) (A0 3))
   HA)
def B2:AF:=Ax 7 FZ
theorem IW {x0 x1 x2:PV} {Q:PV->Prop} (h:FZ ⟨λ_=>Q .non,Q,λ_=>False,λ_=>False⟩ [some (.val x0),some (.val x1),some (.val x2),none,none,none,none]):B2 [x0,x1,x2] Q:=h
abbrev JP:AS:=
 (Ad (As (AN 2 Bw (AB (AN 2 A8 (AB (AX Aj (aV 0) (aV 4)) (AB (AX Aj (aV 0) (aV 3)) AL))) (AB (aV 5) AL))) (A0 6))
   (Bx (Av (iS VC VC (aC (.int 0)) (AX Aj (aV 6) (aC (.int 0))) (AX Aj (aV 6) (aC (.int 1))))) (Fg 2 Nh (AB (aV 6) AL)) BI))
abbrev JQ:AS:=
 (Ad (As (AN 2 A8 (AB (AN 2 A8 (AB (AX Aj (aV 1) (aV 3)) (AB (AX Aj (aV 0) (aV 3)) AL))) (AB (AN 2 A8 (AB (AX Aj (aV 1) (aV 4)) (AB (AX Aj (aV 0) (aV 4)) AL))) AL))) (A0 5))
   (Bx (Av (AX Wg (AX Aj (aV 5) (aC (.int 0))) (aC (.int 0)))) JP BI))
abbrev JR:AS:=
 (Ad (E2 (Oy (AB (aC (.int 6)) AL)) (A0 3) (E2 (Oy (AB (aV 3) AL)) (A0 4) JQ))
   (Ay (aV 2)))
abbrev Gu:AS:=
 (Ad (L3 (EF (AB (BJ (AB (aC (.int 0)) (AB (aC (.int 1)) AL))) (AB (BJ (AB (aC (.int 1)) (AB (aC (.int 1)) AL))) AL))) 2)
   JR)
def Cc:AF:=Ax 7 Gu
theorem LA {x0 x1:PV} {Q:PV->Prop} (h:Gu ⟨λ_=>Q .non,Q,λ_=>False,λ_=>False⟩ [some (.val x0),some (.val x1),none,none,none,none,none]):Cc [x0,x1] Q:=h
abbrev Fv:AS:=
 (Ad (As (AN 2 BY (AB (aV 5) (AB (AN 2 BQ (AB (aV 7) (AB (AN 2 A8 (AB (aV 6) (AB (aV 5) AL))) AL))) AL))) (A0 11))
   (Bx (Ky (Av (AX Qr (aV 4) (aC .non))) (Ky (Av (AN 2 Ah (AB (aV 10) (AB (AX Aj (aV 4) (aC (.int 0))) AL)))) (KB (Av (AX Kz (aV 10) (AX Aj (aV 4) (aC (.int 0))))) (Av (AN 2 Ah (AB (aV 11) (AB (AX Aj (aV 4) (aC (.int 1))) AL))))))) (As (BJ (AB (aV 10) (AB (aV 11) AL))) (A0 4)) BI))
abbrev Hg:AS:=
 (Ad (As (AN 3 B2 (AB (aV 8) (AB (aV 9) (AB (aV 7) AL)))) (A0 10))
   Fv)
abbrev Hh:AS:=
 (Ad (Ov 8 9 (AB (AN 4 Cy (AB (aV 0) (AB (aV 1) (AB (aV 2) (AB (aV 5) AL))))) (AB (AN 4 Cy (AB (aV 0) (AB (aV 1) (AB (aV 2) (AB (aV 6) AL))))) AL)))
   (E2 (NU (AN 2 Cc (AB (aV 8) (AB (aV 9) AL)))) (A0 7) Hg))
abbrev Hj:AS:=
 (Ad (E2 (aR (AB (aV 3) (AB (Uw (aV 3) (Uz (aC (.int 1))) Uy) AL))) (NT 2 (Aq (A0 5) (Aq (A0 6) Cg))) Hh)
   (Ay (aV 4)))
abbrev Hi:AS:=
 (Ad (As (aC .non) (A0 4))
   Hj)
abbrev Fu:AS:=
 (Ad (As (AN 2 C7 (AB (aV 0) (AB (aV 1) AL))) (A0 3))
   Hi)
def Bl:AF:=Ax 12 Fu
theorem Jx {x0 x1 x2:PV} {Q:PV->Prop} (h:Fu ⟨λ_=>Q .non,Q,λ_=>False,λ_=>False⟩ [some (.val x0),some (.val x1),some (.val x2),none,none,none,none,none,none,none,none,none]):Bl [x0,x1,x2] Q:=h
theorem Y9 (o:T3):0<=HP o:=by
 unfold HP
 have h1:=OK 0 (absR o.1)
 have h2:=OK (mx 0 (absR o.1)) (absR o.2.1)
 have h3:=OK (mx (mx 0 (absR o.1)) (absR o.2.1)) (absR o.2.2)
 grind
abbrev mT (l:Rat×Rat):PV:= .tup [fr l.1,fr l.2]
def OH (o p:T3):List (Rat×Rat):=(HQ o).zip (HQ p)
theorem aG (o p:T3):Dv ((HQ o).map fr) ((HQ p).map fr)=(OH o p).map mT:=rfl
theorem DB {o p:T3} {l:Rat×Rat}:l∈OH o p↔l∈Mt o p:=by
 unfold OH HQ Mt
 simp only [List.zip_cons_cons,List.zip_nil_right,List.mem_cons,List.not_mem_nil,or_false]
 constructor <;> (intro h;rcases h with h|h|h|h|h|h <;> simp [h])
theorem cg {o p:T3} {s g:Rat} (h:∀l∈OH o p,fL l s<=g) (e:g=0\/∃l∈OH o p,fL l s=g):g=HP (lin o p s):=by
 have m:=P7 o p s
 have nn:=Y9 (lin o p s)
 obtain ⟨⟨l,hl,el⟩,ha⟩:=m
 have:=h l (DB.mpr hl)
 rcases e with rfl|⟨k,hk,ek⟩
 ·grind
 ·have:=ha k (DB.mp hk)
  grind
theorem RE {o p:T3} {s:Rat} {W S:Nat} (h0:E1 W o) (h1:E1 W p) (hs:Bd S s) (hS:S+3*W+4<=4000) {Q:PV->Prop} (q:Q (fr (HP (lin o p s)))):B2 [.lst ((HQ o).map fr), .lst ((HQ p).map fr),fr s] Q:=by
 apply IW
 ac_rfl
 rw [aG]
 refine C9 mT (λus vs τ=>∃g z4 z5 z6,Bd 4000 g/\(g=0\/∃l∈us,fL l s=g)/\(∀l∈us,fL l s<=g)/\τ= [some (.val (.lst ((HQ o).map fr))),some (.val (.lst ((HQ p).map fr))),some (.val (fr s)),some (.val (fr g)),z4,z5,z6]) ?_ ?_ ?_
 ·rintro τ ⟨g,z4,z5,z6,bg,e,h,rfl⟩
  ac_rfl
  rw [cg h e]
  exact q
 ·rintro us l vs el τ R hR ⟨g,z4,z5,z6,bg,e,h,rfl⟩
  obtain ⟨b1,b2⟩:=LS h0 h1 l (DB.mp (by rw [<-el];simp))
  have b3:=b2.sub b1
  have b4:=hs.mul b3
  have b5:=b1.add b4
  have nn:Bd 4000 (fL l s):=b5.mono (by omega)
  ac_rfl
  ·rename_i k
   refine hR _ ⟨fL l s,_,_,_,nn, .inr ⟨l,by simp,rfl⟩,λx hx=> ?_,rfl⟩
   rcases List.mem_append.mp hx with hx|hx
   ·have:=h x hx
    have k:g<fL l s:=k
    grind
   ·simp at hx;subst hx;exact Rat.le_refl
  ·rename_i k
   refine hR _ ⟨g,_,_,_,bg, ?_,λx hx=> ?_,rfl⟩
   ·rcases e with e|⟨x,hx,ex⟩
    ·exact .inl e
    ·exact .inr ⟨x,by simp [hx],ex⟩
   ·rcases List.mem_append.mp hx with hx|hx
    ·exact h x hx
    ·simp at hx;subst hx
     have k:¬g<fL x s:=k
     grind
 ·exact ⟨0,_,_,_,eG.mono (by decide), .inl rfl,λl hl=>by simp at hl,rfl⟩
structure lq (o p:T3) (S:Nat) (xs:List Rat):Prop where
 few:xs.length<=100
 bd:∀x∈xs,Bd S x/\0<=x/\x<=1
 all:∀c,Ko (Mt o p) c->c∈xs
def R9 (a b:Rat×Rat):Rat:=(b.1-a.1)/((a.2-a.1)-(b.2-b.1))
theorem Y4 {a b:Rat×Rat} (f:F8 a b):(a.2-a.1)-(b.2-b.1)≠0/\R9 a b=Bg a b/\(b.2-b.1)-(a.2-a.1)≠0/\R9 b a=Bg a b:=by
 obtain ⟨f1,f2⟩:=f
 unfold R9 Bg
 have d:a.1-b.1+b.2-a.2≠0:=by grind
 exact ⟨by grind,by grind,by grind,by grind⟩
theorem ak {o p:T3} {i:Nat} (h:i<6):∃l,(OH o p)[i]? =some l/\(HQ o)[i]? =some l.1/\(HQ p)[i]? =some l.2/\l∈Mt o p:=by
 match i,h with
 | 0,_=>exact ⟨_,rfl,rfl,rfl,DB.mp (by simp [OH,HQ])⟩
 | 1,_=>exact ⟨_,rfl,rfl,rfl,DB.mp (by simp [OH,HQ])⟩
 | 2,_=>exact ⟨_,rfl,rfl,rfl,DB.mp (by simp [OH,HQ])⟩
 | 3,_=>exact ⟨_,rfl,rfl,rfl,DB.mp (by simp [OH,HQ])⟩
 | 4,_=>exact ⟨_,rfl,rfl,rfl,DB.mp (by simp [OH,HQ])⟩
 | 5,_=>exact ⟨_,rfl,rfl,rfl,DB.mp (by simp [OH,HQ])⟩
theorem UD {x:Rat}:(0<x.num↔0<x)/\(x.num<(x.den:Int)↔x<1):=by
 have e:sv (x.num,(x.den:Int))=x:=by unfold sv;rw [<-Rat.divInt_eq_div];exact Rat.num_divInt_den x
 have d:(0:Int)<(x.den:Int):=by have:=x.den_pos;omega
 have h1:=Ug (a:=(0,1)) (b:=(x.num,(x.den:Int))) (by decide) d
 have h2:=Ug (a:=(x.num,(x.den:Int))) (b:=(1,1)) d (by decide)
 rw [e,dh] at h1
 rw [e,di] at h2
 constructor
 ·rw [h1];simp
 ·rw [h2];simp
theorem gM {x:Rat}:x.num=0↔x=0:=by
 constructor
 ·intro h;exact Rat.num_eq_zero.mp h
 ·rintro rfl;rfl
def SDone (o p:T3) (k j:Nat) (xs:List Rat):Prop:=∀i l,((i<k/\l<i)\/(i=k/\l<j))->∀a b,(OH o p)[i]? =some a->(OH o p)[l]? =some b->(a.2-a.1)-(b.2-b.1)≠0->0<R9 a b->R9 a b<1->R9 a b∈xs
structure Ou (o p:T3) (S k j:Nat) (xs:List Rat):Prop where
 few:xs.length<=2+6*k+j
 bd:∀x∈xs,Bd S x/\0<=x/\x<=1
 z:0∈xs
 one:1∈xs
 dn:SDone o p k j xs
theorem X3 {o p:T3} {S:Nat} {xs:List Rat} (h:Ou o p S 6 0 xs):lq o p S xs:=by
 refine ⟨by have:=h.few;omega,h.bd, ?_⟩
 rintro c (rfl|rfl|⟨a,ha,b,hb,f,rfl⟩)
 ·exact h.z
 ·exact h.one
 ·obtain ⟨c1,c2,c3,c4⟩:=Y4 f
  have mt:=LN f
  obtain ⟨i,hi,ei⟩:=List.mem_iff_getElem.mp (DB.mpr ha)
  obtain ⟨k,hk,ek⟩:=List.mem_iff_getElem.mp (DB.mpr hb)
  have li:i<6:=hi
  have lk:k<6:=hk
  have ei:(OH o p)[i]? =some a:=by rw [List.getElem?_eq_getElem hi,ei]
  have ek:(OH o p)[k]? =some b:=by rw [List.getElem?_eq_getElem hk,ek]
  by_cases q:i=k
  ·subst q
   rw [ei] at ek
   cases ek
   obtain ⟨f1,_⟩:=f
   grind
  ·by_cases q2:k<i
   ·rw [<-c2]
    exact h.dn i k (.inl ⟨li,q2⟩) a b ei ek c1 (by rw [c2];exact mt.1) (by rw [c2];exact mt.2.1)
   ·rw [<-c4]
    exact h.dn k i (.inl ⟨lk,by omega⟩) b a ek ei c3 (by rw [c4];exact mt.1) (by rw [c4];exact mt.2.1)
theorem Z4 {o p:T3} {S k:Nat} {xs:List Rat} (h:Ou o p S k k xs) (hk:k<6):Ou o p S (k+1) 0 xs:=by
 refine ⟨by have:=h.few;omega,h.bd,h.z,h.one,λi l hi a b ha hb=> ?_⟩
 refine h.dn i l ?_ a b ha hb
 rcases hi with ⟨h1,h2⟩|⟨_,h2⟩
 ·by_cases q:i=k
  ·exact .inr ⟨q,by omega⟩
  ·exact .inl ⟨by omega,h2⟩
 ·omega
theorem P6 {o p:T3} {S k j:Nat} {xs:List Rat} {a b:Rat×Rat} (h:Ou o p S k j xs) (ha:(OH o p)[k]? =some a) (hb:(OH o p)[j]? =some b) (n:(a.2-a.1)-(b.2-b.1)≠0->0<R9 a b->R9 a b<1->False):Ou o p S k (j+1) xs:=by
 refine ⟨by have:=h.few;omega,h.bd,h.z,h.one,λi l hi a' b' Q2 Q3 n1 n2 n3=> ?_⟩
 by_cases q:i=k/\l=j
 ·obtain ⟨rfl,rfl⟩:=q
  rw [ha] at Q2
  rw [hb] at Q3
  cases Q2
  cases Q3
  exact (n n1 n2 n3).elim
 ·refine h.dn i l ?_ a' b' Q2 Q3 n1 n2 n3
  rcases hi with hi|⟨h1,h2⟩
  ·exact .inl hi
  ·exact .inr ⟨h1,by omega⟩
theorem X4 {o p:T3} {S k j:Nat} {xs:List Rat} {a b:Rat×Rat} (h:Ou o p S k j xs) (ha:(OH o p)[k]? =some a) (hb:(OH o p)[j]? =some b) (n2:0<R9 a b) (n3:R9 a b<1) (bs:Bd S (R9 a b)):Ou o p S k (j+1) (xs ++ [R9 a b]):=by
 refine ⟨by rw [List.length_append,List.length_singleton];have:=h.few;omega,λx hx=> ?_,by simp [h.z],by simp [h.one],λi l hi a' b' Q2 Q3 m1 m2 m3=> ?_⟩
 ·rcases List.mem_append.mp hx with hx|hx
  ·exact h.bd x hx
  ·simp at hx;subst hx;exact ⟨bs,by grind,by grind⟩
 ·by_cases q:i=k/\l=j
  ·obtain ⟨rfl,rfl⟩:=q
   rw [ha] at Q2
   rw [hb] at Q3
   cases Q2
   cases Q3
   simp
  ·refine List.mem_append.mpr (.inl (h.dn i l ?_ a' b' Q2 Q3 m1 m2 m3))
   rcases hi with hi|⟨h1,h2⟩
   ·exact .inl hi
   ·exact .inr ⟨h1,by omega⟩
theorem Ng {o p:T3} {W:Nat} (h0:E1 W o) (h1:E1 W p) (hW:W<=440) {Q:PV->Prop} (q:∀xs,lq o p (6*W+6) xs->Q (.lst (xs.map fr))):Cc [.lst ((HQ o).map fr), .lst ((HQ p).map fr)] Q:=by
 have rb:=LS h0 h1
 apply LA
 ac_rfl
 refine LI (λk τ=>∃xs z3 z4 z5 z6,Ou o p (6*W+6) k 0 xs/\τ= [some (.val (.lst ((HQ o).map fr))),some (.val (.lst ((HQ p).map fr))),some (.own (xs.map fr)),z3,z4,z5,z6]) ?_ ?_ ?_
 ·rintro τ ⟨xs,z3,z4,z5,z6,h,rfl⟩
  ac_rfl
  exact q xs (X3 h)
 ·rintro k hk τ R hR ⟨xs,z3,z4,z5,z6,h,rfl⟩
  have hk:k<6:=hk
  obtain ⟨a,ea,ea1,ea2,ma⟩:=ak (o:=o) (p:=p) hk
  obtain ⟨ba1,ba2⟩:=rb a ma
  have e0:(0:Int)+(k:Int)=(k:Int):=by omega
  rw [e0]
  ac_rfl
  have e1:Int.toNat ((k:Int))=k:=by omega
  rw [show ((k:Int)).toNat=k from e1]
  refine LI (λj τ=>∃xs z4 z5 z6,Ou o p (6*W+6) k j xs/\τ= [some (.val (.lst ((HQ o).map fr))),some (.val (.lst ((HQ p).map fr))),some (.own (xs.map fr)),some (.val (.int (k:Int))),z4,z5,z6]) ?_ ?_ ?_
  ·rintro τ ⟨xs,z4,z5,z6,h,rfl⟩
   exact hR _ ⟨_,_,_,_,_,Z4 h hk,rfl⟩
  ·rintro j hj τ R hR ⟨xs,z4,z5,z6,h,rfl⟩
   obtain ⟨b,eb,eb1,eb2,mb⟩:=ak (o:=o) (p:=p) (show j<6 by omega)
   obtain ⟨bb1,bb2⟩:=rb b mb
   have e2:(0:Int)+(j:Int)=(j:Int):=by omega
   rw [e2]
   have s1:=ba2.sub ba1
   have s2:=bb2.sub bb1
   have s3:=s1.sub s2
   have s4:=bb1.sub ba1
   ac_rfl
   refine eO ea2 ?_
   ac_rfl
   refine eO ea1 ?_
   ac_rfl
   refine eO eb2 ?_
   ac_rfl
   refine eO eb1 ?_
   ac_rfl
   ·rename_i k0
    have ne:(a.2-a.1)-(b.2-b.1)≠0:=λz=>k0 (gM.mpr z)
    have s5:=s4.div ne s3
    have s6:Bd (6*W+6) (R9 a b):=s5.mono (by omega)
    have ec:(b.1-a.1)/((a.2-a.1)-(b.2-b.1))=R9 a b:=rfl
    refine eO eb1 ?_
    ac_rfl
    refine eO ea1 ?_
    ac_rfl
    ·rename_i k1 k2
     have e3:xs.map fr ++ [fr ((b.1-a.1)/((a.2-a.1)-(b.2-b.1)))] =(xs ++ [R9 a b]).map fr:=by rw [List.map_append];rfl
     rw [e3]
     exact ⟨by have:=h.few;omega,hR _ ⟨_,_,_,_,X4 h ea eb (UD.1.mp k1) (UD.2.mp k2) s6,rfl⟩⟩
    ·rename_i k1 k2
     exact hR _ ⟨_,_,_,_,P6 h ea eb (λ_ _ z=>k2 (UD.2.mpr z)),rfl⟩
    ·rename_i k1
     exact hR _ ⟨_,_,_,_,P6 h ea eb (λ_ z _=>k1 (UD.1.mpr z)),rfl⟩
   ·rename_i k0
    exact hR _ ⟨_,_,_,_,P6 h ea eb (λz=>(z (gM.mp k0)).elim),rfl⟩
  ·exact ⟨_,_,_,_,h,rfl⟩
 ·exact ⟨[0,1],_,_,_,_,⟨by decide,λx hx=>by
   simp at hx
   rcases hx with rfl|rfl
   ·exact ⟨eG.mono (by omega),by grind,by grind⟩
   ·exact ⟨jN.mono (by omega),by grind,by grind⟩,by simp,by simp,λi l hi=>by omega⟩,rfl⟩
section
variable {cs ds:List C4} {d:Rat×Rat} {M W:Nat}
def M6 (cs ds:List C4) (d:Rat×Rat) (ks:List Rat) (t:PV):Prop:=(ks= [] /\t= .non)\/∃m g,m∈ks/\CM cs ds d m=g/\(∀k∈ks,g<CM cs ds d k\/(g=CM cs ds d k/\m<=k))/\Bd 4000 g/\Bd 4000 m/\t= .tup [fr g,fr m]
theorem Vs {k:Rat} (b1:Bd 4000 (CM cs ds d k)) (b2:Bd 4000 k):M6 cs ds d [k] (.tup [fr (CM cs ds d k),fr k]):=
 .inr ⟨k,_,by simp,rfl,λx hx=>by simp at hx;subst hx;exact .inr ⟨rfl,Rat.le_refl⟩,b1,b2,rfl⟩
theorem OY {ks:List Rat} {k m g:Rat} (h:∀k∈ks,g<CM cs ds d k\/(g=CM cs ds d k/\m<=k)) (l:CM cs ds d k<g\/(CM cs ds d k=g/\k<m)) (b1:Bd 4000 (CM cs ds d k)) (b2:Bd 4000 k):M6 cs ds d (ks ++ [k]) (.tup [fr (CM cs ds d k),fr k]):=by
 refine .inr ⟨k,_,by simp,rfl,λx hx=> ?_,b1,b2,rfl⟩
 rcases List.mem_append.mp hx with hx|hx
 ·rcases h x hx with z|⟨z,y⟩ <;> rcases l with w|⟨w,v⟩
  ·left;grind
  ·left;grind
  ·left;grind
  ·right;exact ⟨by grind,by grind⟩
 ·simp at hx;subst hx;exact .inr ⟨rfl,Rat.le_refl⟩
theorem OZ {ks:List Rat} {k m g:Rat} (hm:m∈ks) (e:CM cs ds d m=g) (h:∀k∈ks,g<CM cs ds d k\/(g=CM cs ds d k/\m<=k)) (b1:Bd 4000 g) (b2:Bd 4000 m) (l1:¬CM cs ds d k<g) (l2:¬(CM cs ds d k=g/\k<m)):M6 cs ds d (ks ++ [k]) (.tup [fr g,fr m]):=by
 refine .inr ⟨m,g,by simp [hm],e,λx hx=> ?_,b1,b2,rfl⟩
 rcases List.mem_append.mp hx with hx|hx
 ·exact h x hx
 ·simp at hx;subst hx
  by_cases z:g<CM cs ds d x
  ·exact .inl z
  ·right
   have e2:CM cs ds d x=g:=by grind
   refine ⟨e2.symm, ?_⟩
   rw [<-Rat.not_lt]
   exact λw=>l2 ⟨e2,w⟩
def Fo (p:Pc) (c:Rat):Rat:=p.b+c*(p.e-p.b)
structure i8 (us:List Pc) (ks:List Rat):Prop where
 all:∀p∈us,∀c,Ko p.rl c->Fo p c∈ks
 in_:∀k∈ks,∃p∈us,p.b<=k/\k<=p.e
theorem WW (D:Hd cs ds d M W) {ks:List Rat} {m g:Rat} (C:i8 (HV cs ds d) ks) (hm:m∈ks) (e:CM cs ds d m=g) (h:∀k∈ks,g<CM cs ds d k\/(g=CM cs ds d k/\m<=k)):DZ cs ds d (HV cs ds d) m g:=by
 refine ⟨C.in_ m hm,e,λp hp k h1 h2=> ?_⟩
 have o:=D.pc p hp
 obtain ⟨s0,s1,es⟩:=Rh o h1 h2
 obtain ⟨c,g',hc,mc,l⟩:=Ql s0 s1 (RQ o h1 h2)
 have ci:=IC hc
 obtain ⟨k1,k2,k3⟩:=PF o ci.1 ci.2
 have m2:=RQ o k1 k2
 rw [k3] at m2
 have eg:=Jm m2 mc
 have hk:=h _ (C.all p hp c hc)
 have em:Fo p c=p.b+c*(p.e-p.b):=rfl
 rw [em,eg] at hk
 rcases hk with z|⟨z,y⟩ <;> rcases l with w|⟨w,v⟩
 ·left;grind
 ·left;grind
 ·left;grind
 ·right
  refine ⟨by grind, ?_⟩
  have dd:0<=p.e-p.b:=by have:=o.lt;grind
  have:=Rat.mul_le_mul_of_nonneg_right v dd
  grind
theorem WX (D:Hd cs ds d M W) (C:i8 (HV cs ds d) []):HV cs ds d= [] :=by
 cases e:HV cs ds d with
 | nil=>rfl
 | cons p r=>
   have:=C.all p (by rw [e];simp) 0 (.inl rfl)
   simp at this
theorem cA {p:Pc} (o:Os cs ds d M W p) {c:Rat} (c0:0<=c) (c1:c<=1):HP (lin p.o0 p.o1 c)=CM cs ds d (Fo p c):=by
 obtain ⟨k1,k2,k3⟩:=PF o c0 c1
 have m2:=RQ o k1 k2
 rw [k3,UM o.w0 o.w1] at m2
 exact (Jm m2 (P7 ..)).symm
theorem cB {p:Pc} (o:Os cs ds d M W p) {c:Rat} {S:Nat} (bc:Bd S c) (hS:S+3*W+2<=4000):Bd 4000 (HP (lin p.o0 p.o1 c)):=by
 obtain ⟨⟨l,hl,el⟩,_⟩:=P7 p.o0 p.o1 c
 obtain ⟨b1,b2⟩:=LS o.w0 o.w1 l hl
 rw [<-el]
 exact (aU b1 b2 bc).mono (by omega)
theorem MN (D:Hd cs ds d M W) (hW:W<=440) {Q:PV->Prop} (q0:HV cs ds d= [] ->Q .non) (q1:∀m g,DZ cs ds d (HV cs ds d) m g->Q (.tup [fr g,fr m])):Bl [Ao cs,Ao ds, .tup [fr d.1,fr d.2]] Q:=by
 have hM:=D.hM
 have tf:=aE D
 apply Jx
 ac_rfl
 refine PC D ?_
 ac_rfl
 rw [YU]
 have ep:(HV cs ds d)=((YN cs ds).zip (YN cs ds).tail).map (Fq cs ds d):=by
  unfold HV YN
  split
  ·rfl
  ·rfl
 refine C9 ap (λus vs τ=>∃ks t z5 z6 z7 z8 z9 z10 z11,i8 (us.map (Fq cs ds d)) ks/\M6 cs ds d ks t/\τ= [some (.val (Ao cs)),some (.val (Ao ds)),some (.val (.tup [fr d.1,fr d.2])),some (.val (.lst ((YN cs ds).map fr))),some (.val t),z5,z6,z7,z8,z9,z10,z11]) ?_ ?_ ?_
 ·rintro τ ⟨ks,t,z5,z6,z7,z8,z9,z10,z11,C,h,rfl⟩
  ac_rfl
  rw [<-ep] at C
  rcases h with ⟨rfl,rfl⟩|⟨m,g,hm,e,h,_,_,rfl⟩
  ·exact q0 (WX D C)
  ·exact q1 m g (WW D C hm e h)
 ·rintro us p vs e τ R hR ⟨ks,t,z5,z6,z7,z8,z9,z10,z11,C,ht,rfl⟩
  have pm:Fq cs ds d p∈HV cs ds d:=by rw [ep];exact List.mem_map.mpr ⟨p,by rw [<-e];simp,rfl⟩
  have h:B8 cs ds<B9 cs ds:=by
   have o:=D.pc _ pm
   have:=o.lt
   have:=o.lo
   have:=o.hi
   grind
  have tg:=D.tog h
  have o:=D.pc _ pm
  have o1:B8 cs ds<=p.1:=o.lo
  have o2:p.2<=B9 cs ds:=o.hi
  have o3:p.1<p.2:=o.lt
  have bb:Bd M p.1:=o.bb
  have be:Bd M p.2:=o.be
  ac_rfl
  refine KH D tg o1 (by grind) bb ?_
  ac_rfl
  refine KH D tg (by grind) o2 be ?_
  ac_rfl
  refine Ng (W:=W) o.w0 o.w1 hW λxs hx=> ?_
  ac_rfl
  refine C9 fr (λas bs τ=>∃t z7 z10 z11,M6 cs ds d (ks++as.map (Fo (Fq cs ds d p))) t/\τ= [some (.val (Ao cs)),some (.val (Ao ds)),some (.val (.tup [fr d.1,fr d.2])),some (.val (.lst ((YN cs ds).map fr))),some (.val t),some (.val (fr p.1)),some (.val (fr p.2)),z7,some (.val (.lst ((HQ (Fp cs ds d p.1)).map fr))),some (.val (.lst ((HQ (Fp cs ds d p.2)).map fr))),z10,z11]) ?_ ?_ ?_
  ·rintro τ ⟨t,z7,z10,z11,h,rfl⟩
   refine hR _ ⟨_,t,_,_,_,_,_,_,_,⟨λq hq c hc=> ?_,λk hk=> ?_⟩,h,rfl⟩
   ·rw [List.map_append] at hq
    rcases List.mem_append.mp hq with hq|hq
    ·exact List.mem_append.mpr (.inl (C.all q hq c hc))
    ·simp at hq;subst hq
     rw [UM o.w0 o.w1] at hc
     exact List.mem_append.mpr (.inr (List.mem_map.mpr ⟨c,hx.all c hc,rfl⟩))
   ·rw [List.map_append]
    rcases List.mem_append.mp hk with hk|hk
    ·obtain ⟨q,hq,l⟩:=C.in_ k hk
     exact ⟨q,List.mem_append.mpr (.inl hq),l⟩
    ·obtain ⟨c,hc,rfl⟩:=List.mem_map.mp hk
     obtain ⟨_,c0,c1⟩:=hx.bd c hc
     obtain ⟨l1,l2,_⟩:=PF o c0 c1
     exact ⟨_,List.mem_append.mpr (.inr (by simp)),l1,l2⟩
  ·rintro as c bs e2 τ R2 iX ⟨t,z7,z10,z11,h,rfl⟩
   obtain ⟨bc,c0,c1⟩:=hx.bd c (by rw [<-e2];simp)
   have gb:=cB o bc (by omega)
   have ge:=cA o c0 c1
   have k1:=be.sub bb
   have k2:=bc.mul k1
   have k3:=bb.add k2
   have mb:Bd 4000 (Fo (Fq cs ds d p) c):=k3.mono (by omega)
   rw [ge] at gb
   have nw:M6 cs ds d (ks++as.map (Fo (Fq cs ds d p)) ++ [Fo (Fq cs ds d p) c]) (.tup [fr (CM cs ds d (Fo (Fq cs ds d p) c)),fr (Fo (Fq cs ds d p) c)])->R2 [some (.val (Ao cs)),some (.val (Ao ds)),some (.val (.tup [fr d.1,fr d.2])),some (.val (.lst ((YN cs ds).map fr))),some (.val (.tup [fr (CM cs ds d (Fo (Fq cs ds d p) c)),fr (Fo (Fq cs ds d p) c)])),some (.val (fr p.1)),some (.val (fr p.2)),some (.val (fr c)),some (.val (.lst ((HQ (Fp cs ds d p.1)).map fr))),some (.val (.lst ((HQ (Fp cs ds d p.2)).map fr))),some (.val (fr (CM cs ds d (Fo (Fq cs ds d p) c)))),some (.val (fr (Fo (Fq cs ds d p) c)))] :=λh=>iX _ ⟨_,_,_,_,by rw [List.map_append,<-List.append_assoc];exact h,rfl⟩
   have ol:M6 cs ds d (ks++as.map (Fo (Fq cs ds d p)) ++ [Fo (Fq cs ds d p) c]) t->R2 [some (.val (Ao cs)),some (.val (Ao ds)),some (.val (.tup [fr d.1,fr d.2])),some (.val (.lst ((YN cs ds).map fr))),some (.val t),some (.val (fr p.1)),some (.val (fr p.2)),some (.val (fr c)),some (.val (.lst ((HQ (Fp cs ds d p.1)).map fr))),some (.val (.lst ((HQ (Fp cs ds d p.2)).map fr))),some (.val (fr (CM cs ds d (Fo (Fq cs ds d p) c)))),some (.val (fr (Fo (Fq cs ds d p) c)))] :=λh=>iX _ ⟨_,_,_,_,by rw [List.map_append,<-List.append_assoc];exact h,rfl⟩
   ac_rfl
   refine RE (W:=W) (S:=6*W+6) o.w0 o.w1 bc (by omega) ?_
   rw [ge]
   have em:p.1+c*(p.2-p.1)=Fo (Fq cs ds d p) c:=rfl
   rcases h with ⟨e0,rfl⟩|⟨m,g,hm,eg,hl,b1,b2,rfl⟩
   ·ac_rfl
    exact nw (by rw [e0,List.nil_append];exact Vs gb mb)
   ·ac_rfl
    ·rename_i k1
     exact nw (OY hl (.inl k1) gb mb)
    ·rename_i k1 k2 k3
     exact nw (OY hl (.inr ⟨k2,k3⟩) gb mb)
    ·rename_i k1 k2 k3
     exact ol (OZ hm eg hl b1 b2 k1 (λz=>k3 z.2))
    ·rename_i k1 k2
     exact ol (OZ hm eg hl b1 b2 k1 (λz=>k2 z.1))
  ·exact ⟨_,_,_,_,by rw [List.map_nil,List.append_nil];exact ht,rfl⟩
 ·exact ⟨[],_,_,_,_,_,_,_,_,⟨λp hp=>by simp at hp,λk hk=>by simp at hk⟩, .inl ⟨rfl,rfl⟩,rfl⟩
end
abbrev Eu (F:AF):AS:=
 (Ad (Bx (Av (Es Qv (AB (AX Aj (aV 0) (aC (.int 0))) (AB (aC (.ty "int")) AL)))) (Ay (aV 0)) BI)
   (Ay (GU (CL (NU (aV 0)) 1 [] (A0 0) FD (AN 1 F (AB (aV 0) AL))))))
def Ag:Nat->AF
 | 0=>λ_ _=>False
 | n+1=>Ax 1 (Eu (Ag n))
theorem Bz {m:Nat} {x0:PV} {Q:PV->Prop} (h:Eu (Ag m) ⟨λ_=>Q .non,Q,λ_=>False,λ_=>False⟩ [some (.val x0)]):Ag (m+1) [x0] Q:=h
abbrev Hr (F:AF):AS:=
 (Ad (Bx (Ky (Gy (Av (Es Qv (AB (aV 0) (AB (aC (.ty "tuple")) AL))))) (Av (AX Wg (Es FG (AB (aV 0) AL)) (Es FG (AB (aV 1) AL))))) (Ay (aC (.bl false))) BI)
   (Ay (Es (Wk λbs=>bs.all id) (AB (GU (CL (aR (AB (aV 0) (AB (aV 1) AL))) 2 [] (NT 2 (Aq (A0 0) (Aq (A0 1) Cg))) FD (AN 2 F (AB (aV 0) (AB (aV 1) AL))))) AL))))
abbrev Fy (F:AF):AS:=
 (Ad (Bx (Av (Es Qv (AB (aV 1) (AB (aC (.ty "tuple")) AL)))) (Hr F) BI)
   (Ad (Bx (Ky (Av (AX Qr (aV 1) (aC .non))) (Av (Es MG (AB (aV 1) (AB (aC (.ty "str")) AL))))) (Ay (WK (AX Kz (aV 0) (aV 1)) (AX Kz (Es MG (AB (aV 0) (AB (aC (.ty "str")) AL))) (Es MG (AB (aV 1) (AB (aC (.ty "str")) AL)))))) BI)
   (Ay (WK (Es Qv (AB (aV 0) (AB (aC (.ty "int")) AL))) (WK (Ow bi (Es Qv (AB (aV 0) (AB (aC (.ty "bool")) AL)))) (AX Kz (aV 0) (aV 1)))))))
def An:Nat->AF
 | 0=>λ_ _=>False
 | n+1=>Ax 2 (Fy (An n))
theorem CU {m:Nat} {x0 x1:PV} {Q:PV->Prop} (h:Fy (An m) ⟨λ_=>Q .non,Q,λ_=>False,λ_=>False⟩ [some (.val x0),some (.val x1)]):An (m+1) [x0,x1] Q:=h
instance ku {i:Int} {Q:PV->Prop}:Wp (MG [.int i, .ty "str"] Q) (Q (.bl false)):=⟨λh=>⟨rfl,h⟩⟩
instance k9 {Q:PV->Prop}:Wp (MG [.non, .ty "str"] Q) (Q (.bl false)):=⟨λh=>⟨rfl,h⟩⟩
instance mw {Q:PV->Prop}:Wp (Kz .non .non Q) (Q (.bl true)):=⟨λh=>h⟩
theorem EB {m:Nat} {r:Rat} {Q:PV->Prop} (q:Q (fr r)):Ag (m+1) [fr r] Q:=by
 apply Bz
 ac_rfl
 exact q
theorem RZ {m:Nat} {i:Int} {Q:PV->Prop} (q:Q (.bl true)):An (m+1) [.int i, .int i] Q:=by
 apply CU
 ac_rfl
 rw [decide_eq_true rfl]
 exact q
theorem Xq {m:Nat} {Q:PV->Prop} (q:Q (.bl true)):An (m+1) [.non, .non] Q:=by
 apply CU
 ac_rfl
 exact q
theorem UN {m:Nat} {r:Rat} {Q:PV->Prop} (q:Q (.bl true)):An (m+2) [fr r,fr r] Q:=by
 unfold fr
 apply CU
 repeat' array_get_dec
 refine RZ ?_
 repeat' array_get_dec
 refine RZ ?_
 repeat' array_get_dec
 exact q
theorem Se {m:Nat} {a b:Rat} {Q:PV->Prop} (q:Q (.lst [fr a,fr b])):Ag (m+2) [.tup [fr a,fr b]] Q:=by
 apply Bz
 repeat' array_get_dec
 refine EB ?_
 repeat' array_get_dec
 refine EB ?_
 repeat' array_get_dec
 exact q
theorem Sd {m:Nat} {c:C4} {Q:PV->Prop} (q:Q (corL c)):Ag (m+2) [cor c] Q:=by
 apply Bz
 repeat' array_get_dec
 refine EB ?_
 repeat' array_get_dec
 refine EB ?_
 repeat' array_get_dec
 refine EB ?_
 repeat' array_get_dec
 refine EB ?_
 repeat' array_get_dec
 exact q
theorem KI {m:Nat} {cs:List C4} (h0:cs≠ []) (hl:cs.length<=100) {Q:PV->Prop} (q:Q (.lst (cs.map corL))):Ag (m+3) [Ao cs] Q:=by
 obtain ⟨a,r,rfl⟩:=List.exists_cons_of_ne_nil h0
 apply Bz
 ac_rfl
 refine EU cor corL id (λ_=>True) (λc _ R hR=> ?_) (a::r) [] (by simp) ?_
 ·ac_rfl
  refine Sd ?_
  exact hR
 rw [List.map_id]
 exact q
end PL
end
section
namespace PL.K21
open PySem L2 PL PyProof.Rows
abbrev Of:AS:=
 (Ad (As (AN 3 Bl (AB (aV 5) (AB (aV 6) (AB (aV 3) AL)))) (A0 8))
   (Bx (Ky (Gy (Av (AN 2 (An 12) (AB (AN 3 CQ (AB (aV 5) (AB (aV 6) (AB (aV 3) AL)))) (AB (aV 8) AL))))) (Gy (Av (AN 2 (An 12) (AB (AN 3 CQ (AB (aV 6) (AB (aV 5) (AB (aV 3) AL)))) (AB (aV 8) AL)))))) (Ay (aC (.bl false))) BI))
abbrev Kk:AS:=
 (Ad (E2 (NU (BJ (AB (aV 7) (AB (AN 1 CP (AB (aV 4) AL)) (AB (aV 2) (AB (aV 7) AL)))))) (A0 3) Of)
   (Bx (Gy (Av (AN 2 (An 12) (AB (AN 3 CQ (AB (AN 1 (Ag 12) (AB (aV 5) AL)) (AB (AN 1 (Ag 12) (AB (aV 6) AL)) (AB (AN 1 (Ag 12) (AB (aV 7) AL)) AL)))) (AB (aV 8) AL))))) (Ay (aC (.bl false))) BI))
abbrev Kh:AS:=
 (Ad (As (BJ (AB (AN 2 A8 (AB (AX Aj (aV 7) (aC (.int 0))) (AB (BJ (AB (aC (.int 1)) (AB (AX bj (aC (.int 10)) (aC (.int 19))) AL))) AL))) (AB (AN 2 BY (AB (AX Aj (aV 7) (aC (.int 1))) (AB (BJ (AB (aC (.int 1)) (AB (AX bj (aC (.int 10)) (aC (.int 19))) AL))) AL))) AL))) (A0 2))
   Kk)
abbrev Og:AS:=
 (Ad (As (AN 2 Dc (AB (aV 0) (AB (aV 1) AL))) (NT 4 (Aq (A0 4) (Aq (A0 5) (Aq (A0 6) (Aq (A0 7) Cg))))))
   Kh)
abbrev Nw:AS:=
 (Ad (E2 (Oy (AB (AX BK (aC (.int 1)) (Es (fT min) (AB (aC (.int 3)) (AB (Es FG (AB (aV 0) AL)) AL)))) AL)) (A0 1) Og)
   (Ay (aC (.bl true))))
def D7:AF:=Ax 9 Nw
theorem RV {x0:PV} {Q:PV->Prop} (h:Nw ⟨λ_=>Q .non,Q,λ_=>False,λ_=>False⟩ [some (.val x0),none,none,none,none,none,none,none,none]):D7 [x0] Q:=h
theorem aF {cs ds:List C4}:Rm ds cs=Rm cs ds:=by
 have e1:B8 ds cs=B8 cs ds:=by unfold B8;rw [UC]
 have e2:B9 ds cs=B9 cs ds:=by unfold B9;rw [UB]
 unfold Rm
 rw [e1,e2]
 refine QD Gh Gh λx=> ?_
 have o:∀c:C4,(c∈ds\/c∈cs)↔(c∈cs\/c∈ds):=λc=>or_comm
 rw [E7,E7]
 simp only [o]
theorem OE {cs ds:List C4} {d:Rat×Rat} {m:Rat}:CM ds cs d m=CM cs ds d m:=by
 unfold CM Fp
 rw [Wm]
theorem RR {cs ds:List C4} {d:Rat×Rat}:(HV ds cs d).map (λp=>(p.b,p.e))=(HV cs ds d).map (λp=>(p.b,p.e)):=by
 unfold HV
 have e1:B8 ds cs=B8 cs ds:=by unfold B8;rw [UC]
 have e2:B9 ds cs=B9 cs ds:=by unfold B9;rw [UB]
 rw [e1,e2,aF]
 split
 ·unfold K7
  rw [List.map_map,List.map_map]
  rfl
 ·rfl
theorem Tx {cs ds:List C4} {d:Rat×Rat} {p:Pc} (h:p∈HV ds cs d):∃q∈HV cs ds d,q.b=p.b/\q.e=p.e:=by
 have:(p.b,p.e)∈(HV cs ds d).map (λp=>(p.b,p.e)):=by rw [<-RR];exact List.mem_map.mpr ⟨p,h,rfl⟩
 obtain ⟨q,hq,e⟩:=List.mem_map.mp this
 simp at e
 exact ⟨q,hq,e.1,e.2⟩
theorem U0 {cs ds:List C4} {d:Rat×Rat} {m g:Rat} (h:DZ ds cs d (HV ds cs d) m g):DZ cs ds d (HV cs ds d) m g:=by
 obtain ⟨p,hp,l1,l2⟩:=h.ex
 obtain ⟨q,hq,e1,e2⟩:=Tx hp
 refine ⟨⟨q,hq,by rw [e1];exact l1,by rw [e2];exact l2⟩,by rw [<-OE];exact h.at_,λp hp k h1 h2=> ?_⟩
 obtain ⟨q,hq,e1,e2⟩:=Tx hp
 rw [<-OE]
 exact h.le q hq k (by rw [e1];exact h1) (by rw [e2];exact h2)
theorem XQ {cs ds:List C4} {d:Rat×Rat} (h:HV ds cs d= []):HV cs ds d= [] :=by
 have e:=RR (cs:=cs) (ds:=ds) (d:=d)
 rw [h,List.map_nil] at e
 exact List.map_eq_nil_iff.mp e.symm
theorem WN {cs ds:List C4} {d:Rat×Rat} {us:List Pc} {m g k h:Rat} (a:DZ cs ds d us m g) (b:DZ cs ds d us k h):m=k/\g=h:=by
 obtain ⟨p,hp,l1,l2⟩:=a.ex
 obtain ⟨q,hq,l3,l4⟩:=b.ex
 have x1:=a.le q hq k l3 l4
 have x2:=b.le p hp m l1 l2
 rw [b.at_] at x1
 rw [a.at_] at x2
 grind
def Due (cs ds:List C4) (d:Rat×Rat) (t:PV):Prop:=(HV cs ds d= [] /\t= .non)\/∃m g,DZ cs ds d (HV cs ds d) m g/\t= .tup [fr g,fr m]
theorem IG {cs ds:List C4} {d:Rat×Rat} {t u:PV} (a:Due cs ds d t) (b:Due cs ds d u):u=t:=by
 rcases a with ⟨a,rfl⟩|⟨m,g,a,rfl⟩ <;> rcases b with ⟨b,rfl⟩|⟨k,h,b,rfl⟩
 ·rfl
 ·obtain ⟨p,hp,_⟩:=b.ex
  rw [a] at hp;cases hp
 ·obtain ⟨p,hp,_⟩:=a.ex
  rw [b] at hp;cases hp
 ·obtain ⟨e1,e2⟩:=WN a b
  rw [e1,e2]
theorem RG {cs ds:List C4} {d:Rat×Rat} {M W:Nat} (D:Hd cs ds d M W) (hW:W<=440) {v w u t:PV} (hv:Bj cs v) (hw:Bj ds w) (hu:Ul d u) (ht:Due cs ds d t) {Q:PV->Prop} (q:Q t):CQ [v,w,u] Q:=by
 refine MQ D hW hv hw hu (λh=> ?_) λm g h=> ?_
 ·rw [IG ht (.inl ⟨h,rfl⟩)];exact q
 ·rw [IG ht (.inr ⟨m,g,h,rfl⟩)];exact q
theorem VY {cs ds:List C4} {d:Rat×Rat} {M W:Nat} (D:Hd ds cs d M W) (hW:W<=440) {v w u t:PV} (hv:Bj cs v) (hw:Bj ds w) (hu:Ul d u) (ht:Due cs ds d t) {Q:PV->Prop} (q:Q t):CQ [w,v,u] Q:=by
 refine MQ D hW hw hv hu (λh=> ?_) λm g h=> ?_
 ·rw [IG ht (.inl ⟨XQ h,rfl⟩)];exact q
 ·rw [IG ht (.inr ⟨m,g,U0 h,rfl⟩)];exact q
theorem ZN {cs ds:List C4} {d:Rat×Rat} {M W:Nat} (D:Hd cs ds d M W) (hW:W<=440) {Q:PV->Prop} (q:∀t,Due cs ds d t->Q t):Bl [Ao cs,Ao ds, .tup [fr d.1,fr d.2]] Q:=
 MN D hW (λh=>q _ (.inl ⟨h,rfl⟩)) λm g h=>q _ (.inr ⟨m,g,h,rfl⟩)
theorem MD {cs ds:List C4} {d:Rat×Rat} {t:PV} (h:Due cs ds d t) {Q:PV->Prop} (q:Q (.bl true)):An 12 [t,t] Q:=by
 rcases h with ⟨_,rfl⟩|⟨m,g,_,rfl⟩
 ·exact Xq (m:=11) q
 ·apply CU (m:=11)
  ac_rfl
  refine UN (m:=9) ?_
  ac_rfl
  refine UN (m:=9) ?_
  ac_rfl
  exact q
def ee:Rat:=mkRat 1 10000000000000000000
theorem Wc:ee.num=1:=by decide +kernel
theorem Wb:ee.den=10000000000000000000:=by decide +kernel
theorem aT:PV.tup [PV.int 1,PV.int (10^Int.toNat 19)] =fr ee:=by
 show _=PV.tup [PV.int ee.num,PV.int (ee.den:Int)]
 rw [Wc,Wb]
 rfl
theorem fM:Bd 64 ee:=⟨by rw [Wc];decide,by rw [Wb];decide⟩
theorem fN:0<ee/\ee<1/4:=by constructor <;> decide +kernel
theorem Wa {cs ds:List C4} {d:Rat×Rat} (p:CK 12 22 cs) (p2:CK 12 22 ds) (b1:Bd 70 d.1) (b2:Bd 70 d.2) (g1:0<d.1) (g2:0<d.2):Hd cs ds d 22 399:=bZ (D:=70) (by decide) p p2 b1 b2 g1 g2 (by decide) (by decide) (by decide)
abbrev o7 (d:Rat×Rat):PV:= .tup [fr d.1,fr d.2]
structure TQ (d:Rat×Rat):Prop where
 b1:Bd 70 d.1
 b2:Bd 70 d.2
 g1:0<d.1
 g2:0<d.2
theorem XC (ns:List Int) (hn:ns.length<=63):D7 [.scr ns] λx=>x= .bl true:=by
 apply RV
 repeat' array_get_dec
 refine LI (λi τ=>∃z1 z2 z3 z4 z5 z6 z7 z8,τ= [some (.val (.scr ns)),z1,z2,z3,z4,z5,z6,z7,z8]) ?_ ?_ ⟨_,_,_,_,_,_,_,_,rfl⟩
 ·rintro τ ⟨z1,z2,z3,z4,z5,z6,z7,z8,rfl⟩
  repeat' array_get_dec
 ·rintro i hi τ R hR ⟨z1,z2,z3,z4,z5,z6,z7,z8,rfl⟩
  have e0:(0:Int)+i=i:=by omega
  rw [e0]
  ac_rfl
  refine WS (by omega) λcs ds d p p2 b1 b2 g1 g2=> ?_
  have f1:TQ d:=⟨b1.mono (by decide),b2.mono (by decide),by grind,by grind⟩
  have hb:=fM
  have qp:=fN
  have k1:=b1.sub hb
  have k2:=b2.add hb
  have f3:TQ (d.1-ee,d.2+ee):=⟨k1.mono (by decide),k2.mono (by decide),by grind,by grind⟩
  ac_rfl
  rw [aT]
  ac_rfl
  rw [aT]
  ac_rfl
  refine N4 λd2 b3 b4 g3 g4=> ?_
  have f2:TQ d2:=⟨b3.mono (by decide),b4.mono (by decide),by grind,by grind⟩
  ac_rfl
  refine C9 (cs:= [d,d2,(d.1-ee,d.2+ee),d]) o7 (λus vs τ=>∃z3 z8,(∀x,us.getLast?=some x->∃t,Due cs ds x t/\z8=some (.val t))/\τ= [some (.val (.scr ns)),some (.val (.int i)),some (.val (.tup [fr (d.1-ee),fr (d.2+ee)])),z3,some (.val .tape),some (.val (Ao cs)),some (.val (Ao ds)),some (.val (.tup [fr d.1,fr d.2])),z8]) ?_ ?_ ?_
  ·rintro τ ⟨z3,z8,h,rfl⟩
   obtain ⟨t,ht,rfl⟩:=h d rfl
   have D:=Wa p p2 f1.b1 f1.b2 f1.g1 f1.g2
   have l1:=p.two
   have l2:=p2.two
   have l3:=p.few
   have l4:=p2.few
   ac_rfl
   refine KI (m:=9) (by intro z;subst z;simp at l1) (by omega) ?_
   ac_rfl
   refine KI (m:=9) (by intro z;subst z;simp at l2) (by omega) ?_
   ac_rfl
   refine Se (m:=10) ?_
   ac_rfl
   refine RG D (by decide) (.lists _) (.lists _) (.inr rfl) ht ?_
   ac_rfl
   refine MD ht ?_
   ac_rfl
   exact hR _ ⟨_,_,_,_,_,_,_,_,rfl⟩
  ·rintro us x vs e τ R2 iX ⟨z3,z8,_,rfl⟩
   have fx:TQ x:=by
    have m:x∈ [d,d2,(d.1-ee,d.2+ee),d] :=by rw [<-e];simp
    simp only [List.mem_cons,List.not_mem_nil,or_false] at m
    rcases m with rfl|rfl|rfl|rfl
    ·exact f1
    ·exact f2
    ·exact f3
    ·exact f1
   have D:=Wa p p2 fx.b1 fx.b2 fx.g1 fx.g2
   have D2:=Wa p2 p fx.b1 fx.b2 fx.g1 fx.g2
   ac_rfl
   refine ZN D (by decide) λt ht=> ?_
   ac_rfl
   refine RG D (by decide) (.self _) (.self _) (.inl rfl) ht ?_
   ac_rfl
   refine MD ht ?_
   ac_rfl
   refine VY D2 (by decide) (.self _) (.self _) (.inl rfl) ht ?_
   ac_rfl
   refine MD ht ?_
   ac_rfl
   exact iX _ ⟨_,_,λy hy=>by
    rw [List.getLast?_append] at hy
    simp at hy
    subst hy
    exact ⟨t,ht,rfl⟩,rfl⟩
  ·exact ⟨_,_,λx hx=>by simp at hx,rfl⟩
end PL.K21
end
section
namespace K21
open PySem L2 PL PL.K21 PyProof.Rows
def top (i:Nat):Stmt:=PySem.Challenge.pw_skylanes_k21_nearest.main.body.getD i (.Pass ⟨0,0,0,0⟩)
theorem Dp {N Q:List Str} {s:Scope} (a:s.kind= .function:=by rfl) (b:s.isCoroutine=false:=by rfl) (c:s.isGenerator=false:=by rfl) (d:N.Nodup:=by decide +kernel) (e:N.take Q.length=Q:=by rfl) (f:∀x∈Q,s.names.lookup x=some .local\/s.names.lookup x=some .cell:=by decide +kernel) (g:∀y∈s.names,y.2≠ .free:=by decide +kernel):AY N Q s:=⟨a,b,c,d,e,f,g⟩
abbrev EZ:Stmt:=top 31
abbrev D0:Stmt:=top 41
abbrev Ec:Stmt:=top 32
abbrev FQ:Stmt:=top 34
abbrev D1:Stmt:=top 43
abbrev FP:Stmt:=top 35
abbrev D3:Stmt:=top 38
abbrev Ee:Stmt:=top 39
abbrev Ed:Stmt:=top 40
abbrev DF:Stmt:=top 36
abbrev DV:Stmt:=top 44
abbrev Eg:Stmt:=top 30
abbrev EY:Stmt:=top 45
abbrev Cj:Stmt:=top 53
abbrev Ea:Stmt:=top 33
abbrev Cm:Stmt:=top 49
abbrev D4:Stmt:=top 37
abbrev Ef:Stmt:=top 42
abbrev Eb:Stmt:=top 48
abbrev DX:Stmt:=top 50
abbrev DW:Stmt:=top 46
abbrev D5:Stmt:=top 47
abbrev DE:Stmt:=top 51
abbrev Di:Stmt:=top 52
abbrev IZ:Stmt:=top 7
abbrev DG:Stmt:=top 26
abbrev CV:Stmt:=top 25
abbrev Ia:Stmt:=top 1
abbrev Ps:Stmt:=top 2
abbrev LP:Stmt:=top 4
abbrev Pt:Stmt:=top 3
abbrev LQ:Stmt:=top 5
abbrev Eh:Stmt:=top 24
abbrev FR:Stmt:=top 27
abbrev Cn:Stmt:=top 10
abbrev FS:Stmt:=top 22
abbrev Pr:Stmt:=top 6
abbrev Ga:Stmt:=top 20
abbrev DH:Stmt:=top 14
abbrev Gb:Stmt:=top 15
abbrev GZ:Stmt:=top 21
abbrev GX:Stmt:=top 9
abbrev Ib:Stmt:=top 8
abbrev FT:Stmt:=top 18
abbrev CD:Stmt:=top 16
abbrev DY:Stmt:=top 11
abbrev Ie:Stmt:=top 12
abbrev LR:Stmt:=top 19
abbrev Ic:Stmt:=top 23
abbrev GY:Stmt:=top 28
abbrev Mi:Stmt:=top 54
section
variable (P:Program) (w:World) (K:PySem.W.Frag) (mg:Str->Option Value) (base:Heap) (n:Nat)
abbrev Cz:=Has P w K mg base n "_law_draw" ["_law_tape_here","_law_many"] (BN K 2 BR)
abbrev IK:=Has P w K mg base n "_law_apart" ["_law_tape_here"] (BN K 1 CP)
abbrev C0:=Has P w K mg base n "_law_part" ["_law_top","_law_bottom"] (BN K 2 A1)
abbrev Ct:=Has P w K mg base n "_law_sum" ["_law_one","_law_other"] (BN K 2 BY)
abbrev O4:=Has P w K mg base n "_law_moved" ["_law_plan_here","_law_late","_law_by"] (BN K 3 BX)
abbrev Cs:=Has P w K mg base n "_law_off" ["_law_one","_law_other"] (BN K 2 A8)
abbrev IL:=Has P w K mg base n "_law_place" ["_law_tape_here"] (BN K 1 Aw)
abbrev KF:=Has P w K mg base n "_law_span" ["_law_tape_here"] (BN K 1 Bt)
abbrev KD:=Has P w K mg base n "_law_plan" ["_law_tape_here"] (BN K 1 Bn)
abbrev DA:=Has P w K mg base n "_law_product" ["_law_one","_law_other"] (BN K 2 BQ)
abbrev Na:=Has P w K mg base n "_law_beside" ["_law_tape_here","_law_plan_here","_law_apart_here"] (BN K 3 CZ)
abbrev Qz:=Has P w K mg base n "_law_tape" ["_law_script","_law_k"] (BN K 2 Lv)
abbrev Qw:=Has P w K mg base n "_law_case" ["_law_script","_law_k"] (BN K 2 Dc)
abbrev G0 (m:Nat):=Has P w K mg base n "_law_listed" ["_law_thing"] (BN K 1 (Ag m))
abbrev Dg:=Has P w K mg base n "_law_less" ["_law_one","_law_other"] (BN K 2 Ah)
abbrev K0:=Has P w K mg base n "_law_line_gap" ["_law_lows","_law_highs","_law_share"] (BN K 3 B2)
abbrev FI:=Has P w K mg base n "_law_ratio" ["_law_one","_law_other"] (BN K 2 Bw)
abbrev Qy:=Has P w K mg base n "_law_spot" ["_law_plan_here","_law_m"] (BN K 2 Dd)
abbrev Qx:=Has P w K mg base n "_law_offs" ["_law_one","_law_other","_law_apart_here","_law_m"] (BN K 4 Cy)
abbrev Nc:=Has P w K mg base n "_law_shares" ["_law_lows","_law_highs"] (BN K 2 Cc)
abbrev Nb:=Has P w K mg base n "_law_rising" ["_law_moments"] (BN K 1 Ca)
abbrev O5:=Has P w K mg base n "_law_turns" ["_law_one","_law_other"] (BN K 2 C7)
abbrev MH:=Has P w K mg base n "_law_nearest" ["_law_one","_law_other","_law_apart_here"] (BN K 3 Bl)
abbrev KE (m:Nat):=Has P w K mg base n "_law_same" ["_law_found","_law_due"] (BN K 2 (An m))
abbrev Dh:=Has P w K mg base n "before" ["one","other"] (BN K 2 Ah)
abbrev MI:=Has P w K mg base n "gap_by_share" ["bottom","lines","share"] (BN K 3 Bo)
abbrev Jg:=Has P w K mg base n "meeting_shares" ["lines"] (BN K 1 Bp)
abbrev Q0:=Has P w K mg base n "common" ["one","other"] (BN K 2 F4)
abbrev Jh:=Has P w K mg base n "part" ["top","bottom"] (BN K 2 FB)
abbrev O6:=Has P w K mg base n "minus" ["one","other"] (BN K 2 DU)
abbrev Wv:=Has P w K mg base n "plus" ["one","other"] (BN K 2 HD)
abbrev Tp:=Has P w K mg base n "times" ["one","other"] (BN K 2 FC)
abbrev Q1:=Has P w K mg base n "moment_at" ["begin","end","share"] (BN K 3 Df)
abbrev SQ:=Has P w K mg base n "least_in" ["piece"] (BN K 1 DN)
abbrev K1:=Has P w K mg base n "shared_bottom" ["numbers"] (BN K 1 B3)
abbrev SU:=Has P w K mg base n "lines_of" ["first","last"] (BN K 2 EE)
abbrev Wt:=Has P w K mg base n "over" ["one","other"] (BN K 2 Ja)
abbrev VJ:=Has P w K mg base n "size_of" ["apart","side"] (BN K 2 D9)
abbrev MJ:=Has P w K mg base n "spot_between" ["former","latter","m"] (BN K 3 C8)
abbrev VL:=Has P w K mg base n "spot_at" ["plan","m"] (BN K 2 Ey)
abbrev VI:=Has P w K mg base n "offs_at" ["one","other","apart","m"] (BN K 4 Ex)
abbrev VG:=Has P w K mg base n "greater" ["one","other"] (BN K 2 CI)
abbrev Ws:=Has P w K mg base n "lesser" ["one","other"] (BN K 2 F5)
abbrev SV:=Has P w K mg base n "together" ["one","other"] (BN K 2 DP)
abbrev IM:=Has P w K mg base n "corners_between" ["plan","begin","end"] (BN K 3 Be)
abbrev Nd:=Has P w K mg base n "count_below" ["numbers","number"] (BN K 2 Ce)
abbrev Ww:=Has P w K mg base n "rising" ["numbers"] (BN K 1 F7)
abbrev ZF:=Has P w K mg base n "turns" ["one","other","begin","end"] (BN K 4 Hy)
abbrev Wu:=Has P w K mg base n "pieces" ["one","other","apart"] (BN K 3 F6)
abbrev VH:=Has P w K mg base n "nearest" ["one","other","apart"] (BN K 3 CQ)
end
section
variable {P:Program} {w:World} {K:PySem.W.Frag} {mg:Str->Option Value} {base:Heap} {n m:Nat} {f:Addr} {fd:FuncData}
theorem Ih:AY ["_law_tape_here","_law_many","_law_once","_law_found"] ["_law_tape_here","_law_many"] (AU EZ):=Dp
theorem PK (F:Cr K "_law_draw" "_law_draw" EZ f fd):
 A2 P w K mg base Ck (n+1) f fd ["_law_tape_here","_law_many"] (BN K 2 BR):=by
 have nd:=Ih.nd
 refine F.ok Ih (λvs H Q E h=> ?_) (λcdv A outer s H vs Q E hr h=> ?_)
 ·obtain ⟨T,M,xs,AQ,_,_,r,hl,_⟩:=h
  rw [r.length,hl] <;> rfl
 obtain ⟨T,M,xs,AQ,va,_,r,hl,hF,hQ⟩:=h
 unfold BR at hF
 split at hF <;> first | exact hF.elim|skip
 rename_i m
 obtain ⟨⟨m0,m1⟩,hF⟩:=hF
 cases r with
 | cons r rr=>
 cases rr with
 | cons r2 rr=>
 cases rr
 cases r2
 cases r with
 | tape tp=>
 rename_i p
 obtain ⟨d,x,hp,d0,x0,x1⟩:=va.tp p tp
 refine ⟨_,(DD (Xh (Pk am (KL EW (pv 0) BM (λ_ _=>rfl)) BM (Dq _)) (DD (HW (i:=3) nd rfl (Or.inl rfl) (CO FN (KL EW (pv 0) BM (λ_ _=>rfl)) (pv 1)))
  (DD (Ph (CO XX (KL EW (pv 0) BM (λ_ _=>rfl)) (pv 1)) (S1 (pv 0) BM Mq))
  (IS (Pi (pv 3))))) Pj)
  (DD (Ph (CO FN (CO Js (CO GW (KL EW (pv 0) BM (λ_ _=>rfl)) BM) BM) BM) (S1 (pv 0) BM Mq))
  (DD (HW (i:=2) nd rfl (Or.inl rfl) (CO FN (CO GW (KL EW (pv 0) BM (λ_ _=>rfl)) (CO Js (CO FN (KL EW (pv 0) BM (λ_ _=>rfl)) BM) BM)) BM))
  (IS (Pi (CO FN (CO FN (CO GW (pv 2) (CO Js (CO FN (pv 2) BM) BM)) BM) (pv 1))))))), ?_⟩
 have fin:∀(r d' x':Int),0<=r->r<m->0<=d'->0<=x'->x'<2147483647->Q (.int r) (upd H p (.lst [.int d', .int x'])):=λr d' x' r0 r1 a b c=>
  hQ _ (.int r) T _ (YI va.tp tp a b c) (.int r) (hF r r0 r1)
 refine ⟨_,rfl,p,_,_,_,rfl,rfl,Ff.of hp,rfl,_,_,rfl,rfl,_,rfl, ?_⟩
 refine fz (λc=> ?_) (λc=> ?_)
 ·refine ⟨_,rfl,p,_,_,_,rfl,rfl,Ff.of hp,rfl,_,rfl,_,_,rfl,rfl,m0, ?_⟩
  refine ⟨_,rfl,p,_,_,_,rfl,rfl,Ff.of hp,rfl,_,rfl,_,_,rfl,rfl,⟨m0,by omega⟩, ?_⟩
  refine ⟨_,rfl,p,_,_,_,rfl,rfl,hp,rfl, ?_⟩
  exact ⟨_,rfl,fin _ _ _ (Int.emod_nonneg _ (by omega)) (Int.emod_lt_of_pos _ m0) (Int.ediv_nonneg d0 (by omega)) x0 x1⟩
 ·refine ⟨_,rfl,p,_,_,_,rfl,rfl,Ff.of hp,rfl,_,_,rfl,rfl, .inl (.inr ⟨by decide,by decide⟩),_,_,rfl,rfl,_,_,rfl,rfl,(show (0:Int)<2147483647 by decide), ?_⟩
  refine ⟨_,rfl,p,_,_,_,rfl,rfl,hp,rfl, ?_⟩
  have y0:0<=(x*48271+12345) % 2147483647:=Int.emod_nonneg _ (by decide)
  have y1:(x*48271+12345) % 2147483647<2147483647:=Int.emod_lt_of_pos _ (by decide)
  have mI:upd H p (.lst ([V.int d,V.int x].set (Int.toNat 1) (V.int ((x*48271+12345) % 2147483647)))) p=some (.lst [.int d, .int ((x*48271+12345) % 2147483647)]):=A6
  have z0:0<=(x*48271+12345) % 2147483647*((x*48271+12345) % 2147483647 % 1009+3) % 2147483629:=Int.emod_nonneg _ (by decide)
  have z1:(x*48271+12345) % 2147483647*((x*48271+12345) % 2147483647 % 1009+3) % 2147483629<2147483629:=Int.emod_lt_of_pos _ (by decide)
  refine ⟨_,rfl,p,_,_,_,rfl,rfl,Ff.of mI,rfl,_,rfl,p,_,_,_,rfl,rfl,Ff.of mI,rfl,_,_,rfl,rfl,(show (0:Int)<1009 by decide),_,_,rfl,rfl,_,_,rfl,rfl, .inl (.inl (Mx y0 y1)),_,_,rfl,rfl,(show (0:Int)<2147483629 by decide), ?_⟩
  refine ⟨_,rfl,_,rfl,_,_,rfl,rfl,(show (0:Int)<997 by decide),_,_,rfl,rfl,_,_,rfl,rfl, .inl (.inl (Mx z0 (Int.lt_trans z1 (by decide)))),_,_,rfl,rfl,(show (0:Int)<998244353 by decide),_,rfl,_,_,rfl,rfl,m0, ?_⟩
  exact fin _ _ _ (Int.emod_nonneg _ (by omega)) (Int.emod_lt_of_pos _ m0) d0 y0 y1
theorem G2:AY ["_law_tape_here","_law_some"] ["_law_tape_here"] (AU D0):=Dp
theorem Ni (F:Cr K "_law_apart" "_law_apart" D0 f fd) (Ae:Cz P w K mg base n):
 A2 P w K mg base Ck (n+1) f fd ["_law_tape_here"] (BN K 1 CP):=by
 have nd:=G2.nd
 exact Ab F G2 rfl λ_ _ _ _ _ _ hr=>(AM (C5 1 nd (Dj (Bi (B0 (Af (Am AJ AJ)) (B0 (Af (Am AJ AJ)) (Gc (Af (Am AJ AJ)) (Af (Am AJ AJ)) (Af (Am AJ AJ)))))))) (AR (AZ (Af (Am (AW (AH 1) (AK Ae hr rfl (Am (AH 0) AJ))) (AW (AH 1) (AK Ae hr rfl (Am (AH 0) AJ))))))))
theorem Ik:AY ["_law_top","_law_bottom","_law_sign","_law_one","_law_other"] ["_law_top","_law_bottom"] (AU Ec):=Dp
theorem PP (F:Cr K "_law_part" "_law_part" Ec f fd) (Fm:mg "abs" =none) (CG:mg "int" =none):
 A2 P w K mg base Ck (n+1) f fd ["_law_top","_law_bottom"] (BN K 2 A1):=by
 have nd:=Ik.nd
 exact Ab F Ik rfl λ_ _ _ _ _ _ hr=>(AM (M4 (i:=3) (j:=4) rfl nd rfl rfl (by decide) rfl rfl (Am (Ar Pu rfl Fm boot_abs (B5 (AH 0))) (Ar Pu rfl Fm boot_abs (B5 (AH 1)))) rfl) (AM (Iw PassesOwn.never (Gq X8 (AH 4) AJ) (AR (M4 (i:=3) (j:=4) rfl nd rfl rfl (by decide) rfl rfl (Am (AH 4) (Aa X9 (AH 3) (AH 4))) rfl))) (AM (C5 2 nd (Aa Cv AJ (Aa BB AJ (B7 S7 rfl CG boot_int (B5 (GN E6 (AH 1) AJ (Dq _))))))) (AR (AZ (Af (Am (Aa Ek (Aa BB (AH 2) (AH 0)) (AH 3)) (Aa Ek (Aa BB (AH 2) (AH 1)) (AH 3)))))))))
theorem KP:AY ["_law_one","_law_other"] ["_law_one","_law_other"] (AU FQ):=Dp
theorem RJ (F:Cr K "_law_sum" "_law_sum" FQ f fd) (BW:C0 P w K mg base n):
 A2 P w K mg base Ck (n+1) f fd ["_law_one","_law_other"] (BN K 2 BY):=by
 have nd:=KP.nd
 exact Ab F KP rfl λ_ _ _ _ _ _ hr=>(AR (AZ (AK BW hr rfl (Am (Aa Az (Aa BB (AW (AH 0) AJ) (AW (AH 1) AJ)) (Aa BB (AW (AH 1) AJ) (AW (AH 0) AJ))) (Aa BB (AW (AH 0) AJ) (AW (AH 1) AJ))))))
theorem G3:AY ["_law_plan_here","_law_late","_law_by"] ["_law_plan_here","_law_late","_law_by"] (AU D1):=Dp
theorem Nj (F:Cr K "_law_moved" "_law_moved" D1 f fd) (BU:Ct P w K mg base n) (BC:mg "range" =none) (A9:mg "tuple" =none):
 A2 P w K mg base Ck (n+1) f fd ["_law_plan_here","_law_late","_law_by"] (BN K 3 BX):=by
 have nd:=G3.nd
 have nd0:(["_law_one","_law_late","_law_by"] :List Str).Nodup:=by decide +kernel
 have nd1:(["_law_k","_law_one","_law_by"] :List Str).Nodup:=by decide +kernel
 exact Ab F G3 rfl λ_ _ _ _ _ _ hr=>(AR (AZ (B7 EI rfl A9 boot_tuple (B5 (Dj (Xw rfl (FV (AH 0)) (Y3 (own:=1) (ix:= [1,2]) (N:= ["_law_one","_law_late" ,"_law_by" ]) "_law_one" rfl rfl (λ_ _=>rfl) (λ_=>rfl) rfl rfl rfl rfl rfl (λ_ _ _ _ _ _=>(UZ (i:=0) nd0 rfl (Or.inr rfl) (by decide))) (λ_ _ _ _ _ _=>CF) (λ_ _ _ _ _ _=>(Aa Az (Af (B5 (AK BU hr rfl (Am (AW (AH 0) AJ) (AH 1))))) (B7 EI rfl A9 boot_tuple (B5 (Dj (Co rfl (Mr rfl BC (B5 AJ)) (CW (own:=1) (ix:= [0,2]) (N:= ["_law_k","_law_one" ,"_law_by" ]) rfl rfl rfl rfl rfl rfl (λ_ _ _ _ _ _=>(OU 0 nd1)) (λ_ _ _ _ _ _=>CF) (λ_ _ _ _ _ _=>(AK BU hr rfl (Am (AW (AH 1) (Aa Az (AH 0) AJ)) (AW (AH 2) (AH 0)))))))))))))))))))
theorem KO:AY ["_law_one","_law_other"] ["_law_one","_law_other"] (AU FP):=Dp
theorem RI (F:Cr K "_law_off" "_law_off" FP f fd) (BW:C0 P w K mg base n):
 A2 P w K mg base Ck (n+1) f fd ["_law_one","_law_other"] (BN K 2 A8):=by
 have nd:=KO.nd
 exact Ab F KO rfl λ_ _ _ _ _ _ hr=>(AR (AZ (AK BW hr rfl (Am (Aa Cv (Aa BB (AW (AH 0) AJ) (AW (AH 1) AJ)) (Aa BB (AW (AH 1) AJ) (AW (AH 0) AJ))) (Aa BB (AW (AH 0) AJ) (AW (AH 1) AJ))))))
theorem G4:AY ["_law_tape_here","_law_kind"] ["_law_tape_here"] (AU D3):=Dp
theorem Nk (F:Cr K "_law_place" "_law_place" D3 f fd) (Ae:Cz P w K mg base n) (BW:C0 P w K mg base n):
 A2 P w K mg base Ck (n+1) f fd ["_law_tape_here"] (BN K 1 Aw):=by
 have nd:=G4.nd
 exact Ab F G4 rfl λ_ _ _ _ _ _ hr=>(AM (C5 1 nd (AK Ae hr rfl (Am (AH 0) AJ))) (AM (BL (Gq E6 (AH 1) AJ) (AR (AZ (Af (Am (Aa Cv (AK Ae hr rfl (Am (AH 0) AJ)) AJ) AJ)))) A4) (AM (BL (Gq (DM hr) (AH 1) AJ) (AR (AZ (AK BW hr rfl (Am (Aa Cv (AK Ae hr rfl (Am (AH 0) AJ)) AJ) AJ)))) A4) (AR (AZ (AK BW hr rfl (Am (Aa Cv (AK Ae hr rfl (Am (AH 0) AJ)) AJ) AJ)))))))
theorem Io:AY ["_law_tape_here","_law_way"] ["_law_tape_here"] (AU Ee):=Dp
theorem PU (F:Cr K "_law_span" "_law_span" Ee f fd) (Ae:Cz P w K mg base n) (BW:C0 P w K mg base n):
 A2 P w K mg base Ck (n+1) f fd ["_law_tape_here"] (BN K 1 Bt):=by
 have nd:=Io.nd
 exact Ab F Io rfl λ_ _ _ _ _ _ hr=>(AM (C5 1 nd (AK Ae hr rfl (Am (AH 0) AJ))) (AM (BL (Gq E6 (AH 1) AJ) (AR (AZ (Af (Am (Aa Az AJ (AK Ae hr rfl (Am (AH 0) AJ))) AJ)))) A4) (AR (AZ (AK BW hr rfl (Am (Aa Az AJ (AK Ae hr rfl (Am (AH 0) AJ))) (Aa Cv (AH 1) AJ)))))))
theorem Il:AY ["_law_tape_here","_law_many","_law_m","_law_spot_here","_law_corners","_law_way"] ["_law_tape_here"] (AU Ed):=Dp
theorem PQ (F:Cr K "_law_plan" "_law_plan" Ed f fd) (Ae:Cz P w K mg base n) (BP:IL P w K mg base n) (FA:KF P w K mg base n) (BU:Ct P w K mg base n) (BO:mg "len" =none) (A9:mg "tuple" =none):
 A2 P w K mg base Ck (n+1) f fd ["_law_tape_here"] (BN K 1 Bn):=by
 have nd:=Il.nd
 exact Ab F Il rfl λ_ _ _ _ _ _ hr=>(AM (C5 1 nd (Aa Az AJ (AK Ae hr rfl (Am (AH 0) AJ)))) (AM (BL (Gq (DM hr) (AK Ae hr rfl (Am (AH 0) AJ)) AJ) (AR (C5 1 nd (AW (Dj (Bi (B0 AJ (Gc AJ AJ AJ)))) (AK Ae hr rfl (Am (AH 0) AJ))))) A4) (AM (C5 2 nd (Af (Am (AK Ae hr rfl (Am (AH 0) AJ)) AJ))) (AM (C5 3 nd (Dj (Bi (Gc (AK BP hr rfl (B5 (AH 0))) (AK BP hr rfl (B5 (AH 0))) (AK BP hr rfl (B5 (AH 0))))))) (AM (GQ (i:=4) nd rfl (Or.inl rfl) (Bi (B5 (Af (B0 (AH 2) (Gc (AW (AH 3) AJ) (AW (AH 3) AJ) (AW (AH 3) AJ))))))) (AM (Iw PassesOwn.never (Gq E6 (Ar Ds rfl BO PySem.boot_len (B5 (AH 4))) (AH 1)) (AM (C5 2 nd (AK BU hr rfl (Am (AH 2) (AK FA hr rfl (B5 (AH 0)))))) (AM (C5 5 nd (AK Ae hr rfl (Am (AH 0) AJ))) (AM (BL (Gq X8 (AH 5) AJ) (AR (C5 3 nd (Dj (Bi (Gc (AK BP hr rfl (B5 (AH 0))) (AK BP hr rfl (B5 (AH 0))) (AK BP hr rfl (B5 (AH 0)))))))) (AR (BL (Gq X8 (AH 5) AJ) (AR (C5 3 nd (Aa Az (Aa Az (GO (AH 3) X6 (X7 (Aa Cv (AH 5) AJ))) (Dj (Bi (B5 (AK BP hr rfl (B5 (AH 0))))))) (GO (AH 3) (X7 (AH 5)) X6)))) A4))) (AR (El (i:=4) PySem.F.slot_list_append PySem.F.type_list_append EC (B5 (Af (B0 (AH 2) (Gc (AW (AH 3) AJ) (AW (AH 3) AJ) (AW (AH 3) AJ))))))))))) (AR (AZ (B7 EI rfl A9 boot_tuple (B5 (AH 4)))))))))))
theorem Fj:AY ["_law_one","_law_other"] ["_law_one","_law_other"] (AU DF):=Dp
theorem K4 (F:Cr K "_law_product" "_law_product" DF f fd) (BW:C0 P w K mg base n):
 A2 P w K mg base Ck (n+1) f fd ["_law_one","_law_other"] (BN K 2 BQ):=by
 have nd:=Fj.nd
 exact Ab F Fj rfl λ_ _ _ _ _ _ hr=>(AR (AZ (AK BW hr rfl (Am (Aa BB (AW (AH 0) AJ) (AW (AH 1) AJ)) (Aa BB (AW (AH 0) AJ) (AW (AH 1) AJ))))))
theorem GI:AY ["_law_tape_here","_law_plan_here","_law_apart_here","_law_way","_law_by","_law_side","_law_other","_law_k","_law_spot_here"] ["_law_tape_here","_law_plan_here","_law_apart_here"] (AU DV):=Dp
theorem MV (F:Cr K "_law_beside" "_law_beside" DV f fd) (Ae:Cz P w K mg base n) (F1:O4 P w K mg base n) (BA:Cs P w K mg base n) (BP:IL P w K mg base n) (E9:KD P w K mg base n) (Bh:DA P w K mg base n) (FA:KF P w K mg base n) (BU:Ct P w K mg base n) (CG:mg "int" =none) (BO:mg "len" =none) (Hc:mg "reversed" =none) (A9:mg "tuple" =none) (CH:mg "zip" =none):
 A2 P w K mg base Ck (n+1) f fd ["_law_tape_here","_law_plan_here","_law_apart_here"] (BN K 3 CZ):=by
 have nd:=GI.nd
 have nd0:(["_law_one","_law_other"] :List Str).Nodup:=by decide +kernel
 exact Ab F GI rfl λ_ _ _ _ _ _ hr=>(AM (C5 3 nd (AK Ae hr rfl (Am (AH 0) AJ))) (AM (GQ (i:=4) nd rfl (Or.inl rfl) (Bi (Gc (Af (Am AJ AJ)) (Af (Am AJ AJ)) (Af (Am AJ AJ))))) (AM (C5 5 nd (AK Ae hr rfl (Am (AH 0) AJ))) (AM (YB (i:=4) (AH 5) (AW (AH 2) (B7 S7 rfl CG boot_int (B5 (GN (DM hr) (AH 5) AJ (Dq _)))))) (AM (BL (Gq (DM hr) (AH 3) AJ) (AR (YB (i:=4) (AH 5) (S9 (AK Bh hr rfl (Am (AW (AH 4) (AH 5)) (AW (Dj (Bi (Gc (Af (Am AJ AJ)) (Af (Am (Cu AJ) AJ)) (Af (Am (Cu AJ) AJ))))) (AK Ae hr rfl (Am (AH 0) AJ)))))))) A4) (AM (BL (Gq E6 (AH 3) AJ) (AR (AZ (AK F1 hr rfl (Gc (AH 1) (Af (Am AJ AJ)) (AH 4))))) A4) (AM (BL (Gq (DM hr) (AH 3) AJ) (AR (AZ (AK F1 hr rfl (Gc (AH 1) (AW (Dj (Bi (Am (AK FA hr rfl (B5 (AH 0))) (Af (Am AJ AJ))))) (AK Ae hr rfl (Am (AH 0) AJ))) (AH 4))))) A4) (AM (BL (Gq (DM hr) (AH 3) AJ) (AR (AZ (B7 EI rfl A9 boot_tuple (B5 (Dj (Co rfl (g9 rfl CH rfl Hc (AH 1) (AH 1)) (CW (own:=2) (ix:= []) (N:= ["_law_one","_law_other" ]) rfl rfl rfl rfl rfl rfl (λ_ _ _ _ _ _=>(P8 (n:=2) rfl (Dk (OU 0 nd0) (Dk (OU 1 nd0) LU)))) (λ_ _ _ _ _ _=>CF) (λ_ _ _ _ _ _=>(Aa Az (Af (B5 (AW (AH 0) AJ))) (GO (AH 1) (X7 AJ) X6)))))))))) A4) (AM (BL (Gq (DM hr) (AH 3) AJ) (AM (C5 6 nd (AK E9 hr rfl (B5 (AH 0)))) (AR (AZ (AK F1 hr rfl (Gc (AH 6) (AK BA hr rfl (Am (AW (AW (AH 1) (Cu AJ)) AJ) (AW (AW (AH 6) AJ) AJ))) (Dj (Bi (Gc (Af (Am AJ AJ)) (Af (Am AJ AJ)) (Af (Am AJ AJ)))))))))) A4) (AM (BL (Gq (DM hr) (AH 3) AJ) (AM (C5 7 nd (AK Ae hr rfl (Am (AH 0) (Ar Ds rfl BO PySem.boot_len (B5 (AH 1)))))) (AM (C5 8 nd (Af (Gc (AK BP hr rfl (B5 (AH 0))) (AK BP hr rfl (B5 (AH 0))) (AK BP hr rfl (B5 (AH 0)))))) (AR (AZ (Aa Az (Aa Az (GO (AH 1) X6 (X7 (AH 7))) (Af (B5 (Aa Az (GO (AW (AH 1) (AH 7)) X6 (X7 AJ)) (AH 8))))) (GO (AH 1) (X7 (Aa Az (AH 7) AJ)) X6)))))) A4) (AM (BL (Gq (DM hr) (AH 3) AJ) (AM (C5 8 nd (GO (AW (AH 1) (AK Ae hr rfl (Am (AH 0) (Ar Ds rfl BO PySem.boot_len (B5 (AH 1)))))) (X7 AJ) X6)) (AR (AZ (Af (Am (Aa Az (Af (B5 (AW (AW (AH 1) AJ) AJ))) (AH 8)) (Aa Az (Af (B5 (AK BU hr rfl (Am (AW (AW (AH 1) (Cu AJ)) AJ) (AK FA hr rfl (B5 (AH 0))))))) (AH 8))))))) A4) (AR (AZ (AK E9 hr rfl (B5 (AH 0))))))))))))))))
theorem Iq:AY ["_law_script","_law_k","_law_cell","_law_digits"] ["_law_script","_law_k"] (AU Eg):=Dp
theorem PY (F:Cr K "_law_tape" "_law_tape" Eg f fd) (Fm:mg "abs" =none) (CG:mg "int" =none) (BO:mg "len" =none):
 A2 P w K mg base Ck (n+1) f fd ["_law_script","_law_k"] (BN K 2 Lv):=by
 have nd:=Iq.nd
 refine F.ok Iq (λvs H Q E h=> ?_) (λcdv A outer s H vs Q E hr h=> ?_)
 ·obtain ⟨T,M,xs,AQ,_,_,r,hl,_⟩:=h
  rw [r.length,hl] <;> rfl
 obtain ⟨T,M,xs,AQ,va,_,r,hl,hF,hQ⟩:=h
 unfold Lv at hF
 split at hF <;> first | exact hF.elim|skip
 rename_i ns k
 obtain ⟨⟨k0,k1⟩,hF⟩:=hF
 cases r with
 | cons r rr=>
 cases rr with
 | cons r2 rr=>
 cases rr
 cases r2
 obtain ⟨a,rfl,hS⟩:=Xu r
 refine ⟨_,(DD (HW (i:=2) nd rfl (Or.inl rfl) BM)
  (DD (Xh (Pk ao (pv 1) (IR IB rfl BO PySem.boot_len (FO (pv 0) Jt)) (Dq _)) (IS (HW (i:=2) nd rfl (Or.inl rfl) (KL EW (pv 0) (pv 1) (λ_ _=>rfl)))) Pj)
  (DD (HW (i:=3) nd rfl (Or.inl rfl) (CO GW (IR MB rfl Fm boot_abs (FO (pv 2) Jt)) (OL OB rfl CG PyProof.Rows.boot_int (FO (UG gQ (IR MB rfl Fm boot_abs (FO (pv 2) Jt)) (CO XZ BM BM) (Dq _)) Jt))))
  (IS (Pi (Xd (FO (pv 3) (FO (CO FN (CO GW (CO FN (CO Js (CO Js (pv 2) (CO GW BM (pv 1))) BM) BM) BM) BM) Jt)))))))), ?_⟩
 have hl:(ns.map V.int).length=ns.length:=List.length_map _
 have fin:∀(c:Int) (p:Addr),H p=none->Q (.ref p) (upd H p (.lst [.int ((if c<0 then -c else c)*(if decide ((10:Int)^18<=(if c<0 then -c else c)) then 1 else 0)), .int ((c+7919*k+1) % 2147483647*48271 % 2147483647)])):=λc p hp=>
  hQ _ .tape (λb=>T b\/b=p) _ (YH va.tp hp (Int.mul_nonneg (by split <;> omega) (o8 _)) (Int.emod_nonneg _ (by decide)) (Int.emod_lt_of_pos _ (by decide))) (.tape (.inr rfl)) hF
 refine ⟨_,rfl,_,rfl,a,_,rfl, .inl hS,_,_,rfl,rfl,_,rfl, ?_⟩
 refine fz (λc=> ?_) (λc=> ?_)
 ·have c':k<(((ns.map V.int).length:Nat):Int):=of_decide_eq_true c
  rw [hl] at c'
  have hk:k.toNat<ns.length:=by omega
  have hv:HI (ns.map V.int) k=some (.int ns[k.toNat]):=by
   have q:HI (ns.map V.int) ((k.toNat:Nat):Int)=some (.int ns[k.toNat]):=CC (by rw [List.getElem?_map,List.getElem?_eq_getElem hk] <;> rfl)
   rwa [show ((k.toNat:Nat):Int)=k by omega] at q
  refine ⟨_,rfl,_,rfl,a,_,_,_,rfl,rfl,hS,hv, ?_⟩
  refine ⟨_,rfl,_,rfl,_,rfl,_,rfl,_,_,rfl,rfl,⟨by decide,by decide,by decide⟩,_,_,rfl,rfl, .inr ⟨_,rfl,_,_,rfl,rfl, .inl (.inr (ly _)), ?_⟩⟩
  exact ⟨_,rfl,_,rfl,_,rfl,_,_,rfl,rfl, .inl (.inl ⟨by decide,by decide⟩),_,_,rfl,rfl,_,_,rfl,rfl,_,_,rfl,rfl,(show (0:Int)<2147483647 by decide),_,_,rfl,rfl, .inl (.inr ⟨by decide,by decide⟩),_,_,rfl,rfl,(show (0:Int)<2147483647 by decide),(show 2<=sizeLine by decide),λp hp=>fin _ p hp⟩
 ·refine ⟨_,rfl,_,rfl,_,rfl,_,rfl,_,_,rfl,rfl,⟨by decide,by decide,by decide⟩,_,_,rfl,rfl, .inr ⟨_,rfl,_,_,rfl,rfl, .inl (.inr (ly _)), ?_⟩⟩
  exact ⟨_,rfl,_,rfl,_,rfl,_,_,rfl,rfl, .inl (.inl ⟨by decide,by decide⟩),_,_,rfl,rfl,_,_,rfl,rfl,_,_,rfl,rfl,(show (0:Int)<2147483647 by decide),_,_,rfl,rfl, .inl (.inr ⟨by decide,by decide⟩),_,_,rfl,rfl,(show (0:Int)<2147483647 by decide),(show 2<=sizeLine by decide),λp hp=>fin 0 p hp⟩
theorem Ig:AY ["_law_script","_law_k","_law_tape_here","_law_apart_here","_law_one","_law_other"] ["_law_script","_law_k"] (AU EY):=Dp
theorem PJ (F:Cr K "_law_case" "_law_case" EY f fd) (F0:IK P w K mg base n) (Om:Na P w K mg base n) (Ae:Cz P w K mg base n) (E9:KD P w K mg base n) (Ru:Qz P w K mg base n):
 A2 P w K mg base Ck (n+1) f fd ["_law_script","_law_k"] (BN K 2 Dc):=by
 have nd:=Ig.nd
 exact Ab F Ig rfl λ_ _ _ _ _ _ hr=>(AM (C5 2 nd (AK Ru hr rfl (Am (AH 0) (AH 1)))) (AM (C5 3 nd (AK F0 hr rfl (B5 (AH 2)))) (AM (C5 4 nd (AK E9 hr rfl (B5 (AH 2)))) (AM (C5 5 nd (AK Om hr rfl (Gc (AH 2) (AH 4) (AH 3)))) (AM (BL (Gq (DM hr) (AK Ae hr rfl (Am (AH 2) AJ)) AJ) (AR (M4 (i:=4) (j:=5) rfl nd rfl rfl (by decide) rfl rfl (Am (AH 5) (AH 4)) rfl)) A4) (AR (AZ (Af (B0 (AH 2) (Gc (AH 4) (AH 5) (AH 3)))))))))))
theorem GJ:AY ["_law_thing"] ["_law_thing"] (AU Cj):=Dp
theorem MW (F:Cr K "_law_listed" "_law_listed" Cj f fd) (C6:G0 P w K mg base n m) (CG:mg "int" =none) (Al:mg "isinstance" =none):
 A2 P w K mg base Ck (n+1) f fd ["_law_thing"] (BN K 1 (Ag (m+1))):=by
 have nd:=GJ.nd
 have nd0:(["_law_piece"] :List Str).Nodup:=by decide +kernel
 exact Ab F GJ rfl λ_ _ _ _ _ _ hr=>(AM (BL (BF (Ar Mj rfl Al boot_isinstance (Am (AW (AH 0) AJ) (KW (n:="int") rfl CG boot_int rfl)))) (AR (AZ (AH 0))) A4) (AR (AZ (Dj (Co rfl (FV (AH 0)) (CW (own:=1) (ix:= []) (N:= ["_law_piece"]) rfl rfl rfl rfl rfl rfl (λ_ _ _ _ _ _=>(OU 0 nd0)) (λ_ _ _ _ _ _=>CF) (λ_ _ _ _ _ _=>(AK C6 hr rfl (B5 (AH 0))))))))))
theorem Ii:AY ["_law_one","_law_other"] ["_law_one","_law_other"] (AU Ea):=Dp
theorem PM (F:Cr K "_law_less" "_law_less" Ea f fd):
 A2 P w K mg base Ck (n+1) f fd ["_law_one","_law_other"] (BN K 2 Ah):=by
 have nd:=Ii.nd
 exact Ab F Ii rfl λ_ _ _ _ _ _ hr=>(AR (AZ (GN E6 (Aa BB (AW (AH 0) AJ) (AW (AH 1) AJ)) (Aa BB (AW (AH 1) AJ) (AW (AH 0) AJ)) (Dq _))))
theorem E4:AY ["_law_lows","_law_highs","_law_share","_law_found","_law_low","_law_high","_law_here"] ["_law_lows","_law_highs","_law_share"] (AU Cm):=Dp
theorem Jq (F:Cr K "_law_line_gap" "_law_line_gap" Cm f fd) (A7:Dg P w K mg base n) (BA:Cs P w K mg base n) (Bh:DA P w K mg base n) (BU:Ct P w K mg base n) (CH:mg "zip" =none):
 A2 P w K mg base Ck (n+1) f fd ["_law_lows","_law_highs","_law_share"] (BN K 3 B2):=by
 have nd:=E4.nd
 exact Ab F E4 rfl λ_ _ _ _ _ _ hr=>(AM (C5 3 nd (Af (Am AJ AJ))) (AM (CA PassesOwn.never rfl (Vq rfl CH (Am (AH 0) (AH 1))) (Dt (n:=2) rfl (Ap (G7 4 nd) (Ap (G7 5 nd) Cp))) (AM (C5 6 nd (AK BU hr rfl (Am (AH 4) (AK Bh hr rfl (Am (AH 2) (AK BA hr rfl (Am (AH 5) (AH 4)))))))) (AR (BL (BF (AK A7 hr rfl (Am (AH 3) (AH 6)))) (AR (C5 3 nd (AH 6))) A4)))) (AR (AZ (AH 3)))))
theorem G5:AY ["_law_one","_law_other"] ["_law_one","_law_other"] (AU D4):=Dp
theorem Nm (F:Cr K "_law_ratio" "_law_ratio" D4 f fd) (BW:C0 P w K mg base n):
 A2 P w K mg base Ck (n+1) f fd ["_law_one","_law_other"] (BN K 2 Bw):=by
 have nd:=G5.nd
 exact Ab F G5 rfl λ_ _ _ _ _ _ hr=>(AR (AZ (AK BW hr rfl (Am (Aa BB (AW (AH 0) AJ) (AW (AH 1) AJ)) (Aa BB (AW (AH 0) AJ) (AW (AH 1) AJ))))))
theorem Ip:AY ["_law_plan_here","_law_m","_law_one","_law_other","_law_share","_law_gone"] ["_law_plan_here","_law_m"] (AU Ef):=Dp
theorem PX (F:Cr K "_law_spot" "_law_spot" Ef f fd) (A7:Dg P w K mg base n) (BA:Cs P w K mg base n) (Bh:DA P w K mg base n) (Db:FI P w K mg base n) (BU:Ct P w K mg base n) (BC:mg "range" =none) (A9:mg "tuple" =none) (CH:mg "zip" =none):
 A2 P w K mg base Ck (n+1) f fd ["_law_plan_here","_law_m"] (BN K 2 Dd):=by
 have nd:=Ip.nd
 have nd0:(["_law_k","_law_share","_law_other","_law_one"] :List Str).Nodup:=by decide +kernel
 have nd1:(["_law_k","_law_one","_law_gone"] :List Str).Nodup:=by decide +kernel
 exact Ab F Ip rfl λ_ _ _ _ _ _ hr=>(AM (BL (Iy (G8 (BF (AK A7 hr rfl (Am (AH 1) (AW (AW (AH 0) AJ) AJ)))) (FX (BF (AK A7 hr rfl (Am (AW (AW (AH 0) (Cu AJ)) AJ) (AH 1))))))) (AR (AZ EK)) A4) (AM (CA PassesOwn.never rfl (Vq rfl CH (Am (AH 0) (GO (AH 0) (X7 AJ) X6))) (Dt (n:=2) rfl (Ap (Ej (i:=2) nd rfl (Or.inr rfl)) (Ap (Ej (i:=3) nd rfl (Or.inr rfl)) Cp))) (AR (BL (GS (BF (AK A7 hr rfl (Am (AW (AH 3) AJ) (AH 1))))) (AM (GR (i:=4) nd rfl (Or.inr rfl) (AK Db hr rfl (Am (AK BA hr rfl (Am (AH 1) (AW (AH 2) AJ))) (AK BA hr rfl (Am (AW (AH 3) AJ) (AW (AH 2) AJ)))))) (AM (GR (i:=5) nd rfl (Or.inr rfl) (Dj (Co rfl (FV (Af (Gc AJ AJ AJ))) (CW (own:=1) (ix:= [4,3,2]) (N:= ["_law_k","_law_share" ,"_law_other" ,"_law_one" ]) rfl rfl rfl rfl rfl rfl (λ_ _ _ _ _ _=>(OU 0 nd0)) (λ_ _ _ _ _ _=>CF) (λ_ _ _ _ _ _=>(AK Bh hr rfl (Am (AH 1) (AK BA hr rfl (Am (AW (AH 2) (AH 0)) (AW (AH 3) (AH 0))))))))))) (AR (AZ (B7 EI rfl A9 boot_tuple (B5 (Dj (Co rfl (Mr rfl BC (B5 AJ)) (CW (own:=1) (ix:= [2,5]) (N:= ["_law_k","_law_one" ,"_law_gone" ]) rfl rfl rfl rfl rfl rfl (λ_ _ _ _ _ _=>(OU 0 nd1)) (λ_ _ _ _ _ _=>CF) (λ_ _ _ _ _ _=>(AK BU hr rfl (Am (AW (AH 1) (Aa Az (AH 0) AJ)) (AW (AH 2) (AH 0)))))))))))))) A4))) (AR (AZ EK))))
theorem Ij:AY ["_law_one","_law_other","_law_apart_here","_law_m","_law_offs_here","_law_here","_law_there"] ["_law_one","_law_other","_law_apart_here","_law_m"] (AU Eb):=Dp
theorem PN (F:Cr K "_law_offs" "_law_offs" Eb f fd) (BA:Cs P w K mg base n) (Db:FI P w K mg base n) (Lq:Qy P w K mg base n) (CG:mg "int" =none) (BC:mg "range" =none):
 A2 P w K mg base Ck (n+1) f fd ["_law_one","_law_other","_law_apart_here","_law_m"] (BN K 4 Cy):=by
 have nd:=Ij.nd
 have nd0:(["_law_k","_law_apart_here","_law_here","_law_there"] :List Str).Nodup:=by decide +kernel
 have nd1:(["_law_off_here"] :List Str).Nodup:=by decide +kernel
 exact Ab F Ij rfl λ_ _ _ _ _ _ hr=>(AM (M3 (Af (Am (AK Lq hr rfl (Am (AH 0) (AH 3))) (AK Lq hr rfl (Am (AH 1) (AH 3))))) (Dt (n:=2) rfl (Ap (Ej (i:=5) nd rfl (Or.inr rfl)) (Ap (Ej (i:=6) nd rfl (Or.inr rfl)) Cp)))) (AM (Iv (i:=4) rfl nd rfl (Or.inl rfl) (Mr rfl BC (B5 AJ)) (CW (own:=1) (ix:= [2,5,6]) (N:= ["_law_k","_law_apart_here" ,"_law_here" ,"_law_there" ]) rfl rfl rfl rfl rfl rfl (λ_ _ _ _ _ _=>(OU 0 nd0)) (λ_ _ _ _ _ _=>CF) (λ_ _ _ _ _ _=>(AK Db hr rfl (Am (AK BA hr rfl (Am (AW (AH 2) (AH 0)) (AW (AH 3) (AH 0)))) (AW (AH 1) (B7 S7 rfl CG boot_int (B5 (GN (DM hr) (AH 0) AJ (Dq _)))))))))) (AR (AZ (Aa Az (AH 4) (Dj (Co rfl (FV (AH 4)) (CW (own:=1) (ix:= []) (N:= ["_law_off_here"]) rfl rfl rfl rfl rfl rfl (λ_ _ _ _ _ _=>(OU 0 nd1)) (λ_ _ _ _ _ _=>CF) (λ_ _ _ _ _ _=>(Af (Am (Cu (AW (AH 0) AJ)) (AW (AH 0) AJ))))))))))))
theorem GL:AY ["_law_lows","_law_highs","_law_found","_law_k","_law_j","_law_by","_law_share"] ["_law_lows","_law_highs"] (AU DX):=Dp
theorem MY (F:Cr K "_law_shares" "_law_shares" DX f fd) (BA:Cs P w K mg base n) (Db:FI P w K mg base n) (BC:mg "range" =none):
 A2 P w K mg base Ck (n+1) f fd ["_law_lows","_law_highs"] (BN K 2 Cc):=by
 have nd:=GL.nd
 exact Ab F GL rfl λ_ _ _ _ _ _ hr=>(AM (GQ (i:=2) nd rfl (Or.inl rfl) (Bi (Am (Af (Am AJ AJ)) (Af (Am AJ AJ))))) (AM (CA PassesOwn.never rfl (Mr rfl BC (B5 AJ)) (G7 3 nd) (AR (CA PassesOwn.never rfl (Mr rfl BC (B5 (AH 3))) (G7 4 nd) (AM (C5 5 nd (AK BA hr rfl (Am (AK BA hr rfl (Am (AW (AH 1) (AH 3)) (AW (AH 0) (AH 3)))) (AK BA hr rfl (Am (AW (AH 1) (AH 4)) (AW (AH 0) (AH 4))))))) (AR (BL (Gq (Rj hr) (AW (AH 5) AJ) AJ) (AM (C5 6 nd (AK Db hr rfl (Am (AK BA hr rfl (Am (AW (AH 0) (AH 4)) (AW (AH 0) (AH 3)))) (AH 5)))) (AR (BL (hJ E6 E6 AJ (AW (AH 6) AJ) (AW (AH 6) AJ)) (AR (El (i:=2) PySem.F.slot_list_append PySem.F.type_list_append EC (B5 (AH 6)))) A4))) A4)))))) (AR (AZ (AH 2)))))
theorem GK:AY ["_law_moments","_law_found","_law_m","_law_at"] ["_law_moments"] (AU DW):=Dp
theorem MX (F:Cr K "_law_rising" "_law_rising" DW f fd) (A7:Dg P w K mg base n) (BO:mg "len" =none):
 A2 P w K mg base Ck (n+1) f fd ["_law_moments"] (BN K 1 Ca):=by
 have nd:=GK.nd
 have nd0:(["_law_one","_law_m"] :List Str).Nodup:=by decide +kernel
 exact Ab F GK rfl λ_ _ _ _ _ _ hr=>(AM (GQ (i:=1) nd rfl (Or.inl rfl) (Bi GH)) (AM (CA PassesOwn.never rfl (FV (AH 0)) (Ej (i:=2) nd rfl (Or.inr rfl)) (AM (C5 3 nd (S9 (Ar Ds rfl BO PySem.boot_len (B5 (Dj (Co rfl (FV (AH 1)) (CW (own:=1) (ix:= [2]) (N:= ["_law_one","_law_m" ]) rfl rfl rfl rfl rfl rfl (λ_ _ _ _ _ _=>(OU 0 nd0)) (λ_ _ _ _ _ _=>(Py (BF (AK A7 hr rfl (Am (AH 0) (AH 1)))))) (λ_ _ _ _ _ _=>(AH 0))))))))) (AR (BL (YC (Iy (G8 (Gq (DM hr) (AH 3) (Ar Ds rfl BO PySem.boot_len (B5 (AH 1)))) (FX (Gq (Rj hr) (AW (AH 1) (AH 3)) (AH 2)))))) (AR (El (i:=1) PySem.F.slot_list_insert PySem.F.type_list_insert OV (Am (AH 3) (AH 2)))) A4)))) (AR (AZ (AH 1)))))
theorem G6:AY ["_law_one","_law_other","_law_first","_law_last","_law_inner"] ["_law_one","_law_other"] (AU D5):=Dp
theorem Nn (F:Cr K "_law_turns" "_law_turns" D5 f fd) (A7:Dg P w K mg base n) (On:Nb P w K mg base n):
 A2 P w K mg base Ck (n+1) f fd ["_law_one","_law_other"] (BN K 2 C7):=by
 have nd:=G6.nd
 have nd0:(["_law_corner","_law_first","_law_last"] :List Str).Nodup:=by decide +kernel
 exact Ab F G6 rfl λ_ _ _ _ _ _ hr=>(AM (GR (i:=2) nd rfl (Or.inr rfl) (OS (BF (AK A7 hr rfl (Am (AW (AW (AH 1) AJ) AJ) (AW (AW (AH 0) AJ) AJ)))) (AW (AW (AH 0) AJ) AJ) (AW (AW (AH 1) AJ) AJ))) (AM (GR (i:=3) nd rfl (Or.inr rfl) (OS (BF (AK A7 hr rfl (Am (AW (AW (AH 0) (Cu AJ)) AJ) (AW (AW (AH 1) (Cu AJ)) AJ)))) (AW (AW (AH 0) (Cu AJ)) AJ) (AW (AW (AH 1) (Cu AJ)) AJ))) (AM (BL (GS (BF (AK A7 hr rfl (Am (AH 2) (AH 3))))) (AR (AZ (Dj (Bi GH)))) A4) (AM (Iv (i:=4) rfl nd rfl (Or.inl rfl) (FV (Aa Az (AH 0) (AH 1))) (CW (own:=1) (ix:= [2,3]) (N:= ["_law_corner","_law_first" ,"_law_last" ]) rfl rfl rfl rfl rfl rfl (λ_ _ _ _ _ _=>(OU 0 nd0)) (λ_ _ _ _ _ _=>(Py (Iy (M5 (BF (AK A7 hr rfl (Am (AH 1) (AW (AH 0) AJ)))) (I0 (BF (AK A7 hr rfl (Am (AW (AH 0) AJ) (AH 2))))))))) (λ_ _ _ _ _ _=>(AW (AH 0) AJ)))) (AR (AZ (AK On hr rfl (B5 (Aa Az (Dj (Bi (Am (AH 2) (AH 3)))) (AH 4))))))))))
theorem Fi:AY ["_law_one","_law_other","_law_apart_here","_law_turns_here","_law_found","_law_begin","_law_end","_law_share","_law_lows","_law_highs","_law_gap","_law_m"] ["_law_one","_law_other","_law_apart_here"] (AU DE):=Dp
theorem K3 (F:Cr K "_law_nearest" "_law_nearest" DE f fd) (A7:Dg P w K mg base n) (Lo:K0 P w K mg base n) (BA:Cs P w K mg base n) (Lp:Qx P w K mg base n) (Bh:DA P w K mg base n) (Oo:Nc P w K mg base n) (BU:Ct P w K mg base n) (QZ:O5 P w K mg base n) (CH:mg "zip" =none):
 A2 P w K mg base Ck (n+1) f fd ["_law_one","_law_other","_law_apart_here"] (BN K 3 Bl):=by
 have nd:=Fi.nd
 exact Ab F Fi rfl λ_ _ _ _ _ _ hr=>(AM (C5 3 nd (AK QZ hr rfl (Am (AH 0) (AH 1)))) (AM (C5 4 nd EK) (AM (CA PassesOwn.never rfl (Vq rfl CH (Am (AH 3) (GO (AH 3) (X7 AJ) X6))) (Dt (n:=2) rfl (Ap (G7 5 nd) (Ap (G7 6 nd) Cp))) (AM (M4 (i:=8) (j:=9) rfl nd rfl rfl (by decide) rfl rfl (Am (AK Lp hr rfl (B0 (AH 0) (Gc (AH 1) (AH 2) (AH 5)))) (AK Lp hr rfl (B0 (AH 0) (Gc (AH 1) (AH 2) (AH 6))))) rfl) (AR (CA PassesOwn.never rfl (FV (AK Oo hr rfl (Am (AH 8) (AH 9)))) (G7 7 nd) (AM (C5 10 nd (AK Lo hr rfl (Gc (AH 8) (AH 9) (AH 7)))) (AM (C5 11 nd (AK BU hr rfl (Am (AH 5) (AK Bh hr rfl (Am (AH 7) (AK BA hr rfl (Am (AH 6) (AH 5)))))))) (AR (BL (Iy (G8 (Gq QA (AH 4) EK) (G8 (BF (AK A7 hr rfl (Am (AH 10) (AW (AH 4) AJ)))) (FX (Iy (M5 (Gq (DM hr) (AH 10) (AW (AH 4) AJ)) (I0 (BF (AK A7 hr rfl (Am (AH 11) (AW (AH 4) AJ))))))))))) (AR (C5 4 nd (Af (Am (AH 10) (AH 11))))) A4)))))))) (AR (AZ (AH 4))))))
theorem Im:AY ["_law_found","_law_due"] ["_law_found","_law_due"] (AU Di):=Dp
theorem PR (F:Cr K "_law_same" "_law_same" Di f fd) (ED:KE P w K mg base n m) (Oc:mg "all" =none) (J3:mg "bool" =none) (CG:mg "int" =none) (Al:mg "isinstance" =none) (BO:mg "len" =none) (KZ:mg "str" =none) (A9:mg "tuple" =none) (CH:mg "zip" =none):
 A2 P w K mg base Ck (n+1) f fd ["_law_found","_law_due"] (BN K 2 (An (m+1))):=by
 have nd:=Im.nd
 have nd0:(["_law_piece","_law_mate"] :List Str).Nodup:=by decide +kernel
 exact Ab F Im rfl λ_ _ _ _ _ _ hr=>(AM (BL (BF (Ar Mj rfl Al boot_isinstance (Am (AH 1) (KW (n:="tuple") rfl A9 boot_tuple rfl)))) (AM (BL (Iy (G8 (GS (BF (Ar Mj rfl Al boot_isinstance (Am (AH 0) (KW (n:="tuple") rfl A9 boot_tuple rfl))))) (FX (Gq (Rj hr) (Ar Ds rfl BO PySem.boot_len (B5 (AH 0))) (Ar Ds rfl BO PySem.boot_len (B5 (AH 1))))))) (AR (AZ US)) A4) (AR (AZ (Ar (dS rfl) rfl Oc boot_all (B5 (Dj (Co rfl (Vq rfl CH (Am (AH 0) (AH 1))) (CW (own:=2) (ix:= []) (N:= ["_law_piece","_law_mate" ]) rfl rfl rfl rfl rfl rfl (λ_ _ _ _ _ _=>(P8 (n:=2) rfl (Dk (OU 0 nd0) (Dk (OU 1 nd0) LU)))) (λ_ _ _ _ _ _=>CF) (λ_ _ _ _ _ _=>(AK ED hr rfl (Am (AH 0) (AH 1)))))))))))) A4) (AM (BL (Iy (G8 (Gq QA (AH 1) EK) (FX (BF (Ar Pw rfl Al boot_isinstance (Am (AH 1) (KW (n:="str") rfl KZ boot_str rfl))))))) (AR (AZ (S8 (GN (DM hr) (AH 0) (AH 1) (Dq _)) (Xv (GN (DM hr) (Ar Pw rfl Al boot_isinstance (Am (AH 0) (KW (n:="str") rfl KZ boot_str rfl))) (Ar Pw rfl Al boot_isinstance (Am (AH 1) (KW (n:="str") rfl KZ boot_str rfl))) (Dq _)))))) A4) (AR (AZ (S8 (Ar Mj rfl Al boot_isinstance (Am (AH 0) (KW (n:="int") rfl CG boot_int rfl))) (S8 (dX (Ar Mj rfl Al boot_isinstance (Am (AH 0) (KW (n:="bool") rfl J3 boot_bool rfl)))) (Xv (GN (DM hr) (AH 0) (AH 1) (Dq _)))))))))
theorem ON:AY ["one","other"] ["one","other"] (AU IZ):=Dp
theorem Va (F:Cr K "before" "before" IZ f fd):
 A2 P w K mg base Ck (n+1) f fd ["one","other"] (BN K 2 Ah):=by
 have nd:=ON.nd
 exact Ab F ON rfl λ_ _ _ _ _ _ hr=>(AR (AZ (GN E6 (Aa BB (AW (AH 0) AJ) (AW (AH 1) AJ)) (Aa BB (AW (AH 1) AJ) (AW (AH 0) AJ)) (Dq _))))
theorem Fk:AY ["bottom","lines","share","heights","top","whole_way"] ["bottom","lines","share"] (AU DG):=Dp
theorem K5 (F:Cr K "gap_by_share" "gap_by_share" DG f fd) (YS:mg "max" =none):
 A2 P w K mg base Ck (n+1) f fd ["bottom","lines","share"] (BN K 3 Bo):=by
 have nd:=Fk.nd
 have nd0:(["low","high","top","whole_way"] :List Str).Nodup:=by decide +kernel
 exact Ab F Fk rfl λ_ _ _ _ _ _ hr=>(AM (M3 (AH 2) (Dt (n:=2) rfl (Ap (Ej (i:=4) nd rfl (Or.inr rfl)) (Ap (Ej (i:=5) nd rfl (Or.inr rfl)) Cp)))) (AM (Iv (i:=3) rfl nd rfl (Or.inl rfl) (FV (AH 1)) (CW (own:=2) (ix:= [4,5]) (N:= ["low","high" ,"top" ,"whole_way" ]) rfl rfl rfl rfl rfl rfl (λ_ _ _ _ _ _=>(P8 (n:=2) rfl (Dk (OU 0 nd0) (Dk (OU 1 nd0) LU)))) (λ_ _ _ _ _ _=>CF) (λ_ _ _ _ _ _=>(Aa Az (Aa BB (AH 0) (Aa Cv (AH 3) (AH 2))) (Aa BB (AH 1) (AH 2)))))) (AR (AZ (Af (Am (Ar (Zx rfl) rfl YS boot_max (B5 (AH 3))) (Aa BB (AH 0) (AH 5))))))))
theorem Ei:AY ["lines","told","low","high","base","peak"] ["lines"] (AU CV):=Dp
theorem IQ (F:Cr K "meeting_shares" "meeting_shares" CV f fd):
 A2 P w K mg base Ck (n+1) f fd ["lines"] (BN K 1 Bp):=by
 have nd:=Ei.nd
 exact Ab F Ei rfl λ_ _ _ _ _ _ hr=>(AM (GQ (i:=1) nd rfl (Or.inl rfl) (Bi GH)) (AM (CA PassesOwn.never rfl (FV (AH 0)) (Dt (n:=2) rfl (Ap (G7 2 nd) (Ap (G7 3 nd) Cp))) (AR (CA PassesOwn.never rfl (FV (AH 0)) (Dt (n:=2) rfl (Ap (G7 4 nd) (Ap (G7 5 nd) Cp))) (AR (BL (Iy (M5 (Gq E6 (AH 4) (AH 2)) (I0 (Gq E6 (AH 3) (AH 5))))) (AR (El (i:=1) PySem.F.slot_list_append PySem.F.type_list_append EC (B5 (Af (Am (Aa Cv (AH 2) (AH 4)) (Aa Cv (Aa Az (Aa Cv (AH 2) (AH 4)) (AH 5)) (AH 3))))))) A4))))) (AR (AZ (AH 1)))))
theorem OO:AY ["one","other"] ["one","other"] (AU Ia):=Dp
theorem Vb (F:Cr K "common" "common" Ia f fd):
 A2 P w K mg base Ck (n+1) f fd ["one","other"] (BN K 2 F4):=by
 have nd:=OO.nd
 exact Ab F OO rfl λ_ _ _ _ _ _ hr=>(AM (Iw PassesOwn.never (Gq (Rj hr) (AH 1) AJ) (AR (M4 (i:=0) (j:=1) rfl nd rfl rfl (by decide) rfl rfl (Am (AH 1) (Aa X9 (AH 0) (AH 1))) rfl))) (AR (AZ (AH 0))))
theorem UP:AY ["top","bottom","shared"] ["top","bottom"] (AU Ps):=Dp
theorem ZZ (F:Cr K "part" "part" Ps f fd) (Op:Q0 P w K mg base n) (Fm:mg "abs" =none):
 A2 P w K mg base Ck (n+1) f fd ["top","bottom"] (BN K 2 FB):=by
 have nd:=UP.nd
 exact Ab F UP rfl λ_ _ _ _ _ _ hr=>(AM (C5 2 nd (AK Op hr rfl (Am (Ar Pu rfl Fm boot_abs (B5 (AH 0))) (Ar Pu rfl Fm boot_abs (B5 (AH 1)))))) (AM (BL (Gq E6 (AH 1) AJ) (AR (C5 2 nd (Cu (AH 2)))) A4) (AR (AZ (Af (Am (Aa Ek (AH 0) (AH 2)) (Aa Ek (AH 1) (AH 2))))))))
theorem Ra:AY ["one","other"] ["one","other"] (AU LP):=Dp
theorem XS (F:Cr K "minus" "minus" LP f fd) (F2:Jh P w K mg base n):
 A2 P w K mg base Ck (n+1) f fd ["one","other"] (BN K 2 DU):=by
 have nd:=Ra.nd
 exact Ab F Ra rfl λ_ _ _ _ _ _ hr=>(AR (AZ (AK F2 hr rfl (Am (Aa Cv (Aa BB (AW (AH 0) AJ) (AW (AH 1) AJ)) (Aa BB (AW (AH 1) AJ) (AW (AH 0) AJ))) (Aa BB (AW (AH 0) AJ) (AW (AH 1) AJ))))))
theorem UQ:AY ["one","other"] ["one","other"] (AU Pt):=Dp
theorem Za (F:Cr K "plus" "plus" Pt f fd) (F2:Jh P w K mg base n):
 A2 P w K mg base Ck (n+1) f fd ["one","other"] (BN K 2 HD):=by
 have nd:=UQ.nd
 exact Ab F UQ rfl λ_ _ _ _ _ _ hr=>(AR (AZ (AK F2 hr rfl (Am (Aa Az (Aa BB (AW (AH 0) AJ) (AW (AH 1) AJ)) (Aa BB (AW (AH 1) AJ) (AW (AH 0) AJ))) (Aa BB (AW (AH 0) AJ) (AW (AH 1) AJ))))))
theorem Rb:AY ["one","other"] ["one","other"] (AU LQ):=Dp
theorem XT (F:Cr K "times" "times" LQ f fd) (F2:Jh P w K mg base n):
 A2 P w K mg base Ck (n+1) f fd ["one","other"] (BN K 2 FC):=by
 have nd:=Rb.nd
 exact Ab F Rb rfl λ_ _ _ _ _ _ hr=>(AR (AZ (AK F2 hr rfl (Am (Aa BB (AW (AH 0) AJ) (AW (AH 1) AJ)) (Aa BB (AW (AH 0) AJ) (AW (AH 1) AJ))))))
theorem Ir:AY ["begin","end","share"] ["begin","end","share"] (AU Eh):=Dp
theorem PZ (F:Cr K "moment_at" "moment_at" Eh f fd) (HC:O6 P w K mg base n) (F2:Jh P w K mg base n) (WB:Wv P w K mg base n) (Rx:Tp P w K mg base n):
 A2 P w K mg base Ck (n+1) f fd ["begin","end","share"] (BN K 3 Df):=by
 have nd:=Ir.nd
 exact Ab F Ir rfl λ_ _ _ _ _ _ hr=>(AR (AZ (AK WB hr rfl (Am (AH 0) (AK Rx hr rfl (Am (AK F2 hr rfl (Am (AW (AH 2) AJ) (AW (AH 2) AJ))) (AK HC hr rfl (Am (AH 1) (AH 0)))))))))
theorem KQ:AY ["piece","best","least","share","begin","end","bottom","lines","gap"] ["piece"] (AU FR):=Dp
theorem RK (F:Cr K "least_in" "least_in" FR f fd) (Ba:Dh P w K mg base n) (Gw:MI P w K mg base n) (Kq:Jg P w K mg base n) (Rv:Q1 P w K mg base n) (F2:Jh P w K mg base n):
 A2 P w K mg base Ck (n+1) f fd ["piece"] (BN K 1 DN):=by
 have nd:=KQ.nd
 exact Ab F KQ rfl λ_ _ _ _ _ _ hr=>(AM (M3 (AH 0) (Dt (n:=4) rfl (Ap (G7 4 nd) (Ap (G7 5 nd) (Ap (G7 6 nd) (Ap (G7 7 nd) Cp)))))) (AM (C5 1 nd (Af (Am AJ AJ))) (AM (C5 2 nd (AK Gw hr rfl (Gc (AH 6) (AH 7) (AH 1)))) (AM (CA PassesOwn.never rfl (FV (Aa Az (AK Kq hr rfl (B5 (AH 7))) (Dj (Bi (B5 (Af (Am AJ AJ))))))) (G7 3 nd) (AM (C5 8 nd (AK Gw hr rfl (Gc (AH 6) (AH 7) (AH 3)))) (AR (BL (Iy (G8 (BF (AK Ba hr rfl (Am (AH 8) (AH 2)))) (FX (Iy (M5 (GS (BF (AK Ba hr rfl (Am (AH 2) (AH 8))))) (I0 (BF (AK Ba hr rfl (Am (AH 3) (AH 1)))))))))) (AM (C5 1 nd (AH 3)) (AR (C5 2 nd (AH 8)))) A4)))) (AR (AZ (Af (Am (AK F2 hr rfl (Am (AW (AH 2) AJ) (AW (AH 2) AJ))) (AK Rv hr rfl (Gc (AH 4) (AH 5) (AH 1)))))))))))
theorem E5:AY ["numbers","told","top","bottom"] ["numbers"] (AU Cn):=Dp
theorem Jr (F:Cr K "shared_bottom" "shared_bottom" Cn f fd) (Op:Q0 P w K mg base n):
 A2 P w K mg base Ck (n+1) f fd ["numbers"] (BN K 1 B3):=by
 have nd:=E5.nd
 exact Ab F E5 rfl λ_ _ _ _ _ _ hr=>(AM (C5 1 nd AJ) (AM (CA PassesOwn.never rfl (FV (AH 0)) (Dt (n:=2) rfl (Ap (G7 2 nd) (Ap (G7 3 nd) Cp))) (AR (df (i:=1) nd rfl (Or.inl rfl) (Aa Ek (AH 3) (AK Op hr rfl (Am (AH 1) (AH 3)))) dY))) (AR (AZ (AH 1)))))
theorem KS:AY ["first","last","bottom","lines","former","latter","low","high"] ["first","last"] (AU FS):=Dp
theorem RL (F:Cr K "lines_of" "lines_of" FS f fd) (Ls:K1 P w K mg base n) (CH:mg "zip" =none):
 A2 P w K mg base Ck (n+1) f fd ["first","last"] (BN K 2 EE):=by
 have nd:=KS.nd
 exact Ab F KS rfl λ_ _ _ _ _ _ hr=>(AM (C5 2 nd (AK Ls hr rfl (B5 (Aa Az (AH 0) (AH 1))))) (AM (GQ (i:=3) nd rfl (Or.inl rfl) (Bi GH)) (AM (CA PassesOwn.never rfl (Vq rfl CH (Am (AH 0) (AH 1))) (Dt (n:=2) rfl (Ap (G7 4 nd) (Ap (G7 5 nd) Cp))) (AM (C5 6 nd (Aa BB (AW (AH 4) AJ) (Aa Ek (AH 2) (AW (AH 4) AJ)))) (AM (C5 7 nd (Aa BB (AW (AH 5) AJ) (Aa Ek (AH 2) (AW (AH 5) AJ)))) (AM (El (i:=3) PySem.F.slot_list_append PySem.F.type_list_append EC (B5 (Af (Am (AH 6) (AH 7))))) (AR (El (i:=3) PySem.F.slot_list_append PySem.F.type_list_append EC (B5 (Af (Am (Cu (AH 6)) (Cu (AH 7))))))))))) (AR (AZ (Af (Am (AH 2) (AH 3))))))))
theorem UO:AY ["one","other"] ["one","other"] (AU Pr):=Dp
theorem ZY (F:Cr K "over" "over" Pr f fd) (F2:Jh P w K mg base n):
 A2 P w K mg base Ck (n+1) f fd ["one","other"] (BN K 2 Ja):=by
 have nd:=UO.nd
 exact Ab F UO rfl λ_ _ _ _ _ _ hr=>(AR (AZ (AK F2 hr rfl (Am (Aa BB (AW (AH 0) AJ) (AW (AH 1) AJ)) (Aa BB (AW (AH 0) AJ) (AW (AH 1) AJ))))))
theorem Mo:AY ["apart","side"] ["apart","side"] (AU Ga):=Dp
theorem Sx (F:Cr K "size_of" "size_of" Ga f fd):
 A2 P w K mg base Ck (n+1) f fd ["apart","side"] (BN K 2 D9):=by
 have nd:=Mo.nd
 exact Ab F Mo rfl λ_ _ _ _ _ _ hr=>(AR (AZ (OS (Gq (DM hr) (AH 1) AJ) (AW (AH 0) AJ) (AW (AH 0) AJ))))
theorem Fl:AY ["former","latter","m","share"] ["former","latter","m"] (AU DH):=Dp
theorem K6 (F:Cr K "spot_between" "spot_between" DH f fd) (HC:O6 P w K mg base n) (WA:Wt P w K mg base n) (WB:Wv P w K mg base n) (Rx:Tp P w K mg base n) (A9:mg "tuple" =none) (CH:mg "zip" =none):
 A2 P w K mg base Ck (n+1) f fd ["former","latter","m"] (BN K 3 C8):=by
 have nd:=Fl.nd
 have nd0:(["low","high","share"] :List Str).Nodup:=by decide +kernel
 exact Ab F Fl rfl λ_ _ _ _ _ _ hr=>(AM (GR (i:=3) nd rfl (Or.inr rfl) (AK WA hr rfl (Am (AK HC hr rfl (Am (AH 2) (AW (AH 0) AJ))) (AK HC hr rfl (Am (AW (AH 1) AJ) (AW (AH 0) AJ)))))) (AR (AZ (B7 EI rfl A9 boot_tuple (B5 (Dj (Co rfl (Vq rfl CH (Am (GO (AH 0) (X7 AJ) X6) (GO (AH 1) (X7 AJ) X6))) (CW (own:=2) (ix:= [3]) (N:= ["low","high" ,"share" ]) rfl rfl rfl rfl rfl rfl (λ_ _ _ _ _ _=>(P8 (n:=2) rfl (Dk (OU 0 nd0) (Dk (OU 1 nd0) LU)))) (λ_ _ _ _ _ _=>CF) (λ_ _ _ _ _ _=>(AK WB hr rfl (Am (AH 0) (AK Rx hr rfl (Am (AH 2) (AK HC hr rfl (Am (AH 1) (AH 0))))))))))))))))
theorem Mp:AY ["plan","m","at"] ["plan","m"] (AU Gb):=Dp
theorem Sy (F:Cr K "spot_at" "spot_at" Gb f fd) (Ba:Dh P w K mg base n) (NO:MJ P w K mg base n) (BO:mg "len" =none) (BC:mg "range" =none):
 A2 P w K mg base Ck (n+1) f fd ["plan","m"] (BN K 2 Ey):=by
 have nd:=Mp.nd
 exact Ab F Mp rfl λ_ _ _ _ _ _ hr=>(AM (BL (BF (AK Ba hr rfl (Am (AH 1) (AW (AW (AH 0) AJ) AJ)))) (AR (AZ EK)) A4) (AM (CA PassesOwn.never rfl (ay rfl BC (Am AJ (Ar Ds rfl BO PySem.boot_len (B5 (AH 0))))) (G7 2 nd) (AR (BL (GS (BF (AK Ba hr rfl (Am (AW (AW (AH 0) (AH 2)) AJ) (AH 1))))) (AR (AZ (AK NO hr rfl (Gc (AW (AH 0) (Aa Cv (AH 2) AJ)) (AW (AH 0) (AH 2)) (AH 1))))) A4))) (AR (AZ EK))))
theorem Mn:AY ["one","other","apart","m","here","there"] ["one","other","apart","m"] (AU GZ):=Dp
theorem Sw (F:Cr K "offs_at" "offs_at" GZ f fd) (HC:O6 P w K mg base n) (WA:Wt P w K mg base n) (WC:VJ P w K mg base n) (Qb:VL P w K mg base n) (BC:mg "range" =none):
 A2 P w K mg base Ck (n+1) f fd ["one","other","apart","m"] (BN K 4 Ex):=by
 have nd:=Mn.nd
 have nd0:(["side","apart","here","there"] :List Str).Nodup:=by decide +kernel
 exact Ab F Mn rfl λ_ _ _ _ _ _ hr=>(AM (GR (i:=4) nd rfl (Or.inr rfl) (AK Qb hr rfl (Am (AH 0) (AH 3)))) (AM (GR (i:=5) nd rfl (Or.inr rfl) (AK Qb hr rfl (Am (AH 1) (AH 3)))) (AR (AZ (Dj (Co rfl (Mr rfl BC (B5 AJ)) (CW (own:=1) (ix:= [2,4,5]) (N:= ["side","apart" ,"here" ,"there" ]) rfl rfl rfl rfl rfl rfl (λ_ _ _ _ _ _=>(OU 0 nd0)) (λ_ _ _ _ _ _=>CF) (λ_ _ _ _ _ _=>(AK WA hr rfl (Am (AK HC hr rfl (Am (AW (AH 2) (AH 0)) (AW (AH 3) (AH 0)))) (AK WC hr rfl (Am (AH 1) (AH 0)))))))))))))
theorem Ml:AY ["one","other"] ["one","other"] (AU GX):=Dp
theorem Su (F:Cr K "greater" "greater" GX f fd) (Ba:Dh P w K mg base n):
 A2 P w K mg base Ck (n+1) f fd ["one","other"] (BN K 2 CI):=by
 have nd:=Ml.nd
 exact Ab F Ml rfl λ_ _ _ _ _ _ hr=>(AR (AZ (OS (BF (AK Ba hr rfl (Am (AH 0) (AH 1)))) (AH 1) (AH 0))))
theorem OP:AY ["one","other"] ["one","other"] (AU Ib):=Dp
theorem Vc (F:Cr K "lesser" "lesser" Ib f fd) (Ba:Dh P w K mg base n):
 A2 P w K mg base Ck (n+1) f fd ["one","other"] (BN K 2 F5):=by
 have nd:=OP.nd
 exact Ab F OP rfl λ_ _ _ _ _ _ hr=>(AR (AZ (OS (BF (AK Ba hr rfl (Am (AH 1) (AH 0)))) (AH 1) (AH 0))))
theorem KU:AY ["one","other","begin","end"] ["one","other"] (AU FT):=Dp
theorem RM (F:Cr K "together" "together" FT f fd) (Ba:Dh P w K mg base n) (V8:VG P w K mg base n) (Yl:Ws P w K mg base n):
 A2 P w K mg base Ck (n+1) f fd ["one","other"] (BN K 2 DP):=by
 have nd:=KU.nd
 exact Ab F KU rfl λ_ _ _ _ _ _ hr=>(AM (C5 2 nd (AK V8 hr rfl (Am (AW (AW (AH 0) AJ) AJ) (AW (AW (AH 1) AJ) AJ)))) (AM (C5 3 nd (AK Yl hr rfl (Am (AW (AW (AH 0) (Cu AJ)) AJ) (AW (AW (AH 1) (Cu AJ)) AJ)))) (AR (AZ (OS (BF (AK Ba hr rfl (Am (AH 2) (AH 3)))) (Af (Am (AH 2) (AH 3))) EK)))))
theorem EJ:AY ["plan","begin","end"] ["plan","begin","end"] (AU CD):=Dp
theorem HU (F:Cr K "corners_between" "corners_between" CD f fd) (Ba:Dh P w K mg base n) (A9:mg "tuple" =none):
 A2 P w K mg base Ck (n+1) f fd ["plan","begin","end"] (BN K 3 Be):=by
 have nd:=EJ.nd
 have nd0:(["corner","begin","end"] :List Str).Nodup:=by decide +kernel
 exact Ab F EJ rfl λ_ _ _ _ _ _ hr=>(AR (AZ (Dj (Co rfl (FV (AH 0)) (CW (own:=1) (ix:= [1,2]) (N:= ["corner","begin" ,"end" ]) rfl rfl rfl rfl rfl rfl (λ_ _ _ _ _ _=>(OU 0 nd0)) (λ_ _ _ _ _ _=>(Py (Iy (M5 (BF (AK Ba hr rfl (Am (AH 1) (AW (AH 0) AJ)))) (I0 (BF (AK Ba hr rfl (Am (AW (AH 0) AJ) (AH 2))))))))) (λ_ _ _ _ _ _=>(B7 EI rfl A9 boot_tuple (B5 (AH 0)))))))))
theorem GM:AY ["numbers","number","low","high","middle"] ["numbers","number"] (AU DY):=Dp
theorem MZ (F:Cr K "count_below" "count_below" DY f fd) (Ba:Dh P w K mg base n) (BO:mg "len" =none):
 A2 P w K mg base Ck (n+1) f fd ["numbers","number"] (BN K 2 Ce):=by
 have nd:=GM.nd
 exact Ab F GM rfl λ_ _ _ _ _ _ hr=>(AM (C5 2 nd AJ) (AM (C5 3 nd (Ar Ds rfl BO PySem.boot_len (B5 (AH 0)))) (AM (Iw PassesOwn.never (Gq E6 (AH 2) (AH 3)) (AM (C5 4 nd (Aa Ek (Aa Az (AH 2) (AH 3)) AJ)) (AR (BL (BF (AK Ba hr rfl (Am (AW (AH 0) (AH 4)) (AH 1)))) (AR (C5 2 nd (Aa Az (AH 4) AJ))) (AR (C5 3 nd (AH 4))))))) (AR (AZ (AH 2))))))
theorem OR:AY ["numbers","told","number","at"] ["numbers"] (AU Ie):=Dp
theorem Ve (F:Cr K "rising" "rising" Ie f fd) (Oq:Nd P w K mg base n) (BO:mg "len" =none):
 A2 P w K mg base Ck (n+1) f fd ["numbers"] (BN K 1 F7):=by
 have nd:=OR.nd
 exact Ab F OR rfl λ_ _ _ _ _ _ hr=>(AM (GQ (i:=1) nd rfl (Or.inl rfl) (Bi GH)) (AM (CA PassesOwn.never rfl (FV (AH 0)) (G7 2 nd) (AM (C5 3 nd (S9 (AK Oq hr rfl (Am (AH 1) (AH 2))))) (AR (BL (YC (Iy (G8 (Gq (DM hr) (AH 3) (Ar Ds rfl BO PySem.boot_len (B5 (AH 1)))) (FX (Gq (Rj hr) (AW (AH 1) (AH 3)) (AH 2)))))) (AR (El (i:=1) PySem.F.slot_list_insert PySem.F.type_list_insert OV (Am (AH 3) (AH 2)))) A4)))) (AR (AZ (AH 1)))))
theorem Rc:AY ["one","other","begin","end","corners"] ["one","other","begin","end"] (AU LR):=Dp
theorem XU (F:Cr K "turns" "turns" LR f fd) (Ew:IM P w K mg base n) (Yn:Ww P w K mg base n):
 A2 P w K mg base Ck (n+1) f fd ["one","other","begin","end"] (BN K 4 Hy):=by
 have nd:=Rc.nd
 have nd0:(["corner"] :List Str).Nodup:=by decide +kernel
 exact Ab F Rc rfl λ_ _ _ _ _ _ hr=>(AM (C5 4 nd (Aa Az (AK Ew hr rfl (Gc (AH 0) (AH 2) (AH 3))) (AK Ew hr rfl (Gc (AH 1) (AH 2) (AH 3))))) (AR (AZ (AK Yn hr rfl (B5 (Aa Az (Dj (Bi (Am (AH 2) (AH 3)))) (Dj (Co rfl (FV (AH 4)) (CW (own:=1) (ix:= []) (N:= ["corner"]) rfl rfl rfl rfl rfl rfl (λ_ _ _ _ _ _=>(OU 0 nd0)) (λ_ _ _ _ _ _=>CF) (λ_ _ _ _ _ _=>(AW (AH 0) AJ)))))))))))
theorem OQ:AY ["one","other","apart","span","moments","offs","told","at","bottom","lines"] ["one","other","apart"] (AU Ic):=Dp
theorem Vd (F:Cr K "pieces" "pieces" Ic f fd) (Ur:SU P w K mg base n) (V9:VI P w K mg base n) (Us:SV P w K mg base n) (bI:ZF P w K mg base n) (BO:mg "len" =none) (BC:mg "range" =none):
 A2 P w K mg base Ck (n+1) f fd ["one","other","apart"] (BN K 3 F6):=by
 have nd:=OQ.nd
 have nd0:(["m","one","other","apart"] :List Str).Nodup:=by decide +kernel
 exact Ab F OQ rfl λ_ _ _ _ _ _ hr=>(AM (C5 3 nd (AK Us hr rfl (Am (AH 0) (AH 1)))) (AM (BL (Gq QA (AH 3) EK) (AR (AZ (Dj (Bi GH)))) A4) (AM (C5 4 nd (AK bI hr rfl (B0 (AH 0) (Gc (AH 1) (AW (AH 3) AJ) (AW (AH 3) AJ))))) (AM (Iv (i:=5) rfl nd rfl (Or.inl rfl) (FV (AH 4)) (CW (own:=1) (ix:= [0,1,2]) (N:= ["m","one" ,"other" ,"apart" ]) rfl rfl rfl rfl rfl rfl (λ_ _ _ _ _ _=>(OU 0 nd0)) (λ_ _ _ _ _ _=>CF) (λ_ _ _ _ _ _=>(AK V9 hr rfl (B0 (AH 1) (Gc (AH 2) (AH 3) (AH 0))))))) (AM (GQ (i:=6) nd rfl (Or.inl rfl) (Bi GH)) (AM (CA PassesOwn.never rfl (ay rfl BC (Am AJ (Ar Ds rfl BO PySem.boot_len (B5 (AH 4))))) (G7 7 nd) (AM (M3 (AK Ur hr rfl (Am (AW (AH 5) (Aa Cv (AH 7) AJ)) (AW (AH 5) (AH 7)))) (Dt (n:=2) rfl (Ap (G7 8 nd) (Ap (G7 9 nd) Cp)))) (AR (El (i:=6) PySem.F.slot_list_append PySem.F.type_list_append EC (B5 (Af (B0 (AW (AH 4) (Aa Cv (AH 7) AJ)) (Gc (AW (AH 4) (AH 7)) (AH 8) (AH 9))))))))) (AR (AZ (AH 6)))))))))
theorem Mm:AY ["one","other","apart","told","piece","found"] ["one","other","apart"] (AU GY):=Dp
theorem Sv (F:Cr K "nearest" "nearest" GY f fd) (Ba:Dh P w K mg base n) (Uq:SQ P w K mg base n) (Ym:Wu P w K mg base n):
 A2 P w K mg base Ck (n+1) f fd ["one","other","apart"] (BN K 3 CQ):=by
 have nd:=Mm.nd
 exact Ab F Mm rfl λ_ _ _ _ _ _ hr=>(AM (C5 3 nd EK) (AM (CA PassesOwn.never rfl (FV (AK Ym hr rfl (Gc (AH 0) (AH 1) (AH 2)))) (G7 4 nd) (AM (C5 5 nd (AK Uq hr rfl (B5 (AH 4)))) (AR (BL (Iy (G8 (Gq QA (AH 3) EK) (FX (BF (AK Ba hr rfl (Am (AW (AH 5) AJ) (AW (AH 3) AJ))))))) (AR (C5 3 nd (AH 5))) A4)))) (AR (AZ (AH 3)))))
theorem Xr:AY ["_law_script","_law_k","_law_little","_law_far","_law_tape_here","_law_one","_law_other","_law_apart_here","_law_due"] ["_law_script"] (AU Mi):=Dp
theorem ck (F:Cr K "law" "law" Mi f fd) (F0:IK P w K mg base n) (Rt:Qw P w K mg base n) (C6:G0 P w K mg base n 12) (NN:MH P w K mg base n) (BA:Cs P w K mg base n) (ED:KE P w K mg base n 12) (BU:Ct P w K mg base n) (Lr:VH P w K mg base n) (BO:mg "len" =none) (YT:mg "min" =none) (BC:mg "range" =none):
 A2 P w K mg base Ck (n+1) f fd ["_law_script"] (BN K 1 D7):=by
 have nd:=Xr.nd
 exact Ab F Xr rfl λ_ _ _ _ _ _ hr=>(AM (CA PassesOwn.never rfl (Mr rfl BC (B5 (Aa Az AJ (Ar (dU rfl) rfl YT boot_min (Am AJ (Ar Ds rfl BO PySem.boot_len (B5 (AH 0)))))))) (G7 1 nd) (AM (M3 (AK Rt hr rfl (Am (AH 0) (AH 1))) (Dt (n:=4) rfl (Ap (G7 4 nd) (Ap (G7 5 nd) (Ap (G7 6 nd) (Ap (G7 7 nd) Cp)))))) (AM (C5 2 nd (Af (Am (AK BA hr rfl (Am (AW (AH 7) AJ) (Af (Am AJ (Aa YA AJ AJ))))) (AK BU hr rfl (Am (AW (AH 7) AJ) (Af (Am AJ (Aa YA AJ AJ)))))))) (AM (CA PassesOwn.never rfl (FV (Af (B0 (AH 7) (Gc (AK F0 hr rfl (B5 (AH 4))) (AH 2) (AH 7))))) (G7 3 nd) (AM (C5 8 nd (AK NN hr rfl (Gc (AH 5) (AH 6) (AH 3)))) (AR (BL (Iy (G8 (GS (BF (AK ED hr rfl (Am (AK Lr hr rfl (Gc (AH 5) (AH 6) (AH 3))) (AH 8))))) (FX (GS (BF (AK ED hr rfl (Am (AK Lr hr rfl (Gc (AH 6) (AH 5) (AH 3))) (AH 8)))))))) (AR (AZ US)) A4)))) (AR (BL (GS (BF (AK ED hr rfl (Am (AK Lr hr rfl (Gc (AK C6 hr rfl (B5 (AH 5))) (AK C6 hr rfl (B5 (AH 6))) (AK C6 hr rfl (B5 (AH 7))))) (AH 8))))) (AR (AZ US)) A4)))))) (AR (AZ US)))
end
theorem SX {P:Program} {w:World} {K:PySem.W.Frag} {mg:Str->Option Value} {base:Heap} {k:Nat} {x:Str} {st:Stmt} {ps:List Str} {sp:Sp} {f:Addr} {fd:FuncData} (F:Cr K x x st f fd) (b:Binds K fd ps []) (m:mg x=some (.ref f)) (G:A2 P w K mg base Ck k f fd ps sp):Has P w K mg base k x ps sp:=⟨f,fd,m,F.kp,b,G⟩
theorem Fh {P:Program} {w:World} {K:PySem.W.Frag} {mg:Str->Option Value} {base:Heap} {k0:Nat} {f:Addr} {fd:FuncData} (F:Cr K "_law_listed" "_law_listed" Cj f fd) (b:Binds K fd ["_law_thing"] []) (m:mg "_law_listed" =some (.ref f)) (CG:mg "int" =none) (Al:mg "isinstance" =none):
 ∀n:Nat,A2 P w K mg base Ck (k0+n) f fd ["_law_thing"] (BN K 1 (Ag n))
 | 0=>by
   have no:∀vs H Q E,¬BN K 1 (Ag 0) vs H Q E:=λvs H Q E h=>by
    obtain ⟨_,_,_,_,_,_,_,_,h,_⟩:=h
    exact h
   exact ⟨λvs H Q E h=>absurd h (no vs H Q E),λA outer s H args us vs Q E _ _ _ _ h=>absurd h (no vs H Q E)⟩
 | n+1=>MW (n:=k0+n) F (SX F b m (Fh F b m CG Al n)) CG Al
theorem Gz {P:Program} {w:World} {K:PySem.W.Frag} {mg:Str->Option Value} {base:Heap} {k0:Nat} {f:Addr} {fd:FuncData} (F:Cr K "_law_same" "_law_same" Di f fd) (b:Binds K fd ["_law_found","_law_due"] []) (m:mg "_law_same" =some (.ref f)) (Oc:mg "all" =none) (J3:mg "bool" =none) (CG:mg "int" =none) (Al:mg "isinstance" =none) (BO:mg "len" =none) (KZ:mg "str" =none) (A9:mg "tuple" =none) (CH:mg "zip" =none):
 ∀n:Nat,A2 P w K mg base Ck (k0+n) f fd ["_law_found","_law_due"] (BN K 2 (An n))
 | 0=>by
   have no:∀vs H Q E,¬BN K 2 (An 0) vs H Q E:=λvs H Q E h=>by
    obtain ⟨_,_,_,_,_,_,_,_,h,_⟩:=h
    exact h
   exact ⟨λvs H Q E h=>absurd h (no vs H Q E),λA outer s H args us vs Q E _ _ _ _ h=>absurd h (no vs H Q E)⟩
 | n+1=>PR (n:=k0+n) F (SX F b m (Gz F b m Oc J3 CG Al BO KZ A9 CH n)) Oc J3 CG Al BO KZ A9 CH
theorem gA {us:List Value} (hl:us.length=1):∃x0:Value,us= [x0] :=by
 match us,hl with | [x0],_=>exact ⟨_,rfl⟩
theorem gB {us:List Value} (hl:us.length=2):∃x0 x1:Value,us= [x0,x1] :=by
 match us,hl with | [x0,x1],_=>exact ⟨_,_,rfl⟩
theorem gC {us:List Value} (hl:us.length=3):∃x0 x1 x2:Value,us= [x0,x1,x2] :=by
 match us,hl with | [x0,x1,x2],_=>exact ⟨_,_,_,rfl⟩
theorem gD {us:List Value} (hl:us.length=4):∃x0 x1 x2 x3:Value,us= [x0,x1,x2,x3] :=by
 match us,hl with | [x0,x1,x2,x3],_=>exact ⟨_,_,_,_,rfl⟩
def DT (K:PySem.W.Frag) (x:Str) (st:Stmt) (f:Addr):Prop:=PySem.W.nsIn K mainGlobals x=some (some (.ref f))/\∃fd,Cr K x x st f fd
theorem lw {K:PySem.W.Frag} {x:Str} {st:Stmt} {f:Addr} {oc:Value} {od an:Option Addr} {osl:Array (Option Value)} {kV doc pm cdv ct:Value} (a:PySem.W.nsIn K mainGlobals x=some (some (.ref f))) (l:K.lookup f=some ⟨oc,od, .func (PySem.W.fnOf x x (FF st) (Dz st) (AU st) .none kV doc pm an cdv ct),osl⟩) (c:PySem.W.codeIn K cdv x=true) (k:PySem.W.keepIn K (.ref f)=true):DT K x st f:=⟨a,_,Wj l c k⟩
theorem jW {P:Program} {w:World} {K:PySem.W.Frag} {h base:Heap} {mg:Str->Option Value} {k:Nat} {x:Str} {st:Stmt} {ps:List Str} {sp:Sp} {f:Addr} (A:DT K x st f) (X:K.In h) (G:h.Ns mainGlobals mg) (g:∀fd,Cr K x x st f fd->Binds K fd ps [] ->mg x=some (.ref f)->A2 P w K mg base Ck k f fd ps sp) (b:∀fd,Cr K x x st f fd->Binds K fd ps [] :=by exact λ_ F=>F.binds λ_ _ _ _ _ _ us hl=>by first | (obtain ⟨_,rfl⟩:=gA hl;rfl)|(obtain ⟨_,_,rfl⟩:=gB hl;rfl)|(obtain ⟨_,_,_,rfl⟩:=gC hl;rfl)|(obtain ⟨_,_,_,_,rfl⟩:=gD hl;rfl)):Has P w K mg base k x ps sp:=
 let ⟨a,fd,F⟩:=A;SX F (b fd F) (PySem.W.mg_of X G a) (g fd F (b fd F) (PySem.W.mg_of X G a))
theorem all_mk {l:PySem.W.OpenLaw} {w:World} {K:PySem.W.Frag} {h:Heap} {mg:Str->Option Value} {fa f1 f2 f3 f4 f5 f6 f7 f8 f9 f10 f11 f12 f13 f14 f15 f16 f17 f18 f19 f20 f21 f22 f23 f24 f25 f26 f27 f28 f29 f30 f31 f32 f33 f34 f35 f36 f37 f38 f39 f40 f41 f42 f43 f44 f45 f46 f47 f48 f49 f50 f51:Addr} (X:K.In h) (G:h.Ns mainGlobals mg) (pO:mg "law" =some (.ref fa))
 (a1:DT K "_law_draw" EZ f1) (a2:DT K "_law_apart" D0 f2) (a3:DT K "_law_part" Ec f3) (a4:DT K "_law_sum" FQ f4) (a5:DT K "_law_moved" D1 f5) (a6:DT K "_law_off" FP f6) (a7:DT K "_law_place" D3 f7) (a8:DT K "_law_span" Ee f8) (a9:DT K "_law_plan" Ed f9) (a10:DT K "_law_product" DF f10) (a11:DT K "_law_beside" DV f11) (a12:DT K "_law_tape" Eg f12) (a13:DT K "_law_case" EY f13) (a14:DT K "_law_listed" Cj f14) (a15:DT K "_law_less" Ea f15) (a16:DT K "_law_line_gap" Cm f16) (a17:DT K "_law_ratio" D4 f17) (a18:DT K "_law_spot" Ef f18) (a19:DT K "_law_offs" Eb f19) (a20:DT K "_law_shares" DX f20) (a21:DT K "_law_rising" DW f21) (a22:DT K "_law_turns" D5 f22) (a23:DT K "_law_nearest" DE f23) (a24:DT K "_law_same" Di f24) (a25:DT K "before" IZ f25) (a26:DT K "gap_by_share" DG f26) (a27:DT K "meeting_shares" CV f27) (a28:DT K "common" Ia f28) (a29:DT K "part" Ps f29) (a30:DT K "minus" LP f30) (a31:DT K "plus" Pt f31) (a32:DT K "times" LQ f32) (a33:DT K "moment_at" Eh f33) (a34:DT K "least_in" FR f34) (a35:DT K "shared_bottom" Cn f35) (a36:DT K "lines_of" FS f36) (a37:DT K "over" Pr f37) (a38:DT K "size_of" Ga f38) (a39:DT K "spot_between" DH f39) (a40:DT K "spot_at" Gb f40) (a41:DT K "offs_at" GZ f41) (a42:DT K "greater" GX f42) (a43:DT K "lesser" Ib f43) (a44:DT K "together" FT f44) (a45:DT K "corners_between" CD f45) (a46:DT K "count_below" DY f46) (a47:DT K "rising" Ie f47) (a48:DT K "turns" LR f48) (a49:DT K "pieces" Ic f49) (a50:DT K "nearest" GY f50) (a51:DT K "law" Mi f51)
 (y_abs:PySem.W.nsIn K mainGlobals "abs" =some none) (y_all:PySem.W.nsIn K mainGlobals "all" =some none) (y_bool:PySem.W.nsIn K mainGlobals "bool" =some none) (y_int:PySem.W.nsIn K mainGlobals "int" =some none) (y_isinstance:PySem.W.nsIn K mainGlobals "isinstance" =some none) (y_len:PySem.W.nsIn K mainGlobals "len" =some none) (y_max:PySem.W.nsIn K mainGlobals "max" =some none) (y_min:PySem.W.nsIn K mainGlobals "min" =some none) (y_range:PySem.W.nsIn K mainGlobals "range" =some none) (y_reversed:PySem.W.nsIn K mainGlobals "reversed" =some none) (y_str:PySem.W.nsIn K mainGlobals "str" =some none) (y_tuple:PySem.W.nsIn K mainGlobals "tuple" =some none) (y_zip:PySem.W.nsIn K mainGlobals "zip" =some none):
 ∃fd:FuncData,(∀(s:Shared) (v:Value),BindsTo s fd ⟨[v], []⟩ [("_law_script",v)])/\∀base:Heap,K.In base->base.Ns mainGlobals mg->A2 l.prog w K mg base Ck 13 fa fd ["_law_script"] (BN K 1 D7):=by
 have e:=pO.symm.trans (PySem.W.mg_of X G a51.1)
 cases e
 obtain ⟨aL,fdL,FL⟩:=a51
 obtain ⟨⟨oc,od,kV,doc,pm,an,cdv,ct,osl,eL,lL,cL⟩,kL⟩:=FL
 subst eL
 have FL:=Wj lL cL kL
 have Fm:=PySem.W.mg_none_of X G y_abs
 have Oc:=PySem.W.mg_none_of X G y_all
 have J3:=PySem.W.mg_none_of X G y_bool
 have CG:=PySem.W.mg_none_of X G y_int
 have Al:=PySem.W.mg_none_of X G y_isinstance
 have BO:=PySem.W.mg_none_of X G y_len
 have YS:=PySem.W.mg_none_of X G y_max
 have YT:=PySem.W.mg_none_of X G y_min
 have BC:=PySem.W.mg_none_of X G y_range
 have Hc:=PySem.W.mg_none_of X G y_reversed
 have KZ:=PySem.W.mg_none_of X G y_str
 have A9:=PySem.W.mg_none_of X G y_tuple
 have CH:=PySem.W.mg_none_of X G y_zip
 refine ⟨PySem.W.fnOf "law" "law" (FF Mi) (Dz Mi) (AU Mi) .none kV doc pm an cdv ct,λs v=> .of_eq rfl,λbase _ _=> ?_⟩
 have hs:= @jW l.prog w K h base mg
 have H1:=hs a1 X G λ_ F _ _=>PK (n:=0) F
 have H2:=hs a2 X G λ_ F _ _=>Ni (n:=1) F (BZ H1)
 have H3:=hs a3 X G λ_ F _ _=>PP (n:=0) F Fm CG
 have H4:=hs a4 X G λ_ F _ _=>RJ (n:=1) F (BZ H3)
 have H5:=hs a5 X G λ_ F _ _=>Nj (n:=2) F (BZ H4) BC A9
 have H6:=hs a6 X G λ_ F _ _=>RI (n:=1) F (BZ H3)
 have H7:=hs a7 X G λ_ F _ _=>Nk (n:=1) F (BZ H1) (BZ H3)
 have H8:=hs a8 X G λ_ F _ _=>PU (n:=1) F (BZ H1) (BZ H3)
 have H9:=hs a9 X G λ_ F _ _=>PQ (n:=2) F (BZ H1) (BZ H7) (BZ H8) (BZ H4) BO A9
 have iK:=hs a10 X G λ_ F _ _=>K4 (n:=1) F (BZ H3)
 have oA:=hs a11 X G λ_ F _ _=>MV (n:=3) F (BZ H1) (BZ H5) (BZ H6) (BZ H7) (BZ H9) (BZ iK) (BZ H8) (BZ H4) CG BO Hc A9 CH
 have oB:=hs a12 X G λ_ F _ _=>PY (n:=0) F Fm CG BO
 have oC:=hs a13 X G λ_ F _ _=>PJ (n:=4) F (BZ H2) (BZ oA) (BZ H1) (BZ H9) (BZ oB)
 have oD:=hs a14 X G λ_ F b m=>Fh (k0:=0) F b m CG Al 12
 have fA:=hs a15 X G λ_ F _ _=>PM (n:=0) F
 have oE:=hs a16 X G λ_ F _ _=>Jq (n:=2) F (BZ fA) (BZ H6) (BZ iK) (BZ H4) CH
 have i9:=hs a17 X G λ_ F _ _=>Nm (n:=1) F (BZ H3)
 have oF:=hs a18 X G λ_ F _ _=>PX (n:=2) F (BZ fA) (BZ H6) (BZ iK) (BZ i9) (BZ H4) BC A9 CH
 have oG:=hs a19 X G λ_ F _ _=>PN (n:=3) F (BZ H6) (BZ i9) (BZ oF) CG BC
 have oH:=hs a20 X G λ_ F _ _=>MY (n:=2) F (BZ H6) (BZ i9) BC
 have oI:=hs a21 X G λ_ F _ _=>MX (n:=1) F (BZ fA) BO
 have oJ:=hs a22 X G λ_ F _ _=>Nn (n:=2) F (BZ fA) (BZ oI)
 have oK:=hs a23 X G λ_ F _ _=>K3 (n:=4) F (BZ fA) (BZ oE) (BZ H6) (BZ oG) (BZ iK) (BZ oH) (BZ H4) (BZ oJ) CH
 have oM:=hs a24 X G λ_ F b m=>Gz (k0:=0) F b m Oc J3 CG Al BO KZ A9 CH 12
 have aM:=hs a25 X G λ_ F _ _=>Va (n:=0) F
 have oN:=hs a26 X G λ_ F _ _=>K5 (n:=0) F YS
 have oO:=hs a27 X G λ_ F _ _=>IQ (n:=0) F
 have lc:=hs a28 X G λ_ F _ _=>Vb (n:=0) F
 have d8:=hs a29 X G λ_ F _ _=>ZZ (n:=1) F (BZ lc) Fm
 have jA:=hs a30 X G λ_ F _ _=>XS (n:=2) F (BZ d8)
 have lg:=hs a31 X G λ_ F _ _=>Za (n:=2) F (BZ d8)
 have lh:=hs a32 X G λ_ F _ _=>XT (n:=2) F (BZ d8)
 have oP:=hs a33 X G λ_ F _ _=>PZ (n:=3) F (BZ jA) (BZ d8) (BZ lg) (BZ lh)
 have oQ:=hs a34 X G λ_ F _ _=>RK (n:=4) F (BZ aM) (BZ oN) (BZ oO) (BZ oP) (BZ d8)
 have oR:=hs a35 X G λ_ F _ _=>Jr (n:=1) F (BZ lc)
 have oS:=hs a36 X G λ_ F _ _=>RL (n:=2) F (BZ oR) CH
 have lj:=hs a37 X G λ_ F _ _=>ZY (n:=2) F (BZ d8)
 have oT:=hs a38 X G λ_ F _ _=>Sx (n:=0) F
 have oU:=hs a39 X G λ_ F _ _=>K6 (n:=3) F (BZ jA) (BZ lj) (BZ lg) (BZ lh) A9 CH
 have oV:=hs a40 X G λ_ F _ _=>Sy (n:=4) F (BZ aM) (BZ oU) BO BC
 have oW:=hs a41 X G λ_ F _ _=>Sw (n:=5) F (BZ jA) (BZ lj) (BZ oT) (BZ oV) BC
 have oX:=hs a42 X G λ_ F _ _=>Su (n:=1) F (BZ aM)
 have oY:=hs a43 X G λ_ F _ _=>Vc (n:=1) F (BZ aM)
 have oZ:=hs a44 X G λ_ F _ _=>RM (n:=2) F (BZ aM) (BZ oX) (BZ oY)
 have og:=hs a45 X G λ_ F _ _=>HU (n:=1) F (BZ aM) A9
 have oh:=hs a46 X G λ_ F _ _=>MZ (n:=1) F (BZ aM) BO
 have oi:=hs a47 X G λ_ F _ _=>Ve (n:=2) F (BZ oh) BO
 have oj:=hs a48 X G λ_ F _ _=>XU (n:=3) F (BZ og) (BZ oi)
 have om:=hs a49 X G λ_ F _ _=>Vd (n:=6) F (BZ oS) (BZ oW) (BZ oZ) (BZ oj) BO BC
 have oo:=hs a50 X G λ_ F _ _=>Sv (n:=7) F (BZ aM) (BZ oQ) (BZ om)
 exact ck (n:=12) FL (BZ H2) (BZ oC) (BZ oD) (BZ oK) (BZ H6) (BZ oM) (BZ H4) (BZ oo) BO YT BC
theorem walk {l:PySem.W.OpenLaw} {q:Program} {loose:List Str} {XP:(Str->Option Value)->Heap->Prop} {YP:World->Heap->Prop} {d:DefRec} {K:Params->PySem.W.Frag} (hn:l.most=some 63) (fX:d.params.defaults= [])
 (hY:∀(w:World) (h:Heap),YP w h->(K w.params).In h)
 (F:∀(w:World) (mg:Str->Option Value) (fa:Addr) (h:Heap),(K w.params).In h->h.Ns mainGlobals mg->mg d.name=some (.ref fa)->
   ∃fd:FuncData,(∀(s:Shared) (u:Value),BindsTo s fd ⟨[u], []⟩ [("_law_script",u)])/\∀base:Heap,(K w.params).In base->base.Ns mainGlobals mg->A2 l.prog w (K w.params) mg base Ck 13 fa fd ["_law_script"] (BN (K w.params) 1 D7)):
 PySem.W.WalkO q loose XP YP l.row.toRowW d [] (λf vs=>PySem.call f vs):=
 L2.walk_of (n:=63) (k:=13) (x:="_law_script") (CX:=λ_=>Ck) (sp:=λw=>BN (K w.params) 1 D7) hn (by decide) fX ⟨rfl,by decide,by decide,rfl⟩ hY F (λ_ _ a ns hl _ hS=>PL.law_sp hS (XC ns hl)) λ_ _ _ _ _ z=>z
def m0:String:="law_skylanes_k21_nearest"
def m1:String:="skylanes.fractions"
def m2:String:="skylanes.nearness"
def m3:String:="skylanes.plans"
def eN (P:Params) (x:String) (i:Nat) (v:Value):DictEntry:=⟨PyData.keyHash P (Str.ofString x), .str (Str.ofString x) i,v⟩
abbrev eR (P:Params) (x:String) (i f:Nat):=eN P x i (.ref f)
def fO (x:String) (s:Stmt) (m:String) (i c:Nat):Obj:=⟨.type "function",none, .func (PySem.W.fnOf (Str.ofString x) (Str.ofString x) (FF s) (Dz s) (AU s) .none .none .none (.str (Str.ofString m) i) none (.ref c) .none), #[]⟩
def rV:Nat->Value
 | 0=> .none
 | n+1=> .ref (n+1)
def fc (x:String) (s:Stmt) (m:String) (mi c f i l n g a1 a2 a3 a4 a5 u:Nat) (r:PySem.W.Frag):PySem.W.Frag:=
 (c,⟨.type "code",none, .fields #[.str (Str.ofString x) i, .str (Str.ofString x) (i+1), .str (Str.ofString "/claim/cut.py") (i+2), .int l 0, .int n 0, .int 0 0, .int 0 0, .int g 0,rV a1, .bool true, .int 181 0,rV a2, .none,rV a3,rV a4,rV a5, .int u 0, .int l 0, .str (Str.ofString "/claim/cut.py") (u+1)], #[]⟩) ::
 (f,fO x s m mi c)::r
theorem atK {K:PySem.W.Frag} {x:String} {s:Stmt} (m:String) (i c f:Nat) (a:PySem.W.nsIn K mainGlobals (Str.ofString x)=some (some (.ref f)):=by kernel_rfl) (l:K.lookup f=some (fO x s m i c):=by kernel_rfl) (d:PySem.W.codeIn K (.ref c) (Str.ofString x)=true:=by kernel_rfl) (k:PySem.W.keepIn K (.ref f)=true:=by kernel_rfl):DT K (Str.ofString x) s f:=lw a l d k
def kP (P:Params):Obj:=⟨.type "dict",none, .dict #[eN P "__name__" 165 (.str (Str.ofString "law_skylanes_k21_nearest") 422),eN P "__doc__" 166 .none,eN P "__package__" 167 .none,eN P "__loader__" 168 (.builtin "__main__.__loader__#opaque"),eN P "__spec__" 169 .none,eR P "__annotations__" 170 6,eR P "__builtins__" 171 4,eN P "__file__" 173 (.str (Str.ofString "/claim/cut.py") 172),eN P "__cached__" 174 .none,eR P "common" 196 21,eR P "part" 205 28,eR P "plus" 213 35,eR P "minus" 221 42,eR P "times" 229 49,eR P "over" 237 56,eR P "before" 245 63,eR P "lesser" 253 70,eR P "greater" 261 77,eR P "shared_bottom" 271 84,eR P "count_below" 282 91,eR P "rising" 292 98,eR P "spot_between" 300 103,eR P "spot_at" 309 110,eR P "corners_between" 315 115,eR P "together" 327 122,eR P "turns" 333 127,eR P "size_of" 341 134,eR P "offs_at" 347 139,eR P "lines_of" 361 146,eR P "pieces" 367 151,eR P "moment_at" 376 158,eR P "meeting_shares" 388 165,eR P "gap_by_share" 394 170,eR P "least_in" 409 177,eR P "nearest" 421 184,eR P "_law_tape" 433 191,eR P "_law_draw" 443 198,eR P "_law_part" 454 205,eR P "_law_less" 462 212,eR P "_law_sum" 470 219,eR P "_law_off" 478 226,eR P "_law_product" 486 233,eR P "_law_ratio" 494 240,eR P "_law_place" 502 247,eR P "_law_span" 510 254,eR P "_law_plan" 522 261,eR P "_law_apart" 530 268,eR P "_law_spot" 536 273,eR P "_law_moved" 542 278,eR P "_law_beside" 548 283,eR P "_law_case" 560 290,eR P "_law_rising" 566 295,eR P "_law_turns" 572 300,eR P "_law_offs" 578 305,eR P "_law_line_gap" 591 312,eR P "_law_shares" 604 319,eR P "_law_nearest" 622 326,eR P "_law_same" 628 331,eR P "_law_listed" 634 336,eR P "law" 649 343] 60, #[]⟩
def KK (P:Params):PySem.W.Frag:=(3,kP P)::(fc "_law_draw" EZ m0 422 197 198 434 131 2 3 192 193 194 195 196 441 <| fc "_law_apart" D0 m0 422 267 268 523 183 1 3 262 263 264 265 266 528 <| fc "_law_part" Ec m0 422 204 205 444 139 2 3 199 200 201 202 203 452 <| fc "_law_sum" FQ m0 422 218 219 463 147 2 3 213 214 215 216 217 468 <| fc "_law_moved" D1 m0 422 277 278 537 195 3 3 274 275 0 0 276 540 <| fc "_law_off" FP m0 422 225 226 471 149 2 3 220 221 222 223 224 476 <| fc "_law_place" D3 m0 422 246 247 495 155 1 3 241 242 243 244 245 500 <| fc "_law_span" Ee m0 422 253 254 503 162 1 3 248 249 250 251 252 508 <| fc "_law_plan" Ed m0 422 260 261 511 167 1 3 255 256 257 258 259 520 <| fc "_law_product" DF m0 422 232 233 479 151 2 3 227 228 229 230 231 484 <| fc "_law_beside" DV m0 422 282 283 543 197 3 3 279 280 0 0 281 546 <| fc "_law_tape" Eg m0 422 190 191 424 125 2 3 185 186 187 188 189 431 <| fc "_law_case" EY m0 422 289 290 549 221 2 3 284 285 286 287 288 558 <| fc "_law_listed" Cj m0 422 335 336 629 283 1 3 332 333 0 0 334 632 <| fc "_law_less" Ea m0 422 211 212 455 145 2 3 206 207 208 209 210 460 <| fc "_law_line_gap" Cm m0 422 311 312 579 247 3 3 306 307 308 309 310 589 <| fc "_law_ratio" D4 m0 422 239 240 487 153 2 3 234 235 236 237 238 492 <| fc "_law_spot" Ef m0 422 272 273 531 186 2 3 269 270 0 0 271 534 <| fc "_law_offs" Eb m0 422 304 305 573 243 4 3 301 302 0 0 303 576 <| fc "_law_shares" DX m0 422 318 319 592 254 2 3 313 314 315 316 317 602 <| fc "_law_rising" DW m0 422 294 295 561 229 1 3 291 292 0 0 293 564 <| fc "_law_turns" D5 m0 422 299 300 567 236 2 3 296 297 0 0 298 570 <| fc "_law_nearest" DE m0 422 325 326 605 264 3 3 320 321 322 323 324 620 <| fc "_law_same" Di m0 422 330 331 623 275 2 3 327 328 0 0 329 626 <| fc "before" IZ m1 187 62 63 238 19 2 3 57 58 59 60 61 243 <| fc "gap_by_share" DG m2 316 169 170 389 103 3 3 166 167 0 0 168 392 <| fc "meeting_shares" CV m2 316 164 165 377 96 1 3 159 160 161 162 163 386 <| fc "common" Ia m1 187 20 21 189 2 2 3 15 16 17 18 19 194 <| fc "part" Ps m1 187 27 28 197 6 2 3 22 23 24 25 26 203 <| fc "minus" LP m1 187 41 42 214 13 2 3 36 37 38 39 40 219 <| fc "plus" Pt m1 187 34 35 206 11 2 3 29 30 31 32 33 211 <| fc "times" LQ m1 187 48 49 222 15 2 3 43 44 45 46 47 227 <| fc "moment_at" Eh m2 316 157 158 368 94 3 3 152 153 154 155 156 374 <| fc "least_in" FR m2 316 176 177 395 107 1 3 171 172 173 174 175 407 <| fc "shared_bottom" Cn m1 187 83 84 262 25 1 3 78 79 80 81 82 269 <| fc "lines_of" FS m2 316 145 146 348 74 2 3 140 141 142 143 144 359 <| fc "over" Pr m1 187 55 56 230 17 2 3 50 51 52 53 54 235 <| fc "size_of" Ga m2 316 133 134 334 68 2 3 128 129 130 131 132 339 <| fc "spot_between" DH m3 293 102 103 295 48 3 3 99 100 0 0 101 298 <| fc "spot_at" Gb m3 293 109 110 301 51 2 3 104 105 106 107 108 307 <| fc "offs_at" GZ m2 316 138 139 342 70 4 3 135 136 0 0 137 345 <| fc "greater" GX m1 187 76 77 254 23 2 3 71 72 73 74 75 259 <| fc "lesser" Ib m1 187 69 70 246 21 2 3 64 65 66 67 68 251 <| fc "together" FT m2 316 121 122 318 61 2 3 116 117 118 119 120 325 <| fc "corners_between" CD m3 293 114 115 310 58 3 3 111 112 0 0 113 313 <| fc "count_below" DY m1 187 90 91 272 30 2 3 85 86 87 88 89 280 <| fc "rising" Ie m1 187 97 98 283 40 1 3 92 93 94 95 96 290 <| fc "turns" LR m2 316 126 127 328 65 4 3 123 124 0 0 125 331 <| fc "pieces" Ic m2 316 150 151 362 83 3 3 147 148 0 0 149 365 <| fc "nearest" GY m2 316 183 184 410 117 3 3 178 179 180 181 182 419 <| fc "law" Mi m0 422 342 343 635 287 1 3 337 338 339 340 341 647 <| [])
def KA:List Addr:= [3,197,198,267,268,204,205,218,219,277,278,225,226,246,247,253,254,260,261,232,233,282,283,190,191,289,290,335,336,211,212,311,312,239,240,272,273,304,305,318,319,294,295,299,300,325,326,330,331,62,63,169,170,164,165,20,21,27,28,41,42,34,35,48,49,157,158,176,177,83,84,145,146,55,56,133,134,102,103,109,110,138,139,76,77,69,70,121,122,114,115,90,91,97,98,126,127,150,151,183,184,342,343]
def q:Program:={PySem.Challenge.pw_skylanes_k21_nearest with main:={PySem.Challenge.pw_skylanes_k21_nearest.main with body:= [top 1,top 2,top 3,top 4,top 5,top 6,top 7,top 8,top 9,top 10,top 11,top 12,top 14,top 15,top 16,top 18,top 19,top 20,top 21,top 22,top 23,top 24,top 25,top 26,top 27,top 28,top 30,top 31,top 32,top 33,top 34,top 35,top 36,top 37,top 38,top 39,top 40,top 41,top 42,top 43,top 44,top 45,top 46,top 47,top 48,top 49,top 50,top 51,top 52,top 53,top 54] }}
end K21
open PySem PySem.W PyProof.Rows
set_option maxRecDepth 100000 in
set_option maxHeartbeats 0 in
theorem K21.lf:∀w,(openEnds treeTable PySem.Challenge.pw_skylanes_k21_nearest w 6000).map (λs=>(openSeen K21.q [] (importedModules (PySem.Challenge.pw_skylanes_k21_nearest).main.body) (λs=>xlAt K21.q [] s&&recOk [] s) true s,K21.KA.map s.heap.get?))=some (openGood K21.q [],(K21.KK w.params).map λp=>some p.2):=by
 intro w;kernel_rfl
set_option maxRecDepth 100000 in
set_option maxHeartbeats 0 in
theorem PySem.Challenge.cw_skylanes_k21_nearest_holds : PySem.Challenge.rw_skylanes_k21_nearest.Holds := by
 w_on;o_law
 refine holds_open (q:=K21.q) (loose:= []) (Xt:=λs=>xlAt K21.q [] s&&recOk [] s) (XP:=XL K21.q []) (YP:=InK K21.KK) (N:=6000) K21.lf (InK.of (as:=K21.KA) λ_=>by kernel_rfl) InK.keeps (λs e=>xl_of s (Bool.and_eq_true_iff.mp e).1) XL.keeps (by rfl) (by rfl) (by rfl) (λs e=>recFacts_of (Bool.and_eq_true_iff.mp e).2) (by rfl) (by first | assumption|decide +kernel) (by decide +kernel) ⟨rfl,rfl,rfl,rfl,rfl,by decide +kernel⟩ ?hw ?hc
 (case hw=>w_witness2)
 case hc=>
 refine K21.walk (l:=PySem.Challenge.rw_skylanes_k21_nearest) (K:=K21.KK) rfl rfl (λw h Y=>Y) ?F
 intro w mg fa h KX G fg
 exact K21.all_mk KX G fg (K21.atK K21.m0 422 197 198) (K21.atK K21.m0 422 267 268) (K21.atK K21.m0 422 204 205) (K21.atK K21.m0 422 218 219) (K21.atK K21.m0 422 277 278) (K21.atK K21.m0 422 225 226) (K21.atK K21.m0 422 246 247) (K21.atK K21.m0 422 253 254) (K21.atK K21.m0 422 260 261) (K21.atK K21.m0 422 232 233) (K21.atK K21.m0 422 282 283) (K21.atK K21.m0 422 190 191) (K21.atK K21.m0 422 289 290) (K21.atK K21.m0 422 335 336) (K21.atK K21.m0 422 211 212) (K21.atK K21.m0 422 311 312) (K21.atK K21.m0 422 239 240) (K21.atK K21.m0 422 272 273) (K21.atK K21.m0 422 304 305) (K21.atK K21.m0 422 318 319) (K21.atK K21.m0 422 294 295) (K21.atK K21.m0 422 299 300) (K21.atK K21.m0 422 325 326) (K21.atK K21.m0 422 330 331) (K21.atK K21.m1 187 62 63) (K21.atK K21.m2 316 169 170) (K21.atK K21.m2 316 164 165) (K21.atK K21.m1 187 20 21) (K21.atK K21.m1 187 27 28) (K21.atK K21.m1 187 41 42) (K21.atK K21.m1 187 34 35) (K21.atK K21.m1 187 48 49) (K21.atK K21.m2 316 157 158) (K21.atK K21.m2 316 176 177) (K21.atK K21.m1 187 83 84) (K21.atK K21.m2 316 145 146) (K21.atK K21.m1 187 55 56) (K21.atK K21.m2 316 133 134) (K21.atK K21.m3 293 102 103) (K21.atK K21.m3 293 109 110) (K21.atK K21.m2 316 138 139) (K21.atK K21.m1 187 76 77) (K21.atK K21.m1 187 69 70) (K21.atK K21.m2 316 121 122) (K21.atK K21.m3 293 114 115) (K21.atK K21.m1 187 90 91) (K21.atK K21.m1 187 97 98) (K21.atK K21.m2 316 126 127) (K21.atK K21.m2 316 150 151) (K21.atK K21.m2 316 183 184) (K21.atK K21.m0 422 342 343) (by kernel_rfl) (by kernel_rfl) (by kernel_rfl) (by kernel_rfl) (by kernel_rfl) (by kernel_rfl) (by kernel_rfl) (by kernel_rfl) (by kernel_rfl) (by kernel_rfl) (by kernel_rfl) (by kernel_rfl) (by kernel_rfl)
end
