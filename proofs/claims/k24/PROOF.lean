import PyProof.Rows.All
import Wide.All
import OpenK.AllK
import Wide.FinOn
import PyProof.EqAt
import PyProof.EqKinds
import PyProof.TupleCall
import Lean
import PyProof.IsiTupleAll
import PySem.Challenge.RW_skylanes_k24_few_stretches
set_option Elab.async false
set_option linter.all false
set_option maxRecDepth 100000
set_option maxHeartbeats 4000000
section
namespace PySem
open Sem (wp)
abbrev FK:=(Int×Int)×Int
section
variable {prog:Program} {w:World}
def Hi (prog:Program) (w:World) (h:Heap) (k:FK) (a:Addr):Prop:=∃o items n b u,h.get? a=some o/\o.cls= .type "tuple" /\o.data= .seq items n/\items.toList= [.ref b, .int k.2 u] /\IsTupleKey (intKind prog w) h [k.1.1,k.1.2] b
theorem Hi.typeIs {s:Shared} {k:FK} {a:Addr} (x:Hi prog w s.heap k a):s.TypeIs (.ref a) "tuple" :=let ⟨o,_,_,_,_,ho,hc,_⟩:=x;⟨o,ho,hc⟩
theorem Hi.inj {h:Heap} {a:Addr} {x y:FK} (hx:Hi prog w h x a) (hy:Hi prog w h y a):x=y:=by
 obtain ⟨o,items,n,b,u,ho,_,hd,hi,hk⟩:=hx
 obtain ⟨o',items',n',b',u',XR,_,dX,WS,tI⟩:=hy
 obtain rfl:o=o':=Option.some.inj (ho.symm.trans XR)
 rw [hd] at dX
 injection dX with h1 _
 subst h1
 rw [hi] at WS
 injection WS with h1 h2
 injection h1 with h1
 subst h1
 injection h2 with h2 _
 injection h2 with h2 _
 have:=hk.inj tI
 obtain ⟨⟨x1,x2⟩,x3⟩:=x
 obtain ⟨⟨y1,y2⟩,y3⟩:=y
 injection this with e1 e2
 injection e2 with e2 _
 simp only at h2 e1 e2
 subst h2;subst e1;subst e2
 rfl
theorem Hi.keeps {h h':Heap} {k:FK} {a d:Addr} {o:Obj} {es ep} (x:Hi prog w h k a) (ho:h.get? d=some o) (hd:o.data= .dict es ep) (hs:Heap.SameBut d h h'):Hi prog w h' k a:=by
 obtain ⟨o',items,n,b,u,XR,hc,dX,hi,hk⟩:=x
 have VA:a≠d:=by
  rintro rfl
  obtain rfl:o'=o:=Option.some.inj (XR.symm.trans ho)
  rw [hd] at dX;exact nomatch dX
 exact ⟨o',items,n,b,u,(hs.2 a VA).trans XR,hc,dX,hi,hk.keeps ho hd hs⟩
def TU (prog:Program) (w:World) (k:FK):Int:=reduceHash (Builtin.Tuple.tupleHashOf [tupleKeyHash (intKind prog w) [k.1.1,k.1.2],hashInt k.2])
variable {A:Around} {E:Value->Shared->Prop} {s:Shared}
theorem Ld {k:FK} {a:Addr} {Q:Int->Shared->Prop} (hu:A.units+1<cLine) (hk:Hi prog w s.heap k a) (h:Q (TU prog w k) {s with toks:=s.toks+5}):
 wpAny (model prog w) A (pyHash (.ref a)) Q E s:=by
 have hT:=hk.typeIs
 obtain ⟨o,items,n,b,u,ho,_,hd,hi,bJ⟩:=hk
 unfold pyHash
 first | unfold pyHashByItsType|skip
 first | refine wpAny_bind (wpAny_cRoomFor_or (.inr (by omega)) ?_)|skip
 refine wpAny_bind (wpAny_specialOf hT F.slot_tuple_hash.lookup ?_)
 show wpAny _ _ (if (some (Value.builtin "tuple.__hash__")==some Value.none)=true then _ else _) Q E s
 rw [if_neg (by rw [beq_builtin_none];exact Bool.false_ne_true)]
 refine wpAny_bind (wpAny_specialOf hT F.slot_tuple_hash.lookup ?_)
 show wpAny _ _ (callSpecialIfBoundUnlessNone? (.ref a) "__hash__" _ >>= _) Q E s
 refine wpAny_bind (wpAny_callSpecialIfBoundUnlessNone?_slot hT F.slot_tuple_hash (wpAny_call_entry F.slot_tuple_hash hT F.entry_tuple_hash ?_ (F.args_tuple_hash_1 _)))
 show wpAny _ _ (Builtin.Tuple.tupleItemsOf (.ref a) >>= _) _ _ s
 refine wpAny_bind (wpAny_tupleItemsOf ho hd ?_)
 refine wpAny_bind ?_
 rw [<-Array.forIn_toList,hi]
 refine wpAny_forIn_list _
  (λrest (r:Array Int) s'=>(rest= [.ref b, .int k.2 u] /\r.toList= [] /\s'=s)\/(rest= [.int k.2 u] /\r.toList= [tupleKeyHash (intKind prog w) [k.1.1,k.1.2]] /\s'={s with toks:=s.toks+3})\/
    (rest= [] /\r.toList= [tupleKeyHash (intKind prog w) [k.1.1,k.1.2],hashInt k.2] /\s'={s with toks:=s.toks+4}))
  _ ?_ ?_ _ _ (.inl ⟨rfl,rfl,rfl⟩)
 ·rintro x rest r s' (⟨e1,e2,rfl⟩|⟨e1,e2,rfl⟩|⟨e1,_⟩)
  ·cases e1
   refine wpAny_bind (wpAny_pyHash_tuple (knd:=intKind prog w) (by first | exact hu|omega) bJ ?_)
   exact wpAny_pure (.inr (.inl ⟨rfl,by simp [e2],rfl⟩))
  ·cases e1
   refine wpAny_bind (wpAny_pyHash_int ?_)
   exact wpAny_pure (.inr (.inr ⟨rfl,by simp [e2],by simp [Nat.add_assoc]⟩))
  ·cases e1
 ·rintro r s' (⟨e1,_⟩|⟨e1,_⟩|⟨_,e2,rfl⟩)
  ·cases e1
  ·cases e1
  ·show wpAny _ _ (retInt (Builtin.Tuple.tupleHashOf r.toList)) _ _ _
   rw [e2]
   refine wpAny_ret_mkInt ?_
   show wpAny _ _ (if (decide (-(2:Int)^63<=Builtin.Tuple.tupleHashOf [tupleKeyHash (intKind prog w) [k.1.1,k.1.2],hashInt k.2])&&decide (Builtin.Tuple.tupleHashOf [tupleKeyHash (intKind prog w) [k.1.1,k.1.2],hashInt k.2] < 2^63))=true then _ else _) Q E _
   unfold TU reduceHash at h
   by_cases hr:(decide (-(2:Int)^63<=Builtin.Tuple.tupleHashOf [tupleKeyHash (intKind prog w) [k.1.1,k.1.2],hashInt k.2])&&decide (Builtin.Tuple.tupleHashOf [tupleKeyHash (intKind prog w) [k.1.1,k.1.2],hashInt k.2] < 2^63))=true
   ·rw [if_pos hr]
    rw [if_pos hr] at h
    exact wpAny_pure (by simpa [Nat.add_assoc] using h)
   ·rw [if_neg hr]
    rw [if_neg hr] at h
    exact wpAny_bind (wpAny_rule (wpAny_pure (by simpa [Nat.add_assoc] using h)))
theorem TV {x y:FK} {a b:Addr} {P:Fin->Shared->Prop} (hu:A.units<cLine) (hx:Hi prog w s.heap x a) (hy:Hi prog w s.heap y b) (h:P (.done (.ret (.bool (decide (x=y))))) s):
 wpAny (model prog w) A (Builtin.«tuple.__eq__» ⟨[.ref a, .ref b], []⟩) P E s:=by
 have so:=hy.typeIs
 obtain ⟨oa,xs,na,ba,ua,tW,_,tE,pj,tK⟩:=hx
 obtain ⟨ob,ys,nb,bb,ub,tX,_,hdb,pk,tL⟩:=hy
 have sx:xs.size=2:=by rw [<-Array.length_toList,pj];rfl
 have sy:ys.size=2:=by rw [<-Array.length_toList,pk];rfl
 obtain ⟨⟨x1,x2⟩,x3⟩:=x
 obtain ⟨⟨y1,y2⟩,y3⟩:=y
 show wpAny _ _ (isInstance (.ref b) (.type "tuple") >>= _) _ _ s
 refine wpAny_bind (wpAny_isInstance so isSubtype_tuple_tuple ?_)
 simp only [Bool.not_true,Bool.false_eq_true,if_false]
 refine wpAny_bind (wpAny_tupleItemsOf tW tE ?_)
 refine wpAny_bind (wpAny_tupleItemsOf tX hdb ?_)
 refine wpAny_bind ?_
 rw [pj,pk]
 refine wpAny_forIn_list _
  (λrest r s'=>r.1=none/\s'=s/\(rest= [(.ref ba, .ref bb),(.int x3 ua, .int y3 ub)] \/(rest= [(.int x3 ua, .int y3 ub)] /\x1=y1/\x2=y2)\/(rest= [] /\x1=y1/\x2=y2/\x3=y3)))
  _ ?_ ?_ _ _ ⟨rfl,rfl, .inl rfl⟩
 ·rintro ⟨u,v⟩ rest r s' ⟨hr,rfl,(hz|⟨hz,e1,e2⟩|⟨hz,_⟩)⟩
  ·cases hz
   refine wpAny_bind (wpAny_eqBool_tuple (knd:=intKind prog w) (by first | exact hu|omega) tK tL ?_)
   by_cases hk:x1=y1/\x2=y2
   ·rw [decide_eq_true (by rw [hk.1,hk.2])]
    simp only [Bool.not_true,Bool.false_eq_true,if_false]
    exact wpAny_pure ⟨rfl,rfl, .inr (.inl ⟨by first | trivial|rfl,hk⟩)⟩
   ·rw [decide_eq_false (by intro z;injection z with z1 z2;injection z2 with z2 _;exact hk ⟨z1,z2⟩)]
    simp only [Bool.not_false,if_true]
    have hf:decide ((((x1,x2),x3):FK)=((y1,y2),y3))=false:=by
     apply decide_eq_false
     intro z
     injection z with z1 z2
     injection z1 with z3 z4
     exact hk ⟨z3,z4⟩
    rw [hf] at h
    exact wpAny_bind (wpAny_pure (wpAny_pure (wpAny_pure h)))
  ·cases hz
   refine wpAny_bind (wpAny_eqBool_int ?_)
   by_cases hk:x3=y3
   ·rw [show (x3==y3)=true by simp [hk]]
    simp only [Bool.not_true,Bool.false_eq_true,if_false]
    exact wpAny_pure ⟨rfl,rfl, .inr (.inr ⟨by first | trivial|rfl,e1,e2,hk⟩)⟩
   ·rw [show (x3==y3)=false by simp [hk]]
    simp only [Bool.not_false,if_true]
    have hf:decide ((((x1,x2),x3):FK)=((y1,y2),y3))=false:=by
     apply decide_eq_false
     intro z
     injection z with z1 z2
     exact hk z2
    rw [hf] at h
    exact wpAny_bind (wpAny_pure (wpAny_pure (wpAny_pure h)))
  ·cases hz
 ·rintro ⟨r1,r2⟩ s' ⟨hr,rfl,(hz|⟨hz,_⟩|⟨_,e1,e2,e3⟩)⟩
  ·cases hz
  ·cases hz
  ·simp only at hr
   subst hr
   refine wpAny_pure ?_
   show P (.done (.ret (.bool (xs.size==ys.size)))) s'
   rw [sx,sy]
   rw [decide_eq_true (by rw [e1,e2,e3])] at h
   exact h
theorem Lc {x y:FK} {a b:Addr} {Q:Bool->Shared->Prop} (hu:A.units+1<cLine) (hx:Hi prog w s.heap x a) (hy:Hi prog w s.heap y b) (h:Q (decide (x=y)) s):
 wpAny (model prog w) A (eqBool (.ref a) (.ref b)) Q E s:=by
 unfold eqBool
 try with_reducible refine wpAny_holding ?_
 show wpAny _ _ (if (Value.ref a==Value.ref b)=true then _ else _) Q E s
 by_cases lQ:(Value.ref a==Value.ref b)=true
 ·rw [if_pos lQ]
  have e:a=b:=by have:=eq_of_beq lQ;injection this
  subst e
  obtain rfl:=hx.inj hy
  exact wpAny_bind (wpAny_rule (wpAny_pure (by simpa using h)))
 ·rw [if_neg lQ]
  exact wpAny_bind (wpAny_richCompare_same_room (op:= .Eq) hx.typeIs hy.typeIs F.slot_tuple_eq
   (wpAny_call_entry F.slot_tuple_eq hx.typeIs F.entry_tuple_eq (TV (by first | exact hu|omega) hx hy ⟨_,rfl,(λe=>nomatch e),wpAny_truthy_bool h⟩) (F.args_tuple_eq_2 _ _)) (by omega))
theorem F6 {K:Type} [DecidableEq K] {knd:KeyKind prog w K} {ks:List K} {a:Addr} {Q:Bool->Shared->Prop} (m:Nat) (hk:IsTupleKey knd s.heap ks a) (h:Q true s):wpAny (model prog w) A (eqIsQuiet (m+1) (.ref a)) Q E s:=by
 have hT:=hk.typeIs
 obtain ⟨o,items,n,ho,_,hd,hi⟩:=hk
 unfold eqIsQuiet
 refine wpAny_bind (wpAny_specialOf hT F.slot_tuple_eq.lookup ?_)
 show wpAny _ _ (isInstance (.ref a) (.type "tuple") >>= _) _ _ s
 refine wpAny_bind (wpAny_isInstance hT isSubtype_tuple_tuple ?_)
 simp only [Bool.not_true,Bool.false_eq_true,if_false]
 refine wpAny_bind (wpAny_seqItems ho hd ?_)
 refine wpAny_bind ?_
 show wpAny _ _ (forIn items _ _) _ _ s
 rw [<-Array.forIn_toList]
 refine wpAny_forIn_list _ (λrest r s'=>r.1=none/\s'=s/\∀v∈rest,carriedByValue v=true) _ ?_ ?_ _ _ ⟨rfl,rfl,hi.byValue⟩
 ·rintro v rest r s' ⟨hr,rfl,WR⟩
  rw [eqIsQuiet_byValue _ (WR v List.mem_cons_self)]
  refine wpAny_bind (wpAny_pure ?_)
  simp only [Bool.not_true,Bool.false_eq_true,if_false]
  exact wpAny_pure ⟨rfl,rfl,λu tz=>WR u (List.mem_cons_of_mem _ tz)⟩
 ·rintro ⟨r1,r2⟩ s' ⟨hr,rfl,_⟩
  simp only at hr
  subst hr
  exact wpAny_pure h
theorem IG {k:FK} {a:Addr} {Q:Bool->Shared->Prop} (hk:Hi prog w s.heap k a) (h:Q true s):wpAny (model prog w) A (eqIsQuiet 8 (.ref a)) Q E s:=by
 have hT:=hk.typeIs
 obtain ⟨o,items,n,b,u,ho,_,hd,hi,bJ⟩:=hk
 unfold eqIsQuiet
 refine wpAny_bind (wpAny_specialOf hT F.slot_tuple_eq.lookup ?_)
 show wpAny _ _ (isInstance (.ref a) (.type "tuple") >>= _) _ _ s
 refine wpAny_bind (wpAny_isInstance hT isSubtype_tuple_tuple ?_)
 simp only [Bool.not_true,Bool.false_eq_true,if_false]
 refine wpAny_bind (wpAny_seqItems ho hd ?_)
 refine wpAny_bind ?_
 show wpAny _ _ (forIn items _ _) _ _ s
 rw [<-Array.forIn_toList,hi]
 refine wpAny_forIn_list _ (λrest r s'=>r.1=none/\s'=s/\(rest= [.ref b, .int k.2 u] \/rest= [.int k.2 u] \/rest= [])) _ ?_ ?_ _ _ ⟨rfl,rfl, .inl rfl⟩
 ·rintro v rest r s' ⟨hr,rfl,(hz|hz|hz)⟩
  ·cases hz
   refine wpAny_bind (F6 (knd:=intKind prog w) 6 bJ ?_)
   simp only [Bool.not_true,Bool.false_eq_true,if_false]
   exact wpAny_pure ⟨rfl,rfl, .inr (.inl (by first | trivial|rfl))⟩
  ·cases hz
   rw [eqIsQuiet_byValue _ rfl]
   refine wpAny_bind (wpAny_pure ?_)
   simp only [Bool.not_true,Bool.false_eq_true,if_false]
   exact wpAny_pure ⟨rfl,rfl, .inr (.inr (by first | trivial|rfl))⟩
  ·cases hz
 ·rintro ⟨r1,r2⟩ s' ⟨hr,rfl,_⟩
  simp only at hr
  subst hr
  exact wpAny_pure h
end
def fkKind (prog:Program) (w:World):HeapKind prog w FK where
 is:=Hi prog w
 hash:=TU prog w
 draws:=λ_=>5
 room:=λA=>A.units+1<cLine
 inj:=λhx hy=>hx.inj hy
 keeps:=λx ho hd hs=>x.keeps ho hd hs
 pyHash:=λhu hk h=>Ld hu hk h
 eqBool:=λhu hx hy h=>Lc hu hx hy h
 quiet:=λhk h=>IG hk h
theorem Cy {prog:Program} {w:World} {A:Around} (h:A.units+2<cLine):(fkKind prog w).room A.in1:=by
 show A.units+1+1<cLine
 omega
end PySem
end
namespace L2
open PySem PySem.Spec PyProof.Rows
abbrev FE:=Sum Int Str
def dj:FE->Value->Bool
 | .inl k,v=>Value.isInt k v
 | .inr x,v=>Value.isStrOf x v
def nL (w:World):FE->Int
 | .inl k=>hashInt k
 | .inr x=>hashStr w x
theorem Bp:∀{k:FE} {v:Value},dj k v=true->(∃i t,k=Sum.inl i/\v=Value.int i t)\/(∃x t,k=Sum.inr x/\v=Value.str x t)
 | .inl i,v,h=>by
   obtain ⟨t,e⟩:=Value.isInt_shape (k:=i) (v:=v) h
   exact .inl ⟨i,t,rfl,e⟩
 | .inr x,v,h=>by
   obtain ⟨t,e⟩:=Value.isStrOf_shape (x:=x) (v:=v) h
   exact .inr ⟨x,t,rfl,e⟩
theorem ft (a b:Int):decide ((Sum.inl a:FE)=Sum.inl b)=(a==b):=by
 by_cases e:a=b
 ·subst e;simp
 ·have h:¬(Sum.inl a:FE)=Sum.inl b:=λq=>e (Sum.inl.inj q)
  rw [decide_eq_false h]
  exact (beq_eq_false_iff_ne.mpr e).symm
theorem fy (a b:Str):decide ((Sum.inr a:FE)=Sum.inr b)=decide (a=b):=by
 by_cases e:a=b
 ·subst e;simp
 ·have h:¬(Sum.inr a:FE)=Sum.inr b:=λq=>e (Sum.inr.inj q)
  rw [decide_eq_false h,decide_eq_false e]
theorem fu (a:Int) (b:Str):decide ((Sum.inl a:FE)=Sum.inr b)=false:=decide_eq_false (λq=>nomatch q)
theorem fx (a:Str) (b:Int):decide ((Sum.inr a:FE)=Sum.inl b)=false:=decide_eq_false (λq=>nomatch q)
def VJ (prog:Program) (w:World):PySem.KeyKind prog w FE where
 is:=dj
 hash:=nL w
 inj:=λv a b ha hb=>by
  rcases Bp ha with ⟨i,t,rfl,rfl⟩|⟨x,t,rfl,rfl⟩
  ·rcases Bp hb with ⟨j,u,rfl,e⟩|⟨y,u,rfl,e⟩
   ·injection e with e1 _;rw [e1]
   ·exact nomatch e
  ·rcases Bp hb with ⟨j,u,rfl,e⟩|⟨y,u,rfl,e⟩
   ·exact nomatch e
   ·injection e with e1 _;rw [e1]
 byValue:=λk v h=>by
  rcases Bp h with ⟨i,t,rfl,rfl⟩|⟨x,t,rfl,rfl⟩ <;> rfl
 pyHash:=λhv h=>by
  rcases Bp hv with ⟨i,t,rfl,rfl⟩|⟨x,t,rfl,rfl⟩
  ·exact wpAny_pyHash_int h
  ·exact wpAny_pyHash_str h
 eqBool:=λhu hv h=>by
  rcases Bp hu with ⟨i,t,rfl,rfl⟩|⟨x,t,rfl,rfl⟩
  ·rcases Bp hv with ⟨j,u,rfl,rfl⟩|⟨y,u,rfl,rfl⟩
   ·rw [ft] at h;exact wpAny_eqBool_int h
   ·rw [fu] at h;exact SeqAt.EqAt.int_str i t y u _ _ _ _ h
  ·rcases Bp hv with ⟨j,u,rfl,rfl⟩|⟨y,u,rfl,rfl⟩
   ·rw [fx] at h;exact SeqAt.EqAt.str_int x t j u _ _ _ _ h
   ·rw [fy] at h;exact wpAny_eqBool_str h
 «strs»:=λk x t v h=>by
  rcases Bp h with ⟨i,u,rfl,e⟩|⟨y,u,rfl,e⟩
  ·exact nomatch e
  ·injection e with e1 _
   subst e1
   cases v <;> rfl
end L2
namespace L2
open PySem PySem.Spec PyProof.Rows
inductive V where
 | non|bl (b:Bool)|int (i:Int)|str (x:Str)|byt (b:Array UInt8)|flt (b:UInt64)|ref (a:Addr)|ty (n:String)
 deriving DecidableEq
def RelV:V->Value->Prop
 | .non,u=>u=Value.none
 | .bl b,u=>u=Value.bool b
 | .int i,u=>∃t,u=Value.int i t
 | .str x,u=>∃t,u=Value.str x t
 | .byt b,u=>∃t,u=Value.bytes b t
 | .flt b,u=>∃t,u=Value.float b t
 | .ref a,u=>u=Value.ref a
 | .ty n,u=>u=Value.type n
abbrev Ar:List V->List Value->Prop:=Paired RelV
theorem Ar.length {xs:List V} {us:List Value} (r:Ar xs us):xs.length=us.length:=Paired.length r
theorem Ar.get:∀{xs:List V} {us:List Value} {i:Nat} {x:V},Ar xs us->xs[i]? =some x->∃u,us[i]? =some u/\RelV x u
 | _,_,_,_, .nil,e=>by simp at e
 | _,_,0,_, .cons r _,e=>by simp at e;subst e;exact ⟨_,rfl,r⟩
 | _,_,i+1,x, .cons _ t,e=>by
   obtain ⟨u,h1,h2⟩:=Ar.get (i:=i) (x:=x) t (by simpa using e)
   exact ⟨u,by simpa using h1,h2⟩
theorem Ar.set {x:V} {u:Value} (r:RelV x u):∀{xs:List V} {us:List Value} (i:Nat),Ar xs us->Ar (xs.set i x) (us.set i u)
 | _,_,_, .nil=> .nil
 | _,_,0, .cons _ t=> .cons r t
 | _,_,i+1, .cons q t=> .cons q (Ar.set r i t)
theorem Ar.append:∀{xs ys:List V} {us ws:List Value},Ar xs us->Ar ys ws->Ar (xs++ys) (us++ws)
 | _,_,_,_, .nil,s=>s
 | _,_,_,_, .cons r t,s=> .cons r (Ar.append t s)
theorem Ar.take:∀{xs:List V} {us:List Value} (n:Nat),Ar xs us->Ar (xs.take n) (us.take n)
 | _,_,0,_=> .nil
 | _,_,_+1, .nil=> .nil
 | _,_,n+1, .cons r t=> .cons r (Ar.take n t)
theorem Ar.drop:∀{xs:List V} {us:List Value} (n:Nat),Ar xs us->Ar (xs.drop n) (us.drop n)
 | _,_,0,r=>r
 | _,_,_+1, .nil=> .nil
 | _,_,n+1, .cons _ t=>Ar.drop n t
theorem Ar.none_of:∀{xs:List V} {us:List Value} {i:Nat},Ar xs us->xs[i]? =none->us[i]? =none:=λ{xs us i} r e=>by
 have h1:=r.length
 have h2:xs.length<=i:=List.getElem?_eq_none_iff.mp e
 exact List.getElem?_eq_none_iff.mpr (by omega)
def Ia:Option V->Option Value->Prop
 | some v,some u=>RelV v u
 | none,none=>True
 | _,_=>False
def KV {κ:Type}:List (κ×V)->List (κ×Value)->Prop:=Paired λ(p:κ×V) (q:κ×Value)=>p.1=q.1/\RelV p.2 q.2
def kV:FE->V
 | .inl i=> .int i
 | .inr x=> .str x
inductive HO where
 | lst (xs:List V)
 | tup (xs:List V)
 | dK (kvs:List (FE×V))|dT (kvs:List (List FE×V))|dN (K:PySem.W.Frag) (kvs:List (PySem.FK×V))
 | set (S:Int->Bool) (n:Nat)
 | ins (C dx:Addr) (fs:List (Str×V))
 | own (x:Addr)
 | xd (fs:List (Str×V))
 | met (f x:Addr)
 | rng (lo hi:Int)
 | frz (o:Obj) (u:HO)
 | tbl (ps:Array Value)
 | ext (φ:Heap->Prop)
abbrev Hp:=Addr->Option HO
def upd (H:Hp) (a:Addr) (o:HO):Hp:=λb=>if b=a then some o else H b
theorem Ah {H:Hp} {a:Addr} {o:HO}:upd H a o a=some o:=by unfold upd;rw [if_pos rfl]
theorem Ag {H:Hp} {a b:Addr} {o:HO} (h:b≠a):upd H a o b=H b:=by unfold upd;rw [if_neg h]
theorem jt {H:Hp} {a b:Addr} {o u:HO} (h:H a=some o) (h':H b=some u) (d:o≠u):a≠b:=by
 intro e;subst e;rw [h] at h';exact d (Option.some.inj h')
theorem Ao {H:Hp} {a b:Addr} {o:HO} (h:H a=some o) (h':H b=none):a≠b:=by
 intro e;subst e;rw [h] at h';cases h'
def Xu (K:PySem.W.Frag) (H:Hp) (b:Addr) (t d:Int):Prop:=H b=some (.tup [.int t, .int d])\/∃(o:Obj) (its:Array Value) (n:Nat),K.lookup b=some o/\o.cls= .type "tuple" /\o.data= .seq its n/\Ar [.int t, .int d] its.toList
def Fi (K:PySem.W.Frag) (H:Hp) (a:Addr) (k:PySem.FK):Prop:=∃b,H a=some (.tup [.ref b, .int k.2])/\Xu K H b k.1.1 k.1.2
theorem Fi.stay {K:PySem.W.Frag} {H H':Hp} {a:Addr} {k:PySem.FK} (x:Fi K H a k) (ht:∀b xs,H b=some (.tup xs)->H' b=some (.tup xs)):Fi K H' a k:=let ⟨b,h1,h2⟩:=x;⟨b,ht _ _ h1,h2.elim (λz=> .inl (ht _ _ z)) .inr⟩
section
variable (P:Program) (w:World)
def Cp (H:Hp) (h:Heap) (a:Addr):HO->Prop
 | .lst xs=>xs.length<=sizeLine/\∃(its:List Value) (n:Nat),Ar xs its/\h.get? a=some {cls:= .type "list",data:= .seq its.toArray n}
 | .tup xs=>xs.length<=sizeLine/\∃its:List Value,Ar xs its/\IsTup h a its.toArray
 | .dK kvs=>kvs.length<=sizeLine/\(a==sysModules)=false/\∃vs,KV kvs vs/\h.DictOf (VJ P w) a vs
 | .dT kvs=>kvs.length<=sizeLine/\(a==sysModules)=false/\∃xs:List (List FE×Addr×Value),
     Paired (λ(p:List FE×V) (q:List FE×Addr×Value)=>p.1=q.1/\H q.2.1=some (.tup (p.1.map kV))/\RelV p.2 q.2.2) kvs xs/\
     ∃o es ep,h.get? a=some o/\o.ExactDict/\o.data= .dict es ep/\es.toList=xs.map (entryOfKey (tupleKind (VJ P w)))/\(xs.map (·.1)).Nodup
 | .dN K kvs=>kvs.length<=sizeLine/\(a==sysModules)=false/\∃xs:List (PySem.FK×Addr×Value),Paired (λ(p:PySem.FK×V) (q:PySem.FK×Addr×Value)=>p.1=q.1/\Fi K H q.2.1 p.1/\RelV p.2 q.2.2) kvs xs/\∃o es ep,h.get? a=some o/\o.ExactDict/\o.data= .dict es ep/\es.toList=xs.map (entryOfKey (PySem.fkKind P w))/\(xs.map (·.1)).Nodup
 | .set S n=>h.SetOf (intKind P w) a S n
 | .ins C dx fs=>H dx=some (.own a)/\fs.length<=1000/\dx≠a/\h.get? a=some (PySem.W.instObj C dx)/\
     ∃mA,h.Ns1 dx mA/\(∀f,Ia (fs.lookup f) (mA f))/\PySem.Within mA (fs.map (·.1))
 | .own _=>∃o,h.get? a=some o
 | .xd fs=>∃mA,h.Ns1 a mA/\∀f,Ia (fs.lookup f) (mA f)
 | .rng lo hi=>∃t u v,h.get? a=some {cls:= .type "range",data:= .fields #[.int lo t, .int hi u, .int 1 v] }
 | .frz o u=>h.get? a=some o/\Cp H h a u
 | .tbl ps=>h.get? a=some {cls:= .none,data:= .fields ps}
 | .met f x=>h.get? a=some (PySem.W.methodObj (.ref f) (.ref x))
 | .ext φ=>φ h/\(∃o,h.get? a=some o)/\∀h1 h2:Heap,φ h1->(∀o,h1.get? a=some o->h2.get? a=some o)->φ h2
def LN (H:Hp) (h:Heap):Prop:=∀a o,H a=some o->Cp P w H h a o
end
section
variable {P:Program} {w:World} {H H':Hp} {h h':Heap} {a:Addr} {o:HO}
theorem Cp.lt (x:Cp P w H h a o):a<h.objs.size:=by
 cases o with
 | lst xs=>obtain ⟨_,_,_,_,e⟩:=x;exact Heap.lt_size e
 | tup xs=>obtain ⟨_,_,_,p⟩:=x;exact p.lt
 | dK kvs=>obtain ⟨_,_,_,_,o,_,_,e,_⟩:=x;exact Heap.lt_size e
 | dT kvs=>obtain ⟨_,_,_,_,o,_,_,e,_⟩:=x;exact Heap.lt_size e
 | dN K kvs=>obtain ⟨_,_,_,_,o,_,_,e,_⟩:=x;exact Heap.lt_size e
 | set S n=>obtain ⟨o,_,_,_,e,_⟩:=x;exact Heap.lt_size e
 | ins C dx fs=>obtain ⟨_,_,_,e,_⟩:=x;exact Heap.lt_size e
 | own y=>obtain ⟨_,e⟩:=x;exact Heap.lt_size e
 | xd fs=>obtain ⟨_,⟨_,_,_,e,_⟩,_⟩:=x;exact Heap.lt_size e
 | rng lo hi=>obtain ⟨_,_,_,e⟩:=x;exact Heap.lt_size e
 | frz ob u=>obtain ⟨e,_⟩:=x;exact Heap.lt_size e
 | tbl ps=>exact Heap.lt_size (show h.get? a=some _ from x)
 | met f y=>exact Heap.lt_size (show h.get? a=some _ from x)
 | ext φ=>obtain ⟨_,⟨_,e⟩,_⟩:=x;exact Heap.lt_size e
theorem Paired.mapP {α β:Type} {F G:α->β->Prop}:∀{l₁:List α} {l₂:List β},Paired F l₁ l₂->(∀a b,F a b->G a b)->Paired G l₁ l₂
 | _,_, .nil,_=> .nil
 | _,_, .cons r t,f=> .cons (f _ _ r) (Paired.mapP t f)
theorem Cp.stay (x:Cp P w H h a o) (k:∀b u,(b=a\/H b=some (.own a))->h.get? b=some u->h'.get? b=some u)
 (ho:∀b,H b=some (.own a)->H' b=some (.own a)) (ht:∀b xs,H b=some (.tup xs)->H' b=some (.tup xs)):Cp P w H' h' a o:=by
 induction o with
 | lst xs=>obtain ⟨z,its,n,r,e⟩:=x;exact ⟨z,its,n,r,k _ _ (.inl rfl) e⟩
 | tup xs=>obtain ⟨z,its,r,ob,e,c⟩:=x;exact ⟨z,its,r,ob,k _ _ (.inl rfl) e,c⟩
 | dK kvs=>obtain ⟨z,y,vs,r,ob,es,ep,e,c⟩:=x;exact ⟨z,y,vs,r,ob,es,ep,k _ _ (.inl rfl) e,c⟩
 | dT kvs=>
   obtain ⟨z,y,xs,r,ob,es,ep,e,c⟩:=x
   exact ⟨z,y,xs,Paired.mapP r λp q z=>⟨z.1,ht _ _ z.2.1,z.2.2⟩,ob,es,ep,k _ _ (.inl rfl) e,c⟩
 | dN K kvs=>
   obtain ⟨z,y,xs,r,ob,es,ep,e,c⟩:=x
   exact ⟨z,y,xs,Paired.mapP r λp q z=>⟨z.1,z.2.1.stay ht,z.2.2⟩,ob,es,ep,k _ _ (.inl rfl) e,c⟩
 | set S n=>obtain ⟨ob,es,ep,t,e,c⟩:=x;exact ⟨ob,es,ep,t,k _ _ (.inl rfl) e,c⟩
 | ins C dx fs=>
   obtain ⟨d,z,ne,e,mA,⟨od,es,ep,e2,c⟩,r⟩:=x
   exact ⟨ho _ d,z,ne,k _ _ (.inl rfl) e,mA,⟨od,es,ep,k _ _ (.inr d) e2,c⟩,r⟩
 | own y=>obtain ⟨ob,e⟩:=x;exact ⟨ob,k _ _ (.inl rfl) e⟩
 | xd fs=>obtain ⟨mA,⟨od,es,ep,e,c⟩,r⟩:=x;exact ⟨mA,⟨od,es,ep,k _ _ (.inl rfl) e,c⟩,r⟩
 | rng lo hi=>obtain ⟨t,u,v,e⟩:=x;exact ⟨t,u,v,k _ _ (.inl rfl) e⟩
 | frz ob u ih=>obtain ⟨e,q⟩:=x;exact ⟨k _ _ (.inl rfl) e,ih q⟩
 | tbl ps=>
   have e:h.get? a=some {cls:= .none,data:= .fields ps}:=x
   show h'.get? a=some {cls:= .none,data:= .fields ps}
   exact k a _ (.inl rfl) e
 | met f y=>
   have e:h.get? a=some (PySem.W.methodObj (.ref f) (.ref y)):=x
   show h'.get? a=some (PySem.W.methodObj (.ref f) (.ref y))
   exact k a _ (.inl rfl) e
 | ext φ=>obtain ⟨p,⟨o,e⟩,st⟩:=x;exact ⟨st _ _ p λo q=>k _ _ (.inl rfl) q,⟨o,k _ _ (.inl rfl) e⟩,st⟩
theorem LN.lt (x:LN P w H h) (e:H a=some o):a<h.objs.size:=(x a o e).lt
theorem LN.fresh (x:LN P w H h) (e:h.objs.size<=a):H a=none:=by
 cases q:H a with
 | none=>rfl
 | some u=>exact absurd (Nat.lt_of_lt_of_le (x.lt q) e) (Nat.lt_irrefl _)
theorem LN.kept (x:LN P w H h) (k:∀b u,h.get? b=some u->h'.get? b=some u):LN P w H h':=λa o e=>
 (x a o e).stay (λb u _ q=>k b u q) (λ_ q=>q) λ_ _ q=>q
theorem LN.laid (x:LN P w H h) (k:∀b u,h.get? b=some u->h'.get? b=some u) (hp:h.objs.size<=a) (new:Cp P w (upd H a o) h' a o):LN P w (upd H a o) h':=λb u e=>by
 have hn:=x.fresh hp
 by_cases hb:b=a
 ·subst hb;rw [Ah] at e;cases e;exact new
 ·rw [Ag hb] at e
  exact (x b u e).stay (λc v _ q=>k c v q) (λc q=>by rw [Ag (Ao q hn)];exact q) λc xs q=>by rw [Ag (Ao q hn)];exact q
end
def Rd (H:Hp) (a:Addr) (u:HO):Prop:=H a=some u\/∃o,H a=some (.frz o u)
theorem Rd.of {H:Hp} {a:Addr} {u:HO} (h:H a=some u):Rd H a u:= .inl h
theorem Rd.ok {P:Program} {w:World} {H:Hp} {h:Heap} {a:Addr} {u:HO} (r:Rd H a u) (x:LN P w H h):Cp P w H h a u:=by
 rcases r with r|⟨o,r⟩
 ·exact x a u r
 ·obtain ⟨_,q⟩:=x a _ r
  exact q
def jD:Option HO->Prop
 | some (.lst _)=>True
 | some (.dK _)=>True
 | some (.dT _)=>True
 | some (.dN _ _)=>True
 | some (.set _ _)=>True
 | some (.ins _ _ _)=>True
 | some (.ext _)=>True
 | _=>False
section
variable {P:Program} {w:World} {H:Hp} {h h':Heap} {x e:Addr} {o':HO}
theorem LN.write (ok:LN P w H h) (mu:jD (H x)) (he:e=x\/H e=some (.own x)) (k:∀b u,b≠e->h.get? b=some u->h'.get? b=some u) (iU:∃u,h'.get? e=some u)
 (new:Cp P w (upd H x o') h' x o'):LN P w (upd H x o') h':=λb u q=>by
 have nown:∀c y,H c=some (.own y)->c≠x:=λc y r z=>by subst z;rw [r] at mu;exact mu
 have ntup:∀c xs,H c=some (.tup xs)->c≠x:=λc xs r z=>by subst z;rw [r] at mu;exact mu
 by_cases hb:b=x
 ·subst hb;rw [Ah] at q;cases q;exact new
 ·rw [Ag hb] at q
  by_cases Ob:b=e
  ·have q':H b=some (.own x):=by
    rcases he with z|z
    ·exact absurd (Ob.trans z) hb
    ·rw [Ob];exact z
   rw [q] at q';cases q'
   obtain ⟨v,hv⟩:=iU
   exact ⟨v,by rw [Ob];exact hv⟩
  ·refine (ok b u q).stay (λc v hc r=>k c v ?_ r) (λc r=>by rw [Ag (nown c b r)];exact r) λc xs r=>by rw [Ag (ntup c xs r)];exact r
   rcases hc with rfl|hc
   ·exact Ob
   ·rintro rfl
    rcases he with z|z
    ·exact nown c b hc z
    ·rw [hc] at z;cases z;exact hb rfl
end
structure Un (fs ex:List Addr) (H H':Hp) (h h':Heap):Prop where
 keep:∀b o,h.get? b=some o->H b=none->b ∉ fs->b ∉ ex->h'.get? b=some o
 slot:∀b o,h.get? b=some o->H b=none->b∈fs->b ∉ ex->∃sl,h'.get? b=some {o with slots:=sl}
 free:∀b o,h.get? b=some o->H b=none->b ∉ ex->H' b=none
 there:∀b o,h.get? b=some o->b ∉ ex->∃o',h'.get? b=some o'
 tups:∀b xs,H b=some (.tup xs)->H' b=some (.tup xs)
 frzs:∀b o u,H b=some (.frz o u)->H' b=some (.frz o u)
 tbls:∀b ps,H b=some (.tbl ps)->∃more,H' b=some (.tbl (ps++more))
section
variable {fs fs' ex ex':List Addr} {H H1 H2:Hp} {h h1 h2 h':Heap} {a x e:Addr} {o:HO}
theorem Un.any (u:Un fs ex H H1 h h1) {b:Addr} {ob:Obj} (q:h.get? b=some ob) (n:H b=none) (hx:b ∉ ex):∃sl,h1.get? b=some {ob with slots:=sl}:=by
 by_cases hb:b∈fs
 ·exact u.slot b ob q n hb hx
 ·exact ⟨ob.slots,u.keep b ob q n hb hx⟩
theorem Un.trans (a:Un fs ex H H1 h h1) (b:Un fs ex H1 H2 h1 h2):Un fs ex H H2 h h2 where
 keep:=λc ob q n hc hx=>b.keep c ob (a.keep c ob q n hc hx) (a.free c ob q n hx) hc hx
 slot:=λc ob q n hc hx=>by
  obtain ⟨sl,e1⟩:=a.slot c ob q n hc hx
  obtain ⟨sl',e2⟩:=b.slot c _ e1 (a.free c ob q n hx) hc hx
  exact ⟨sl',e2⟩
 free:=λc ob q n hx=>by
  obtain ⟨o',e1⟩:=a.there c ob q hx
  exact b.free c o' e1 (a.free c ob q n hx) hx
 there:=λc ob q hx=>by
  obtain ⟨o',e1⟩:=a.there c ob q hx
  exact b.there c o' e1 hx
 tups:=λc xs q=>b.tups c xs (a.tups c xs q)
 frzs:=λc ob xs q=>b.frzs c ob xs (a.frzs c ob xs q)
 tbls:=λc ps q=>by
  obtain ⟨m1,e1⟩:=a.tbls c ps q
  obtain ⟨m2,e2⟩:=b.tbls c _ e1
  exact ⟨m1++m2,by rw [e2,Array.append_assoc]⟩
theorem Un.kept (k:∀b u,h.get? b=some u->h'.get? b=some u):Un fs ex H H h h':=
 ⟨λb ob q _ _ _=>k b ob q,λb ob q _ _ _=>⟨ob.slots,k b ob q⟩,λ_ _ _ n _=>n,λb ob q _=>⟨ob,k b ob q⟩,λ_ _ q=>q,λ_ _ _ q=>q,λ_ ps q=>⟨#[],by rw [q];simp⟩⟩
theorem Un.refl:Un fs ex H H h h:=Un.kept λ_ _ q=>q
theorem Un.laid (k:∀b u,h.get? b=some u->h'.get? b=some u) (hp:h.objs.size<=a) (hn:H a=none):Un fs ex H (upd H a o) h h' where
 keep:=λb u q _ _ _=>k b u q
 slot:=λb u q _ _ _=>⟨u.slots,k b u q⟩
 free:=λb u q n _=>by rw [Ag (Nat.ne_of_lt (Nat.lt_of_lt_of_le (Heap.lt_size q) hp))];exact n
 there:=λb u q _=>⟨u,k b u q⟩
 tups:=λb xs q=>by rw [Ag (Ao q hn)];exact q
 frzs:=λb u xs q=>by rw [Ag (Ao q hn)];exact q
 tbls:=λb ps q=>⟨#[],by rw [Ag (Ao q hn),q];simp⟩
theorem Un.write (mu:jD (H x)) (he:e=x\/H e=some (.own x)) (k:∀b u,b≠e->h.get? b=some u->h'.get? b=some u) (iU:∃u,h'.get? e=some u):Un fs ex H (upd H x o) h h':=by
 have hx:∀b,H b=none->b≠x:=λb n z=>by subst z;rw [n] at mu;exact mu
 have hb:∀b,H b=none->b≠e:=λb n z=>by
  subst z
  rcases he with r|r
  ·exact hx b n r
  ·rw [n] at r;cases r
 have hm:∀b u,H b=some u->¬jD (some u)->b≠x:=λb u q nm z=>by subst z;rw [q] at mu;exact nm mu
 refine ⟨λb u q n _ _=>k b u (hb b n) q,λb u q n _ _=>⟨u.slots,k b u (hb b n) q⟩,λb u q n _=>by rw [Ag (hx b n)];exact n,λb u q _=> ?_,
  λb xs q=>by rw [Ag (hm b _ q λz=>z)];exact q,λb u xs q=>by rw [Ag (hm b _ q λz=>z)];exact q,λb ps q=>⟨#[],by rw [Ag (hm b _ q λz=>z),q];simp⟩⟩
 by_cases Ob:b=e
 ·subst Ob;exact iU
 ·exact ⟨u,k b u Ob q⟩
theorem Un.mono (u:Un fs ex H H1 h h1) (hs:∀b∈fs,b∈fs') (hx:∀b∈ex,b∈ex'):Un fs' ex' H H1 h h1:=
 ⟨λb ob q n hb he=>u.keep b ob q n (λz=>hb (hs b z)) λz=>he (hx b z),λ_ _ q n _ he=>u.any q n λz=>he (hx _ z),λb ob q n he=>u.free b ob q n λz=>he (hx b z),λb ob q he=>u.there b ob q λz=>he (hx b z),u.tups,u.frzs,u.tbls⟩
end
def lb (h:Heap) (H:Hp):List Addr:=(List.range h.objs.size).filter λa=>(H a).isSome
def Pp (h:Heap) (H:Hp):Heap:=PySem.W.hideAll h (lb h H)
theorem WT (h:Heap) (H:Hp):(Pp h H).objs.size=h.objs.size:=PySem.W.hideAll_size _ _
theorem YV {h:Heap} {H:Hp} {b:Addr} {o:Obj} (e:h.get? b=some o) (n:H b=none):(Pp h H).get? b=some o:=
 PySem.W.hideAll_get _ e λhm=>by
  have q:(H b).isSome=true:=(List.mem_filter.mp hm).2
  rw [n] at q;simp at q
theorem bj {h:Heap} {H:Hp} {b:Addr} {o:Obj} (e:(Pp h H).get? b=some o):h.get? b=some o/\H b=none:=by
 have e':h.get? b=some o:=PySem.W.of_hideAll (lb h H) e
 refine ⟨e', ?_⟩
 cases q:H b with
 | none=>rfl
 | some x=>
   have hm:b∈lb h H:=List.mem_filter.mpr ⟨List.mem_range.mpr (Heap.lt_size e'),by simp [q]⟩
   have z:(Pp h H).get? b=none:=PySem.W.hideAll_none (lb h H) hm
   rw [z] at e;cases e
def aZ (g h:Heap) (L:Addr):List (Addr×Obj):=(List.range h.objs.size).filterMap λa=>if a=L\/(g.get? a).isSome=true then none else (h.get? a).map λo=>(a,o)
def rest (g h:Heap) (L d:Addr):List (Addr×Obj):=(aZ g h L).filter λp=>decide (p.1≠d)
end L2
namespace L2
open PySem PySem.Spec PyProof.Rows
structure Mod (K:PySem.W.Frag) (mg:Str->Option Value) (base:Heap):Prop where
 kin:K.In base
 glob:base.Ns mainGlobals mg
 blt:∃mb,base.Ns builtinsNs mb/\∀x:Str,x≠"__name__" ->mb x=bootBuiltins x
 nolimit:base.NoLimit
structure Cx where
 prog:Program
 w:World
 K:PySem.W.Frag
 mg:Str->Option Value
 base:Heap
 A:Around
 N:List Str
 s₀:Shared
 H₀:Hp
 env:Env
 outer:List Env
 stack:List Env
 ex:List Addr
 fn:Str->Bool
 calm:Bool
 pn:List (Addr×Obj)
 xe:Value->Shared->Prop
def XQ (l:List Env):List Addr:=l.filterMap (·.frame)
abbrev Cx.fs (X:Cx):List Addr:=XQ X.outer
def e8 (sc:Scope) (x:Str):Prop:=sc.names.lookup x=some .local\/sc.names.lookup x=some .cell\/sc.names.lookup x=some .free
def Loc (sc:Scope) (x:Str):Prop:=sc.names.lookup x=some .local\/sc.names.lookup x=some .cell
def Look (env:Env) (h:Heap) (m:Str->Option Value) (x:Str) (u:Value):Prop:=
 (env.kindOf x=some .local/\m x=some u)\/((env.kindOf x=some .cell\/env.kindOf x=some .free)/\∃c,env.cells.lookup x=some c/\h.IsCell c (some u))
structure Cx.Ok (X:Cx):Prop where
 mod:Mod X.K X.mg X.base
 kind:X.env.scope.kind= .function
 glob:X.env.globals=mainGlobals
 blt:X.env.builtins=builtinsNs
 above:X.s₀.heap.objs.size<=X.env.locals
 inj:∀x y c,X.env.cells.lookup x=some c->X.env.cells.lookup y=some c->x=y
 has:∀x,(X.env.kindOf x=some .cell\/X.env.kindOf x=some .free)->∃c,X.env.cells.lookup x=some c
 cab:∀x c,X.fn x=true->X.env.cells.lookup x=some c->X.s₀.heap.objs.size<=c
 hd:X.calm=true->X.A.handled=none
 frames:X.A.frames=some X.stack
 stk:X.stack=X.outer\/(X.stack=X.env::X.outer/\X.env.frame=some X.env.locals)
 exf:∀b∈X.ex,b≠X.env.locals/\∀x c,X.env.cells.lookup x=some c->c≠b
 bs:∀b o,X.base.get? b=some o->X.s₀.heap.get? b=some o/\X.H₀ b=none
 bsz:X.base.objs.size<=X.s₀.heap.objs.size
 noex:∀b o,X.base.get? b=some o->b ∉ X.ex
 exfs:∀b∈X.ex,b ∉ X.fs
 funs:X.s₀.heap.FunFrames X.base X.outer
 frf:∀b∈X.fs,X.H₀ b=none
structure Inv (X:Cx) (pins:List (Addr×Obj)) (σ:List (Option V)) (H:Hp) (s:Shared):Prop where
 ok:X.Ok
 os:s.os=X.s₀.os
 bare:AllBare s.gens
 base:Un X.fs X.ex X.H₀ H X.s₀.heap s.heap
 loc:∃m,s.heap.Ns X.env.locals m/\∀(i:Nat) (x:Str) (v:V),X.N[i]? =some x->σ[i]? =some (some v)->e8 X.env.scope x->∃u,RelV v u/\Look X.env s.heap m x u
 cell:∀x c,X.env.cells.lookup x=some c->∃v,s.heap.IsCell c v
 free:H X.env.locals=none
 freeC:∀x c,X.env.cells.lookup x=some c->H c=none
 pin:∀p∈X.pn++pins,s.heap.get? p.1=some p.2/\H p.1=none/\p.1≠X.env.locals/\p.1 ∉ X.fs/\∀v,p.2.data≠ .cell v
 hok:LN X.prog X.w H s.heap
 len:σ.length=X.N.length
section
variable {X:Cx} {pins:List (Addr×Obj)} {σ:List (Option V)} {H H':Hp} {s:Shared} {h':Heap}
theorem Cx.Ok.nofr (ok:X.Ok) {b:Addr} {o:Obj} (e:X.base.get? b=some o):b ∉ X.fs:=λhb=>by
 have:=(ok.funs.mem hb).1
 rw [e] at this;cases this
theorem Inv.bs (I:Inv X pins σ H s):∀b o,X.base.get? b=some o->s.heap.get? b=some o/\H b=none:=λb o e=>
 ⟨I.base.keep b o (I.ok.bs b o e).1 (I.ok.bs b o e).2 (I.ok.nofr e) (I.ok.noex b o e),I.base.free b o (I.ok.bs b o e).1 (I.ok.bs b o e).2 (I.ok.noex b o e)⟩
theorem Inv.bk (I:Inv X pins σ H s):∀b o,X.base.get? b=some o->s.heap.get? b=some o:=λb o e=>(I.bs b o e).1
theorem Inv.mod (I:Inv X pins σ H s):Mod X.K X.mg X.base:=I.ok.mod
theorem Inv.kIn (I:Inv X pins σ H s):X.K.In s.heap:=I.ok.mod.kin.keeps I.bk
theorem Inv.nolimit (I:Inv X pins σ H s):s.heap.NoLimit:=I.ok.mod.nolimit.keeps I.bk
theorem Inv.fr (I:Inv X pins σ H s):∃m,Fr X.base X.env.locals s.heap m:=
 let ⟨m,hn,_⟩:=I.loc
 ⟨m,hn,I.bk,Nat.le_trans I.ok.bsz I.ok.above⟩
theorem Inv.lt (I:Inv X pins σ H s):X.env.locals<s.heap.objs.size:=let ⟨_,hn,_⟩:=I.loc;hn.lt
theorem Inv.sz (I:Inv X pins σ H s):X.s₀.heap.objs.size<=s.heap.objs.size:=Nat.le_trans I.ok.above (Nat.le_of_lt I.lt)
theorem Inv.nofs (I:Inv X pins σ H s) {a:Addr} (h:s.heap.objs.size<=a):a ∉ X.fs:=λhb=>by
 obtain ⟨_,o,ho,_⟩:=I.ok.funs.mem hb
 exact absurd (Nat.lt_of_lt_of_le (Heap.lt_size ho) (Nat.le_trans I.sz h)) (Nat.lt_irrefl _)
theorem Inv.cne (I:Inv X pins σ H s):∀x c,X.env.cells.lookup x=some c->c≠X.env.locals:=λx c e z=>by
 obtain ⟨v,o,ho,hd⟩:=I.cell x c e
 obtain ⟨m,⟨o',es,ep,XR,dX,_⟩,_⟩:=I.loc
 rw [z,XR] at ho;cases ho;rw [dX] at hd;cases hd
theorem Inv.funs (I:Inv X pins σ H s):s.heap.FunFrames X.base X.outer:=by
 have all:∀(l:List Env),(∀b∈XQ l,b∈X.fs)->X.s₀.heap.FunFrames X.base l->s.heap.FunFrames X.base l:=by
  intro l
  induction l with
  | nil=>intro _ _;trivial
  | cons env r ih=>
    intro hs hl
    obtain ⟨hk,⟨L,o,hf,hn,ho,hd⟩,hr⟩:=hl
    have hL:L∈X.fs:=hs L (by unfold XQ;rw [List.filterMap_cons,hf];exact List.mem_cons_self)
    obtain ⟨sl,e⟩:=I.base.slot L o ho (I.ok.frf L hL) hL λz=>I.ok.exfs L z hL
    exact ⟨hk,⟨L,_,hf,hn,e,hd⟩,ih (λb hb=>hs b (by unfold XQ;rw [List.filterMap_cons,hf];exact List.mem_cons_of_mem _ hb)) hr⟩
 exact all X.outer (λ_ hb=>hb) I.ok.funs
theorem Inv.stack (I:Inv X pins σ H s):s.heap.FunFrames X.base X.stack:=by
 rcases I.ok.stk with e|⟨e,hf⟩
 ·rw [e];exact I.funs
 ·rw [e]
  obtain ⟨m,hn,_⟩:=I.loc
  refine .cons (by rw [I.ok.kind];decide) hf hn ?_ I.funs
  exact Heap.get?_none_of_le (Nat.le_trans I.ok.bsz I.ok.above)
theorem Inv.stkSub (I:Inv X pins σ H s):∀b∈XQ X.stack,b∈X.env.locals::X.fs:=λb hb=>by
 rcases I.ok.stk with e|⟨e,hf⟩
 ·rw [e] at hb;exact List.mem_cons_of_mem _ hb
 ·rw [e] at hb
  unfold XQ at hb
  rw [List.filterMap_cons,hf] at hb
  exact hb
theorem Inv.stkFree (I:Inv X pins σ H s):∀b∈XQ X.stack,H b=none:=λb hb=>by
 rcases List.mem_cons.mp (I.stkSub b hb) with e|hb
 ·rw [e];exact I.free
 ·obtain ⟨_,o,ho,_⟩:=I.ok.funs.mem hb
  exact I.base.free b o ho (I.ok.frf b hb) λz=>I.ok.exfs b z hb
theorem Inv.step {g':Array GenState} {t':Nat} {d':Drawn} {ch:List Addr} (I:Inv X pins σ H s)
 (Ll:∀b∈ch,(b∈X.ex\/X.s₀.heap.objs.size<=b)/\b≠X.env.locals/\(∀x c,X.env.cells.lookup x=some c->c≠b)/\∀p∈X.pn++pins,p.1≠b)
 (keep:∀b o,b≠X.env.locals->b ∉ X.fs->b ∉ ch->s.heap.get? b=some o->H b=none->h'.get? b=some o)
 (slot:∀b o,b≠X.env.locals->b∈X.fs->b ∉ ch->s.heap.get? b=some o->H b=none->∃sl,h'.get? b=some {o with slots:=sl}) (free:∀b o,b ∉ ch->s.heap.get? b=some o->H b=none->H' b=none)
 (there:∀b o,b ∉ ch->s.heap.get? b=some o->∃o',h'.get? b=some o')
 (tups:∀b xs,H b=some (.tup xs)->H' b=some (.tup xs)) (frzs:∀b o u,H b=some (.frz o u)->H' b=some (.frz o u)) (tbls:∀b ps,H b=some (.tbl ps)->∃more,H' b=some (.tbl (ps++more)))
 (ns:∀m,s.heap.Ns X.env.locals m->h'.Ns X.env.locals m) (hok:LN X.prog X.w H' h') (hg:AllBare g'):
 Inv X pins σ H' {s with heap:=h',gens:=g',drawn:=d',toks:=t'}:=by
 have neL:∀b o,X.s₀.heap.get? b=some o->b≠X.env.locals:=λb o e=>Nat.ne_of_lt (Nat.lt_of_lt_of_le (Heap.lt_size e) I.ok.above)
 have neC:∀b o,X.s₀.heap.get? b=some o->b ∉ X.ex->b ∉ ch:=λb o e hx hb=>by
  rcases (Ll b hb).1 with z|z
  ·exact hx z
  ·exact absurd (Nat.lt_of_lt_of_le (Heap.lt_size e) z) (Nat.lt_irrefl _)
 have cellK:∀x c,X.env.cells.lookup x=some c->∀v,s.heap.IsCell c v->h'.IsCell c v:=λx c e v ⟨o,ho,hd⟩=>by
  have nch:c ∉ ch:=λz=>(Ll c z).2.2.1 x c e rfl
  by_cases hc:c∈X.fs
  ·obtain ⟨sl,q⟩:=slot c o (I.cne x c e) hc nch ho (I.freeC x c e)
   exact ⟨_,q,hd⟩
  ·exact ⟨o,keep c o (I.cne x c e) hc nch ho (I.freeC x c e),hd⟩
 refine ⟨I.ok,I.os,hg,⟨λb o e n hb hx=> ?_,λb o e n hb hx=> ?_,λb o e n hx=> ?_,λb o e hx=> ?_,λb xs e=>tups b xs (I.base.tups b xs e),λb o xs e=>frzs b o xs (I.base.frzs b o xs e),λb ps e=> ?_⟩, ?_,λx c e=> ?_, ?_,λx c e=> ?_,λp hp=> ?_,hok,I.len⟩
 ·exact keep b o (neL b o e) hb (neC b o e hx) (I.base.keep b o e n hb hx) (I.base.free b o e n hx)
 ·obtain ⟨sl,e1⟩:=I.base.slot b o e n hb hx
  obtain ⟨sl',e2⟩:=slot b _ (neL b o e) hb (neC b o e hx) e1 (I.base.free b o e n hx)
  exact ⟨sl',e2⟩
 ·obtain ⟨o',e1⟩:=I.base.there b o e hx
  exact free b o' (neC b o e hx) e1 (I.base.free b o e n hx)
 ·obtain ⟨o',e1⟩:=I.base.there b o e hx
  exact there b o' (neC b o e hx) e1
 ·obtain ⟨m1,e1⟩:=I.base.tbls b ps e
  obtain ⟨m2,e2⟩:=tbls b _ e1
  exact ⟨m1++m2,by rw [e2,Array.append_assoc]⟩
 ·obtain ⟨m,hn,hl⟩:=I.loc
  refine ⟨m,ns m hn,λi x v e1 e2 e3=> ?_⟩
  obtain ⟨u,r,l⟩:=hl i x v e1 e2 e3
  refine ⟨u,r, ?_⟩
  rcases l with l|⟨k,c,e,z⟩
  ·exact .inl l
  ·exact .inr ⟨k,c,e,cellK x c e _ z⟩
 ·obtain ⟨v,z⟩:=I.cell x c e
  exact ⟨v,cellK x c e v z⟩
 ·obtain ⟨m,⟨o,_,_,ho,_⟩,_⟩:=I.loc
  exact free _ o (λz=>(Ll _ z).2.1 rfl) ho I.free
 ·obtain ⟨v,o,ho,hd⟩:=I.cell x c e
  exact free c o (λz=>(Ll c z).2.2.1 x c e rfl) ho (I.freeC x c e)
 ·obtain ⟨e,n,ne,nf,d⟩:=I.pin p hp
  have nch:p.1 ∉ ch:=λz=>(Ll p.1 z).2.2.2 p hp rfl
  exact ⟨keep p.1 p.2 ne nf nch e n,free p.1 p.2 nch e n,ne,nf,d⟩
theorem Inv.un {t':Nat} (I:Inv X pins σ H s) (u:Un X.fs [] H H' s.heap h') (hok:LN X.prog X.w H' h'):Inv X pins σ H' {s with heap:=h',toks:=t'}:=by
 obtain ⟨m,⟨o,es,ep,ho,r⟩,_⟩:=id I.loc
 obtain ⟨sl,hL⟩:=u.any ho I.free (by simp)
 exact I.step (g':=s.gens) (d':=s.drawn) (ch:= []) (λ_ z=>nomatch z) (λb o _ hb _ e n=>u.keep b o e n hb (by simp)) (λb o _ hb _ e n=>u.slot b o e n hb (by simp)) (λb o _ e n=>u.free b o e n (by simp)) (λb o _ e=>u.there b o e (by simp)) u.tups u.frzs u.tbls (λm' hm=>by
  obtain ⟨o',es',ep',XR,r'⟩:=hm
  rw [ho] at XR;cases XR
  exact ⟨_,es',ep',hL,r'⟩) hok I.bare
theorem Inv.call {g':Array GenState} {t':Nat} {d':Drawn} {ch:List Addr} (I:Inv X pins σ H s) (u:Un (XQ X.stack) ch H H' s.heap h') (hok:LN X.prog X.w H' h') (hg:AllBare g')
 (Ll:∀b∈ch,(b∈X.ex\/X.s₀.heap.objs.size<=b)/\b≠X.env.locals/\(∀x c,X.env.cells.lookup x=some c->c≠b)/\∀p∈X.pn++pins,p.1≠b):
 Inv X pins σ H' {s with heap:=h',gens:=g',drawn:=d',toks:=t'}:=by
 obtain ⟨m,⟨o,es,ep,ho,r⟩,_⟩:=id I.loc
 obtain ⟨sl,hL⟩:=u.any ho I.free λz=>(Ll _ z).2.1 rfl
 exact I.step (ch:=ch) Ll (λb o hL hb hc e n=>u.keep b o e n (λz=>(List.mem_cons.mp (I.stkSub b z)).elim hL hb) hc) (λb o _ _ hc e n=>u.any e n hc) (λb o hc e n=>u.free b o e n hc) (λb o hc e=>u.there b o e hc) u.tups u.frzs u.tbls (λm' hm=>by
  obtain ⟨o',es',ep',XR,r'⟩:=hm
  rw [ho] at XR;cases XR
  exact ⟨_,es',ep',hL,r'⟩) hok hg
theorem Inv.turned {t':Nat} {it:Addr} (I:Inv X pins σ H s) (k:∀b o,b≠it->s.heap.get? b=some o->h'.get? b=some o) (hn:H it=none) (hL:it≠X.env.locals)
 (h1:it∈X.ex\/X.s₀.heap.objs.size<=it) (h2:∀x c,X.env.cells.lookup x=some c->c≠it) (h3:∀p∈X.pn++pins,p.1≠it):Inv X pins σ H {s with heap:=h',toks:=t'}:=by
 have nit:∀b u,H b=some u->b≠it:=λb u e z=>by rw [z,hn] at e;cases e
 refine I.step (g':=s.gens) (d':=s.drawn) (ch:= [it]) (λb hb=> ?_) (λb o _ _ hc e _=>k b o (λz=>hc (by simp [z])) e) (λb o _ _ hc e _=>⟨o.slots,k b o (λz=>hc (by simp [z])) e⟩) (λ_ _ _ _ n=>n)
  (λb o hc e=>⟨o,k b o (λz=>hc (by simp [z])) e⟩) (λ_ _ e=>e) (λ_ _ _ e=>e) (λb ps e=>⟨#[],by rw [e];simp⟩) (λm hm=> ?_) (λb u e=> ?_) I.bare
 ·have e:b=it:=by simpa using hb
  subst e
  exact ⟨h1,hL,h2,h3⟩
 ·obtain ⟨o,es,ep,ho,r⟩:=hm
  exact ⟨o,es,ep,k _ o (Ne.symm hL) ho,r⟩
 ·refine (I.hok b u e).stay (λc v hc q=>k c v ?_ q) (λ_ q=>q) λ_ _ q=>q
  rcases hc with z|z
  ·rw [z];exact nit b u e
  ·exact nit c _ z
theorem Inv.tok (I:Inv X pins σ H s) (t:Nat):Inv X pins σ H {s with toks:=t}:=I.un (h':=s.heap) (t':=t) Un.refl I.hok
theorem Inv.kept {t':Nat} (I:Inv X pins σ H s) (k:∀b u,s.heap.get? b=some u->h'.get? b=some u):Inv X pins σ H {s with heap:=h',toks:=t'}:=I.un (Un.kept k) (I.hok.kept k)
theorem Inv.laid {a:Addr} {o:HO} {t':Nat} (I:Inv X pins σ H s) (k:∀b u,s.heap.get? b=some u->h'.get? b=some u) (hp:s.heap.objs.size<=a) (new:Cp X.prog X.w (upd H a o) h' a o):
 Inv X pins σ (upd H a o) {s with heap:=h',toks:=t'}:=I.un (Un.laid k hp (I.hok.fresh hp)) (I.hok.laid k hp new)
theorem Inv.write {x e:Addr} {o:HO} {t':Nat} (I:Inv X pins σ H s) (mu:jD (H x)) (he:e=x\/H e=some (.own x)) (k:∀b u,b≠e->s.heap.get? b=some u->h'.get? b=some u) (iU:∃u,h'.get? e=some u)
 (new:Cp X.prog X.w (upd H x o) h' x o):Inv X pins σ (upd H x o) {s with heap:=h',toks:=t'}:=I.un (Un.write mu he k iU) (I.hok.write mu he k iU new)
theorem Inv.weak {σ':List (Option V)} (I:Inv X pins σ H s) (hl:σ'.length=σ.length) (w:∀(i:Nat) v,σ'[i]? =some (some v)->σ[i]? =some (some v)):Inv X pins σ' H s:=
 ⟨I.ok,I.os,I.bare,I.base,let ⟨m,hn,tN⟩:=I.loc;⟨m,hn,λi x v e1 e2 e3=>tN i x v e1 (w i v e2) e3⟩,I.cell,I.free,I.freeC,I.pin,I.hok,hl.trans I.len⟩
theorem Inv.pins_of {pins':List (Addr×Obj)} (I:Inv X pins σ H s) (h:∀p∈pins',s.heap.get? p.1=some p.2/\H p.1=none/\p.1≠X.env.locals/\p.1 ∉ X.fs/\∀v,p.2.data≠ .cell v):Inv X pins' σ H s:=
 ⟨I.ok,I.os,I.bare,I.base,I.loc,I.cell,I.free,I.freeC,λp hp=>(List.mem_append.mp hp).elim (λz=>I.pin p (List.mem_append_left _ z)) (h p),I.hok,I.len⟩
theorem Rr {N:List Str} (hN:N.Nodup) {i j:Nat} {x:Str} (a:N[i]? =some x) (b:N[j]? =some x):i=j:=by
 obtain ⟨h1,e1⟩:=List.getElem?_eq_some_iff.mp a
 obtain ⟨h2,e2⟩:=List.getElem?_eq_some_iff.mp b
 exact (List.getElem_inj hN).mp (e1.trans e2.symm)
theorem Ow {M:Model} {A:Around} {E:Value->Shared->Prop} {i:Nat} {x:Str} {v:V} {u:Value} {Q:Unit->Shared->Prop} (I:Inv X pins σ H s) (hN:X.N.Nodup) (hi:X.N[i]? =some x) (hx:Loc X.env.scope x) (r:RelV v u)
 (h:∀s',Inv X pins (σ.set i (some v)) H s'->(∃a,Heap.SameBut a s.heap s'.heap/\(a=X.env.locals\/X.env.cells.lookup x=some a))->Q () s') (hf:X.fn x=true\/X.env.scope.names.lookup x=some .local:=by first | exact .inl rfl|exact .inr rfl|assumption):wpAny M A (storeName X.env x u) Q E s:=by
 obtain ⟨m,hn,hl⟩:=id I.loc
 have md:(X.env.scope.kind == .class||(X.env.scope.kind == .module&&X.env.locals != X.env.globals))=false:=by rw [I.ok.kind];rfl
 have hiσ:i<σ.length:=by rw [I.len];exact (List.getElem?_eq_some_iff.mp hi).1
 have cne:=I.cne
 have tracked:∀{a:Addr} {h':Heap},(∃o,s.heap.get? a=some o/\H a=none)->Heap.SameBut a s.heap h'->LN X.prog X.w H h':=λ{a h'} ha hs b ob e=>by
  obtain ⟨_,_,dY⟩:=ha
  refine (I.hok b ob e).stay (λc w' hc q=>(hs.2 c ?_).trans q) (λ_ q=>q) λ_ _ q=>q
  rintro rfl
  rcases hc with rfl|hc
  ·rw [dY] at e;cases e
  ·rw [dY] at hc;cases hc
 rcases hx with hk|hk
 ·refine wpAny_storeName_local hk hn (λh' tS hs=> ?_) md
  obtain ⟨oL,_,_,tV,_⟩:=id hn
  refine h _ ⟨I.ok,I.os,I.bare,⟨λb o e n hb hx=> ?_,λb o e n hb hx=> ?_,I.base.free,λb o e hx=> ?_,I.base.tups,I.base.frzs,I.base.tbls⟩,⟨_,tS,λj y v' e1 e2 e3=> ?_⟩,λy c e=> ?_,I.free,I.freeC,λp hp=> ?_,tracked ⟨oL,tV,I.free⟩ hs,by simpa using I.len⟩ ⟨_,hs, .inl rfl⟩
  ·exact (hs.2 b (Nat.ne_of_lt (Nat.lt_of_lt_of_le (Heap.lt_size e) I.ok.above))).trans (I.base.keep b o e n hb hx)
  ·obtain ⟨sl,e1⟩:=I.base.slot b o e n hb hx
   exact ⟨sl,(hs.2 b (Nat.ne_of_lt (Nat.lt_of_lt_of_le (Heap.lt_size e) I.ok.above))).trans e1⟩
  ·obtain ⟨o',e1⟩:=I.base.there b o e hx
   exact ⟨o',(hs.2 b (Nat.ne_of_lt (Nat.lt_of_lt_of_le (Heap.lt_size e) I.ok.above))).trans e1⟩
  ·by_cases hj:j=i
   ·subst hj
    rw [hi] at e1;cases e1
    rw [List.getElem?_set_self hiσ] at e2
    cases e2
    exact ⟨u,r, .inl ⟨hk,by simp⟩⟩
   ·rw [List.getElem?_set_ne (Ne.symm hj)] at e2
    obtain ⟨u',r',q⟩:=hl j y v' e1 e2 e3
    refine ⟨u',r', ?_⟩
    rcases q with ⟨k,e⟩|⟨k,c,e,z⟩
    ·refine .inl ⟨k, ?_⟩
     have:y≠x:=λe=>hj (Rr hN e1 (e ▸ hi))
     simp [this,e]
    ·exact .inr ⟨k,c,e,z.sameBut hs (cne y c e)⟩
  ·obtain ⟨w',z⟩:=I.cell y c e
   exact ⟨w',z.sameBut hs (cne y c e)⟩
  ·obtain ⟨e,n,ne,nf,d⟩:=I.pin p hp
   exact ⟨(hs.2 p.1 ne).trans e,n,ne,nf,d⟩
 ·have mh:X.fn x=true:=by
   rcases hf with z|z
   ·exact z
   ·rw [z] at hk;cases hk
  obtain ⟨c,hc⟩:=I.ok.has x (.inl hk)
  obtain ⟨w',z⟩:=I.cell x c hc
  refine wpAny_storeName_cell I.ok.kind hk hc z (λh' pX hs=> ?_)
  obtain ⟨oc,pq,m7⟩:=id z
  refine h {s with heap:=h'} ⟨I.ok,I.os,I.bare,⟨λb o e n hb hx=> ?_,λb o e n hb hx=> ?_,I.base.free,λb o e hx=> ?_,I.base.tups,I.base.frzs,I.base.tbls⟩,⟨m,hn.sameBut hs (Ne.symm (cne x c hc)),λj y v' e1 e2 e3=> ?_⟩,λy c' e=> ?_,I.free,I.freeC,λp hp=> ?_,tracked ⟨oc,pq,I.freeC x c hc⟩ hs,by simpa using I.len⟩ ⟨c,hs, .inr hc⟩
  ·exact (hs.2 b (Nat.ne_of_lt (Nat.lt_of_lt_of_le (Heap.lt_size e) (I.ok.cab x c mh hc)))).trans (I.base.keep b o e n hb hx)
  ·obtain ⟨sl,e1⟩:=I.base.slot b o e n hb hx
   exact ⟨sl,(hs.2 b (Nat.ne_of_lt (Nat.lt_of_lt_of_le (Heap.lt_size e) (I.ok.cab x c mh hc)))).trans e1⟩
  ·obtain ⟨o',e1⟩:=I.base.there b o e hx
   exact ⟨o',(hs.2 b (Nat.ne_of_lt (Nat.lt_of_lt_of_le (Heap.lt_size e) (I.ok.cab x c mh hc)))).trans e1⟩
  ·by_cases hj:j=i
   ·subst hj
    rw [hi] at e1;cases e1
    rw [List.getElem?_set_self hiσ] at e2
    cases e2
    exact ⟨u,r, .inr ⟨.inl hk,c,hc,pX⟩⟩
   ·rw [List.getElem?_set_ne (Ne.symm hj)] at e2
    obtain ⟨u',r',q⟩:=hl j y v' e1 e2 e3
    refine ⟨u',r', ?_⟩
    rcases q with q|⟨k,c',e,z'⟩
    ·exact .inl q
    ·refine .inr ⟨k,c',e,z'.sameBut hs ?_⟩
     rintro rfl
     exact hj (Rr hN e1 (I.ok.inj _ _ _ e hc ▸ hi))
  ·by_cases pY:c'=c
   ·subst pY;exact ⟨_,pX⟩
   ·obtain ⟨w2,z2⟩:=I.cell y c' e
    exact ⟨w2,z2.sameBut hs pY⟩
  ·obtain ⟨e,n,ne,nf,d⟩:=I.pin p hp
   refine ⟨(hs.2 p.1 ?_).trans e,n,ne,nf,d⟩
   intro q
   rw [q,pq] at e
   have q':oc=p.2:=Option.some.inj e
   exact d w' (by rw [<-q'];exact m7)
theorem Gz {M:Model} {A:Around} {E:Value->Shared->Prop} {i:Nat} {x:Str} {v:V} {u:Value} {Q:Unit->Shared->Prop} (I:Inv X pins σ H s) (hN:X.N.Nodup) (hi:X.N[i]? =some x) (hx:Loc X.env.scope x) (r:RelV v u)
 (h:∀s',Inv X pins (σ.set i (some v)) H s'->Q () s') (hf:X.fn x=true\/X.env.scope.names.lookup x=some .local:=by first | exact .inl rfl|exact .inr rfl|assumption):wpAny M A (storeName X.env x u) Q E s:=
 Ow I hN hi hx r (λs' I' _=>h s' I') hf
theorem Inv.call' {s':Shared} {ch:List Addr} (I:Inv X pins σ H s) (ho:s'.os=s.os) (u:Un (XQ X.stack) ch H H' s.heap s'.heap) (hok:LN X.prog X.w H' s'.heap) (hg:AllBare s'.gens)
 (Ll:∀b∈ch,(b∈X.ex\/X.s₀.heap.objs.size<=b)/\b≠X.env.locals/\(∀x c,X.env.cells.lookup x=some c->c≠b)/\∀p∈X.pn++pins,p.1≠b):Inv X pins σ H' s':=by
 obtain ⟨h',g',d',t',o'⟩:=s'
 have e:o'=s.os:=ho
 subst e
 exact I.call (g':=g') (t':=t') (d':=d') u hok hg Ll
end
abbrev XK:=Value->Option Addr->Hp->Prop
abbrev St:=List (Option V)
abbrev VK:=V->Hp->Prop
abbrev TE:=St->Hp->VK->Prop
abbrev TT:=St->Hp->(Bool->Hp->Prop)->Prop
abbrev TA:=St->Hp->(List V->Hp->Prop)->Prop
structure MN where
 nx:St->Hp->Prop
 rt:VK
 bk:St->Hp->Prop:=λ_ _=>False
 ct:St->Hp->Prop:=λ_ _=>False
abbrev TS:=MN->St->Hp->Prop
def EP (X:Cx) (pins:List (Addr×Obj)) (σ:St) (Q:VK) (u:Value) (s':Shared):Prop:=∃v H',Inv X pins σ H' s'/\RelV v u/\Q v H'
def TP (X:Cx) (pins:List (Addr×Obj)) (σ:St) (Q:Bool->Hp->Prop) (b:Bool) (s':Shared):Prop:=∃H',Inv X pins σ H' s'/\Q b H'
def AP (X:Cx) (pins:List (Addr×Obj)) (σ:St) (Q:List V->Hp->Prop) (us:List Value) (s':Shared):Prop:=∃vs H',Inv X pins σ H' s'/\Ar vs us/\Q vs H'
def SP (X:Cx) (pins:List (Addr×Obj)) (D:MN) (f:Flow) (s':Shared):Prop:=
 match f with
 | .next=>∃σ' H',Inv X pins σ' H' s'/\D.nx σ' H'
 | .brk=>∃σ' H',Inv X pins σ' H' s'/\D.bk σ' H'
 | .cont=>∃σ' H',Inv X pins σ' H' s'/\D.ct σ' H'
 | .ret u=>∃v σ' H',Inv X pins σ' H' s'/\RelV v u/\D.rt v H'
def PE (X:Cx) (e:Expr) (t:TE):Prop:=
 ∀(pins:List (Addr×Obj)) (s:Shared) (σ:St) (H:Hp) (Q:VK),Inv X pins σ H s->t σ H Q->wpAny (model X.prog X.w) X.A (eval e X.env) (EP X pins σ Q) X.xe s
def PT (X:Cx) (e:Expr) (t:TT):Prop:=
 ∀(pins:List (Addr×Obj)) (s:Shared) (σ:St) (H:Hp) (Q:Bool->Hp->Prop),Inv X pins σ H s->t σ H Q->wpAny (model X.prog X.w) X.A (isTrue e X.env (eval e X.env)) (TP X pins σ Q) X.xe s
def PW (X:Cx) (e:Expr) (t:TT):Prop:=
 ∀(whole:Sem Value) (pins:List (Addr×Obj)) (s:Shared) (σ:St) (H:Hp) (Q:Bool->Hp->Prop),Inv X pins σ H s->t σ H Q->wpAny (model X.prog X.w) X.A (isTrue e X.env whole) (TP X pins σ Q) X.xe s
theorem PW.pt {X:Cx} {e:Expr} {t:TT} (h:PW X e t):PT X e t:=h _
def PA (X:Cx) (es:List Expr) (t:TA):Prop:=
 ∀(pos:Pos) (pins:List (Addr×Obj)) (s:Shared) (σ:St) (H:Hp) (Q:List V->Hp->Prop),Inv X pins σ H s->t σ H Q->wpAny (model X.prog X.w) X.A (spliced (backTo pos (starEach es X.env))) (AP X pins σ Q) X.xe s
def PS (X:Cx) (st:Stmt) (t:TS):Prop:=
 ∀(pins:List (Addr×Obj)) (s:Shared) (σ:St) (H:Hp) (D:MN),Inv X pins σ H s->t D σ H->wpAny (model X.prog X.w) X.A (exec st X.env) (SP X pins D) X.xe s
def Uj (X:Cx) (st:List Stmt) (t:TS):Prop:=
 ∀(pins:List (Addr×Obj)) (s:Shared) (σ:St) (H:Hp) (D:MN),Inv X pins σ H s->t D σ H->wpAny (model X.prog X.w) X.A (execs st X.env) (SP X pins D) X.xe s
theorem BS {α:Type} {t:Sem α} {Q Q':α->Shared->Prop} {M:Model} {A:Around} {E:Value->Shared->Prop} {s:Shared} (h:wpAny M A t Q E s) (hQ:∀a s,Q a s->Q' a s):wpAny M A t Q' E s:=wpAny_mono h hQ λ_ _ x=>x
end L2
namespace L2
open PySem PySem.Spec PyProof.Rows
section
variable {X:Cx}
def Fb (i:Nat):TE:=λσ H Q=>∃v,σ[i]? =some (some v)/\Q v H
def tC (v:V):TE:=λ_ H Q=>Q v H
theorem QH {i:Nat} {x:Str} {pos:Pos} (hN:X.N[i]? =some x) (hv:e8 X.env.scope x) (hd:(x==("__debug__" :Str))=false:=by decide) (Lj:(x==("__classdict__" :Str))=false:=by decide):PE X (.Name x pos) (Fb i):=by
 intro pins s σ H Q I h
 obtain ⟨v,e,h⟩:=h
 obtain ⟨m,hn,hl⟩:=I.loc
 obtain ⟨u,r,l⟩:=hl i x v hN e hv
 have fin:EP X pins σ Q u s:=⟨v,H,I,r,h⟩
 rcases l with ⟨hk,hm⟩|⟨hk,c,hc,U6⟩
 ·exact wpAny_Name (wpAny_loadName_local I.ok.kind hk hn hm fin) hd
 ·rcases hk with hk|hk
  ·exact wpAny_Name (wpAny_loadName_cell I.ok.kind hk hc U6 fin) hd
  ·exact wpAny_Name (wpAny_loadName_free I.ok.kind hk hc U6 fin Lj) hd
theorem BA {i j pos}:PE X (.Constant (.int i) j pos) (tC (.int i)):=λ_ _ _ H _ I h=>wpAny_Constant_int ⟨.int i,H,I.tok _,⟨_,rfl⟩,h⟩
theorem j6 {b j pos}:PE X (.Constant (.bool b) j pos) (tC (.bl b)):=λ_ _ _ H _ I h=>Constant_bool ⟨.bl b,H,I,rfl,h⟩
theorem Y3 {j pos}:PE X (.Constant .none j pos) (tC .non):=λ_ _ _ H _ I h=>Constant_none ⟨.non,H,I,rfl,h⟩
def Gl (X:Cx) (x:Str):Prop:=X.env.kindOf x=some .globalImplicit
theorem bT {E:Value->Shared->Prop} {pins:List (Addr×Obj)} {s:Shared} {σ:St} {H:Hp} {x:Str} {u:Value} {pos:Pos} {Q:Value->Shared->Prop} (I:Inv X pins σ H s) (hg:Gl X x) (hm:X.mg x=some u) (h:Q u s)
 (hd:(x==("__debug__" :Str))=false:=by decide):wpAny (model X.prog X.w) X.A (eval (.Name x pos) X.env) Q E s:=
 Calls.Name_function_global I.ok.kind hg (Calls.loadGlobal_global (by rw [I.ok.glob];exact I.mod.glob.keeps I.bk) hm h) hd
theorem Gi {E:Value->Shared->Prop} {pins:List (Addr×Obj)} {s:Shared} {σ:St} {H:Hp} {x:Str} {u:Value} {pos:Pos} {Q:Value->Shared->Prop} (I:Inv X pins σ H s) (hg:Gl X x) (hm:X.mg x=none) (hv:bootBuiltins x=some u) (h:Q u s)
 (hn:x≠"__name__" :=by decide) (hd:(x==("__debug__" :Str))=false:=by decide):wpAny (model X.prog X.w) X.A (eval (.Name x pos) X.env) Q E s:=by
 obtain ⟨mb,h1,h2⟩:=I.mod.blt
 exact Calls.Name_function_global I.ok.kind hg (Calls.loadGlobal_builtin (by rw [I.ok.glob];exact I.mod.glob.keeps I.bk) hm (by rw [I.ok.blt];exact h1.keeps I.bk) ((h2 x hn).trans hv) h) hd
theorem cH {x:Str} {v:V} {u:Value} {pos:Pos} (hg:Gl X x) (hm:X.mg x=none) (hv:bootBuiltins x=some u) (r:RelV v u) (hn:x≠"__name__" :=by decide) (hd:(x==("__debug__" :Str))=false:=by decide):PE X (.Name x pos) (tC v):=
 λ_ _ _ H _ I h=>Gi I hg hm hv ⟨v,H,I,r,h⟩ hn hd
variable {a b:Expr} {ta tb:TE} {pos:Pos}
def PC (X:Cx) (op:CmpOp) (a b:Expr) (t:TE):Prop:=
 ∀(pins:List (Addr×Obj)) (s:Shared) (σ:St) (H:Hp) (Q:VK),Inv X pins σ H s->t σ H Q->
  wpAny (model X.prog X.w) X.A (eval a X.env) (λv s₁=>wpAny (model X.prog X.w) X.A (eval b X.env) (λu s₂=>wpAny (model X.prog X.w) X.A (compareOp op v u) (EP X pins σ Q) X.xe s₂) X.xe s₁) X.xe s
theorem Yp (b:Expr) {op:CmpOp} (h:op≠ .In) (h2:op≠ .NotIn):behindInMarks op b=false:=by
 have e1:(op==CmpOp.In)=false:=by cases op <;> first | rfl|exact absurd rfl h
 have e2:(op==CmpOp.NotIn)=false:=by cases op <;> first | rfl|exact absurd rfl h2
 cases b <;> simp [behindInMarks,e1,e2]
def tB (t:TE):TT:=λσ H Q=>t σ H λx H1=>∃c,x= .bl c/\Q c H1
theorem gf {op:CmpOp} {t:TE} (h:PC X op a b t) (h1:behindInMarks op b=false:=by first | exact Yp _ (by decide) (by decide)|rfl):PT X (.Compare a [op] [b] pos) (tB t):=by
 intro pins s σ H Q I hw
 refine wpAny_isTrue_Compare1 (BS (h pins s σ H _ I hw) λv s1 h1=>BS h1 λu s2 h2=>BS h2 λc s3 ⟨x,H1,I1,r1,q1⟩=> ?_) h1
 obtain ⟨d,rfl,q⟩:=q1
 cases r1
 exact wpAny_truthy_bool ⟨H1,I1,q⟩
theorem gh {e:Expr} {t:TE} (h:PE X e t) (he:∀whole,isTrue e X.env whole=(do let v <-whole;standAt e.pos;holding [v] (truthy v)):=by intro _;rfl):PT X e (tB t):=by
 intro pins s σ H Q I hw
 refine isTrue_plain (BS (h pins s σ H _ I hw) λv s1 ⟨x,H1,I1,r1,q1⟩=> ?_) (he _)
 obtain ⟨d,rfl,q⟩:=q1
 cases r1
 exact wpAny_truthy_bool ⟨H1,I1,q⟩
variable {tA tB':TT} {rest:List Expr}
def nW (t u:TT):TT:=λσ H Q=>t σ H λc H1=>if c=true then u σ H1 Q else Q false H1
def uC (t u:TT):TT:=λσ H Q=>t σ H λc H1=>if c=true then Q true H1 else u σ H1 Q
def ng (t:TT):TT:=λσ H Q=>t σ H λc H1=>Q (!c) H1
theorem cV (ha:PT X a tA):PW X (.BoolOp .And [a] pos) tA:=by
 intro wh pins s σ H Q I h
 refine isTrue_and (BS (ha pins s σ H Q I h) λc s1 e=> ?_)
 cases c with
 | true=>exact isTrue_and_nil e
 | false=>exact e
theorem gj (ha:PT X a tA):PW X (.BoolOp .Or [a] pos) tA:=by
 intro wh pins s σ H Q I h
 refine isTrue_or (BS (ha pins s σ H Q I h) λc s1 e=> ?_)
 cases c with
 | false=>exact isTrue_or_nil e
 | true=>exact e
theorem gi (ha:PT X a tA) (hb:PW X (.BoolOp .And (b::rest) pos) tB'):PW X (.BoolOp .And (a::b::rest) pos) (nW tA tB'):=by
 intro wh pins s σ H Q I h
 refine isTrue_and (BS (ha pins s σ H _ I h) λc s1 ⟨H1,I1,q1⟩=> ?_)
 cases c with
 | true=>exact hb wh pins s1 σ H1 Q I1 q1
 | false=>exact ⟨H1,I1,q1⟩
theorem kA (ha:PT X a tA) (hb:PW X (.BoolOp .Or (b::rest) pos) tB'):PW X (.BoolOp .Or (a::b::rest) pos) (uC tA tB'):=by
 intro wh pins s σ H Q I h
 refine isTrue_or (BS (ha pins s σ H _ I h) λc s1 ⟨H1,I1,q1⟩=> ?_)
 cases c with
 | true=>exact ⟨H1,I1,q1⟩
 | false=>exact hb wh pins s1 σ H1 Q I1 q1
theorem gg (ha:PT X a tA):PT X (.UnaryOp .Not a pos) (ng tA):=by
 intro pins s σ H Q I h
 exact isTrue_not (ha pins s σ H (λc H1=>Q (!c) H1) I h)
def kh (ta tb:TE):TE:=λσ H Q=>ta σ H λx H1=>∃c,x= .bl c/\if c=true then tb σ H1 Q else Q (.bl false) H1
def nh (ta tb:TE):TE:=λσ H Q=>ta σ H λx H1=>∃c,x= .bl c/\if c=true then Q (.bl true) H1 else tb σ H1 Q
def k9 (ta:TE):TE:=λσ H Q=>ta σ H λx H1=>∃c,x= .bl c/\Q (.bl (!c)) H1
theorem ga {op} {t:TE} (h:PE X a t):PE X (.BoolOp op [a] pos) t:=λpins s σ H Q I hw=>BoolOp_one (h pins s σ H Q I hw)
theorem gX (ha:PE X a ta) (hb:PE X (.BoolOp .And (b::rest) pos) tb):PE X (.BoolOp .And (a::b::rest) pos) (kh ta tb):=by
 intro pins s σ H Q I h
 refine BoolOp_and (BS (ha pins s σ H _ I h) λv s1 ⟨x,H1,I1,r1,q1⟩=> ?_)
 obtain ⟨c,rfl,q1⟩:=q1
 cases r1
 refine wpAny_truthy_bool ?_
 cases c with
 | true=>exact hb pins s1 σ H1 Q I1 q1
 | false=>exact ⟨.bl false,H1,I1,rfl,q1⟩
theorem j8 (ha:PE X a ta) (hb:PE X (.BoolOp .Or (b::rest) pos) tb):PE X (.BoolOp .Or (a::b::rest) pos) (nh ta tb):=by
 intro pins s σ H Q I h
 refine BoolOp_or (BS (ha pins s σ H _ I h) λv s1 ⟨x,H1,I1,r1,q1⟩=> ?_)
 obtain ⟨c,rfl,q1⟩:=q1
 cases r1
 refine wpAny_truthy_bool ?_
 cases c with
 | false=>exact hb pins s1 σ H1 Q I1 q1
 | true=>exact ⟨.bl true,H1,I1,rfl,q1⟩
theorem gZ (ha:PE X a ta):PE X (.UnaryOp .Not a pos) (k9 ta):=by
 intro pins s σ H Q I h
 refine UnaryOp_ (BS (ha pins s σ H _ I h) λv s1 ⟨x,H1,I1,r1,q1⟩=> ?_)
 obtain ⟨c,rfl,q1⟩:=q1
 cases r1
 exact not_of (wpAny_truthy_bool ⟨.bl (!c),H1,I1,rfl,q1⟩)
def uB (t:TT) (ta tb:TE):TE:=λσ H Q=>t σ H λc H1=>if c=true then ta σ H1 Q else tb σ H1 Q
theorem Y1 {c:Expr} (hc:PT X c tA) (ha:PE X a ta) (hb:PE X b tb):PE X (.IfExp c a b pos) (uB tA ta tb):=by
 intro pins s σ H Q I h
 refine wpAny_IfExp (BS (hc pins s σ H _ I h) λd s1 ⟨H1,I1,q1⟩=> ?_)
 cases d with
 | true=>exact ha pins s1 σ H1 Q I1 q1
 | false=>exact hb pins s1 σ H1 Q I1 q1
end
end L2
namespace L2
open PySem PySem.Spec PyProof.Rows
def GC (K:PySem.W.Frag) (H:Hp) (a:Addr) (xs:List V):Prop:=
 Rd H a (.lst xs)\/
  ∃(o:Obj) (its:Array Value) (n:Nat),K.lookup a=some o/\o.cls= .type "list" /\o.dict=none/\o.data= .seq its n/\its.size<=sizeLine/\Ar xs its.toList
def J6 (K:PySem.W.Frag) (H:Hp) (a:Addr) (xs:List V):Prop:=
 Rd H a (.tup xs)\/
  ∃(o:Obj) (its:Array Value) (n:Nat),K.lookup a=some o/\o.cls= .type "tuple" /\o.data= .seq its n/\its.size<=sizeLine/\Ar xs its.toList
def mO:Value->Option V
 | .none=>some .non
 | .bool b=>some (.bl b)
 | .int i _=>some (.int i)
 | .str x _=>some (.str x)
 | .bytes b _=>some (.byt b)
 | .float b _=>some (.flt b)
 | .ref a=>some (.ref a)
 | .type n=>some (.ty n)
 | _=>none
theorem RelV.abs {x:V} {u:Value} (r:RelV x u):mO u=some x:=by
 cases x with
 | non=>cases r;rfl
 | bl _=>cases r;rfl
 | int _=>obtain ⟨t,rfl⟩:=r;rfl
 | str _=>obtain ⟨t,rfl⟩:=r;rfl
 | byt _=>obtain ⟨t,rfl⟩:=r;rfl
 | flt _=>obtain ⟨t,rfl⟩:=r;rfl
 | ref _=>cases r;rfl
 | ty _=>cases r;rfl
theorem RelV.inj {x y:V} {u:Value} (r:RelV x u) (q:RelV y u):x=y:=Option.some.inj (r.abs.symm.trans q.abs)
theorem Ar.inj:∀{xs ys:List V} {us:List Value},Ar xs us->Ar ys us->xs=ys
 | _,_,_, .nil, .nil=>rfl
 | _,_,_, .cons r t, .cons r' t'=>by rw [r.inj r',Ar.inj t t']
section
variable {X:Cx} {pins:List (Addr×Obj)} {σ:St} {H:Hp} {s:Shared} {a:Addr} {xs ys:List V}
theorem GC.of {K:PySem.W.Frag} (h:H a=some (.lst xs)):GC K H a xs:= .inl (.inl h)
theorem J6.of {K:PySem.W.Frag} (h:H a=some (.tup xs)):J6 K H a xs:= .inl (.inl h)
theorem Inv.list (I:Inv X pins σ H s) (h:GC X.K H a xs):∃its:List Value,Ar xs its/\PlainL s.heap a its.toArray/\xs.length<=sizeLine:=by
 rcases h with h|⟨o,its,n,hk,hc,hd,hs,hz,r⟩
 ·obtain ⟨z,its,n,r,e⟩:=h.ok I.hok
  exact ⟨its,r,⟨_,n,e,rfl,rfl,rfl⟩,z⟩
 ·refine ⟨its.toList,r,⟨o,n,I.kIn a o hk,hc,hd,by simpa using hs⟩, ?_⟩
  have e:=r.length
  simp only [Array.length_toList] at e
  omega
theorem Inv.tuple (I:Inv X pins σ H s) (h:J6 X.K H a xs):∃its:List Value,Ar xs its/\IsTup s.heap a its.toArray/\xs.length<=sizeLine:=by
 rcases h with h|⟨o,its,n,hk,hc,hs,hz,r⟩
 ·obtain ⟨z,its,r,p⟩:=h.ok I.hok
  exact ⟨its,r,p,z⟩
 ·refine ⟨its.toList,r,⟨o,I.kIn a o hk,hc,n,by simpa using hs⟩, ?_⟩
  have e:=r.length
  simp only [Array.length_toList] at e
  omega
theorem Inv.list_inj (I:Inv X pins σ H s) (h:GC X.K H a xs) (h':GC X.K H a ys):xs=ys:=by
 obtain ⟨its,r,⟨o,n,e,_,_,d⟩,_⟩:=I.list h
 obtain ⟨its',r',⟨o',n',e',_,_,d'⟩,_⟩:=I.list h'
 rw [e] at e';cases e'
 rw [d] at d'
 injection d' with d1 _
 have:its=its':=by simpa using congrArg Array.toList d1
 subst this
 exact r.inj r'
theorem Inv.tuple_inj (I:Inv X pins σ H s) (h:J6 X.K H a xs) (h':J6 X.K H a ys):xs=ys:=by
 obtain ⟨its,r,⟨o,e,_,n,d⟩,_⟩:=I.tuple h
 obtain ⟨its',r',⟨o',e',_,n',d'⟩,_⟩:=I.tuple h'
 rw [e] at e';cases e'
 rw [d] at d'
 injection d' with d1 _
 have:its=its':=by simpa using congrArg Array.toList d1
 subst this
 exact r.inj r'
end
abbrev Cx.wish (X:Cx) (E:Value->Shared->Prop):Cx:={X with xe:=E}
abbrev Cx.nox (X:Cx):Cx:=X.wish λ_ _=>False
theorem Cx.Ok.wish {X:Cx} (ok:X.Ok) (E:Value->Shared->Prop):(X.wish E).Ok:=
 ⟨ok.mod,ok.kind,ok.glob,ok.blt,ok.above,ok.inj,ok.has,ok.cab,ok.hd,ok.frames,ok.stk,ok.exf,ok.bs,ok.bsz,ok.noex,ok.exfs,ok.funs,ok.frf⟩
theorem Cx.Ok.unwish {X:Cx} {E:Value->Shared->Prop} (ok:(X.wish E).Ok):X.Ok:=
 ⟨ok.mod,ok.kind,ok.glob,ok.blt,ok.above,ok.inj,ok.has,ok.cab,ok.hd,ok.frames,ok.stk,ok.exf,ok.bs,ok.bsz,ok.noex,ok.exfs,ok.funs,ok.frf⟩
section
variable {X:Cx} {pins:List (Addr×Obj)} {σ:St} {H:Hp} {s:Shared} {E:Value->Shared->Prop}
theorem Inv.wish (I:Inv X pins σ H s) (E:Value->Shared->Prop):Inv (X.wish E) pins σ H s:=⟨I.ok.wish E,I.os,I.bare,I.base,I.loc,I.cell,I.free,I.freeC,I.pin,I.hok,I.len⟩
theorem Inv.unwish (I:Inv (X.wish E) pins σ H s):Inv X pins σ H s:=⟨I.ok.unwish,I.os,I.bare,I.base,I.loc,I.cell,I.free,I.freeC,I.pin,I.hok,I.len⟩
theorem SP.unwish {D:MN} {f:Flow} {s':Shared} (h:SP (X.wish E) pins D f s'):SP X pins D f s':=by
 cases f with
 | next=>obtain ⟨σ',H',I,q⟩:=h;exact ⟨σ',H',I.unwish,q⟩
 | brk=>obtain ⟨σ',H',I,q⟩:=h;exact ⟨σ',H',I.unwish,q⟩
 | cont=>obtain ⟨σ',H',I,q⟩:=h;exact ⟨σ',H',I.unwish,q⟩
 | ret u=>obtain ⟨v,σ',H',I,r,q⟩:=h;exact ⟨v,σ',H',I.unwish,r,q⟩
theorem PE.nox {e:Expr} {t:TE} (h:PE X.nox e t):PE X e t:=λpins s σ H Q I hw=>
 wpAny_mono (h pins s σ H Q (I.wish _) hw) (λ_ _ ⟨v,H',I',r,q⟩=>⟨v,H',I'.unwish,r,q⟩) λ_ _ z=>False.elim z
theorem PT.nox {e:Expr} {t:TT} (h:PT X.nox e t):PT X e t:=λpins s σ H Q I hw=>
 wpAny_mono (h pins s σ H Q (I.wish _) hw) (λ_ _ ⟨H',I',q⟩=>⟨H',I'.unwish,q⟩) λ_ _ z=>False.elim z
theorem Uj.nox {st:List Stmt} {t:TS} (h:Uj X.nox st t):Uj X st t:=λpins s σ H D I hw=>
 wpAny_mono (h pins s σ H D (I.wish _) hw) (λ_ _ q=>q.unwish) λ_ _ z=>False.elim z
end
section
variable {X:Cx} {st:Stmt} {rest:List Stmt} {t u:TS} {e:Expr} {te:TE} {pos:Pos}
def eH:TS:=λD σ H=>D.nx σ H
def XE (t u:TS):TS:=λD σ H=>t {D with nx:=u D} σ H
theorem Lq:Uj X [] eH:=λ_ _ σ H _ I h=>wpAny_execs_nil ⟨σ,H,I,h⟩
theorem Bq (h1:PS X st t) (h2:Uj X rest u):Uj X (st::rest) (XE t u):=by
 intro pins s σ H D I h
 refine wpAny_execs_cons (BS (h1 pins s σ H {D with nx:=u D} I h) λf s1 q=> ?_)
 cases f with
 | next=>
   obtain ⟨σ',H',I',q⟩:=q
   exact h2 pins s1 σ' H' D I' q
 | ret v=>exact q
 | brk=>exact q
 | cont=>exact q
theorem El (h1:PS X st t):Uj X [st] t:=by
 intro pins s σ H D I h
 refine wpAny_execs_cons (BS (h1 pins s σ H D I h) λf s1 q=> ?_)
 cases f with
 | next=>exact wpAny_execs_nil q
 | ret v=>exact q
 | brk=>exact q
 | cont=>exact q
theorem Inv.quiet {pins:List (Addr×Obj)} {σ:St} {H:Hp} {s:Shared} (I:Inv X pins σ H s):interactive X.env=false:=by simp [interactive,I.ok.kind]
def eF (te:TE):TS:=λD σ H=>te σ H λ_ H1=>D.nx σ H1
theorem cU (he:PE X e te) (hs:swapsWith e none pos.line X.env=pure false:=by rfl):PS X (.Expr e pos) (eF te):=by
 intro pins s σ H D I h
 exact wpAny_Expr_any (BS (he pins s σ H _ I h) λv s1 ⟨x,H1,I1,r1,q1⟩=>⟨σ,H1,I1,q1⟩) I.quiet hs
def Zu (te:TE):TS:=λD σ H=>te σ H D.rt
theorem M7 (he:PE X e te):PS X (.Return (some e) pos) (Zu te):=by
 intro pins s σ H D I h
 exact wpAny_Return_some (BS (he pins s σ H _ I h) λv s1 ⟨x,H1,I1,r1,q1⟩=>⟨x,σ,H1,I1,r1,q1⟩)
def kq (c:TT) (t u:TS):TS:=λD σ H=>c σ H λb H1=>if b=true then t D σ H1 else u D σ H1
theorem VR {c:Expr} {a b:List Stmt} {tc:TT} (hc:PT X c tc) (ha:Uj X a t) (hb:Uj X b u):PS X (.If c a b pos) (kq tc t u):=by
 intro pins s σ H D I h
 refine wpAny_If (BS (hc pins s σ H _ I h) λd s1 ⟨H1,I1,q1⟩=> ?_)
 cases d with
 | true=>exact ha pins s1 σ H1 D I1 q1
 | false=>exact hb pins s1 σ H1 D I1 q1
end
abbrev TG:=V->St->Hp->(St->Hp->Prop)->Prop
abbrev S3:=List V->St->Hp->(St->Hp->Prop)->Prop
def PG (X:Cx) (target:Expr) (t:TG):Prop:=
 ∀(pins:List (Addr×Obj)) (s:Shared) (σ:St) (H:Hp) (v:V) (u:Value) (Q:St->Hp->Prop),Inv X pins σ H s->RelV v u->t v σ H Q->
  wpAny (model X.prog X.w) X.A (assign target X.env u) (λ_ s'=>∃σ' H',Inv X pins σ' H' s'/\Q σ' H') X.xe s
def iM (X:Cx) (ts:List Expr) (t:S3):Prop:=
 ∀(pins:List (Addr×Obj)) (s:Shared) (σ:St) (H:Hp) (vs:List V) (us:List Value) (Q:St->Hp->Prop),Inv X pins σ H s->Ar vs us->t vs σ H Q->
  wpAny (model X.prog X.w) X.A (assignInOrder ((assignEach ts X.env).map (·.2)) us) (λ_ s'=>∃σ' H',Inv X pins σ' H' s'/\Q σ' H') X.xe s
abbrev e7:=V->V->V->Hp->(Hp->Prop)->Prop
def jE (X:Cx) (t:e7):Prop:=
 ∀(pins:List (Addr×Obj)) (s:Shared) (σ:St) (H:Hp) (o i v:V) (ov iv u:Value) (Q:Hp->Prop),Inv X pins σ H s->RelV o ov->RelV i iv->RelV v u->t o i v H Q->
  wpAny (model X.prog X.w) X.A (setItem ov iv u) (λ_ s'=>∃H',Inv X pins σ H' s'/\Q H') X.xe s
abbrev jG:=V->V->Hp->VK->Prop
def iN (X:Cx) (op:Operator) (t:jG):Prop:=
 ∀(pins:List (Addr×Obj)) (s:Shared) (σ:St) (H:Hp) (x y:V) (v u:Value) (Q:VK),Inv X pins σ H s->RelV x v->RelV y u->t x y H Q->
  wpAny (model X.prog X.w) X.A (inplaceOp op v u) (EP X pins σ Q) X.xe s
section
variable {X:Cx} {pos:Pos}
def Cq (i:Nat):TG:=λv σ H Q=>Q (σ.set i (some v)) H
theorem JB {i:Nat} {x:Str} (hN:X.N.Nodup) (hi:X.N[i]? =some x) (hx:Loc X.env.scope x) (hf:X.fn x=true\/X.env.scope.names.lookup x=some .local:=by first | exact .inl rfl|exact .inr rfl|assumption):PG X (.Name x pos) (Cq i):=by
 intro pins s σ H v u Q I r h
 exact wpAny_assign_Name (Gz I hN hi hx r (λs' I'=>⟨_,H,I',h⟩) hf)
def RX:S3:=λvs σ H Q=>vs= [] /\Q σ H
def Ei (t:TG) (u:S3):S3:=λvs σ H Q=>∃v r,vs=v::r/\t v σ H λσ' H'=>u r σ' H' Q
theorem QI:iM X [] RX:=by
 intro pins s σ H vs us Q I r h
 obtain ⟨e,h⟩:=h
 subst e
 cases r
 exact assignInOrder_nil ⟨σ,H,I,h⟩
theorem Gm {e:Expr} {es:List Expr} {t:TG} {u:S3} (h1:PG X e t) (h2:iM X es u)
 (hs:(assignEach (e::es) X.env).map (·.2)=assign e X.env::(assignEach es X.env).map (·.2):=by rfl):iM X (e::es) (Ei t u):=by
 intro pins s σ H vs us Q I r h
 obtain ⟨v,vr,e1,h⟩:=h
 subst e1
 cases r with
 | cons r rr=>
   rw [hs]
   refine assignInOrder_cons (BS (h1 pins s σ H _ _ _ I r h) λ_ s1 ⟨σ1,H1,I1,q1⟩=> ?_)
   exact h2 pins s1 σ1 H1 _ _ Q I1 rr q1
def mS (to ti:TE) (t:e7):TG:=λv σ H Q=>to σ H λo H1=>ti σ H1 λi H2=>t o i v H2 λH3=>Q σ H3
theorem UG {o i:Expr} {to ti:TE} {t:e7} (ho:PE X o to) (hi:PE X i ti) (hs:jE X t)
 (ha:∀v,assign (.Subscript o i pos) X.env v=(do
   let ov <-holding [v] (eval o X.env)
   let iv <-holding [v,ov] (eval i X.env)
   standAt pos
   holding [v,ov,iv] (setItem ov iv v)
   release [v,ov,iv] []):=by intro _;rfl):PG X (.Subscript o i pos) (mS to ti t):=by
 intro pins s σ H v u Q I r h
 rw [ha]
 refine wpAny_bind (wpAny_holding (BS (ho pins s σ H _ I h) λov s1 ⟨x,H1,I1,r1,q1⟩=> ?_))
 refine wpAny_bind (wpAny_holding (BS (hi pins s1 σ H1 _ I1 q1) λiv s2 ⟨y,H2,I2,r2,q2⟩=> ?_))
 refine wpAny_bind (wpAny_standAt (wpAny_bind (wpAny_holding (BS (hs pins s2 σ H2 x y v ov iv u _ I2 r1 r2 r q2) λ_ s3 ⟨H3,I3,q3⟩=> ?_))))
 exact wpAny_release ⟨σ,H3,I3,q3⟩
def Sd (te:TE) (g:TG):TS:=λD σ H=>te σ H λx H1=>g x σ H1 D.nx
theorem QJ {tg e:Expr} {te:TE} {g:TG} (he:PE X e te) (hg:PG X tg g) (hs:swapsWithSole [tg] e pos.line X.env=pure false:=by rfl) (hw:swappedStores [tg] e X.env=pure none:=by rfl)
 (h1:(assignEach [tg] X.env).map (·.2)= [assign tg X.env] :=by rfl):PS X (.Assign [tg] e pos) (Sd te g):=by
 intro pins s σ H D I h
 refine wpAny_Assign_stores (BS (he pins s σ H _ I h) λv s1 ⟨x,H1,I1,r1,q1⟩=> ?_) hs hw
 rw [h1]
 exact BS (hg pins s1 σ H1 x v _ I1 r1 q1) λ_ s2 q=>q
theorem E9 {i:Nat} {x:Str} {e:Expr} {te:TE} {pos':Pos} (hN:X.N.Nodup) (hi:X.N[i]? =some x) (hx:Loc X.env.scope x) (he:PE X e te) (hs:swapsWith e (some (.Name x pos')) pos.line X.env=pure false:=by rfl) (hf:X.fn x=true\/X.env.scope.names.lookup x=some .local:=by first | exact .inl rfl|exact .inr rfl|assumption):
 PS X (.Assign [.Name x pos'] e pos) (Sd te (Cq i)):=by
 intro pins s σ H D I h
 refine wpAny_Assign_Name (BS (he pins s σ H _ I h) λv s1 ⟨y,H1,I1,r1,q1⟩=> ?_) hs
 exact Gz I1 hN hi hx r1 (λs2 I2=>⟨_,H1,I2,q1⟩) hf
def ni (i j:Nat) (ta:TA):TS:=λD σ H=>ta σ H λvs H1=>∃v w,vs= [v,w] /\D.nx ((σ.set i (some v)).set j (some w)) H1
theorem gc {i j:Nat} {x y:Str} {a b:Expr} {ta:TA} {px py pt:Pos} {kt k2 pt2} (hc:X.calm=true) (hN:X.N.Nodup) (hi:X.N[i]? =some x) (hj:X.N[j]? =some y) (mo:i≠j)
 (hx:X.env.scope.names.lookup x=some .local) (hy:X.env.scope.names.lookup y=some .local) (ha:PA X [a,b] ta)
 (hw:swappedStores [.Tuple [.Name x px, .Name y py] kt pt] (.Tuple [a,b] k2 pt2) X.env=pure (some [x,y]))
 (hs:swapsWithSole [.Tuple [.Name x px, .Name y py] kt pt] (.Tuple [a,b] k2 pt2) pos.line X.env=pure false:=by rfl):
 PS X (.Assign [.Tuple [.Name x px, .Name y py] kt pt] (.Tuple [a,b] k2 pt2) pos) (ni i j ta):=by
 intro pins s σ H D I h
 rw [exec_Assign_arm]
 refine wpAny_bind (wpAny_standAt ?_)
 rw [hs]
 refine wpAny_bind (wpAny_pure ?_)
 rw [if_neg (by decide)]
 refine wpAny_bind (Tuple_ (BS (ha _ pins s σ H _ I h) λus s1 ⟨vs,H1,I1,r1,q1⟩=> ?_))
 obtain ⟨v,w,e1,q1⟩:=q1
 subst e1
 obtain ⟨u1,u2,rfl,rv,rw'⟩:∃u1 u2,us= [u1,u2] /\RelV v u1/\RelV w u2:=by
  cases r1 with
  | cons p q=>
    cases q with
    | cons p' q'=>
      cases q'
      exact ⟨_,_,rfl,p,p'⟩
 refine wpAny_newObj_type ?_ (by show 2<=sizeLine;decide)
 have I2:Inv X pins σ H1 {s1 with heap:=s1.heap.push {cls:= .type "tuple",data:= .seq [u1,u2].toArray}}:=I1.kept (t':=s1.toks) λb o e=>Heap.get?_push_of_some _ e
 rw [hw]
 refine wpAny_bind (wpAny_pure ?_)
 show wpAny (model X.prog X.w) X.A (do rule "assign.swapped-stores";let items <-unpackItems (.ref s1.heap.objs.size) 2 none;assignInOrder [λv=>bindName X.env y v,λv=>bindName X.env x v] items.reverse;pure Flow.next) _ _ _
 refine wpAny_bind (wpAny_rule (wpAny_bind (unpackItems_tuple (items:= #[u1,u2]) (I.ok.hd hc) (IsTup.new s1.heap _) λh' jh=> ?_)))
 have I3:=I2.kept (h':=h') (t':=s1.toks) λb o e=>jh b o (Nat.ne_of_lt (Heap.lt_size e)) e
 show wpAny _ _ (assignInOrder [λv=>bindName X.env y v,λv=>bindName X.env x v] [u2,u1] >>= λ_=>pure Flow.next) _ _ _
 refine wpAny_bind (assignInOrder_cons (wpAny_bindName (Gz I3 hN hj (.inl hy) rw' (λs2 I4=> ?_) (.inr hy))))
 refine assignInOrder_cons (wpAny_bindName (Gz I4 hN hi (.inl hx) rv (λs3 I5=>assignInOrder_nil (wpAny_pure ?_)) (.inr hx)))
 rw [List.set_comm _ _ (Ne.symm mo)] at I5
 exact ⟨_,H1,I5,q1⟩
def nX (i:Nat) (te:TE) (ti:jG):TS:=λD σ H=>∃x,σ[i]? =some (some x)/\te σ H λy H1=>ti x y H1 λz H2=>D.nx (σ.set i (some z)) H2
theorem gb {i:Nat} {x:Str} {e:Expr} {te:TE} {op:Operator} {ti:jG} {pos':Pos} (hN:X.N.Nodup) (hi:X.N[i]? =some x) (hx:Loc X.env.scope x) (he:PE X e te) (ho:iN X op ti) (hf:X.fn x=true\/X.env.scope.names.lookup x=some .local:=by first | exact .inl rfl|exact .inr rfl|assumption):
 PS X (.AugAssign (.Name x pos') op e pos) (nX i te ti):=by
 intro pins s σ H D I h
 obtain ⟨v,e1,h⟩:=h
 obtain ⟨m,hn,hl⟩:=I.loc
 have vis:e8 X.env.scope x:=by rcases hx with k|k;exact .inl k;exact .inr (.inl k)
 obtain ⟨u,r,l⟩:=hl i x v hi e1 vis
 refine wpAny_AugAssign_Name ?_
 have go:wpAny (model X.prog X.w) X.A (eval e X.env) (λw s₂=>wpAny (model X.prog X.w) X.A (inplaceOp op u w) (λr s₃=>wpAny (model X.prog X.w) X.A (storeName X.env x r) (λ_=>SP X pins D .next) X.xe s₃) X.xe s₂) X.xe s:=by
  refine BS (he pins s σ H _ I h) λw s1 ⟨y,H1,I1,r1,q1⟩=> ?_
  refine BS (ho pins s1 σ H1 v y u w _ I1 r r1 q1) λz s2 ⟨zv,H2,I2,r2,q2⟩=> ?_
  exact Gz I2 hN hi hx r2 (λs3 I3=>⟨_,H2,I3,q2⟩) hf
 rcases l with ⟨hk,hm⟩|⟨hk,c,hc,U6⟩
 ·exact wpAny_loadName_local I.ok.kind hk hn hm go
 ·rcases hk with hk|hk
  ·exact wpAny_loadName_cell I.ok.kind hk hc U6 go
  ·rcases hx with k|k
   ·have:X.env.scope.names.lookup x=some .free:=hk
    rw [k] at this;cases this
   ·have:X.env.scope.names.lookup x=some .free:=hk
    rw [k] at this;cases this
def nK (f:Int->Int->Int):jG:=λx y H Q=>∃i j,x= .int i/\y= .int j/\Q (.int (f i j)) H
theorem fj:iN X .Add (nK λi j=>i+j):=by
 intro pins s σ H x y v u Q I r1 r2 h
 obtain ⟨i,j,e1,e2,q⟩:=h
 subst e1;subst e2
 obtain ⟨t,rfl⟩:=r1
 obtain ⟨t',rfl⟩:=r2
 exact iadd_int ⟨.int _,H,I.tok _,⟨_,rfl⟩,q⟩
end
section
variable {X:Cx} {pos:Pos}
def iC (c:TT) (tb:TS):TS:=λD σ H=>∃W:Nat->St->Hp->Prop,(∃m,W m σ H)/\∀m σ H,W m σ H->
 c σ H λb H1=>if b=true then ∃N:St->Hp->Prop,(∀σ' H',N σ' H'->∃m',m'<m/\W m' σ' H')/\tb {D with nx:=N,ct:=N,bk:=D.nx} σ H1 else D.nx σ H1
theorem Y8 {c:Expr} {body:List Stmt} {tc:TT} {tb:TS} (hp:PassesOwn (model X.prog X.w) X.A X.env X.xe) (hc:PT X c tc) (hb:Uj X body tb):PS X (.While c body [] pos) (iC tc tb):=by
 intro pins s σ H D I h
 obtain ⟨W,⟨m0,w0⟩,turn⟩:=h
 refine wpAny_While (codeAny_whileLoop (λn s'=>∃σ' H',Inv X pins σ' H' s'/\W n σ' H') ?_ m0 ⟨σ,H,I,w0⟩)
 rintro n s1 ⟨σ1,H1,I1,w1⟩
 refine wpAny_passesOwn hp (BS (hc pins s1 σ1 H1 _ I1 (turn n σ1 H1 w1)) λb s2 ⟨H2,I2,q2⟩=> ?_)
 cases b with
 | true=>
   obtain ⟨N,hN,q2⟩:=q2
   rw [if_pos rfl]
   refine wpAny_passesOwn hp (BS (hb pins s2 σ1 H2 _ I2 q2) λf s3 q3=> ?_)
   cases f with
   | next=>
     obtain ⟨σ3,H3,I3,n3⟩:=q3
     obtain ⟨m',hm,w3⟩:=hN σ3 H3 n3
     exact ⟨m',hm,σ3,H3,I3,w3⟩
   | cont=>
     obtain ⟨σ3,H3,I3,n3⟩:=q3
     obtain ⟨m',hm,w3⟩:=hN σ3 H3 n3
     exact ⟨m',hm,σ3,H3,I3,w3⟩
   | brk=>exact q3
   | ret v=>exact q3
 | false=>
   rw [if_neg Bool.false_ne_true]
   exact wpAny_execs_nil ⟨σ1,H2,I2,q2⟩
end
structure It where
 go:Nat->Hp->Prop
 yld:Nat->Hp->V->Hp->Prop
 stop:Nat->Hp->Prop
def Db (X:Cx) (pins:List (Addr×Obj)) (H:Hp) (b:Addr):Prop:=
 H b=none/\b≠X.env.locals/\b ∉ X.fs/\(b∈X.ex\/X.s₀.heap.objs.size<=b)/\(∀x c,X.env.cells.lookup x=some c->c≠b)/\∀p∈X.pn++pins,p.1≠b
theorem Inv.fpOk {X:Cx} {pins:List (Addr×Obj)} {σ:St} {H H':Hp} {s:Shared} {b:Addr} (I:Inv X pins σ H s) (hb:s.heap.objs.size<=b) (hn:H' b=none):Db X pins H' b:=by
 refine ⟨hn,Nat.ne_of_gt (Nat.lt_of_lt_of_le I.lt hb),I.nofs hb, .inr (Nat.le_trans I.sz hb),λx c e z=> ?_,λp hp z=> ?_⟩
 ·obtain ⟨v,q⟩:=I.cell x c e
  exact absurd (Nat.lt_of_lt_of_le q.lt (by rw [z];exact hb)) (Nat.lt_irrefl _)
 ·exact absurd (Nat.lt_of_lt_of_le (Heap.lt_size (I.pin p hp).1) (by rw [z];exact hb)) (Nat.lt_irrefl _)
structure J7 (P:Program) (w:World) (K:PySem.W.Frag) (tg:Expr) (J:It) (fp:List Addr) (it:Addr) (tn:Nat->Heap->Prop):Prop where
 mem:it∈fp
 obj:∀i h,tn i h->∀b∈fp,∃o,h.get? b=some o/\∀v,o.data≠ .cell v
 keep:∀i h h',tn i h->(∀b∈fp,∀o,h.get? b=some o->h'.get? b=some o)->tn i h'
 item:∀(X:Cx),X.prog=P->X.w=w->X.K=K->X.calm=true->∀(i:Nat) (pins:List (Addr×Obj)) (s:Shared) (σ:St) (H:Hp) (E:Value->Shared->Prop),Inv X pins σ H s->(∀b∈fp,Db X pins H b)->tn i s.heap->J.go i H->
  wpAny (model P w) X.A (pyNext (.ref it)) (λr s1=>∃u,r=some u/\
   wpAny (model P w) X.A (letOwnedTupleGo tg (.ref it) u) (λ_ s2=>∃x H',Inv X pins σ H' s2/\RelV x u/\J.yld i H x H'/\tn (i+1) s2.heap/\∀b∈fp,H' b=none) E s1) E s
 done:∀(X:Cx),X.prog=P->X.w=w->X.K=K->X.calm=true->∀(i:Nat) (pins:List (Addr×Obj)) (s:Shared) (σ:St) (H:Hp) (E:Value->Shared->Prop),Inv X pins σ H s->(∀b∈fp,Db X pins H b)->tn i s.heap->J.stop i H->
  wpAny (model P w) X.A (pyNext (.ref it)) (λr s1=>r=none/\Inv X pins σ H s1) E s
 self:∀(A:Around) (i:Nat) (s:Shared) (Q:Value->Shared->Prop) (E:Value->Shared->Prop),tn i s.heap->Q (.ref it) s->wpAny (model P w) A (pyIter (.ref it)) Q E s
abbrev TI:=St->Hp->(It->Hp->Prop)->Prop
def pL (X:Cx) (pins:List (Addr×Obj)) (σ:St) (tg:Expr) (R:It->Hp->Prop) (itv:Value) (s2:Shared):Prop:=
 ∃(it:Addr) (fp:List Addr) (tn:Nat->Heap->Prop) (J:It) (H':Hp),itv= .ref it/\Inv X pins σ H' s2/\J7 X.prog X.w X.K tg J fp it tn/\tn 0 s2.heap/\(∀b∈fp,Db X pins H' b)/\R J H'
def PI (X:Cx) (tg iter:Expr) (wi:TI):Prop:=
 ∀(pins:List (Addr×Obj)) (s:Shared) (σ:St) (H:Hp) (R:It->Hp->Prop),Inv X pins σ H s->wi σ H R->
  wpAny (model X.prog X.w) X.A (eval iter X.env) (λv s1=>wpAny (model X.prog X.w) X.A (pyIter v) (pL X pins σ tg R) X.xe s1) X.xe s
theorem YO {M:Model} {A:Around} {E:Value->Shared->Prop} {s:Shared} {tg:Expr} {it:Addr} {u:Value} {o:Obj} {n:String} {vs:Array Value} {Q:Unit->Shared->Prop} (ho:s.heap.get? it=some o) (hc:o.cls= .type n) (hd:o.data= .fields vs)
 (hn: ["enumerate","zip","dict_itemiterator","dict_reverseitemiterator","odict_iterator","itertools.zip_longest","itertools.pairwise"].contains n=false) (hQ:Q () s):wpAny M A (letOwnedTupleGo tg (.ref it) u) Q E s:=by
 unfold letOwnedTupleGo
 cases tg <;> first
  | exact wpAny_pure hQ
  | (cases u <;> first
      | exact wpAny_pure hQ
      | (refine wpAny_bind (wpAny_load ho ?_)
         rw [hc,hd]
         show wpAny M A (if (["enumerate","zip","dict_itemiterator","dict_reverseitemiterator","odict_iterator","itertools.zip_longest","itertools.pairwise"].contains n&&vs[0]?==some (rawInt _))=true then _ else _) Q E s
         rw [if_neg (by intro h;rw [hn,Bool.false_and] at h;cases h)]
         exact wpAny_pure hQ))
def mD (K:PySem.W.Frag) (a:Addr):It:=
 ⟨λi H=>∃xs x,GC K H a xs/\xs[i]? =some x,λi H x H'=>H'=H/\∀xs,GC K H a xs->xs[i]? =some x,λi H=>∃xs,GC K H a xs/\xs.length<=i⟩
def mE (K:PySem.W.Frag) (a:Addr):It:=
 ⟨λi H=>∃xs x,J6 K H a xs/\xs[i]? =some x,λi H x H'=>H'=H/\∀xs,J6 K H a xs->xs[i]? =some x,λi H=>∃xs,J6 K H a xs/\xs.length<=i⟩
def jA (lo:Int) (n:Nat):It:=⟨λi _=>i<n,λi H x H'=>H'=H/\x= .int (lo+i),λi _=>n<=i⟩
theorem XG {P:Program} {w:World} {K:PySem.W.Frag} {tg:Expr} (a it:Addr):J7 P w K tg (mD K a) [it] it (λi h=>h.IsListIter it a i) where
 mem:=by simp
 obj:=λi h st b hb=>by
  have e:b=it:=by simpa using hb
  subst e
  obtain ⟨o,e,c,d⟩:=st
  exact ⟨o,e,λv z=>by rw [d] at z;cases z⟩
 keep:=λi h h' st k=>st.at λo e=>k it (by simp) o e
 item:=by
  intro X hP hw hK hc i pins s σ H E I hf st hg
  subst hP hw hK
  obtain ⟨xs,x,hq,hx⟩:=hg
  obtain ⟨its,rv,p,hz⟩:=I.list hq
  obtain ⟨u,hu,ru⟩:=rv.get hx
  obtain ⟨f0,f1,f2,f3,f4,f5⟩:=hf it (by simp)
  refine wpAny_pyNext_list_item st p.isList (x:=u) (by simpa using hu) λh' st' sb=> ?_
  have I1:Inv X pins σ H {s with heap:=h'}:=I.turned (t':=s.toks) (λb o hb e=>(sb.2 b hb).trans e) f0 f1 f3 f4 f5
  obtain ⟨o,e,c,d⟩:=id st'
  exact ⟨u,rfl,YO (s:={s with heap:=h'}) e c d (by decide) ⟨x,H,I1,ru,⟨rfl,λys hy=>by rw [I.list_inj hy hq];exact hx⟩,st',λb hb=>(hf b hb).1⟩⟩
 done:=by
  intro X hP hw hK hc i pins s σ H E I hf st hg
  subst hP hw hK
  obtain ⟨xs,hq,hx⟩:=hg
  obtain ⟨its,rv,p,hz⟩:=I.list hq
  obtain ⟨f0,f1,f2,f3,f4,f5⟩:=hf it (by simp)
  have hl:=rv.length
  exact wpAny_pyNext_list_end (I.ok.hd hc) st p.isList (by simp;omega) λh' eb=>⟨rfl,I.turned (t':=s.toks) (λb o hb e=>eb b o hb e) f0 f1 f3 f4 f5⟩
 self:=λ_ _ _ _ _ st h=>wpAny_pyIter_listiter st h
theorem Uc {P:Program} {w:World} {K:PySem.W.Frag} {tg:Expr} (a it:Addr):J7 P w K tg (mE K a) [it] it (λi h=>h.IsTupleIter it a i) where
 mem:=by simp
 obj:=λi h st b hb=>by
  have e:b=it:=by simpa using hb
  subst e
  obtain ⟨o,e,c,d⟩:=st
  exact ⟨o,e,λv z=>by rw [d] at z;cases z⟩
 keep:=λi h h' st k=>st.at λo e=>k it (by simp) o e
 item:=by
  intro X hP hw hK hc i pins s σ H E I hf st hg
  subst hP hw hK
  obtain ⟨xs,x,hq,hx⟩:=hg
  obtain ⟨its,rv,p,hz⟩:=I.tuple hq
  obtain ⟨u,hu,ru⟩:=rv.get hx
  obtain ⟨f0,f1,f2,f3,f4,f5⟩:=hf it (by simp)
  refine wpAny_pyNext_tuple_item st (show s.heap.IsTuple a its.toArray from p) (x:=u) (by simpa using hu) λh' st' sb=> ?_
  have I1:Inv X pins σ H {s with heap:=h'}:=I.turned (t':=s.toks) (λb o hb e=>(sb.2 b hb).trans e) f0 f1 f3 f4 f5
  obtain ⟨o,e,c,d⟩:=id st'
  exact ⟨u,rfl,YO (s:={s with heap:=h'}) e c d (by decide) ⟨x,H,I1,ru,⟨rfl,λys hy=>by rw [I.tuple_inj hy hq];exact hx⟩,st',λb hb=>(hf b hb).1⟩⟩
 done:=by
  intro X hP hw hK hc i pins s σ H E I hf st hg
  subst hP hw hK
  obtain ⟨xs,hq,hx⟩:=hg
  obtain ⟨its,rv,p,hz⟩:=I.tuple hq
  obtain ⟨f0,f1,f2,f3,f4,f5⟩:=hf it (by simp)
  have hl:=rv.length
  exact wpAny_pyNext_tuple_end (I.ok.hd hc) st (show s.heap.IsTuple a its.toArray from p) (by simp;omega) λh' eb=>⟨rfl,I.turned (t':=s.toks) (λb o hb e=>eb b o hb e) f0 f1 f3 f4 f5⟩
 self:=λ_ _ _ _ _ st h=>wpAny_pyIter_tupleiter st h
theorem Ub {P:Program} {w:World} {K:PySem.W.Frag} {tg:Expr} (it:Addr) (lo:Int) (n:Nat):J7 P w K tg (jA lo n) [it] it (λi h=>IsRangeIter h it (lo+(i:Nat)*1) ((n:Int)-(i:Nat)) 1) where
 mem:=by simp
 obj:=λi h st b hb=>by
  have e:b=it:=by simpa using hb
  subst e
  exact ⟨_,st,λv z=>by
   have z':Data.fields _=Data.cell v:=z
   cases z'⟩
 keep:=λi h h' st k=>k it (by simp) _ st
 item:=by
  intro X hP hw hK hc i pins s σ H E I hf st hg
  subst hP hw hK
  obtain ⟨f0,f1,f2,f3,f4,f5⟩:=hf it (by simp)
  have W:=Walks.range (prog:=X.prog) (w:=X.w) (I.ok.hd hc) it lo 1 n
  refine W.item i s _ _ hg st λv h' tk hv st' kk=> ?_
  obtain ⟨t,rfl⟩:=hv
  have I1:Inv X pins σ H {s with heap:=h',toks:=tk}:=I.turned (λb o hb e=>kk b o (by simpa using hb) e) f0 f1 f3 f4 f5
  refine ⟨_,rfl,YO (s:={s with heap:=h',toks:=tk}) (n:="range_iterator") st' rfl rfl (by decide) ⟨.int (lo+i),H,I1,⟨t, ?_⟩,⟨rfl,rfl⟩,st',λb hb=>(hf b hb).1⟩⟩
  rw [Int.mul_one]
 done:=by
  intro X hP hw hK hc i pins s σ H E I hf st hg
  subst hP hw hK
  obtain ⟨f0,f1,f2,f3,f4,f5⟩:=hf it (by simp)
  exact wpAny_pyNext_range_end (I.ok.hd hc) st (by have:n<=i:=hg;omega) λh' eb=>⟨rfl,I.turned (t':=s.toks) (λb o hb e=>eb b o hb e) f0 f1 f3 f4 f5⟩
 self:=λ_ _ _ _ _ st h=>wpAny_pyIter_rangeiter st h
end L2
namespace L2
open PySem PySem.Spec PyProof.Rows
section
variable {X:Cx} {tg:Expr}
theorem R5 {pins:List (Addr×Obj)} {σ:St} {H:Hp} {s:Shared} {R:It->Hp->Prop} {E:Value->Shared->Prop} {lo hi:Int} {t u v:Tok} {tk:Nat} (I:Inv X pins σ H s) (h1: -(2^62)<=lo) (h2:lo<2^62) (h3: -(2^62)<=hi) (h4:hi<2^62)
 (q:R (jA lo (hi-lo).toNat) H):wpAny (model X.prog X.w) X.A (pyIter (.ref s.heap.objs.size)) (pL X pins σ tg R) E {s with heap:=s.heap.push {cls:= .type "range",data:= .fields #[.int lo t, .int hi u, .int 1 v] },toks:=tk}:=by
 refine wpAny_pyIter_range (IsRange.new ..) (small_one h1 h2 h3 h4) ?_
 have I1:Inv X pins σ H {s with heap:=s.heap.push {cls:= .type "range",data:= .fields #[.int lo t, .int hi u, .int 1 v] },toks:=tk}:=I.kept λb o e=>Heap.get?_push_of_some _ e
 refine ⟨(s.heap.push {cls:= .type "range",data:= .fields #[.int lo t, .int hi u, .int 1 v] }).objs.size, [(s.heap.push {cls:= .type "range",data:= .fields #[.int lo t, .int hi u, .int 1 v] }).objs.size],_,_,H,rfl,
  I1.kept (t':=tk) λb o e=>Heap.get?_push_of_some _ e,Ub _ lo (hi-lo).toNat, ?_,λb hb=> ?_,q⟩
 ·have e1:lo+((0:Nat):Int)*1=lo:=by simp
  have e2:(((hi-lo).toNat:Nat):Int)-((0:Nat):Int)=Builtin.Range.rangeSize lo hi 1:=by rw [rangeSize_one];split <;> omega
  show IsRangeIter _ _ (lo+((0:Nat):Int)*1) ((((hi-lo).toNat:Nat):Int)-((0:Nat):Int)) 1
  rw [e1,e2]
  exact Heap.get?_push_size _ rfl
 ·have e:b=(s.heap.push {cls:= .type "range",data:= .fields #[.int lo t, .int hi u, .int 1 v] }).objs.size:=by simpa using hb
  subst e
  exact I1.fpOk (Nat.le_refl _) (I1.hok.fresh (Nat.le_refl _))
def ji (ta:TA):TI:=λσ H R=>ta σ H λvs H1=>∃j:Int,vs= [.int j] /\ -(2^62)<=j/\j<2^62/\R (jA 0 j.toNat) H1
def jj (ta:TA):TI:=λσ H R=>ta σ H λvs H1=>∃i j:Int,vs= [.int i, .int j] /\(-(2^62)<=i/\i<2^62/\ -(2^62)<=j/\j<2^62)/\R (jA i (j-i).toNat) H1
theorem Wy {a:Expr} {ta:TA} {p pos:Pos} (hg:Gl X "range") (hm:X.mg "range" =none) (ha:PA X [a] ta) (hs:starEach [a] X.env= [(false,eval a X.env)] :=by rfl):PI X tg (.Call (.Name "range" p) [a] [] pos) (ji ta):=by
 intro pins s σ H R I h
 refine Call_ (Gi I hg hm boot_range (PyProof.Rows.callWith_type1 (BS (ha pos pins s σ H _ I h) λus s1 ⟨vs,H1,I1,r1,q1⟩=> ?_) hs rfl))
 obtain ⟨j,e,q1,q2,q⟩:=q1
 subst e
 cases r1 with
 | cons r rr=>
   cases rr
   obtain ⟨t,rfl⟩:=r
   exact call_range_1 (R5 I1 (by omega) (by omega) q1 q2 (by simpa using q))
theorem Wz {a b:Expr} {ta:TA} {p pos:Pos} (hg:Gl X "range") (hm:X.mg "range" =none) (ha:PA X [a,b] ta) (hs:starEach [a,b] X.env= [(false,eval a X.env),(false,eval b X.env)] :=by rfl) (Qr:starEach [b] X.env= [(false,eval b X.env)] :=by rfl):
 PI X tg (.Call (.Name "range" p) [a,b] [] pos) (jj ta):=by
 intro pins s σ H R I h
 refine Call_ (Gi I hg hm boot_range (PyProof.Rows.callWith_type1 (BS (ha pos pins s σ H _ I h) λus s1 ⟨vs,H1,I1,r1,q1⟩=> ?_) (by rw [hs,Qr]) (by rw [Qr];rfl)))
 obtain ⟨i,j,e,⟨q1,q2,q3,q4⟩,q⟩:=q1
 subst e
 cases r1 with
 | cons r rr=>
   cases rr with
   | cons r' rr=>
     cases rr
     obtain ⟨t,rfl⟩:=r
     obtain ⟨t',rfl⟩:=r'
     exact call_range_2 (R5 I1 q1 q2 q3 q4 q)
def ko (wi:TI) (g:TG) (tb:TS):TS:=λD σ H=>wi σ H λJ H1=>∃W:Nat->Nat->St->Hp->Prop,(∃m,W 0 m σ H1)/\∀i m σ H,W i m σ H->
 (J.stop i H/\D.nx σ H)\/(J.go i H/\∃N:St->Hp->Prop,(∀σ' H',N σ' H'->∃m',m'<m/\W (i+1) m' σ' H')/\∀x H',J.yld i H x H'->g x σ H' λσ2 H2=>tb {D with nx:=N,ct:=N,bk:=D.nx} σ2 H2)
def E8 (fp:List Addr) (h:Heap):List (Addr×Obj):=fp.filterMap λb=>(h.get? b).map λo=>(b,o)
theorem Bt {fp:List Addr} {h:Heap} {b:Addr} {o:Obj} (hb:b∈fp) (e:h.get? b=some o):(b,o)∈E8 fp h:=List.mem_filterMap.mpr ⟨b,hb,by rw [e];rfl⟩
theorem Wq {fp:List Addr} {h:Heap} {p:Addr×Obj} (hp:p∈E8 fp h):p.1∈fp/\h.get? p.1=some p.2:=by
 obtain ⟨b,hb,e⟩:=List.mem_filterMap.mp hp
 cases q:h.get? b with
 | none=>rw [q] at e;cases e
 | some o=>
   rw [q] at e
   have e':(b,o)=p:=Option.some.inj e
   subst e'
   exact ⟨hb,q⟩
theorem Inv.pinned {pins:List (Addr×Obj)} {σ:St} {H:Hp} {s:Shared} {fp:List Addr} (I:Inv X pins σ H s) (hf:∀b∈fp,Db X pins H b) (ho:∀b∈fp,∃o,s.heap.get? b=some o/\∀v,o.data≠ .cell v):Inv X (pins++E8 fp s.heap) σ H s:=
 I.pins_of λp hp=>(List.mem_append.mp hp).elim (λz=>I.pin p (List.mem_append_right _ z)) λz=>by
   obtain ⟨hb,e⟩:=Wq z
   obtain ⟨f0,f1,f2,_⟩:=hf p.1 hb
   obtain ⟨o,e',d⟩:=ho p.1 hb
   rw [e] at e';cases e'
   exact ⟨e,f0,f1,f2,d⟩
theorem Inv.unpinned {pins pl:List (Addr×Obj)} {σ:St} {H:Hp} {s:Shared} (I:Inv X (pins++pl) σ H s):Inv X pins σ H s:=I.pins_of λp hp=>I.pin p (List.mem_append_right _ (List.mem_append_left _ hp))
theorem Y7 {iter:Expr} {body:List Stmt} {wi:TI} {g:TG} {tb:TS} {pos:Pos} (hp:PassesOwn (model X.prog X.w) X.A X.env X.xe) (hc:X.calm=true) (hi:PI X tg iter wi) (hg:PG X tg g) (hb:Uj X body tb)
 (hs:∀x,foldedSetIterable iter X.env x=pure x:=by intro _;rfl):PS X (.For tg iter body [] pos) (ko wi g tb):=by
 intro pins s σ H D I h
 refine wpAny_For (BS (hi pins s σ H _ I h) λv s1 h1=>BS h1 λitv s2 h2=> ?_) hs
 obtain ⟨it,fp,tn,J,H2,e,I2,T,st2,f2,W,⟨m0,w0⟩,turn⟩:=h2
 subst e
 have stat:∀{H':Hp},(∀b∈fp,H' b=none)->∀b∈fp,Db X pins H' b:=λhn b hb=>⟨hn b hb,(f2 b hb).2⟩
 refine codeAny_forLoop_any (λn s'=>∃i σ' H',Inv X pins σ' H' s'/\tn i s'.heap/\(∀b∈fp,H' b=none)/\W i n σ' H') ?_ m0 ⟨0,σ,H2,I2,st2,λb hb=>(f2 b hb).1,w0⟩
 rintro n s3 ⟨i,σ3,H3,I3,st3,fr3,w3⟩
 rcases turn i n σ3 H3 w3 with ⟨stop,qn⟩|⟨go,N,hN,step⟩
 ·refine wpAny_passesOwn hp (BS (T.done X rfl rfl rfl hc i pins s3 σ3 H3 X.xe I3 (stat fr3) st3 stop) λr s4 ⟨hr,I4⟩=> ?_)
  subst hr
  exact wpAny_execs_nil ⟨σ3,H3,I4,qn⟩
 ·refine wpAny_passesOwn hp (BS (T.item X rfl rfl rfl hc i pins s3 σ3 H3 X.xe I3 (stat fr3) st3 go) λr s4 ⟨u,hr,h4⟩=> ?_)
  subst hr
  refine wpAny_passesOwn hp (BS h4 λ_ s5 ⟨x,H5,I5,r5,y5,st5,fr5⟩=> ?_)
  have I5':=I5.pinned (stat fr5) (T.obj _ _ st5)
  refine wpAny_passesOwn hp (BS (hg _ s5 σ3 H5 x u _ I5' r5 (step x H5 y5)) λ_ s6 ⟨σ6,H6,I6,q6⟩=> ?_)
  refine wpAny_passesOwn hp (BS (hb _ s6 σ6 H6 _ I6 q6) λf s7 q7=> ?_)
  have again:∀{σ7:St} {H7:Hp},Inv X (pins++E8 fp s5.heap) σ7 H7 s7->N σ7 H7->∃m,m<n/\∃i σ' H',Inv X pins σ' H' s7/\tn i s7.heap/\(∀b∈fp,H' b=none)/\W i m σ' H':=λ{σ7 H7} I7 n7=>by
   obtain ⟨m',hm,w7⟩:=hN σ7 H7 n7
   refine ⟨m',hm,i+1,σ7,H7,I7.unpinned,T.keep _ _ _ st5 λb hb o e=>(I7.pin (b,o) (List.mem_append_right _ (List.mem_append_right _ (Bt hb e)))).1,λb hb=> ?_,w7⟩
   obtain ⟨o,e,d⟩:=T.obj _ _ st5 b hb
   exact (I7.pin (b,o) (List.mem_append_right _ (List.mem_append_right _ (Bt hb e)))).2.1
  cases f with
  | next=>obtain ⟨σ7,H7,I7,n7⟩:=q7;exact again I7 n7
  | cont=>obtain ⟨σ7,H7,I7,n7⟩:=q7;exact again I7 n7
  | brk=>obtain ⟨σ7,H7,I7,q7⟩:=q7;exact ⟨σ7,H7,I7.unpinned,q7⟩
  | ret v=>obtain ⟨x7,σ7,H7,I7,r7,q7⟩:=q7;exact ⟨x7,σ7,H7,I7.unpinned,r7,q7⟩
end
end L2
namespace L2
open PySem PySem.Spec PyProof.Rows
abbrev R2:=V->V->Hp->VK->Prop
def EB (X:Cx) (f:Value->Value->Sem Value) (r:R2):Prop:=
 ∀(pins:List (Addr×Obj)) (s:Shared) (σ:St) (H:Hp) (x y:V) (v u:Value) (Q:VK),Inv X pins σ H s->RelV x v->RelV y u->r x y H Q->
  wpAny (model X.prog X.w) X.A (f v u) (EP X pins σ Q) X.xe s
def mL (X:Cx) (f:Value->Sem Value) (r:V->Hp->VK->Prop):Prop:=
 ∀(pins:List (Addr×Obj)) (s:Shared) (σ:St) (H:Hp) (x:V) (v:Value) (Q:VK),Inv X pins σ H s->RelV x v->r x H Q->
  wpAny (model X.prog X.w) X.A (f v) (EP X pins σ Q) X.xe s
def B4 (X:Cx) (f:Value) (r:List V->Hp->VK->Prop):Prop:=
 ∀(pins:List (Addr×Obj)) (s:Shared) (σ:St) (H:Hp) (xs:List V) (us:List Value) (Q:VK),Inv X pins σ H s->Ar xs us->r xs H Q->
  wpAny (model X.prog X.w) X.A (call f us) (EP X pins σ Q) X.xe s
def dC (r:R2) (ta tb:TE):TE:=λσ H Q=>ta σ H λx H1=>tb σ H1 λy H2=>r x y H2 Q
def uE (r:V->Hp->VK->Prop) (ta:TE):TE:=λσ H Q=>ta σ H λx H1=>r x H1 Q
def rI (C:Int->Int->Prop) (g:Int->Int->V):R2:=λx y H Q=>∃i j,x= .int i/\y= .int j/\C i j/\Q (g i j) H
def Oe (g:Int->Int->V):R2:=λx y H Q=>∃i j,x= .int i/\y= .int j/\Q (g i j) H
def rU (g:Int->V):V->Hp->VK->Prop:=λx H Q=>∃i,x= .int i/\Q (g i) H
section
variable {X:Cx} {a b c:Expr} {ta tb tc:TE} {pos:Pos}
theorem fD (ha:PE X a ta) (hb:PE X b tb) {pins:List (Addr×Obj)} {s:Shared} {σ:St} {H:Hp} {R:V->V->Hp->Prop} (I:Inv X pins σ H s)
 (h:ta σ H λx H1=>tb σ H1 λy H2=>R x y H2) {Q:Value->Shared->Prop} {f:Value->Value->Sem Value}
 (hf:∀v u s2 x y H2,Inv X pins σ H2 s2->RelV x v->RelV y u->R x y H2->wpAny (model X.prog X.w) X.A (f v u) Q X.xe s2):
 wpAny (model X.prog X.w) X.A (eval a X.env) (λv s₁=>wpAny (model X.prog X.w) X.A (eval b X.env) (λu s₂=>wpAny (model X.prog X.w) X.A (f v u) Q X.xe s₂) X.xe s₁) X.xe s:=by
 refine BS (ha pins s σ H _ I h) λv s1 ⟨x,H1,I1,r1,q1⟩=> ?_
 refine BS (hb pins s1 σ H1 _ I1 q1) λu s2 ⟨y,H2,I2,r2,q2⟩=> ?_
 exact hf v u s2 x y H2 I2 r1 r2 q2
theorem B9 {op:Operator} {r:R2} (ho:EB X (binaryOp op) r) (ha:PE X a ta) (hb:PE X b tb):PE X (.BinOp a op b pos) (dC r ta tb):=by
 intro pins s σ H Q I h
 exact wpAny_BinOp (fD ha hb I h λv u s2 x y H2 I2 rx ry q=>ho pins s2 σ H2 x y v u Q I2 rx ry q)
theorem j9 {op:UnaryOp} {r:V->Hp->VK->Prop} (ho:mL X (unaryOp op) r) (ha:PE X a ta):PE X (.UnaryOp op a pos) (uE r ta):=by
 intro pins s σ H Q I h
 exact UnaryOp_ (BS (ha pins s σ H _ I h) λv s1 ⟨x,H1,I1,r1,q1⟩=>ho pins s1 σ H1 x v Q I1 r1 q1)
theorem gP {f:Value->Value->Sem Value} {C:Int->Int->Prop} {g:Int->Int->Int}
 (rule:∀(i j:Int) (t u:Tok) (s:Shared) (Q:Value->Shared->Prop) (E:Value->Shared->Prop),C i j->Q (.int (g i j) s.toks) {s with toks:=s.toks+1}->wpAny (model X.prog X.w) X.A (f (.int i t) (.int j u)) Q E s):
 EB X f (rI C λi j=> .int (g i j)):=by
 intro pins s σ H x y v u Q I rx ry h
 obtain ⟨i,j,rfl,rfl,hc,q⟩:=h
 obtain ⟨t,rfl⟩:=rx
 obtain ⟨t',rfl⟩:=ry
 exact rule i j t t' s _ _ hc ⟨.int (g i j),H,I.tok _,⟨_,rfl⟩,q⟩
theorem jx {f:Value->Value->Sem Value} {g:Int->Int->Int}
 (rule:∀(i j:Int) (t u:Tok) (s:Shared) (Q:Value->Shared->Prop) (E:Value->Shared->Prop),Q (.int (g i j) s.toks) {s with toks:=s.toks+1}->wpAny (model X.prog X.w) X.A (f (.int i t) (.int j u)) Q E s):
 EB X f (Oe λi j=> .int (g i j)):=by
 intro pins s σ H x y v u Q I rx ry h
 obtain ⟨i,j,rfl,rfl,q⟩:=h
 obtain ⟨t,rfl⟩:=rx
 obtain ⟨t',rfl⟩:=ry
 exact rule i j t t' s _ _ ⟨.int (g i j),H,I.tok _,⟨_,rfl⟩,q⟩
theorem gO {f:Value->Value->Sem Value} {g:Int->Int->Bool}
 (rule:∀(i j:Int) (t u:Tok) (s:Shared) (Q:Value->Shared->Prop) (E:Value->Shared->Prop),Q (.bool (g i j)) s->wpAny (model X.prog X.w) X.A (f (.int i t) (.int j u)) Q E s):
 EB X f (Oe λi j=> .bl (g i j)):=by
 intro pins s σ H x y v u Q I rx ry h
 obtain ⟨i,j,rfl,rfl,q⟩:=h
 obtain ⟨t,rfl⟩:=rx
 obtain ⟨t',rfl⟩:=ry
 exact rule i j t t' s _ _ ⟨.bl (g i j),H,I,rfl,q⟩
def l8 (i j:Int):Prop:=0<=j/\j<=1000000/\i.natAbs<2^64
def MJ (i j:Int):Prop:=(-(2^64)<i/\i<2^64)\/(-(2^64)<j/\j<2^64)
theorem MJ.ok {i j:Int} (h:MJ i j):IntMulOk i j:=by
 rcases h with ⟨h1,h2⟩|⟨h1,h2⟩
 ·exact .of_left (intBits_le_64 h1 h2)
 ·exact .of_right (intBits_le_64 h1 h2)
theorem Hx:EB X (binaryOp .Add) (Oe λi j=> .int (i+j)):=jx λ_ _ _ _ _ _ _ q=>add_int q
theorem UE:EB X (binaryOp .Sub) (Oe λi j=> .int (i-j)):=jx λ_ _ _ _ _ _ _ q=>sub_int q
theorem Fs:EB X (binaryOp .Mod) (rI (λ_ j=>0<j) λi j=> .int (i % j)):=gP λi j _ _ _ _ _ hc q=>by
 have h1:(0:Int)<j:=hc
 exact mod_int' (by omega) (by rw [Int.fmod_eq_emod_of_nonneg i (by omega)];exact q)
theorem cD:EB X (binaryOp .Mod) (rI (λ_ j=>j≠0) λi j=> .int (i.fmod j)):=gP λ_ _ _ _ _ _ _ hc q=>mod_int' hc q
theorem gU:EB X (binaryOp .Pow) (rI l8 λi j=> .int (i^j.toNat)):=gP λ_ _ _ _ _ _ _ hc q=>pow_int_small hc.1 hc.2.1 hc.2.2 q
theorem uF {f:Value->Sem Value} {g:Int->Int}
 (rule:∀(i:Int) (t:Tok) (s:Shared) (Q:Value->Shared->Prop) (E:Value->Shared->Prop),Q (.int (g i) s.toks) {s with toks:=s.toks+1}->wpAny (model X.prog X.w) X.A (f (.int i t)) Q E s):
 mL X f (rU λi=> .int (g i)):=by
 intro pins s σ H x v Q I rx h
 obtain ⟨i,rfl,q⟩:=h
 obtain ⟨t,rfl⟩:=rx
 exact rule i t s _ _ ⟨.int (g i),H,I.tok _,⟨_,rfl⟩,q⟩
theorem iF:mL X (unaryOp .USub) (rU λi=> .int (-i)):=uF λ_ _ _ _ _ q=>neg_int q
end
def cm:V->V->Bool
 | .non, .non=>true | .non, .int _=>true | .int _, .non=>true | .non, .bl _=>true | .bl _, .non=>true | .non, .str _=>true | .str _, .non=>true
 | .int _, .int _=>true | .bl _, .bl _=>true | .str _, .str _=>true | .byt _, .byt _=>true
 | .int _, .str _=>true | .str _, .int _=>true | .bl _, .str _=>true | .str _, .bl _=>true
 | _,_=>false
def qK:R2:=λx y H Q=>cm x y=true/\Q (.bl (decide (x=y))) H
def qL:R2:=λx y H Q=>cm x y=true/\Q (.bl (!decide (x=y))) H
theorem Uw {i j:Int}:decide (V.int i=V.int j)=(i==j):=by
 rw [Bool.eq_iff_iff]
 simp
theorem YA {i j:Bool}:decide (V.bl i=V.bl j)=(i==j):=by
 rw [Bool.eq_iff_iff]
 simp
theorem Ux {i j:Str}:decide (V.str i=V.str j)=(i==j):=by
 rw [Bool.eq_iff_iff]
 simp
theorem Uv {i j:Array UInt8}:decide (V.byt i=V.byt j)=(i.toList==j.toList):=by
 rw [Bool.eq_iff_iff]
 cases i
 cases j
 simp
section
variable {X:Cx} {a b c:Expr} {ta tb tc:TE} {pos:Pos}
theorem BC {pins:List (Addr×Obj)} {σ:St} {H:Hp} {s:Shared} {Q:VK} {k k':Bool} (I:Inv X pins σ H s) (q:Q (.bl k) H) (e:k=k'):EP X pins σ Q (.bool k') s:=by
 subst e
 exact ⟨.bl k,H,I,rfl,q⟩
theorem jy:EB X (compareOp .Eq) qK:=by
 intro pins s σ H x y v u Q I rx ry h
 obtain ⟨hs,q⟩:=h
 cases x with
 | non=>
   cases rx
   cases y with
   | non=>cases ry;exact PySem.EqNone.eq_none_none (BC I q (by simp))
   | bl j=>cases ry;exact PySem.EqNone.eq_none_bool (BC I q (by simp))
   | int j=>obtain ⟨t',rfl⟩:=ry;exact PySem.EqNone.eq_none_int (BC I q (by simp))
   | str j=>obtain ⟨t',rfl⟩:=ry;exact PySem.EqNone.eq_none_str (BC I q (by simp))
   | _=>exact absurd (show false=true from hs) Bool.false_ne_true
 | bl i=>
   cases rx
   cases y with
   | non=>cases ry;exact PySem.EqNone.eq_bool_none (BC I q (by simp))
   | bl j=>cases ry;exact eq_bool (BC I q YA)
   | str j=>obtain ⟨t',rfl⟩:=ry;exact PySem.EqMixed.eq_bool_str (BC I q (by simp))
   | _=>exact absurd (show false=true from hs) Bool.false_ne_true
 | int i=>
   obtain ⟨t,rfl⟩:=rx
   cases y with
   | non=>cases ry;exact PySem.EqNone.eq_int_none (BC I q (by simp))
   | int j=>obtain ⟨t',rfl⟩:=ry;exact eq_int (BC I q Uw)
   | str j=>obtain ⟨t',rfl⟩:=ry;exact PySem.EqMixed.eq_int_str (BC I q (by simp))
   | _=>exact absurd (show false=true from hs) Bool.false_ne_true
 | str i=>
   obtain ⟨t,rfl⟩:=rx
   cases y with
   | non=>cases ry;exact PySem.EqNone.eq_str_none (BC I q (by simp))
   | bl j=>cases ry;exact PySem.EqMixed.eq_str_bool (BC I q (by simp))
   | int j=>obtain ⟨t',rfl⟩:=ry;exact PySem.EqMixed.eq_str_int (BC I q (by simp))
   | str j=>obtain ⟨t',rfl⟩:=ry;exact eq_str (BC I q Ux)
   | _=>exact absurd (show false=true from hs) Bool.false_ne_true
 | byt i=>
   obtain ⟨t,rfl⟩:=rx
   cases y with
   | byt j=>obtain ⟨t',rfl⟩:=ry;exact PySem.W.eq_bytes (BC I q Uv)
   | _=>exact absurd (show false=true from hs) Bool.false_ne_true
 | _=>cases y <;> exact absurd (show false=true from hs) Bool.false_ne_true
theorem j3:EB X (compareOp .NotEq) qL:=by
 intro pins s σ H x y v u Q I rx ry h
 obtain ⟨hs,q⟩:=h
 cases x with
 | non=>
   cases rx
   cases y with
   | non=>cases ry;exact PySem.EqNone.ne_none_none (BC I q (by simp))
   | bl j=>cases ry;exact PySem.EqNone.ne_none_bool (BC I q (by simp))
   | int j=>obtain ⟨t',rfl⟩:=ry;exact PySem.EqNone.ne_none_int (BC I q (by simp))
   | str j=>obtain ⟨t',rfl⟩:=ry;exact PySem.EqNone.ne_none_str (BC I q (by simp))
   | _=>exact absurd (show false=true from hs) Bool.false_ne_true
 | bl i=>
   cases rx
   cases y with
   | non=>cases ry;exact PySem.EqNone.ne_bool_none (BC I q (by simp))
   | bl j=>cases ry;exact ne_bool (BC I q (congrArg not YA))
   | str j=>obtain ⟨t',rfl⟩:=ry;exact PySem.EqMixed.ne_bool_str (BC I q (by simp))
   | _=>exact absurd (show false=true from hs) Bool.false_ne_true
 | int i=>
   obtain ⟨t,rfl⟩:=rx
   cases y with
   | non=>cases ry;exact PySem.EqNone.ne_int_none (BC I q (by simp))
   | int j=>obtain ⟨t',rfl⟩:=ry;exact ne_int (BC I q (congrArg not Uw))
   | str j=>obtain ⟨t',rfl⟩:=ry;exact PySem.EqMixed.ne_int_str (BC I q (by simp))
   | _=>exact absurd (show false=true from hs) Bool.false_ne_true
 | str i=>
   obtain ⟨t,rfl⟩:=rx
   cases y with
   | non=>cases ry;exact PySem.EqNone.ne_str_none (BC I q (by simp))
   | bl j=>cases ry;exact PySem.EqMixed.ne_str_bool (BC I q (by simp))
   | int j=>obtain ⟨t',rfl⟩:=ry;exact PySem.EqMixed.ne_str_int (BC I q (by simp))
   | str j=>obtain ⟨t',rfl⟩:=ry;exact ne_str (BC I q (congrArg not Ux))
   | _=>exact absurd (show false=true from hs) Bool.false_ne_true
 | byt i=>
   obtain ⟨t,rfl⟩:=rx
   cases y with
   | byt j=>obtain ⟨t',rfl⟩:=ry;exact PySem.W.ne_bytes (BC I q (congrArg not Uv))
   | _=>exact absurd (show false=true from hs) Bool.false_ne_true
 | _=>cases y <;> exact absurd (show false=true from hs) Bool.false_ne_true
theorem dw:EB X (compareOp .Lt) (Oe λi j=> .bl (decide (i<j))):=gO λ_ _ _ _ _ _ _ q=>lt_int q
theorem dt:EB X (compareOp .Gt) (Oe λi j=> .bl (decide (j<i))):=gO λ_ _ _ _ _ _ _ q=>gt_int q
theorem dn:EB X (compareOp .GtE) (Oe λi j=> .bl (decide (j<=i))):=gO λ_ _ _ _ _ _ _ q=>ge_int q
theorem gS:EB X (compareOp .Is) (λx y H Q=>y= .non/\Q (.bl (decide (x= .non))) H):=by
 intro pins s σ H x y v u Q I rx ry h
 obtain ⟨rfl,q⟩:=h
 cases ry
 refine is_none_gen (BC I q ?_)
 cases x <;> first
  | (cases rx;rfl)
  | (obtain ⟨t,rfl⟩:=rx;rfl)
theorem VN:EB X (compareOp .IsNot) (λx y H Q=>y= .non/\Q (.bl (!decide (x= .non))) H):=by
 intro pins s σ H x y v u Q I rx ry h
 obtain ⟨rfl,q⟩:=h
 cases ry
 refine isnot_none_gen (BC I q ?_)
 cases x <;> first
  | (cases rx;rfl)
  | (obtain ⟨t,rfl⟩:=rx;rfl)
theorem EB.or {f:Value->Value->Sem Value} {r r':R2} (h:EB X f r) (h':EB X f r'):EB X f (λx y H Q=>r x y H Q\/r' x y H Q):=by
 intro pins s σ H x y v u Q I rx ry q
 rcases q with q|q
 ·exact h pins s σ H x y v u Q I rx ry q
 ·exact h' pins s σ H x y v u Q I rx ry q
theorem DO (b:Expr) {op:CmpOp} (h:op≠ .In:=by decide) (h2:op≠ .NotIn:=by decide):behindInMarks op b=false:=by
 have e1:(op==CmpOp.In)=false:=by cases op <;> first | rfl|exact absurd rfl h
 have e2:(op==CmpOp.NotIn)=false:=by cases op <;> first | rfl|exact absurd rfl h2
 cases b <;> simp [behindInMarks,e1,e2]
theorem VP {op:CmpOp} {r:R2} (ho:EB X (compareOp op) r) (ha:PE X a ta) (hb:PE X b tb) (hm:behindInMarks op b=false):PE X (.Compare a [op] [b] pos) (dC r ta tb):=by
 intro pins s σ H Q I h
 exact wpAny_Compare1 (fD ha hb I h λv u s2 x y H2 I2 rx ry q=>ho pins s2 σ H2 x y v u Q I2 rx ry q) hm
def Zv (t:TE):TT:=λσ H Q=>t σ H λx H'=>∃k,x= .bl k/\Q k H'
theorem Lr {op:CmpOp} {r:R2} (ho:EB X (compareOp op) r) (ha:PE X a ta) (hb:PE X b tb) (hm:behindInMarks op b=false):PT X (.Compare a [op] [b] pos) (Zv (dC r ta tb)):=by
 intro pins s σ H Q I h
 refine wpAny_isTrue_Compare1 (BS (ha pins s σ H _ I h) λv s1 ⟨x,H1,I1,r1,q1⟩=>BS (hb pins s1 σ H1 _ I1 q1) λu s2 ⟨y,H2,I2,r2,q2⟩=>
  BS (ho pins s2 σ H2 x y v u _ I2 r1 r2 q2) λc s3 ⟨z,H3,I3,r3,k,e,q3⟩=> ?_) hm
 subst e
 cases r3
 exact wpAny_truthy_bool ⟨H3,I3,q3⟩
theorem Ms:(sizeLine:Nat)<2^63:=by rw [sizeLine_eq];decide
theorem vals1 {x:V} {us:List Value} (r:Ar [x] us):∃u,us= [u] /\RelV x u:=by
 cases r with
 | cons r1 r2=>cases r2;exact ⟨_,rfl,r1⟩
theorem vals2 {x y:V} {us:List Value} (r:Ar [x,y] us):∃u w',us= [u,w'] /\RelV x u/\RelV y w':=by
 cases r with
 | cons r1 r2=>
   cases r2 with
   | cons r3 r4=>cases r4;exact ⟨_,_,rfl,r1,r3⟩
theorem Mc:B4 X (.builtin "abs") (λxs H Q=>∃i,xs= [.int i] /\Q (.int (if i<0 then -i else i)) H):=by
 intro pins s σ H xs us Q I r h
 obtain ⟨i,rfl,q⟩:=h
 obtain ⟨u,rfl,t,rfl⟩:=vals1 r
 exact call_abs_int λu tk=>⟨.int (if i<0 then -i else i),H,I.tok _,⟨_,rfl⟩,q⟩
theorem WD (hc:X.calm=true):B4 X (.builtin "min") (λxs H Q=>∃i j,xs= [.int i, .int j] /\Q (.int (if j<i then j else i)) H):=by
 intro pins s σ H xs us Q I r h
 obtain ⟨i,j,rfl,q⟩:=h
 obtain ⟨u,w',rfl,⟨t,rfl⟩,⟨t',rfl⟩⟩:=vals2 r
 refine min_two_ints (I.ok.hd hc) λh' tk k=>⟨_,H,I.kept k, ?_,q⟩
 by_cases hj:j<i
 ·rw [if_pos hj,if_pos hj];exact ⟨_,rfl⟩
 ·rw [if_neg hj,if_neg hj];exact ⟨_,rfl⟩
theorem OV:B4 X (.type "int") (λxs H Q=>(∃i,xs= [.int i] /\Q (.int i) H)\/∃k,xs= [.bl k] /\Q (.int (if k then 1 else 0)) H):=by
 intro pins s σ H xs us Q I r h
 rcases h with ⟨i,rfl,q⟩|⟨k,rfl,q⟩
 ·obtain ⟨u,rfl,t,rfl⟩:=vals1 r
  exact call_int_int ⟨.int i,H,I,⟨_,rfl⟩,q⟩
 ·obtain ⟨u,rfl,r1⟩:=vals1 r
  cases r1
  exact call_int_bool ⟨.int (if k then 1 else 0),H,I.tok _,⟨_,rfl⟩,q⟩
end
end L2
namespace L2
open PySem PySem.Spec PyProof.Rows
structure eZ (h:Heap) (x dx C:Addr) (mA:Str->Option Value):Prop where
 obj:h.get? x=some (PySem.W.instObj C dx)
 ns:h.Ns1 dx mA
 ne:dx≠x
theorem We {h:Heap} {dx:Addr} {mA:Str->Option Value} (n:h.Ns1 dx mA):∃od,h.get? dx=some od/\∀name,PySem.W.lookIn name od=some (mA name):=by
 obtain ⟨o,es,ep,ho,hd,hk,_,hm⟩:=n
 refine ⟨o,ho,λname=> ?_⟩
 have e:=hm name
 unfold nsFind findBy at e
 rw [<-Array.find?_toList] at e
 unfold PySem.W.lookIn
 rw [hd]
 dsimp only
 split
 ·rename_i y q
  rw [q] at e
  exact congrArg some e
 ·rename_i q
  rw [q] at e
  have a:es.toList.any (·.refKey)=false:=by
   rw [List.any_eq_false]
   intro y hy
   obtain ⟨z,t,mr⟩:=hk y (Array.mem_toList_iff.mp hy)
   simp [DictEntry.refKey,mr]
  have a':¬es.toList.any (·.refKey)=true:=by rw [a];exact Bool.false_ne_true
  rw [if_neg a']
  exact congrArg some e
theorem eZ.look {h:Heap} {x dx C:Addr} {mA:Str->Option Value} (I:eZ h x dx C mA):∃od,PySem.W.InstAt h x (PySem.W.instObj C dx) C (some od)/\∀name,PySem.W.lookIn name od=some (mA name):=
 let ⟨od,ho,hl⟩:=We I.ns
 ⟨od,⟨I.obj,rfl,rfl,ho⟩,hl⟩
section
variable {prog:Program} {w:World} {A:Around} {E:Value->Shared->Prop} {s:Shared} {K:PySem.W.Frag} {x dx C f:Addr} {mA:Str->Option Value} {name:Str} {v:Value}
theorem Fo {expr:Bool} {Q:Value->Shared->Prop} (X:K.In s.heap) (I:eZ s.heap x dx C mA) (hg:PySem.W.plainGet K C name=true) (hh:PySem.W.hasDictIn K C=true)
 (ha:PySem.W.findIn K (.ref C) name=some none) (hv:mA name=some v) (jg:PySem.W.handedIn v=true) (h:Q v {s with toks:=s.toks+1}):
 wpAny (model prog w) A (getAttr (.ref x) name expr) Q E s:=by
 obtain ⟨od,J,hl⟩:=I.look
 exact PySem.W.get_value X J (PySem.W.plainGet_of hg).1 (PySem.W.findObj_own hh ha rfl (by rw [hl,hv])) jg h
end
theorem Ia.some_of {v:V} {o:Option Value} (r:Ia (some v) o):∃u,o=some u/\RelV v u:=by
 cases o with
 | none=>exact (show False from r).elim
 | some u=>exact ⟨u,rfl,r⟩
theorem Ia.none_of {o:Option Value} (r:Ia none o):o=none:=by
 cases o with
 | none=>rfl
 | some u=>exact (show False from r).elim
section
variable {P:Program} {w:World} {H H':Hp} {h h':Heap} {a C dx:Addr} {fs fs':List (Str×V)}
end
structure l9 (K:PySem.W.Frag) (C:Addr):Prop where
 pg:PySem.W.plainGet K C Str.empty=true
 hd:PySem.W.hasDictIn K C=true
 po:PySem.W.plainOver K C=true
 sa:PySem.W.findIn K (.ref C) "__setattr__" =some (some (.builtin "object.__setattr__"))
theorem l9.get {K:PySem.W.Frag} {C:Addr} (c:l9 K C) (f:Str):PySem.W.plainGet K C f=true:=c.pg
structure ud (K:PySem.W.Frag) (C:Addr) (f:Str) (v:V) (u:Value):Prop where
 at_:PySem.W.findIn K (.ref C) f=some (some u)
 rel:RelV v u
 get:PySem.W.specialIn K u "__get__" =some none
 cp:PySem.W.copiedNames.contains f=false
structure sO (K:PySem.W.Frag) (C:Addr) (m:Str) (f:Addr):Prop where
 at_:PySem.W.findIn K (.ref C) m=some (some (.ref f))
 fn:PySem.W.isFn K (.ref f)=true
 kp:PySem.W.keepIn K (.ref f)=true
section
variable {X:Cx} {pins:List (Addr×Obj)} {σ:St} {H:Hp} {s:Shared} {a C dx:Addr} {fs:List (Str×V)} {f:Str} {v:V} {A:Around} {E:Value->Shared->Prop}
theorem Inv.made (I:Inv X pins σ H s):Inv X pins σ (upd (upd H s.heap.objs.size (.own (s.heap.objs.size+1))) (s.heap.objs.size+1) (.ins C s.heap.objs.size []))
 {s with heap:=(s.heap.push PySem.W.emptyDict).push (PySem.W.instObj C s.heap.objs.size)}:=by
 have e1:(s.heap.push PySem.W.emptyDict).get? s.heap.objs.size=some PySem.W.emptyDict:=Heap.get?_push_size s.heap rfl
 have e2:((s.heap.push PySem.W.emptyDict).push (PySem.W.instObj C s.heap.objs.size)).get? (s.heap.objs.size+1)=some (PySem.W.instObj C s.heap.objs.size):=by
  have:=Heap.get?_push_size (s.heap.push PySem.W.emptyDict) (o:=PySem.W.instObj C s.heap.objs.size) rfl
  rwa [Heap.size_push] at this
 have e3:(s.heap.push PySem.W.emptyDict).Ns s.heap.objs.size (λ_=>none):=⟨PySem.W.emptyDict, #[],_,e1,rfl,(λe he=>absurd he (by simp)),λ_=>rfl⟩
 have I1:=I.laid (a:=s.heap.objs.size) (o:= .own (s.heap.objs.size+1)) (h':=s.heap.push PySem.W.emptyDict) (t':=s.toks) (λb u q=>Heap.get?_push_of_some _ q) (Nat.le_refl _) ⟨_,e1⟩
 refine I1.laid (a:=s.heap.objs.size+1) (o:= .ins C s.heap.objs.size []) (t':=s.toks) (λb u q=>Heap.get?_push_of_some _ q) (Nat.le_of_eq (Heap.size_push _ _)) ?_
 have ne:s.heap.objs.size≠s.heap.objs.size+1:=Nat.ne_of_lt (Nat.lt_succ_self _)
 refine ⟨by rw [Ag ne,Ah],Nat.zero_le _,ne,e2,λ_=>none,(Heap.Ns1.of_empty e3).at λo q=>Heap.get?_push_of_some _ q,λ_=>True.intro,λy hy=>absurd rfl hy⟩
end
section
variable {X:Cx} {o e value:Expr} {f:Str} {pos pos' tpos:Pos} {ta tv:TE}
end
section
variable {X:Cx} {pins:List (Addr×Obj)} {σ:St} {H:Hp} {s:Shared} {A:Around} {E:Value->Shared->Prop} {Q:Value->Shared->Prop} {c:Value} {b:Bool}
inductive MT (K:PySem.W.Frag) (H:Hp):V->Value->Prop where
 | non:MT K H .non (.type "NoneType")
 | bl (x:Bool):MT K H (.bl x) (.type "bool")
 | int (i:Int):MT K H (.int i) (.type "int")
 | str (x:Str):MT K H (.str x) (.type "str")
 | flt (x:UInt64):MT K H (.flt x) (.type "float")
 | lst {a:Addr} {xs:List V} (e:H a=some (.lst xs)):MT K H (.ref a) (.type "list")
 | frz {a:Addr} {o:Obj} {xs:List V} (e:H a=some (.frz o (.lst xs))):MT K H (.ref a) (.type "list")
 | tup {a:Addr} {xs:List V} (e:H a=some (.tup xs)):MT K H (.ref a) (.type "tuple")
 | dK {a:Addr} {kvs:List (FE×V)} (e:H a=some (.dK kvs)):MT K H (.ref a) (.type "dict")
 | dT {a:Addr} {kvs:List (List FE×V)} (e:H a=some (.dT kvs)):MT K H (.ref a) (.type "dict")
 | ins {a C dx:Addr} {fs:List (Str×V)} (e:H a=some (.ins C dx fs)) (cl:l9 K C) (ha:PySem.W.findIn K (.ref C) "__class__" =some (some (.builtin "object.__class__")))
    (hn:PySem.W.specialIn K (.builtin "object.__class__") "__get__" =some (some (.builtin "getset_descriptor.__get__"))) (uz:PySem.W.takesIn K (.builtin "object.__class__")=some true)
    (hm:PySem.W.mroIn K C (.type "object")=some true):MT K H (.ref a) (.ref C)
end
end L2
namespace L2
open PySem PySem.Spec PyProof.Rows
structure Room (k:Nat) (A:Around):Prop where
 hd:A.handled=none
 dp:A.depth+3*k+5<recursionLimit
 un:A.units+16*k+200<cLine
 gd:A.guards=some []
theorem Room.mono {j k:Nat} {A:Around} (r:Room k A) (h:j<=k):Room j A:=⟨r.hd,by have:=r.dp;omega,by have:=r.un;omega,r.gd⟩
theorem Room.deeper {k:Nat} {A:Around} (r:Room (k+1) A) (env:Env):Room k (A.deeper env):=
 ⟨r.hd,by have:=r.dp;show A.depth+1+3*k+5<_;omega,by have:=r.un;show A.units+3+16*k+200<_;omega,r.gd⟩
theorem Room.in1 {k:Nat} {A:Around} (r:Room (k+1) A):Room k A.in1:=
 ⟨r.hd,by have:=r.dp;show A.depth+3*k+5<_;omega,by have:=r.un;show A.units+1+16*k+200<_;omega,r.gd⟩
theorem Tp {A:Around} {C:Addr} {us:List Value} {kw:List (Str×Value)}:(A.under (.builtin "type.__call__" ⟨.ref C::us,kw⟩)).depth=A.depth+1:=by
 first | rfl|simp [Around.under,Code.weight,Code.isCreation,Code.isGuard,Code.isCaller,Code.frames,Code.isFrame,guardIds]
theorem Tq {A:Around} {C:Addr} {us:List Value} {kw:List (Str×Value)}:(A.under (.builtin "type.__call__" ⟨.ref C::us,kw⟩)).units=A.units+1:=by
 first | rfl|simp [Around.under,Code.cUnits,Code.frames,Code.isFrame]
theorem Room.make {k:Nat} {A:Around} (r:Room (k+1) A) (C:Addr) (us:List Value) (kw:List (Str×Value)):Room k (A.under (.builtin "type.__call__" ⟨.ref C::us,kw⟩)):=
 ⟨r.hd,by have:=r.dp;rw [Tp];omega,by have:=r.un;rw [Tq];omega,by first | exact r.gd|simpa [Around.under,pushGuards,Code.guards,Code.isGuard,guardIds] using r.gd⟩
theorem Room.depth {k:Nat} {A:Around} (r:Room k A):A.depth<recursionLimit:=by have:=r.dp;omega
theorem Room.units {k:Nat} {A:Around} (r:Room k A):A.units+64<cLine:=by have:=r.un;omega
def dA:TA:=λ_ H Q=>Q [] H
def Nd (ta:TE) (tr:TA):TA:=λσ H Q=>ta σ H λx H1=>tr σ H1 λxs H2=>Q (x::xs) H2
section
variable {X:Cx} {e:Expr} {es:List Expr} {te:TE} {t:TA} {pos:Pos}
theorem E7:PA X [] dA:=λ_ _ _ _ H Q I h=>Calls.spliced_nil ⟨[],H,I, .nil,h⟩
theorem CC (ha:PE X e te) (hr:PA X es t) (hs:starEach (e::es) X.env=(false,eval e X.env)::starEach es X.env:=by rfl):PA X (e::es) (Nd te t):=by
 intro pos pins s σ H Q I h
 rw [hs]
 show wpAny _ _ (spliced ((false,eval e X.env)::backTo pos (starEach es X.env))) _ _ s
 refine Calls.spliced_cons (BS (ha pins s σ H _ I h) λu s1 ⟨x,H1,I1,r1,q1⟩=> ?_)
 exact BS (hr pos pins s1 σ H1 _ I1 q1) λus s2 ⟨xs,H2,I2,r2,q2⟩=>⟨x::xs,H2,I2, .cons r1 r2,q2⟩
def dD (t:TA):TE:=λσ H Q=>t σ H λxs H1=>xs.length<=sizeLine/\∀p,H1 p=none->Q (.ref p) (upd H1 p (.tup xs))
def nZ (t:TA):TE:=λσ H Q=>t σ H λxs H1=>xs.length<=sizeLine/\∀p,H1 p=none->Q (.ref p) (upd H1 p (.lst xs))
theorem M5 {x1} (h:PA X es t):PE X (.Tuple es x1 pos) (dD t):=by
 intro pins s σ H Q I hq
 refine wpAny_Tuple_spliced (BS (h pos pins s σ H _ I hq) λus s1 ⟨xs,H1,I1,r,z,q⟩=>⟨by rw [<-r.length];exact z, ?_⟩)
 have hf:H1 s1.heap.objs.size=none:=I1.hok.fresh (Nat.le_refl _)
 refine ⟨.ref s1.heap.objs.size,upd H1 s1.heap.objs.size (.tup xs),I1.laid (t':=s1.toks) (λb u e=>Heap.get?_push_of_some _ e) (Nat.le_refl _) ?_,rfl,q _ hf⟩
 exact ⟨z,us,r,⟨_,Heap.get?_push_size _ rfl,rfl,_,rfl⟩⟩
theorem Y2 (h:PA X es t):PE X (.List es pos) (nZ t):=by
 intro pins s σ H Q I hq
 refine wpAny_List_spliced (BS (h pos pins s σ H _ I hq) λus s1 ⟨xs,H1,I1,r,z,q⟩=>⟨by rw [<-r.length];exact z, ?_⟩)
 have hf:H1 s1.heap.objs.size=none:=I1.hok.fresh (Nat.le_refl _)
 refine ⟨.ref s1.heap.objs.size,upd H1 s1.heap.objs.size (.lst xs),I1.laid (t':=s1.toks) (λb u e=>Heap.get?_push_of_some _ e) (Nat.le_refl _) ?_,rfl,q _ hf⟩
 exact ⟨z,us,0,r,Heap.get?_push_size _ rfl⟩
end
abbrev Sp:=List V->Hp->VK->XK->Prop
abbrev Vy:=List Env->Hp->Shared->XK->Value->Shared->Prop
structure Nt (P:Program) (w:World) (K:PySem.W.Frag) (mg:Str->Option Value) (base:Heap) (A:Around) (outer:List Env) (s:Shared) (H:Hp):Prop where
 frames:A.frames=some outer
 mod:Mod K mg base
 bs:∀b o,base.get? b=some o->s.heap.get? b=some o/\H b=none
 bsz:base.objs.size<=s.heap.objs.size
 funs:s.heap.FunFrames base outer
 frf:∀b∈XQ outer,H b=none
 hok:LN P w H s.heap
 bare:AllBare s.gens
def CE (outer:List Env) (P:Program) (w:World) (H:Hp) (s:Shared) (Q:VK) (u:Value) (s':Shared):Prop:=
 ∃v H',s'.os=s.os/\AllBare s'.gens/\Un (XQ outer) [] H H' s.heap s'.heap/\LN P w H' s'.heap/\RelV v u/\Q v H'
def CR (CX:Vy) (outer:List Env) (P:Program) (w:World) (H:Hp) (s:Shared) (Q:VK) (E:XK) (r:Result) (s':Shared):Prop:=
 match r with
 | .ok (.ret u)=>CE outer P w H s Q u s'
 | .ok _=>False
 | .error e=>CX outer H s E e s'
structure A7 (P:Program) (w:World) (K:PySem.W.Frag) (mg:Str->Option Value) (base:Heap) (CX:Vy) (k:Nat) (f:Addr) (fd:FuncData) (ps:List Str) (sp:Sp):Prop where
 len:∀vs H Q E,sp vs H Q E->vs.length=ps.length
 run:∀(A:Around) (outer:List Env) (s:Shared) (H:Hp) (args:Args) (us:List Value) (vs:List V) (Q:VK) (E:XK),Room k A->Nt P w K mg base A outer s H->BindsTo s fd args (ps.zip us)->Ar vs us->sp vs H Q E->
  codeAny (model P w) A (.call (.ref f) args) (CR CX outer P w H s Q E) s
theorem A7.mono {P:Program} {w:World} {K:PySem.W.Frag} {mg:Str->Option Value} {base:Heap} {CX:Vy} {j k:Nat} {f:Addr} {fd:FuncData} {ps:List Str} {sp:Sp} (F:A7 P w K mg base CX j f fd ps sp) (h:j<=k):
 A7 P w K mg base CX k f fd ps sp:=⟨F.len,λA outer s H args us vs Q E hr=>F.run A outer s H args us vs Q E (hr.mono h)⟩
theorem A7.imp {P:Program} {w:World} {K:PySem.W.Frag} {mg:Str->Option Value} {base:Heap} {CX:Vy} {k:Nat} {f:Addr} {fd:FuncData} {ps:List Str} {sp sp':Sp} (F:A7 P w K mg base CX k f fd ps sp)
 (h:∀vs H Q E,sp' vs H Q E->sp vs H Q E):A7 P w K mg base CX k f fd ps sp':=
 ⟨λvs H Q E q=>F.len vs H Q E (h _ _ _ _ q),λA outer s H args us vs Q E hr he hb hv hs=>F.run A outer s H args us vs Q E hr he hb hv (h _ _ _ _ hs)⟩
theorem Nt.make {P:Program} {w:World} {K:PySem.W.Frag} {mg:Str->Option Value} {base:Heap} {A:Around} {outer:List Env} {s:Shared} {H:Hp} (e:Nt P w K mg base A outer s H) (C:Addr) (us:List Value) (kw:List (Str×Value)):
 Nt P w K mg base (A.under (.builtin "type.__call__" ⟨.ref C::us,kw⟩)) outer s H:=⟨by first | exact e.frames|(simpa [Around.under,Code.envs,Code.isFrame,pushEnvs] using e.frames),e.mod,e.bs,e.bsz,e.funs,e.frf,e.hok,e.bare⟩
theorem Nt.in1 {P:Program} {w:World} {K:PySem.W.Frag} {mg:Str->Option Value} {base:Heap} {A:Around} {outer:List Env} {s:Shared} {H:Hp} (e:Nt P w K mg base A outer s H):
 Nt P w K mg base A.in1 outer s H:=⟨e.frames,e.mod,e.bs,e.bsz,e.funs,e.frf,e.hok,e.bare⟩
section
variable {X:Cx} {pins:List (Addr×Obj)} {σ:St} {H:Hp} {s s':Shared}
theorem Inv.env0 (I:Inv X pins σ H s):Nt X.prog X.w X.K X.mg X.base X.A X.stack s H:=
 ⟨I.ok.frames,I.ok.mod,I.bs,Nat.le_trans I.ok.bsz I.sz,I.stack,I.stkFree,I.hok,I.bare⟩
theorem Inv.after {Q:VK} {u:Value} (I:Inv X pins σ H s) (h:CE X.stack X.prog X.w H s Q u s'):EP X pins σ Q u s':=by
 obtain ⟨v,H',os,bare,un,hok,r,q⟩:=h
 obtain ⟨hh,g,d,t,os'⟩:=s'
 obtain rfl:os'=s.os:=os
 exact ⟨v,H',I.call (h':=hh) (g':=g) (d':=d) (t':=t) (ch:= []) un hok bare (λb z=>absurd z (by simp)),r,q⟩
end
def eB (sp:Sp) (dvs:List V) (E:XK) (t:TA):TE:=λσ H Q=>t σ H λvs H1=>sp (vs++dvs) H1 Q E
def Binds (K:PySem.W.Frag) (fd:FuncData) (ps:List Str) (ds:List Value):Prop:=
 ∀(s:Shared) (us:List Value),K.In s.heap->(us++ds).length=ps.length->BindsTo s fd ⟨us, []⟩ (ps.zip (us++ds))
theorem Binds.all {K:PySem.W.Frag} {fd:FuncData} {ps:List Str} (h:∀us:List Value,us.length=ps.length->bindArgs fd ⟨us, []⟩=pure (ps.zip us)):Binds K fd ps [] :=λs us _ hl=>by
 rw [List.append_nil] at hl ⊢
 exact .of_eq (h us hl)
def Passes (CX:Vy) (X:Cx) (E:XK):Prop:=∀(pins:List (Addr×Obj)) (σ:St) (H:Hp) (s:Shared) (e:Value) (s':Shared),Inv X pins σ H s->CX X.stack H s E e s'->X.xe e s'
section
variable {X:Cx} {CX:Vy} {k:Nat} {f C:Addr} {fd:FuncData} {ps:List Str} {sp:Sp} {dvs:List V} {ds:List Value} {E:XK} {x m:Str} {p pos apos:Pos} {e o:Expr} {es:List Expr} {ta:TE} {t:TA}
theorem gu {pins:List (Addr×Obj)} {σ:St} {H:Hp} {s:Shared} {Q:VK} {us:List Value} {vs:List V} (F:A7 X.prog X.w X.K X.mg X.base CX k f fd ps sp) (hr:Room k X.A) (hb:Binds X.K fd ps ds) (hd:Ar dvs ds) (hx:Passes CX X E)
 (I:Inv X pins σ H s) (r:Ar vs us) (h:sp (vs++dvs) H Q E):wpAny (model X.prog X.w) X.A (call (.ref f) us) (EP X pins σ Q) X.xe s:=by
 have r2:Ar (vs++dvs) (us++ds):=r.append hd
 have hl:(us++ds).length=ps.length:=by rw [<-r2.length];exact F.len _ _ _ _ h
 refine wpAny_call (codeAny_mono (F.run X.A X.stack s H ⟨us, []⟩ (us++ds) (vs++dvs) Q E hr I.env0 (hb s us I.kIn hl) r2 h) λr s' hq=> ?_)
 cases r with
 | error e=>exact hx pins σ H s e s' I hq
 | ok fl=>
   cases fl with
   | ret u=>exact I.after hq
   | next=>exact False.elim hq
   | brk=>exact False.elim hq
   | cont=>exact False.elim hq
theorem cI (F:A7 X.prog X.w X.K X.mg X.base CX k f fd ps sp) (hr:Room k X.A) (hg:Gl X x) (hm:X.mg x=some (.ref f)) (hk:PySem.W.keepIn X.K (.ref f)=true) (hb:Binds X.K fd ps ds) (hd:Ar dvs ds) (hx:Passes CX X E)
 (ha:PA X (e::es) t) (hdb:(x==("__debug__" :Str))=false:=by decide) (he:starEach (e::es) X.env=(false,eval e X.env)::starEach es X.env:=by rfl) (hpl:(backTo pos (starEach es X.env)).any (·.1)=false:=by rfl):
 PE X (.Call (.Name x p) (e::es) [] pos) (eB sp dvs E t):=by
 intro pins s σ H Q I h
 refine wpAny_Call_Name_kw (bT I hg hm ?_ hdb)
 refine PySem.W.callWith_K (h₀:=X.base) I.ok.mod.kin hk (BS (ha pos pins s σ H _ I h) λus s1 ⟨vs,H1,I1,r,q⟩=>⟨I1.kIn, ?_⟩) he hpl
 exact gu F hr hb hd hx I1 r q
structure Mk (K:PySem.W.Frag) (C f:Addr):Prop where
 makes:PySem.W.makesIn K C=true
 init:PySem.W.findIn K (.ref C) "__init__" =some (some (.ref f))
 fn:PySem.W.isFn K (.ref f)=true
 kp:PySem.W.keepIn K (.ref C)=true
end
section
variable {X:Cx} {CX:Vy} {k:Nat} {f C:Addr} {fd:FuncData} {ps ks:List Str} {sp:Sp} {E:XK} {x m:Str} {p pos apos kpos:Pos} {e o:Expr} {es:List Expr} {kws:List Keyword} {te ta:TE} {t tk:TA} {nm:Option Str}
structure mI (K:PySem.W.Frag) (fd:FuncData) (ps ks:List Str) (g:List Value->List Value->List Value) (gV:List V->List V->List V):Prop where
 to:∀(s:Shared) (us ws:List Value),K.In s.heap->(g us ws).length=ps.length->BindsTo s fd ⟨us,ks.zip ws⟩ (ps.zip (g us ws))
 rel:∀{vs:List V} {us:List Value} {zs:List V} {ws:List Value},Ar vs us->Ar zs ws->Ar (gV vs zs) (g us ws)
variable {g:List Value->List Value->List Value} {gV:List V->List V->List V}
end
structure AZ (N P:List Str) (sc:Scope):Prop where
 kind:sc.kind= .function
 co:sc.isCoroutine=false
 gen:sc.isGenerator=false
 nd:N.Nodup
 pre:N.take P.length=P
 par:∀x∈P,sc.names.lookup x=some .local\/sc.names.lookup x=some .cell
 nofree:∀y∈sc.names,y.2≠ .free
theorem OT {kindOf:Str->Option NameKind} {x:Str}:∀{binds:List (Str×Value)} {m:Str->Option Value},(∀v,(x,v) ∉ binds)->bindL kindOf binds m x=m x
 | [],_,_=>rfl
 | (n,v)::r,m,h=>by
   unfold bindL
   rw [OT λw hw=>h w (List.mem_cons_of_mem _ hw)]
   split
   ·have:x≠n:=by rintro rfl;exact h v List.mem_cons_self
    simp [this]
   ·rfl
theorem OR {kindOf:Str->Option NameKind} {x:Str}:∀{binds:List (Str×Value)} {m:Str->Option Value},(∀v,(x,v) ∉ binds)->bindC kindOf binds m x=m x
 | [],_,_=>rfl
 | (n,v)::r,m,h=>by
   unfold bindC
   rw [OR λw hw=>h w (List.mem_cons_of_mem _ hw)]
   split
   ·rfl
   ·have:x≠n:=by rintro rfl;exact h v List.mem_cons_self
    simp [this]
theorem OS {kindOf:Str->Option NameKind} {x:Str} {v:Value}:∀{P:List Str} {vs:List Value} {i:Nat} {m:Str->Option Value},P.Nodup->P[i]? =some x->vs[i]? =some v->kindOf x=some .local->
 bindL kindOf (P.zip vs) m x=some v
 | [],_,_,_,_,h,_,_=>by simp at h
 | _::_, [],_,_,_,_,h,_=>by simp at h
 | p::P,w::vs,0,m,nd,h1,h2,hk=>by
   simp at h1 h2;subst h1;subst h2
   show bindL kindOf ((p,w)::P.zip vs) m p=_
   unfold bindL
   rw [OT λv hv=>(List.nodup_cons.mp nd).1 (List.of_mem_zip hv).1,if_pos hk]
   simp
 | p::P,w::vs,i+1,m,nd,h1,h2,hk=>by
   show bindL kindOf ((p,w)::P.zip vs) m x=_
   unfold bindL
   exact OS (i:=i) (List.nodup_cons.mp nd).2 (by simpa using h1) (by simpa using h2) hk
theorem OQ {kindOf:Str->Option NameKind} {x:Str} {v:Value}:∀{P:List Str} {vs:List Value} {i:Nat} {m:Str->Option Value},P.Nodup->P[i]? =some x->vs[i]? =some v->kindOf x≠some .local->
 bindC kindOf (P.zip vs) m x=some v
 | [],_,_,_,_,h,_,_=>by simp at h
 | _::_, [],_,_,_,_,h,_=>by simp at h
 | p::P,w::vs,0,m,nd,h1,h2,hk=>by
   simp at h1 h2;subst h1;subst h2
   show bindC kindOf ((p,w)::P.zip vs) m p=_
   unfold bindC
   rw [OR λv hv=>(List.nodup_cons.mp nd).1 (List.of_mem_zip hv).1,if_neg hk]
   simp
 | p::P,w::vs,i+1,m,nd,h1,h2,hk=>by
   show bindC kindOf ((p,w)::P.zip vs) m x=_
   unfold bindC
   exact OQ (i:=i) (List.nodup_cons.mp nd).2 (by simpa using h1) (by simpa using h2) hk
def start (N:List Str) (vs:List V):St:=vs.map some++List.replicate (N.length-vs.length) none
def TM (CX:Vy) (P:Program) (w:World) (K:PySem.W.Frag) (mg:Str->Option Value) (base:Heap) (N:List Str) (qual:Str) (scope:Scope) (f:Addr) (cd:Value) (A:Around) (outer:List Env) (s:Shared) (H:Hp) (E:XK):Cx where
 prog:=P
 w:=w
 K:=K
 mg:=mg
 base:=base
 A:=A.deeper (envOfC qual scope s.heap.objs.size f cd)
 N:=N
 s₀:=s
 H₀:=H
 env:=envOfC qual scope s.heap.objs.size f cd
 outer:=outer
 stack:=envOfC qual scope s.heap.objs.size f cd::outer
 ex:= []
 calm:=true
 fn:=λ_=>true
 pn:= []
 xe:=λe s'=>wpAny (model P w) (A.deeper (envOfC qual scope s.heap.objs.size f cd)) (leaving (envOfC qual scope s.heap.objs.size f cd) e) (λ_ s''=>CX outer H s E e s'') (λe' s''=>CX outer H s E e' s'') s'
theorem RN {sc:Scope} {n:Nat} {x:Str} (h:sc.names.lookup x=some .cell):∃c,(cellsFrom n sc.names []).lookup x=some c:=by
 have q:=PySem.W.cellsFrom_some sc.names n [] (.inl h)
 exact Option.isSome_iff_exists.mp q
theorem WY {CX:Vy} {P:Program} {w:World} {K:PySem.W.Frag} {mg:Str->Option Value} {base:Heap} {N ps:List Str} {qual:Str} {scope:Scope} {f:Addr} {cd:Value} {A:Around} {outer:List Env} {s s1:Shared} {H:Hp} {E:XK} {us:List Value} {vs:List V}
 (S:AZ N ps scope) (hd:A.handled=none) (e0:Nt P w K mg base A outer s H) (hl:vs.length=ps.length) (r:Ar vs us)
 (x:InCallC s s.heap.objs.size (bindL (envOfC qual scope s.heap.objs.size f cd).kindOf (ps.zip us) λ_=>none) (cellsFrom (s.heap.objs.size+1) scope.names []) (bindC (envOfC qual scope s.heap.objs.size f cd).kindOf (ps.zip us) λ_=>none) s1):
 Inv (TM CX P w K mg base N qual scope f cd A outer s H E) [] (start N vs) H s1:=by
 have hpl:ps.length<=N.length:=by have:=congrArg List.length S.pre;rw [List.length_take] at this;omega
 obtain ⟨h1,tk,rfl,hk⟩:=x.done
 have noA:∀b:Addr,b ∉ (TM CX P w K mg base N qual scope f cd A outer s H E).ex:=λb z=>absurd (show b∈([] :List Addr) from z) (by simp)
 refine ⟨⟨e0.mod,S.kind,rfl,rfl,Nat.le_refl _,λy z c h1 h2=> ?_,λy hy=> ?_,λy c _ h=> ?_,λ_=>hd,Around.frames_deeper e0.frames, .inr ⟨rfl,rfl⟩,λb z=>absurd z (noA b),e0.bs,e0.bsz,λb _ _=>noA b,λb z=>absurd z (noA b),e0.funs,e0.frf⟩,
  rfl,e0.bare,Un.kept hk,⟨_,x.toInCall.ns,λi y v h1 h2 h3=> ?_⟩,λy c h=>⟨_,x.cell y c h⟩,e0.hok.fresh (Nat.le_refl _),λy c h=> ?_,λp hp=>absurd (show p∈([] :List (Addr×Obj)) from hp) (by simp),e0.hok.kept hk, ?_⟩
 ·exact name_of_addr x.apart (PySem.mem_of_lookup h1) (PySem.mem_of_lookup h2)
 ·have hy:scope.names.lookup y=some .cell\/scope.names.lookup y=some .free:=hy
  rcases hy with hy|hy
  ·exact RN hy
  ·exact absurd rfl (S.nofree _ (PySem.mem_of_lookup hy))
 ·exact Nat.le_of_lt (x.above y c (PySem.mem_of_lookup h))
 ·have hi:i<vs.length:=by
   unfold start at h2
   by_cases hi:i<vs.length
   ·exact hi
   ·rw [List.getElem?_append_right (by simpa using hi)] at h2
    rw [List.getElem?_replicate] at h2
    split at h2 <;> cases h2
  have ha:vs[i]? =some v:=by
   unfold start at h2
   rw [List.getElem?_append_left (by simpa using hi),List.getElem?_map] at h2
   cases e:vs[i]? with
   | none=>rw [e] at h2;cases h2
   | some a=>rw [e] at h2;cases h2;rfl
  obtain ⟨u,hu,rv⟩:=r.get ha
  have hp:ps[i]? =some y:=by
   rw [<-S.pre,List.getElem?_take_of_lt (by omega)];exact h1
  have ndP:ps.Nodup:=by rw [<-S.pre];exact S.nd.sublist (List.take_sublist _ _)
  refine ⟨u,rv, ?_⟩
  rcases S.par y (List.mem_of_getElem? hp) with k|k
  ·exact .inl ⟨k,OS ndP hp hu k⟩
  ·obtain ⟨c,e⟩:=RN (n:=s.heap.objs.size+1) k
   refine .inr ⟨.inl k,c,e, ?_⟩
   have q:=x.cell y c e
   rw [OQ ndP hp hu (by show scope.names.lookup y≠_;rw [k];decide)] at q
   exact q
 ·exact e0.hok.fresh (Nat.le_of_lt (x.above y c (PySem.mem_of_lookup h)))
 ·unfold start
  show _=N.length
  rw [List.length_append,List.length_map,List.length_replicate]
  omega
theorem jN {CX:Vy} {P:Program} {w:World} {K:PySem.W.Frag} {mg:Str->Option Value} {base:Heap} {k:Nat} {f:Addr} {name qual:Str} {params:Arguments} {body:List Stmt} {scope:Scope} {dV kV doc pm cdv ct oc:Value} {an od:Option Addr}
 {osl:Array (Option Value)} {N ps:List Str} {sp:Sp} (lk:K.lookup f=some ⟨oc,od, .func (PySem.W.fnOf name qual params body scope dV kV doc pm an cdv ct),osl⟩) (Lj:PySem.W.codeIn K cdv qual=true) (S:AZ N ps scope)
 (len:∀vs H Q E,sp vs H Q E->vs.length=ps.length)
 (Rh:∀(A:Around) (outer:List Env) (s:Shared) (H:Hp) (vs:List V) (Q:VK) (E:XK),Room k (A.deeper (envOfC qual scope s.heap.objs.size f cdv))->sp vs H Q E->
   ∃t,Uj (TM CX P w K mg base N qual scope f cdv A outer s H E) body t/\t {nx:=λ_ H'=>Q .non H',rt:=Q} (start N vs) H):
 A7 P w K mg base CX (k+1) f (PySem.W.fnOf name qual params body scope dV kV doc pm an cdv ct) ps sp:=by
 refine ⟨len,λA outer s H args us vs Q E hr e0 hb r dc=> ?_⟩
 have hl:=len _ _ _ _ dc
 have KX:K.In s.heap:=e0.mod.kin.keeps λb o e=>(e0.bs b o e).1
 have lim:s.heap.NoLimit:=e0.mod.nolimit.keeps λb o e=>(e0.bs b o e).1
 have jX:∀y∈ps.zip us,scope.names.lookup y.1=some .local\/(scope.names.lookup y.1=some .cell/\((cellsFrom (s.heap.objs.size+1) scope.names []).lookup y.1).isSome=true):=λ⟨n,v⟩ hy=>by
  rcases S.par n (List.of_mem_zip hy).1 with q|q
  ·exact .inl q
  ·exact .inr ⟨q,PySem.W.cellsFrom_some _ _ _ (.inl q)⟩
 refine codeAny_call_function hr.depth (KX _ _ lk) rfl S.co S.gen rfl (PySem.W.codeRec_of KX Lj) (hb _ _ _ _ ?_)
 refine wpAny_newFunctionEnv_cells S.kind jX λenv he s1 x=> ?_
 subst he
 refine ⟨lim.keeps x.toInCall.keep,codeAny_func ?_⟩
 obtain ⟨t,ht,hq⟩:=Rh A outer s H vs Q E (hr.deeper _) dc
 have I:Inv (TM CX P w K mg base N qual scope f cdv A outer s H E) [] (start N vs) H s1:=WY S hr.hd e0 hl r x
 refine wpAny_mono (ht [] s1 (start N vs) H _ I hq) (λfl s' hs=> ?_) λe s' hs=>hs
 have fin:∀{σ':St} {H':Hp} {v:V} {u:Value},Inv (TM CX P w K mg base N qual scope f cdv A outer s H E) [] σ' H' s'->RelV v u->Q v H'->CE outer P w H s Q u s':=
  λ{σ' H' v u} J rv q=>⟨v,H',J.os,J.bare,J.base,J.hok,rv,q⟩
 cases fl with
 | ret u=>
   obtain ⟨v,σ',H',J,rv,q⟩:=hs
   exact fin J rv q
 | next=>
   obtain ⟨σ',H',J,q⟩:=hs
   exact fin (v:=V.non) (u:=Value.none) J rfl q
 | brk=>
   obtain ⟨_,_,_,q⟩:=hs
   exact False.elim q
 | cont=>
   obtain ⟨_,_,_,q⟩:=hs
   exact False.elim q
end L2
namespace L2
open PySem PySem.Spec PyProof.Rows
section
variable {X:Cx} {x:Str} {p pos:Pos} {e:Expr} {es:List Expr} {t:TA} {id T:String} {r:List V->Hp->VK->Prop}
def nY (r:List V->Hp->VK->Prop) (t:TA):TE:=λσ H Q=>t σ H λvs H1=>r vs H1 Q
theorem JA (hc:B4 X (.builtin id) r) (hg:Gl X x) (hm:X.mg x=none) (hv:bootBuiltins x=some (.builtin id)) (ha:PA X (e::es) t) (hn:x≠"__name__" :=by decide) (hdb:(x==("__debug__" :Str))=false:=by decide)
 (he:starEach (e::es) X.env=(false,eval e X.env)::starEach es X.env:=by rfl) (hpl:(backTo pos (starEach es X.env)).any (·.1)=false:=by rfl):PE X (.Call (.Name x p) (e::es) [] pos) (nY r t):=by
 intro pins s σ H Q I h
 refine wpAny_Call_Name_kw (Gi I hg hm hv ?_ hn hdb)
 exact PyProof.Rows.callWith_builtin1 (BS (ha pos pins s σ H _ I h) λus s1 ⟨vs,H1,I1,r1,q1⟩=>hc pins s1 σ H1 vs us Q I1 r1 q1) he hpl
theorem G6 (hc:B4 X (.type T) r) (hg:Gl X x) (hm:X.mg x=none) (hv:bootBuiltins x=some (.type T)) (ha:PA X (e::es) t) (hn:x≠"__name__" :=by decide) (hdb:(x==("__debug__" :Str))=false:=by decide)
 (he:starEach (e::es) X.env=(false,eval e X.env)::starEach es X.env:=by rfl) (hpl:(backTo pos (starEach es X.env)).any (·.1)=false:=by rfl):PE X (.Call (.Name x p) (e::es) [] pos) (nY r t):=by
 intro pins s σ H Q I h
 refine wpAny_Call_Name_kw (Gi I hg hm hv ?_ hn hdb)
 exact PyProof.Rows.callWith_type1 (BS (ha pos pins s σ H _ I h) λus s1 ⟨vs,H1,I1,r1,q1⟩=>hc pins s1 σ H1 vs us Q I1 r1 q1) he hpl
end
end L2
namespace HT
open PySem PyProof.Rows
section
open PySem.SeqAt
open PySem.AutoSeq1 (wpAny_loadPart')
open PySem.MeetsSeq PySem.MeetsSeq2 PySem.MeetsSeq3
end
section
variable {prog:Program} {w:World} {A:Around} {E:Value->Shared->Prop} {s:Shared}
theorem cat_tup {t b:Addr} {vs ws:List Value} {Q:Value->Shared->Prop} (ht:IsTup s.heap t vs.toArray) (hb:IsTup s.heap b ws.toArray) (hv:vs≠ [])
 (h1:ws= [] ->Q (.ref t) s) (h2:ws≠ [] ->Q (.ref s.heap.objs.size) {s with heap:=s.heap.push {cls:= .type "tuple",data:= .seq (vs++ws).toArray}})
 (hsz:vs.length+ws.length<=sizeLine):wpAny (model prog w) A (binaryOp .Add (.ref t) (.ref b)) Q E s:=by
 obtain ⟨⟨cls,dd,data,sl⟩,ho,hc,n,hd⟩:=id ht
 obtain ⟨⟨cls2,dd2,data2,sl2⟩,fW,Te,n2,jR⟩:=id hb
 simp only at hc hd Te jR
 subst hc hd Te jR
 have e:vs.toArray++ws.toArray=(vs++ws).toArray:=by simp
 by_cases hw:ws= []
 ·exact concat_meets ⟨_,ho,rfl⟩ ⟨_,fW,rfl⟩ noFill_tuple_add seq_tuple_add PySem.F.slot_tuple_add PySem.F.entry_tuple_add (PySem.F.args_tuple_add_2 _ _)
   (tuple_addW1 t b vs.toArray ws.toArray n n2 dd dd2 sl sl2 (by simpa using hv) (by simp [hw])) ⟨ho,fW,h1 hw⟩
 ·refine concat_meets ⟨_,ho,rfl⟩ ⟨_,fW,rfl⟩ noFill_tuple_add seq_tuple_add PySem.F.slot_tuple_add PySem.F.entry_tuple_add (PySem.F.args_tuple_add_2 _ _)
   (tuple_addW2 t b vs.toArray ws.toArray n n2 dd dd2 sl sl2 (by simpa using hv) (by simpa using hw) (by rw [List.size_toArray,List.size_toArray];exact hsz)) ⟨ho,fW, ?_⟩
  rw [e]
  exact h2 hw
def sIx (n d:Nat):Option Int->Nat
 | none=>d
 | some v=>if v<0 then (v+(n:Int)).toNat else min v.toNat n
theorem sIx_none (n d:Nat):sIx n d none=d:=rfl
theorem sIx_nat (n d k:Nat):sIx n d (some (k:Int))=min k n:=by
 show (if (k:Int)<0 then ((k:Int)+(n:Int)).toNat else min (k:Int).toNat n)=min k n
 rw [if_neg (by omega),Int.toNat_natCast]
theorem gv (n d:Nat) (hd:d<=n) (o:Option Int):sIx n d o<=n:=by
 cases o with
 | none=>exact hd
 | some v=>
   show (if v<0 then (v+(n:Int)).toNat else min v.toNat n)<=n
   by_cases hv:v<0
   ·rw [if_pos hv];omega
   ·rw [if_neg hv];exact Nat.min_le_right _ _
theorem Us (v:Int) (n d:Nat):(if v<0 then max (v+(n:Int)) 0 else min v (n:Int))=((sIx n d (some v):Nat):Int):=by
 show (if v<0 then max (v+(n:Int)) 0 else min v (n:Int))=(((if v<0 then (v+(n:Int)).toNat else min v.toNat n):Nat):Int)
 by_cases hv:v<0
 ·simp only [if_pos hv];omega
 ·simp only [if_neg hv];omega
theorem S7 (lo hi:Option Int) (n:Nat):Builtin.Slice.sliceAdjust lo hi 1 (n:Int)=(((sIx n 0 lo:Nat):Int),((sIx n n hi:Nat):Int)):=by
 have h1:¬((1:Int)<0):=by omega
 unfold Builtin.Slice.sliceAdjust
 simp only [h1,if_false]
 refine Prod.ext ?_ ?_
 ·cases lo with
  | none=>rfl
  | some v=>exact Us v n 0
 ·cases hi with
  | none=>rfl
  | some v=>exact Us v n n
theorem UH (i j:Nat):Builtin.Slice.slicePlaces (i:Int) (j:Int) 1=j-i:=by
 unfold Builtin.Slice.slicePlaces
 have h1:(1:Int)>0:=by omega
 simp only [h1,if_true,Int.ediv_one]
 split <;> omega
theorem NR {v:Value} {o:Option Int} {Q:Option Int->Shared->Prop} (p:IsPart v o) (h:Q o s):wpAny (model prog w) A (Builtin.Slice.slicePartIndex v) Q E s:=by
 cases p with
 | none=>exact slicePart_none h
 | int i t=>exact slicePart_int h
theorem sliceApplied_gen {sl:Addr} {vl vu:Value} {lo hi:Option Int} {n:Nat} {Q:Int×Int×Nat->Shared->Prop} (hs:s.heap.IsSliceOf sl vl vu .none) (pl:IsPart vl lo) (pu:IsPart vu hi)
 (h:Q (((sIx n 0 lo:Nat):Int),1,sIx n n hi-sIx n 0 lo) s):wpAny (model prog w) A (Builtin.Slice.sliceApplied (.ref sl) (pure (n:Int))) Q E s:=by
 obtain ⟨os,fY,lR,jV⟩:=id hs
 unfold Builtin.Slice.sliceApplied Builtin.Slice.sliceFields
 refine wpAny_bind (wpAny_bind (wpAny_field fY jV (x:=vl) rfl (wpAny_bind (wpAny_field fY jV (x:=vu) rfl (wpAny_bind (wpAny_field fY jV (x:= .none) rfl (wpAny_pure ?_)))))))
 refine wpAny_bind (slicePart_none ?_)
 show wpAny _ _ (if ((1:Int)==0)=true then _ else _) _ _ s
 rw [if_neg (by decide)]
 refine wpAny_bind (NR pl (wpAny_bind (NR pu (wpAny_bind (wpAny_pure ?_)))))
 show wpAny _ _ (match Builtin.Slice.sliceAdjust lo hi 1 (n:Int) with | (lo,hi)=>pure (lo,(1:Int),Builtin.Slice.slicePlaces lo hi 1)) _ _ s
 rw [S7 lo hi n]
 show wpAny _ _ (pure (((sIx n 0 lo:Nat):Int),(1:Int),Builtin.Slice.slicePlaces ((sIx n 0 lo:Nat):Int) ((sIx n n hi:Nat):Int) 1)) _ _ s
 rw [UH]
 exact wpAny_pure h
theorem Y6 (xs:Array Value) (i k:Nat):((List.range k).filterMap λ(m:Nat)=>xs[((i:Int)+(m:Int)*1).toNat]?).toArray=((xs.toList.drop i).take k).toArray:=by
 have e:(λ(m:Nat)=>xs[((i:Int)+(m:Int)*1).toNat]?)=λm=>xs[i+m]? :=by
  funext m
  have:((i:Int)+(m:Int)*1).toNat=i+m:=by omega
  rw [this]
 rw [e]
 have:=pick_run xs i k
 rw [List.filterMap_map] at this
 have e2:((λx=>xs[x]?) ∘ λx=>i+x)=λm=>xs[i+m]? :=rfl
 rw [e2] at this
 rw [this]
theorem getItem_tuple_cut {t sl:Addr} {items:Array Value} {vl vu:Value} {lo hi:Option Int} {Q:Value->Shared->Prop} (ht:IsTup s.heap t items) (hs:s.heap.IsSliceOf sl vl vu .none) (pl:IsPart vl lo) (pu:IsPart vu hi)
 (hw:¬(sIx items.size 0 lo=0/\sIx items.size items.size hi=items.size))
 (h:Q (.ref s.heap.objs.size) {s with heap:=s.heap.push {cls:= .type "tuple",data:= .seq ((items.toList.drop (sIx items.size 0 lo)).take (sIx items.size items.size hi-sIx items.size 0 lo)).toArray}})
 (hsz:items.size<=sizeLine):wpAny (model prog w) A (getItem (.ref t) (.ref sl)) Q E s:=by
 have VC:sizeOk (.seq ((items.toList.drop (sIx items.size 0 lo)).take (sIx items.size items.size hi-sIx items.size 0 lo)).toArray):=by
  show ((items.toList.drop (sIx items.size 0 lo)).take (sIx items.size items.size hi-sIx items.size 0 lo)).toArray.size<=sizeLine
  rw [List.size_toArray,List.length_take,List.length_drop,Array.length_toList]
  omega
 have hj:sIx items.size items.size hi<=items.size:=gv _ _ (Nat.le_refl _) hi
 obtain ⟨os,fY,lR,jV⟩:=id hs
 have mZ:s.TypeIs (.ref sl) "slice" :=⟨os,fY,lR⟩
 unfold getItem
 try with_reducible refine wpAny_holding ?_
 first | refine wpAny_bind (wpAny_pure ?_)|skip
 refine wpAny_bind (wpAny_sequenceKey ht.typeIs (by decide) ?_)
 refine wpAny_bind (wpAny_callSpecial?_slot (name:=Str.ofString "__getitem__") ht.typeIs PyProof.Rows.slot_tuple_getitem
  (wpAny_call_entry PyProof.Rows.slot_tuple_getitem ht.typeIs entry_tuple_getitem ?_ (args_tuple_getitem _ _)))
 show wpAny _ _ (Builtin.Tuple.tupleItemsOf (.ref t) >>= _) _ _ s
 refine wpAny_bind (tupleItemsOf_ ht ?_)
 refine wpAny_bind (wpAny_typeOf mZ ?_)
 rw [if_pos (by decide)]
 refine wpAny_bind (sliceApplied_gen hs pl pu ?_)
 have VB:¬((((sIx items.size 0 lo:Nat):Int)==0&&(1:Int)==1&&(sIx items.size items.size hi-sIx items.size 0 lo)==items.size)=true):=by
  intro q
  rw [Bool.and_eq_true,Bool.and_eq_true] at q
  have q1:((sIx items.size 0 lo:Nat):Int)=0:=eq_of_beq q.1.1
  have q2:sIx items.size items.size hi-sIx items.size 0 lo=items.size:=eq_of_beq q.2
  exact hw ⟨by omega,by omega⟩
 show wpAny _ _ (if (((sIx items.size 0 lo:Nat):Int)==0&&(1:Int)==1&&(sIx items.size items.size hi-sIx items.size 0 lo)==items.size)=true then _ else _) _ _ s
 rw [if_neg VB,Y6]
 first
  | exact wpAny_bind (m:=Builtin.Tuple.tupleExact _) (wpAny_newObj_type (wpAny_pure ⟨_,rfl,wpAny_pure h⟩) VC)
  | exact wpAny_bind (m:=Builtin.Tuple.tupleExact _) (wpAny_newObj_type (wpAny_bind (wpAny_pure (wpAny_pure ⟨_,rfl,wpAny_pure h⟩))) VC)
  | exact wpAny_bind (wpAny_bind (m:=Builtin.Tuple.tupleExact _) (wpAny_newObj_type (wpAny_pure (wpAny_pure ⟨_,rfl,wpAny_pure h⟩)) VC))
  | exact wpAny_bind (wpAny_bind (m:=Builtin.Tuple.tupleExact _) (wpAny_newObj_type (wpAny_pure ⟨_,rfl,wpAny_pure h⟩) VC))
end
end HT
namespace L2
open PySem PySem.Spec PyProof.Rows
abbrev TO:=St->Hp->(Option Int->Hp->Prop)->Prop
def PO (X:Cx) (e:Option Expr) (t:TO):Prop:=
 ∀(pins:List (Addr×Obj)) (s:Shared) (σ:St) (H:Hp) (Q:Option Int->Hp->Prop),Inv X pins σ H s->t σ H Q->
  wpAny (model X.prog X.w) X.A (evalPart e X.env) (λu s'=>∃o H',Inv X pins σ H' s'/\IsPart u o/\Q o H') X.xe s
def dB:TO:=λ_ H Q=>Q none H
def lA (t:TE):TO:=λσ H Q=>t σ H λx H1=>∃i,x= .int i/\Q (some i) H1
section
variable {X:Cx} {e:Expr} {te:TE} {lo hi:Option Expr} {tl th:TO} {pos p2:Pos}
theorem cR:PO X none dB:=by
 intro pins s σ H Q I h
 rw [evalPart_none]
 exact wpAny_pure ⟨none,H,I, .none,h⟩
theorem cS (h:PE X e te):PO X (some e) (lA te):=by
 intro pins s σ H Q I hw
 rw [evalPart_some]
 refine BS (h pins s σ H _ I hw) λu s1 ⟨x,H1,I1,r1,q1⟩=> ?_
 obtain ⟨i,rfl,q⟩:=q1
 obtain ⟨t,rfl⟩:=r1
 exact ⟨some i,H1,I1, .int i t,q⟩
def dS (X:Cx) (r:V->Option Int->Option Int->Hp->VK->Prop):Prop:=
 ∀(pins:List (Addr×Obj)) (s:Shared) (σ:St) (H:Hp) (x:V) (v vl vu:Value) (lo hi:Option Int) (sl:Addr) (Q:VK),Inv X pins σ H s->RelV x v->s.heap.IsSliceOf sl vl vu .none->IsPart vl lo->IsPart vu hi->r x lo hi H Q->
  ∃T id,typeLookup (.type T) "__getitem__" =pure (some (.builtin id))/\s.TypeIs v T/\wpAny (model X.prog X.w) X.A (getItem v (.ref sl)) (EP X pins σ Q) X.xe s
theorem dS.or {r r':V->Option Int->Option Int->Hp->VK->Prop} (h:dS X r) (h':dS X r'):dS X (λx lo hi H Q=>r x lo hi H Q\/r' x lo hi H Q):=by
 intro pins s σ H x v vl vu lo hi sl Q I rx hs pl pu q
 rcases q with q|q
 ·exact h pins s σ H x v vl vu lo hi sl Q I rx hs pl pu q
 ·exact h' pins s σ H x v vl vu lo hi sl Q I rx hs pl pu q
def uD (r:V->Option Int->Option Int->Hp->VK->Prop) (te:TE) (tl th:TO):TE:=λσ H Q=>te σ H λx H1=>tl σ H1 λl H2=>th σ H2 λu H3=>r x l u H3 Q
theorem Y4 {r:V->Option Int->Option Int->Hp->VK->Prop} (hr:dS X r) (he:PE X e te) (hl:PO X lo tl) (hu:PO X hi th):PE X (.Subscript e (.Slice lo hi none p2) pos) (uD r te tl th):=by
 intro pins s σ H Q I h
 refine Subscript_ (BS (he pins s σ H _ I h) λv s1 ⟨x,H1,I1,r1,q1⟩=> ?_)
 refine wpAny_Slice (BS (hl pins s1 σ H1 _ I1 q1) λvl s2 ⟨l,H2,I2,pl,q2⟩=>BS (hu pins s2 σ H2 _ I2 q2) λvu s3 ⟨u,H3,I3,pu,q3⟩=> ?_)
 rw [evalPart_none]
 refine wpAny_pure ?_
 have I4:Inv X pins σ H3 {s3 with heap:=s3.heap.push {cls:= .type "slice",data:= .fields #[vl,vu, .none] }}:=I3.kept (t':=s3.toks) λb ob q=>Heap.get?_push_of_some _ q
 obtain ⟨T,id,hT,ht,hg⟩:=hr pins {s3 with heap:=s3.heap.push {cls:= .type "slice",data:= .fields #[vl,vu, .none] }} σ H3 x v vl vu l u s3.heap.objs.size Q I4 r1 (Heap.IsSliceOf.new ..) pl pu q3
 show wpAny (model X.prog X.w) X.A (subscriptTail e (.Slice lo hi none p2) v (.ref s3.heap.objs.size)) (EP X pins σ Q) X.xe {s3 with heap:=s3.heap.push {cls:= .type "slice",data:= .fields #[vl,vu, .none] }}
 exact tail_any (ops:= [.ref s3.heap.objs.size,v]) ht hT hg (by with_unfolding_all rfl)
def Nz (xs:List V) (lo hi:Option Int):List V:=(xs.drop (HT.sIx xs.length 0 lo)).take (HT.sIx xs.length xs.length hi-HT.sIx xs.length 0 lo)
theorem Kq (xs:List V) (lo hi:Option Int):(Nz xs lo hi).length<=xs.length:=by
 unfold Nz
 rw [List.length_take,List.length_drop]
 omega
def nS (K:PySem.W.Frag):V->Option Int->Option Int->Hp->VK->Prop:=λx lo hi H Q=>∃a xs,x= .ref a/\J6 K H a xs/\
 ¬(HT.sIx xs.length 0 lo=0/\HT.sIx xs.length xs.length hi=xs.length)/\∀p,H p=none->Q (.ref p) (upd H p (.tup (Nz xs lo hi)))
theorem hU:dS X (nS X.K):=by
 intro pins s σ H x v vl vu lo hi sl Q I rx hs pl pu h
 obtain ⟨a,xs,rfl,hx,hw,q⟩:=h
 cases rx
 obtain ⟨its,r,ht,hz⟩:=I.tuple hx
 have DI:its.toArray.size=xs.length:=by rw [List.size_toArray];exact r.length.symm
 refine ⟨"tuple",_,PyProof.Rows.slot_tuple_getitem.lookup,ht.typeIs, ?_⟩
 refine HT.getItem_tuple_cut ht hs pl pu (by rw [DI];exact hw) ?_ (by rw [DI];exact hz)
 rw [DI]
 refine ⟨.ref s.heap.objs.size,_,I.laid (t':=s.toks) (o:= .tup (Nz xs lo hi)) (λb ob q=>Heap.get?_push_of_some _ q) (Nat.le_refl _) ?_,rfl,q _ (I.hok.fresh (Nat.le_refl _))⟩
 exact ⟨Nat.le_trans (Kq xs lo hi) hz,_,(r.drop (HT.sIx xs.length 0 lo)).take (HT.sIx xs.length xs.length hi-HT.sIx xs.length 0 lo),IsTup.new _ _⟩
def dz (K:PySem.W.Frag):R2:=λx y H Q=>∃a b xs ys,x= .ref a/\y= .ref b/\J6 K H a xs/\J6 K H b ys/\xs≠ [] /\xs.length+ys.length<=sizeLine/\
 (ys= [] ->Q (.ref a) H)/\(ys≠ [] ->∀p,H p=none->Q (.ref p) (upd H p (.tup (xs++ys))))
theorem Ar.nil_iff {xs:List V} {us:List Value} (r:Ar xs us):us= [] ↔xs= [] :=by
 cases r with
 | nil=>simp
 | cons _ _=>simp
theorem cC:EB X (binaryOp .Add) (dz X.K):=by
 intro pins s σ H x y v u Q I rx ry h
 obtain ⟨a,b,xs,ys,rfl,rfl,ha,hb,hx,hz,q1,q2⟩:=h
 cases rx
 cases ry
 obtain ⟨its,r1,p1,_⟩:=I.tuple ha
 obtain ⟨its2,r2,p2,_⟩:=I.tuple hb
 refine HT.cat_tup p1 p2 (λz=>hx (r1.nil_iff.mp z)) (λz=>⟨.ref a,H,I,rfl,q1 (r2.nil_iff.mp z)⟩) (λz=> ?_) (by rw [<-r1.length,<-r2.length];exact hz)
 refine ⟨.ref s.heap.objs.size,_,I.laid (t':=s.toks) (o:= .tup (xs++ys)) (λb ob q=>Heap.get?_push_of_some _ q) (Nat.le_refl _) ?_,rfl,q2 (λw=>z (r2.nil_iff.mpr w)) _ (I.hok.fresh (Nat.le_refl _))⟩
 exact ⟨by rw [List.length_append];exact hz,_,r1.append r2,IsTup.new _ _⟩
end
end L2
namespace L2
open PySem PySem.Spec PyProof.Rows
def Rn (n:Nat) (i:Int):Option Nat:=if 0<=i then (if i<n then some i.toNat else none) else if -(n:Int)<=i then some (i+n).toNat else none
def IJ {α:Type} (xs:List α) (i:Int):Option α:=(Rn xs.length i).bind λj=>xs[j]?
theorem VF {n:Nat} {i:Int} {j:Nat} (h:Rn n i=some j):seqIndex? i n=some j/\j<n/\ -(n:Int)<=i/\i<n:=by
 unfold Rn at h
 by_cases h0:0<=i
 ·rw [if_pos h0] at h
  by_cases h1:i<n
  ·rw [if_pos h1] at h
   have e:i.toNat=j:=Option.some.inj h
   exact ⟨by rw [seqIndex_of h0 h1,e],by omega,by omega,h1⟩
  ·rw [if_neg h1] at h;cases h
 ·rw [if_neg h0] at h
  by_cases h1: -(n:Int)<=i
  ·rw [if_pos h1] at h
   have e:(i+n).toNat=j:=Option.some.inj h
   exact ⟨by rw [seqIndex_neg (by omega) h1,e],by omega,h1,by omega⟩
  ·rw [if_neg h1] at h;cases h
theorem Um {α:Type} {xs:List α} {i:Int} {v:α} (h:IJ xs i=some v):∃j,seqIndex? i xs.length=some j/\xs[j]? =some v/\j<xs.length/\ -(xs.length:Int)<=i/\i<xs.length:=by
 unfold IJ at h
 cases e:Rn xs.length i with
 | none=>rw [e] at h;cases h
 | some j=>
   rw [e] at h
   obtain ⟨h1,h2,h3,h4⟩:=VF e
   exact ⟨j,h1,h,h2,h3,h4⟩
theorem Cf {α:Type} {xs:List α} {j:Nat} {v:α} (h:xs[j]? =some v):IJ xs (j:Int)=some v:=by
 have hj:j<xs.length:=(List.getElem?_eq_some_iff.mp h).1
 have e:Rn xs.length (j:Int)=some j:=by
  unfold Rn
  rw [if_pos (by omega),if_pos (by omega)];simp
 unfold IJ;rw [e];exact h
def Pa (b:Expr):Prop:=∀o i,subscripted b false o i=operate [o,i] (getItem o i)
def aQ (X:Cx) (r:R2):Prop:=
 ∀(value slice:Expr) (pins:List (Addr×Obj)) (s:Shared) (σ:St) (H:Hp) (x y:V) (v u:Value) (Q:VK),Inv X pins σ H s->RelV x v->RelV y u->r x y H Q->
  subscripted slice false v u=operate [v,u] (getItem v u)->wpAny (model X.prog X.w) X.A (subscriptTail value slice v u) (EP X pins σ Q) X.xe s
def jC (X:Cx) (id:String) (r:V->List V->Hp->VK->Prop):Prop:=
 ∀(pins:List (Addr×Obj)) (s:Shared) (σ:St) (H:Hp) (x:V) (xs:List V) (v:Value) (us:List Value) (Q:VK),Inv X pins σ H s->RelV x v->Ar xs us->r x xs H Q->
  wpAny (model X.prog X.w) X.A (call (.builtin id) (v::us)) (EP X pins σ Q) X.xe s
section
variable {X:Cx} {a b:Expr} {ta tb:TE} {pos:Pos}
theorem aQ.or {r r':R2} (h:aQ X r) (h':aQ X r'):aQ X (λx y H Q=>r x y H Q\/r' x y H Q):=by
 intro value slice pins s σ H x y v u Q I rx ry q hs
 rcases q with q|q
 ·exact h value slice pins s σ H x y v u Q I rx ry q hs
 ·exact h' value slice pins s σ H x y v u Q I rx ry q hs
theorem jC.or {id:String} {r r':V->List V->Hp->VK->Prop} (h:jC X id r) (h':jC X id r'):jC X id (λx xs H Q=>r x xs H Q\/r' x xs H Q):=by
 intro pins s σ H x xs v us Q I rx rs q
 rcases q with q|q
 ·exact h pins s σ H x xs v us Q I rx rs q
 ·exact h' pins s σ H x xs v us Q I rx rs q
theorem Kz {r:R2} (hr:aQ X r) (ha:PE X a ta) (hb:PE X b tb) (hs:Pa b):PE X (.Subscript a b pos) (dC r ta tb):=by
 intro pins s σ H Q I h
 exact Subscript_ (fD ha hb I h λv u s2 x y H2 I2 rx ry q=>hr a b pins s2 σ H2 x y v u Q I2 rx ry q (hs _ _))
def kD (K:PySem.W.Frag):R2:=λx y H Q=>∃p xs i v,x= .ref p/\y= .int i/\GC K H p xs/\IJ xs i=some v/\Q v H
def kF (K:PySem.W.Frag):R2:=λx y H Q=>∃p xs i v,x= .ref p/\y= .int i/\J6 K H p xs/\IJ xs i=some v/\Q v H
theorem Ej:aQ X (kD X.K):=by
 intro value slice pins s σ H x y v u Q I rx ry h hs
 obtain ⟨p,xs,i,z,rfl,rfl,hq,he,q⟩:=h
 cases rx
 obtain ⟨t,rfl⟩:=ry
 obtain ⟨its,r,pl,hz⟩:=I.list hq
 obtain ⟨j,h1,h2,h3,h4,h5⟩:=Um he
 obtain ⟨w,ew,rw'⟩:=r.get h2
 have hl:=r.length
 have hn:=Ms
 have fin:EP X pins σ Q w s:=⟨z,H,I,rw',q⟩
 by_cases h0:0<=i
 ·have hj:i.toNat=j:=by
   rw [seqIndex_of h0 h5] at h1
   exact Option.some.inj h1
  exact item_listR pl.isList h0 (by omega) (by rw [hj];simpa using ew) fin hs
 ·have hj:(i+(its.toArray.size:Int)).toNat=j:=by
   rw [seqIndex_neg (by omega) h4] at h1
   rw [List.size_toArray,<-hl]
   exact Option.some.inj h1
  exact subscriptTail_builtinR (x:=w) pl.isList.typeIs slot_list_getitem.lookup
   (wpAny_getItem_list_neg (Q:=λr s'=>r=w/\EP X pins σ Q r s') pl.isList (by omega) (by rw [List.size_toArray] <;> omega) (by omega) (by rw [hj];simpa using ew) ⟨rfl,fin⟩) hs
theorem fo:aQ X (kF X.K):=by
 intro value slice pins s σ H x y v u Q I rx ry h hs
 obtain ⟨p,xs,i,z,rfl,rfl,hq,he,q⟩:=h
 cases rx
 obtain ⟨t,rfl⟩:=ry
 obtain ⟨its,r,pl,hz⟩:=I.tuple hq
 obtain ⟨j,h1,h2,h3,h4,h5⟩:=Um he
 obtain ⟨w,ew,rw'⟩:=r.get h2
 have hl:=r.length
 have hn:=Ms
 have fin:EP X pins σ Q w s:=⟨z,H,I,rw',q⟩
 exact subscriptTail_builtinR (x:=w) pl.typeIs slot_tuple_getitem.lookup
  (getItem_tuple (j:=j) (Q:=λr s'=>r=w/\EP X pins σ Q r s') pl (by omega) (by omega) (by rw [List.size_toArray,<-hl];exact h1) (by simpa using ew) ⟨rfl,fin⟩) hs
theorem Tr (its:List Value) (n j:Nat) (u:Value):Obj.mapSeq (·.setIfInBounds j u) {cls:= .type "list",data:= .seq its.toArray n}={cls:= .type "list",data:= .seq (its.set j u).toArray n}:=by
 simp [Obj.mapSeq]
theorem Inv.lst {pins:List (Addr×Obj)} {σ:St} {H:Hp} {s:Shared} {p:Addr} {xs:List V} (I:Inv X pins σ H s) (h:H p=some (.lst xs)):
 ∃(its:List Value) (n:Nat),Ar xs its/\s.heap.get? p=some {cls:= .type "list",data:= .seq its.toArray n}/\xs.length<=sizeLine:=by
 obtain ⟨z,its,n,r,e⟩:=I.hok p _ h
 exact ⟨its,n,r,e,z⟩
theorem Inv.lstUpd {pins:List (Addr×Obj)} {σ:St} {H:Hp} {s:Shared} {p:Addr} {xs ys:List V} {its its':List Value} {n n':Nat} {f:Obj->Obj} (I:Inv X pins σ H s) (h:H p=some (.lst xs))
 (ho:s.heap.get? p=some {cls:= .type "list",data:= .seq its.toArray n}) (hf:f {cls:= .type "list",data:= .seq its.toArray n}={cls:= .type "list",data:= .seq its'.toArray n'}) (r:Ar ys its') (hz:ys.length<=sizeLine) (t:Nat):
 Inv X pins σ (upd H p (.lst ys)) {s with heap:=s.heap.update p f,toks:=t}:=by
 have e:(s.heap.update p f).get? p=some {cls:= .type "list",data:= .seq its'.toArray n'}:=by
  rw [Heap.get?_update_self f ho (by rw [hf] <;> rfl),hf]
 refine I.write (x:=p) (e:=p) (by rw [h];trivial) (.inl rfl) (λb u hb q=>(Heap.get?_update_other _ _ (Ne.symm hb)).trans q) ⟨_,e⟩ ?_
 exact ⟨hz,its',n',r,e⟩
def kJ:V->V->V->Hp->(Hp->Prop)->Prop:=λo i v H Q=>∃p xs k j,o= .ref p/\i= .int k/\H p=some (.lst xs)/\Rn xs.length k=some j/\Q (upd H p (.lst (xs.set j v)))
theorem NO:jE X kJ:=by
 intro pins s σ H o i v ov iv u Q I ro ri rv h
 obtain ⟨p,xs,k,j,rfl,rfl,hp,hj,q⟩:=h
 cases ro
 obtain ⟨t,rfl⟩:=ri
 obtain ⟨its,n,r,ho,hz⟩:=I.lst hp
 obtain ⟨h1,h2,h3,h4⟩:=VF hj
 have hl:=r.length
 have hn:=Ms
 have I':Inv X pins σ (upd H p (.lst (xs.set j v))) {s with heap:=s.heap.update p (Obj.mapSeq (·.setIfInBounds j u))}:=
  I.lstUpd hp ho (Tr its n j u) (r.set rv j) (by rw [List.length_set];exact hz) s.toks
 by_cases h0:0<=k
 ·have hk:k.toNat=j:=by
   rw [seqIndex_of h0 h4] at h1
   exact Option.some.inj h1
  exact PySem.W.ki_setAt ho h0 (by omega) (by rw [List.size_toArray,<-hl];exact h4) (by rw [hk];exact ⟨_,I',q⟩)
 ·have hk:(k+(its.toArray.size:Int)).toNat=j:=by
   rw [seqIndex_neg (by omega) h3] at h1
   rw [List.size_toArray,<-hl]
   exact Option.some.inj h1
  exact PySem.W.ki_setBack ho (by omega) (by rw [List.size_toArray,<-hl];exact h3) (by omega) (by rw [hk];exact ⟨_,I',q⟩)
theorem Qi (lo hi:Option Int) (n:Nat):(sliceBounds lo hi none n).1=((HT.sIx n 0 lo:Nat):Int)/\(sliceBounds lo hi none n).2.1=((HT.sIx n n hi:Nat):Int)/\(sliceBounds lo hi none n).2.2=1:=by
 refine ⟨?_, ?_,rfl⟩
 ·cases lo with
  | none=>simp [sliceBounds,HT.sIx]
  | some i=>
    simp only [sliceBounds,HT.sIx,Option.getD_none,show (1:Int)>0 by decide,if_true]
    by_cases h:i<0
    ·simp only [h,if_true] <;> omega
    ·simp only [h,if_false] <;> omega
 ·cases hi with
  | none=>simp [sliceBounds,HT.sIx]
  | some i=>
    simp only [sliceBounds,HT.sIx,Option.getD_none,show (1:Int)>0 by decide,if_true]
    by_cases h:i<0
    ·simp only [h,if_true] <;> omega
    ·simp only [h,if_false] <;> omega
theorem OG (its:List Value) (lo hi:Option Int):slicePick its.toArray lo hi none=((its.drop (HT.sIx its.length 0 lo)).take (HT.sIx its.length its.length hi-HT.sIx its.length 0 lo)).toArray:=by
 obtain ⟨h1,h2,h3⟩:=Qi lo hi its.toArray.size
 unfold slicePick
 rw [h1,h2,h3]
 simp only [sliceRange_one,pick_run,List.size_toArray] <;> rfl
def nR (K:PySem.W.Frag):V->Option Int->Option Int->Hp->VK->Prop:=λx lo hi H Q=>∃a xs,x= .ref a/\GC K H a xs/\∀p,H p=none->Q (.ref p) (upd H p (.lst (Nz xs lo hi)))
theorem c5:dS X (nR X.K):=by
 intro pins s σ H x v vl vu lo hi sl Q I rx hs pl pu h
 obtain ⟨a,xs,rfl,hx,q⟩:=h
 cases rx
 obtain ⟨its,r,ht,hz⟩:=I.list hx
 have DI:=r.length
 refine ⟨"list",_,slot_list_getitem.lookup,ht.isList.typeIs, ?_⟩
 refine wpAny_getItem_list_slice ht.isList hs pl pu .none (by simp) ?_ (by rw [List.size_toArray] <;> omega)
 rw [OG,<-DI]
 refine ⟨.ref s.heap.objs.size,_,I.laid (t':=s.toks) (o:= .lst (Nz xs lo hi)) (λb ob q=>Heap.get?_push_of_some _ q) (Nat.le_refl _) ?_,rfl,q _ (I.hok.fresh (Nat.le_refl _))⟩
 exact ⟨Nat.le_trans (Kq xs lo hi) hz,_,0,(r.drop (HT.sIx xs.length 0 lo)).take (HT.sIx xs.length xs.length hi-HT.sIx xs.length 0 lo),Heap.get?_push_size _ rfl⟩
theorem Ij:B4 X (.builtin "len") (λxs H Q=>∃p ys,xs= [.ref p] /\(GC X.K H p ys\/J6 X.K H p ys)/\Q (.int ys.length) H):=by
 intro pins s σ H xs us Q I r h
 obtain ⟨p,ys,rfl,hq,q⟩:=h
 obtain ⟨u,rfl,rx⟩:=vals1 r
 cases rx
 have hn:=Ms
 rcases hq with hq|hq
 ·obtain ⟨its,r',pl,hz⟩:=I.list hq
  have DI:=r'.length
  exact Calls.call_len_list pl.isList (by simp only [List.size_toArray] <;> omega) ⟨.int ys.length,H,I.tok _,⟨s.toks+1,by rw [List.size_toArray,DI]⟩,q⟩
 ·obtain ⟨its,r',pl,hz⟩:=I.tuple hq
  have DI:=r'.length
  exact len_tuple pl (by simp only [List.size_toArray] <;> omega) ⟨.int ys.length,H,I.tok _,⟨s.toks+1,by rw [List.size_toArray,DI]⟩,q⟩
theorem B4.or {f:Value} {r r':List V->Hp->VK->Prop} (h:B4 X f r) (h':B4 X f r'):B4 X f (λxs H Q=>r xs H Q\/r' xs H Q):=by
 intro pins s σ H xs us Q I rs q
 rcases q with q|q
 ·exact h pins s σ H xs us Q I rs q
 ·exact h' pins s σ H xs us Q I rs q
theorem Pf:B4 X (.type "list") (λxs H Q=>∃p ys,xs= [.ref p] /\(GC X.K H p ys\/J6 X.K H p ys)/\∀l,H l=none->Q (.ref l) (upd H l (.lst ys))):=by
 intro pins s σ H xs us Q I r h
 obtain ⟨p,ys,rfl,hq,q⟩:=h
 obtain ⟨u,rfl,rx⟩:=vals1 r
 cases rx
 have fin:∀(its:List Value),Ar ys its->ys.length<=sizeLine->∀(h':Heap) (c':Nat),(∀b o',s.heap.get? b=some o'->h'.get? b=some o')->
  h'.get? s.heap.objs.size=some {cls:= .type "list",dict:=none,data:= .seq its.toArray c',slots:= #[] }->EP X pins σ Q (.ref s.heap.objs.size) {s with heap:=h'}:=λits r' hz h' c' kp e=>
  ⟨.ref s.heap.objs.size,_,I.laid (t':=s.toks) kp (Nat.le_refl _) (show Cp X.prog X.w _ h' _ (.lst ys) from ⟨hz,its,c',r',e⟩),rfl,q _ (I.hok.fresh (Nat.le_refl _))⟩
 rcases hq with hq|hq
 ·obtain ⟨its,r',pl,hz⟩:=I.list hq
  have DI:=r'.length
  obtain ⟨o,ho,hc,n,hd⟩:=pl.isList
  exact call_list_seq p (.inl rfl) ho hc hd (λh' c' kp e=>fin its r' hz h' c' kp e) (by simp only [List.size_toArray] <;> omega)
 ·obtain ⟨its,r',pl,hz⟩:=I.tuple hq
  have DI:=r'.length
  obtain ⟨o,ho,hc,n,hd⟩:=pl
  exact call_list_seq p (.inr rfl) ho hc hd (λh' c' kp e=>fin its r' hz h' c' kp e) (by simp only [List.size_toArray] <;> omega)
theorem Ny:B4 X (.type "tuple") (λxs H Q=>∃p ys,xs= [.ref p] /\((GC X.K H p ys/\∀l,H l=none->Q (.ref l) (upd H l (.tup ys)))\/(J6 X.K H p ys/\Q (.ref p) H))):=by
 intro pins s σ H xs us Q I r h
 obtain ⟨p,ys,rfl,h⟩:=h
 obtain ⟨u,rfl,rx⟩:=vals1 r
 cases rx
 rcases h with ⟨hq,q⟩|⟨hq,q⟩
 ·obtain ⟨its,r',pl,hz⟩:=I.list hq
  have DI:=r'.length
  refine call_tuple_list pl.isList (λh' kp=> ?_) (by simp only [List.size_toArray] <;> omega)
  have I1:Inv X pins σ H {s with heap:=h'}:=I.kept (t':=s.toks) kp
  have I2:Inv X pins σ (upd H h'.objs.size (.tup ys)) {s with heap:=h'.push {cls:= .type "tuple",data:= .seq its.toArray}}:=
   I1.laid (t':=s.toks) (λb o e=>Heap.get?_push_of_some _ e) (Nat.le_refl _) (show Cp X.prog X.w _ _ _ (.tup ys) from ⟨hz,its,r',IsTup.new _ _⟩)
  exact ⟨.ref h'.objs.size,_,I2,rfl,q _ (I1.hok.fresh (Nat.le_refl _))⟩
 ·obtain ⟨its,r',pl,hz⟩:=I.tuple hq
  exact call_tuple_same pl ⟨.ref p,H,I,rfl,q⟩
def qN (K:PySem.W.Frag) (T:String) (x:V) (H:Hp):Prop:=match x with
 | .str _=>T="str"
 | .int _=>T="int"
 | .ref p=>(T="list" /\∃xs,GC K H p xs)\/(T="tuple" /\∃o,K.lookup p=some o/\o.cls= .type "tuple" /\o.dict=none)\/
     (T="dict" /\((∃kvs,H p=some (.dK kvs))\/∃kvs,H p=some (.dT kvs)))\/(T="set" /\∃S n,H p=some (.set S n))
 | _=>False
theorem iD {pins:List (Addr×Obj)} {σ:St} {H:Hp} {s:Shared} {T:String} {x:V} {v:Value} (I:Inv X pins σ H s) (r:RelV x v) (ty:qN X.K T x H):
 s.TypeIs v T/\∀a,v= .ref a->∃ob,s.heap.get? a=some ob/\ob.dict=none:=by
 cases x with
 | str z=>
   obtain ⟨t,rfl⟩:=r
   cases (show T="str" from ty)
   exact ⟨typeIs_str s z t,λ_ e=>nomatch e⟩
 | int i=>
   obtain ⟨t,rfl⟩:=r
   cases (show T="int" from ty)
   exact ⟨typeIs_int s i t,λ_ e=>nomatch e⟩
 | ref p=>
   cases r
   rcases ty with ⟨rfl,xs,hq⟩|⟨rfl,o,hk,hc,hd⟩|⟨rfl,hk⟩|⟨rfl,S,n,hk⟩
   ·obtain ⟨its,_,pl,_⟩:=I.list hq
    refine ⟨pl.isList.typeIs,λa e=> ?_⟩
    cases e
    obtain ⟨o,n,e,c,hd,_⟩:=pl
    exact ⟨o,e,hd⟩
   ·refine ⟨⟨o,I.kIn p o hk,hc⟩,λa e=> ?_⟩
    cases e
    exact ⟨o,I.kIn _ o hk,hd⟩
   ·have z:∃o,s.heap.get? p=some o/\o.ExactDict:=by
     rcases hk with ⟨kvs,hk⟩|⟨kvs,hk⟩
     ·obtain ⟨_,_,_,_,o,_,_,e,ex,_⟩:=I.hok p _ hk
      exact ⟨o,e,ex⟩
     ·obtain ⟨_,_,_,_,o,_,_,e,ex,_⟩:=I.hok p _ hk
      exact ⟨o,e,ex⟩
    obtain ⟨o,e,ex⟩:=z
    refine ⟨⟨o,e,ex.1⟩,λa e2=> ?_⟩
    cases e2
    exact ⟨o,e,ex.2.1⟩
   ·obtain ⟨o,_,_,_,e,ex,_⟩:=I.hok p _ hk
    refine ⟨⟨o,e,ex.1⟩,λa e2=> ?_⟩
    cases e2
    exact ⟨o,e,ex.2.1⟩
 | _=>exact False.elim ty
def qM (K:PySem.W.Frag) (T:String) (r:V->List V->Hp->VK->Prop) (to:TE) (t:TA):TE:=λσ H Q=>to σ H λx H1=>qN K T x H1/\t σ H1 λxs H2=>r x xs H2 Q
variable {o e:Expr} {es:List Expr} {to:TE} {t:TA} {name:Str} {apos cpos:Pos} {T id:String} {r:V->List V->Hp->VK->Prop}
theorem j7 (pa:PlainAttrs T) (slot:Slot T name id) (nF:typeOf (.builtin id)=pure (.type "method_descriptor")) (hm:jC X id r) (ho:PE X o to) (ha:PA X (e::es) t)
 (YU:attributeBase o name X.env (eval o X.env)=eval o X.env:=by rfl)
 (fS:((backTo cpos (starEach (e::es) X.env)).all (λx=> !x.1)&&(backToKw cpos (keywordEach [] X.env)).all (λx=>x.1.isSome)
   && decide ((e::es).length+([] :List Keyword).length+(if ([] :List Keyword).isEmpty then 0 else 1)<30))=true:=by rfl)
 (U9:(apos.endLine==cpos.line)=true:=by rfl) (hs:starEach (e::es) X.env=(false,eval e X.env)::starEach es X.env:=by rfl) (Th:(backTo cpos (starEach es X.env)).any (·.1)=false:=by rfl):
 PE X (.Call (.Attribute o name apos) (e::es) [] cpos) (qM X.K T r to t):=by
 intro pins s σ H Q I h
 refine wpAny_Call_method_late YU fS U9 rfl (BS (ho pins s σ H _ I h) λv s1 ⟨x,H1,I1,r1,ty,q1⟩=> ?_)
 obtain ⟨h1,h2⟩:=iD I1 r1 ty
 refine ⟨T,id,pa,slot,nF,h1,h2, ?_⟩
 have hA:=ha cpos pins s1 σ H1 _ I1 q1
 rw [hs] at hA ⊢
 refine Calls.callWith_builtin (by show (false||(backTo cpos (starEach es X.env)).any (·.1))=false;rw [Th] <;> rfl) (Calls.evalArgs_plain ?_)
 exact BS hA λus s2 ⟨vs,H2,I2,r2,q2⟩=>hm pins s2 σ H2 x vs v us Q I2 r1 r2 q2
end
end L2
namespace L2
open PySem PySem.Spec PyProof.Rows
def jB (X:Cx) (id:String) (r:V->List V->Hp->VK->Prop):Prop:=
 ∀(pins:List (Addr×Obj)) (s:Shared) (σ:St) (H:Hp) (x:V) (xs:List V) (v:Value) (us:List Value) (Q:VK),Inv X pins σ H s->RelV x v->Ar xs us->r x xs H Q->
  wpAny (model X.prog X.w) X.A (call (.builtin id) (v::us)) (EP X pins σ Q) X.xe s
theorem Ar.one:∀{x:V} {us:List Value},Ar [x] us->∃u,us= [u] /\RelV x u
 | _,_, .cons r .nil=>⟨_,rfl,r⟩
theorem Ar.two:∀{x y:V} {us:List Value},Ar [x,y] us->∃u v,us= [u,v] /\RelV x u/\RelV y v
 | _,_,_, .cons r (.cons q .nil)=>⟨_,_,rfl,r,q⟩
theorem Ar.zero:∀{us:List Value},Ar [] us->us= []
 | _, .nil=>rfl
theorem Ar.dropLast {xs:List V} {us:List Value} (h:Ar xs us):Ar xs.dropLast us.dropLast:=by
 induction h with
 | nil=>exact .nil
 | cons r t ih=>
   cases t with
   | nil=>exact .nil
   | cons q t'=>exact .cons r ih
theorem Ar.reverse {xs:List V} {us:List Value} (h:Ar xs us):Ar xs.reverse us.reverse:=by
 induction h with
 | nil=>exact .nil
 | cons r t ih=>rw [List.reverse_cons,List.reverse_cons];exact Ar.append ih (.cons r .nil)
section
variable {X:Cx} {pins:List (Addr×Obj)} {σ:St} {H:Hp} {s:Shared} {l b:Addr} {xs ys zs:List V}
theorem Inv.lset {its its':List Value} {n:Nat} {f:Array Value->Array Value} {t':Nat} (I:Inv X pins σ H s) (hH:H l=some (.lst xs))
 (e:s.heap.get? l=some {cls:= .type "list",data:= .seq its.toArray n}) (hf:f its.toArray=its'.toArray) (hv:Ar ys its') (hz:ys.length<=sizeLine):
 Inv X pins σ (upd H l (.lst ys)) {s with heap:=s.heap.update l (Obj.mapSeq f),toks:=t'}:=by
 have q:=PySem.IsL.update e f
 rw [hf] at q
 refine I.write (x:=l) (e:=l) (by rw [hH];exact trivial) (.inl rfl) (λb' u hb hu=>(Heap.get?_update_other s.heap (Obj.mapSeq f) (Ne.symm hb)).trans hu) ⟨_,q⟩ ?_
 exact ⟨hz,its',_,hv,q⟩
theorem Inv.lnew {its:List Value} {t':Nat} (I:Inv X pins σ H s) (hv:Ar ys its) (hz:ys.length<=sizeLine):
 Inv X pins σ (upd H s.heap.objs.size (.lst ys)) {s with heap:=s.heap.push {cls:= .type "list",data:= .seq its.toArray},toks:=t'}:=
 I.laid (λ_ _ q=>Heap.get?_push_of_some _ q) (Nat.le_refl _) ⟨hz,its,0,hv,Heap.get?_push_size _ rfl⟩
theorem Inv.fresh (I:Inv X pins σ H s):H s.heap.objs.size=none:=I.hok.fresh (Nat.le_refl _)
theorem Inv.lstM (I:Inv X pins σ H s) (hH:H l=some (.lst xs)):xs.length<=sizeLine/\∃(its:List Value) (n:Nat),Ar xs its/\xs.length=its.length/\s.heap.get? l=some {cls:= .type "list",data:= .seq its.toArray n}:=by
 obtain ⟨z,its,n,r,e⟩:=I.hok l _ hH
 exact ⟨z,its,n,r,r.length,e⟩
end
section
variable {X:Cx}
def QK:V->List V->Hp->VK->Prop:=λx vs H Q=>∃l xs y,x= .ref l/\vs= [y] /\H l=some (.lst xs)/\xs.length<sizeLine/\Q .non (upd H l (.lst (xs ++ [y])))
theorem G3:jB X "list.append" QK:=by
 intro pins s σ H x vs v us Q I rx rv h
 obtain ⟨l,xs,y,rfl,rfl,hH,hz,q⟩:=h
 cases rx
 obtain ⟨u,rfl,ru⟩:=rv.one
 obtain ⟨z,its,n,r,hl,e⟩:=I.lstM hH
 refine call_meets F.slot_list_append ⟨_,e,rfl⟩ F.entry_list_append (F.args_list_append_2 _ _) (PySem.list_append l its.toArray n u (by rw [List.size_toArray];omega)) ⟨e, ?_⟩
 refine ⟨.non,_,I.lset (its':=its ++ [u]) hH e (by simp) (r.append (.cons ru .nil)) ?_,rfl,q⟩
 rw [List.length_append,List.length_singleton]
 omega
def kB:R2:=λx y H Q=>∃l b xs zs,x= .ref l/\y= .ref b/\H l=some (.lst xs)/\H b=some (.lst zs)/\xs.length+zs.length<=sizeLine/\∀p,H p=none->Q (.ref p) (upd H p (.lst (xs++zs)))
theorem gQ:EB X (binaryOp .Add) kB:=by
 intro pins s σ H x y v u Q I rx ry h
 obtain ⟨l,b,xs,zs,rfl,rfl,hH,hB,hz,q⟩:=h
 cases rx
 cases ry
 obtain ⟨z,its,n,r,hl,e⟩:=I.lstM hH
 obtain ⟨z2,its2,n2,r2,pp,e2⟩:=I.lstM hB
 refine PySem.P.add_list e e2 ?_ (by rw [List.size_toArray,List.size_toArray];omega)
 have ea:its.toArray++its2.toArray=(its++its2).toArray:=by simp
 rw [ea]
 exact ⟨.ref _,_,I.lnew (t':=s.toks) (r.append r2) (by rw [List.length_append];omega),rfl,q _ I.fresh⟩
end
section
variable {prog:Program} {w:World} {A:Around} {E:Value->Shared->Prop} {s:Shared}
set_option maxRecDepth 100000 in
end
section
variable {X:Cx}
end
end L2
namespace Att
open PySem PySem.W PySem.Calls PyProof.Rows
theorem LV {P:Params} {h:Heap}:∀(ns:List Int) (vs:List Value),WellAll P h vs (ns.map WData.int)->IntsAre vs ns:=by
 intro ns
 induction ns with
 | nil=>
   intro vs w
   rw [List.map_nil] at w
   cases w
   exact .nil
 | cons n ns ih=>
   intro vs w
   rw [List.map_cons] at w
   cases w with
   | cons a b=>
     cases a
     exact .cons _ _ (ih _ b)
theorem W7 {l:OpenLaw} {n:Nat} (hn:l.most=some n) {P:Params} {h:Heap} {args:List WData} {vals:List Value}
 (bL:l.row.toRowW.claim.pre args=true) (nG:WellAll P h vals args):
 ∃a vs ns,vals= [Value.ref a] /\args= [WData.list (ns.map WData.int)] /\h.get? a=some {cls:= .type "list",data:= .seq vs.toArray}/\IntsAre vs ns/\ns.length<=n:=by
 have tZ:WShape.hasAll [] args [.list .int] =true:=(pre_splitW bL).1
 have hc:l.pre.holds [] {args:=args}=true:=(pre_splitW bL).2
 obtain ⟨d,r,rfl,h1,h2⟩:=hasAllW_cons tZ
 obtain rfl:=hasAllW_nil h2
 obtain ⟨xs,rfl,h3⟩:=hasW_list h1
 obtain ⟨ns,rfl⟩:=items_int h3
 have DI:ns.length<=n:=by
  unfold OpenLaw.pre at hc
  have h4:(WTm.not (.lt (.lit (.int (n:Int))) (.len (.arg 0)))).holds [] {args:= [.list (ns.map .int)] }=true:=by
   have h4:=(holds_andW hc).1
   rw [hn] at h4
   exact h4
  have h5:=condW_of h4 (w_not (w_lt w_lit (w_len_list (w_arg rfl))))
  rw [List.length_map] at h5
  refine Nat.le_of_not_lt λq=> ?_
  have q':(n:Int)<((ns.length:Nat):Int):=by omega
  first
   | (rw [decide_eq_true q'] at h5;exact absurd h5 (by decide))
   | (simp at h5;omega)
 cases nG with
 | cons w1 w2=>
   cases w2
   cases w1 with
   | list ho WR=>exact ⟨_,_,ns,rfl,rfl,ho,LV ns _ WR,DI⟩
theorem W1 (l:OpenLaw) (args:List WData):l.row.toRowW.claim.post args (.bool true) args=true:=
 postW_of (r:=l.row.toRowW) (X:=(true==true))
  (show WShape.has [] (.bool true) .bool=true by first | rfl|decide|simp [WShape.has,WShape.arms,WShape.armsAll])
  (show (WTm.eq .res (.lit (.bool true))).value [] {args:=args,res:=some (.bool true),after:=args}=some (.bool (true==true)) from w_eq_bool (w_res rfl) w_lit) rfl
theorem attach_call {l:OpenLaw} {n:Nat} {q:Program} {loose:List Str} {XP:(Str->Option Value)->Heap->Prop} {YP:World->Heap->Prop} {d:DefRec}
 (hn:l.most=some n) (jU:d.params.defaults= [])
 (call:∀(w:World) (s₀ s₁:Shared) (mg mb:Str->Option Value) (fa:Addr) (o:Obj) (pm cd doc:Value) (a:Addr) (vs:List Value) (ns:List Int),
   Ground q loose [] XP w s₀ mg mb s₁.heap->YP w s₁.heap->
   s₁.heap.get? fa=some o->o.data= .func (docDef d.name d.params d.body d.scope pm cd doc)->s₁.heap.CodeRec cd d.name->mg d.name=some (.ref fa)->
   s₁.heap.get? a=some {cls:= .type "list",data:= .seq vs.toArray}->IntsAre vs ns->ns.length<=n->s₁.gens= #[] ->
   codeAny (model l.prog w) callerA (.call (.ref fa) ⟨[.ref a], []⟩) (λr s'=>r= .ok (.ret (.bool true))/\OldK s₁.heap s'.heap/\s'.os=s₁.os/\AllBare s'.gens) s₁):
 WalkO q loose XP YP l.row.toRowW d [] (λf vs=>PySem.call f vs):=by
 intro w s₀ s₁ mg mb G Y fa o pm cd doc dV kV ho hd Lj hD jZ hg args vals as bL tP ux nG ut
 obtain rfl:dV= .none:=Dflts.none hD jU
 obtain rfl:kV= .none:=Dflts.noKw hD
 obtain ⟨a,vs,ns,rfl,rfl,fX,YW,DI⟩:=W7 hn bL nG
 refine enter_call (codeAny_mono (call w s₀ s₁ mg mb fa o pm cd doc a vs ns G Y ho (fd_plain hd) Lj jZ fX YW DI hg) λr s' hq=> ?_)
 obtain ⟨rfl,h2,h3,h4⟩:=hq
 exact ⟨.inl ⟨.bool true, .bool true, [],rfl,λ_=>rfl, .bool true,W1 l _,λ_=>⟨List.Pairwise.nil,λ_ hm=>(nomatch hm)⟩⟩,h2,h3,h4⟩
section
variable {prog:Program} {w:World} {A:Around} {E:Value->Shared->Prop} {s:Shared} {K:Frag}
def nM (h:Heap) (L d:Addr):List (Addr×Obj):=(List.range h.objs.size).filterMap λa=>if a=L\/a=d then none else (h.get? a).map λo=>(a,o)
end
end Att
namespace L2
open PySem PySem.Spec PyProof.Rows
theorem Oy:∀{vs:List Value} {ns:List Int},IntsAre vs ns->Ar (ns.map V.int) vs
 | _,_, .nil=> .nil
 | _,_, .cons n t h=> .cons ⟨t,rfl⟩ (Oy h)
def eh (H:Hp):Prop:=∀b,H b=none\/∃o xs,H b=some (.frz o (.lst xs))
theorem Yg {P:Program} {w:World} {K:PySem.W.Frag} {mg mb:Str->Option Value} {CX:Vy} {k:Nat} {fa a:Addr} {fd:FuncData} {x:Str} {sp:Sp} {s₁:Shared} {vs:List Value} {ns:List Int}
 (KX:K.In s₁.heap) (db:s₁.heap.Ns mainGlobals mg) (hb:s₁.heap.Ns builtinsNs mb) (tD:∀x:Str,x≠"__name__" ->mb x=bootBuiltins x) (mz:s₁.heap.NoLimit) (hg:s₁.gens= #[])
 (ha:s₁.heap.get? a=some {cls:= .type "list",data:= .seq vs.toArray}) (hi:IntsAre vs ns) (hl:ns.length<=sizeLine) (hr:Room k callerA)
 (F:∀base:Heap,K.In base->base.Ns mainGlobals mg->A7 P w K mg base CX k fa fd [x] sp) (jQ:∀(s:Shared) (u:Value),BindsTo s fd ⟨[u], []⟩ [(x,u)])
 (dc:∀H:Hp,eh H->GC K H a (ns.map V.int)->sp [.ref a] H (λv _=>v= .bl true) λ_ _ _=>False)
 (mT:∀H e s',CX [] H s₁ (λ_ _ _=>False) e s'->False):
 codeAny (model P w) callerA (.call (.ref fa) ⟨[.ref a], []⟩) (λr s'=>r= .ok (.ret (.bool true))/\OldK s₁.heap s'.heap/\s'.os=s₁.os/\AllBare s'.gens) s₁:=by
 have rv:=Oy hi
 have lenV:=hi.length
 have core:∀H:Hp,eh H->GC K H a (ns.map V.int)->LN P w H s₁.heap->(∀b,H b≠none->b=a)->(H a≠none->K.lookup a=none)->
  codeAny (model P w) callerA (.call (.ref fa) ⟨[.ref a], []⟩) (λr s'=>r= .ok (.ret (.bool true))/\OldK s₁.heap s'.heap/\s'.os=s₁.os/\AllBare s'.gens) s₁:=by
  intro H hO hS hok hA hK
  have base_of:∀{b:Addr} {o:Obj},s₁.heap.get? b=some o->H b=none->(Pp s₁.heap H).get? b=some o:=λe n=>YV e n
  have noA:∀{b:Addr} {o:Obj} {es:Array DictEntry} {ep:Nat},s₁.heap.get? b=some o->o.data= .dict es ep->H b=none:=λ{b o es ep} e d=>by
   cases q:H b with
   | none=>rfl
   | some u=>
     have e':b=a:=hA b (by rw [q];simp)
     subst e'
     rw [ha] at e;cases e
     have d':Data.seq vs.toArray _=Data.dict es ep:=d
     cases d'
  have nsK:∀{b:Addr} {m:Str->Option Value},s₁.heap.Ns b m->(Pp s₁.heap H).Ns b m:=λ{b m} ⟨o,es,ep,e,d,r⟩=>⟨o,es,ep,base_of e (noA e d),d,r⟩
  have pR:K.In (Pp s₁.heap H):=λb o e=>base_of (KX b o e) (by
   cases q:H b with
   | none=>rfl
   | some u=>
     have e':b=a:=hA b (by rw [q];simp)
     subst e'
     rw [hK (by rw [q];simp)] at e;cases e)
  have hM:Mod K mg (Pp s₁.heap H):=⟨pR,nsK db,⟨mb,nsK hb,tD⟩,let ⟨mc,h1,h2⟩:=mz;⟨mc,nsK h1,h2⟩⟩
  have e0:Nt P w K mg (Pp s₁.heap H) callerA [] s₁ H:=⟨rfl,hM,λb o e=>bj e,Nat.le_of_eq (WT _ _),trivial,λb hb=>absurd (show b∈([] :List Addr) from hb) (by simp),hok, .of_eq hg⟩
  refine codeAny_mono ((F _ pR (nsK db)).run callerA [] s₁ H ⟨[.ref a], []⟩ [.ref a] [.ref a] _ _ hr e0 (jQ s₁ (.ref a)) (.cons rfl .nil) (dc H hO hS)) λr s' h=> ?_
  cases r with
  | error e=>exact (mT H e s' h).elim
  | ok fl=>
    cases fl with
    | next=>exact False.elim h
    | brk=>exact False.elim h
    | cont=>exact False.elim h
    | ret u=>
      obtain ⟨v,H',os,bare,un,m8,r',q⟩:=h
      have q':v= .bl true:=q
      subst q'
      obtain rfl:u=Value.bool true:=r'
      refine ⟨rfl,OldK.of_keep λb o e=> ?_,os,bare⟩
      cases q:H b with
      | none=>exact un.keep b o e q (by intro z;exact absurd (show b∈([] :List Addr) from z) (by simp)) (by simp)
      | some u=>
        rcases hO b with z|⟨ob,xs,z⟩
        ·rw [q] at z;cases z
        ·have z2:=un.frzs b ob _ z
         obtain ⟨e1,_⟩:=hok b _ z
         obtain ⟨e2,_⟩:=m8 b _ z2
         rw [e] at e1;cases e1
         exact e2
 cases hk:K.lookup a with
 | some o=>
   have e:=KX a o hk
   rw [ha] at e
   cases e
   refine core (λ_=>none) (λ_=> .inl rfl) (.inr ⟨_,vs.toArray,_,hk,rfl,rfl,rfl,by rw [List.size_toArray,lenV];exact hl,by simpa using rv⟩) (λb u z=>by have z':(none:Option HO)=some u:=z;cases z') (λb z=>absurd rfl z) λz=>absurd rfl z
 | none=>
   refine core (λb=>if b=a then some (.frz {cls:= .type "list",data:= .seq vs.toArray} (.lst (ns.map V.int))) else none) (λb=> ?_) (.inl (.inr ⟨{cls:= .type "list",data:= .seq vs.toArray},if_pos rfl⟩)) (λb u z=> ?_) (λb z=> ?_) λ_=>hk
   ·by_cases hb:b=a
    ·exact .inr ⟨_,_,if_pos hb⟩
    ·exact .inl (if_neg hb)
   ·by_cases hb:b=a
    ·have z':=(if_pos hb).symm.trans z
     cases z'
     subst hb
     exact ⟨ha,by rw [List.length_map];exact hl,vs,_,rv,ha⟩
    ·have z':=(if_neg hb).symm.trans z
     cases z'
   ·by_cases hb:b=a
    ·exact hb
    ·exact absurd (if_neg hb) z
end L2
namespace L2
open PySem PySem.Spec PyProof.Rows
abbrev ue {K:PySem.W.Frag} {h:Heap} (_:K.In h):PySem.W.Frag:=K
theorem walk_of {l:PySem.W.OpenLaw} {n k:Nat} {q:Program} {loose:List Str} {XP:(Str->Option Value)->Heap->Prop} {YP:World->Heap->Prop} {d:DefRec} {K:Params->PySem.W.Frag} {CX:World->Vy} {sp:World->Sp} {x:Str}
 (hn:l.most=some n) (tU:n<=sizeLine) (jU:d.params.defaults= []) (hr:Room k callerA)
 (hY:∀(w:World) (h:Heap),YP w h->(K w.params).In h)
 (F:∀(w:World) (mg:Str->Option Value) (fa:Addr) (h:Heap),(K w.params).In h->h.Ns mainGlobals mg->mg d.name=some (.ref fa)->
   ∃fd:FuncData,(∀(s:Shared) (u:Value),BindsTo s fd ⟨[u], []⟩ [(x,u)])/\
    ∀base:Heap,(K w.params).In base->base.Ns mainGlobals mg->A7 l.prog w (K w.params) mg base (CX w) k fa fd [x] (sp w))
 (dc:∀(w:World) (H:Hp) (a:Addr) (ns:List Int),ns.length<=n->eh H->GC (K w.params) H a (ns.map V.int)->sp w [.ref a] H (λv _=>v= .bl true) λ_ _ _=>False)
 (mT:∀(w:World) (H:Hp) (s:Shared) (e:Value) (s':Shared),CX w [] H s (λ_ _ _=>False) e s'->False):
 PySem.W.WalkO q loose XP YP l.row.toRowW d [] (λf vs=>PySem.call f vs):=by
 refine Att.attach_call hn jU λw s₀ s₁ mg mb fa o pm cd doc a vs ns G Y ho hd Lj jZ fX YW DI hg=> ?_
 have KX:=hY w _ Y
 obtain ⟨fd,hb,hF⟩:=F w mg fa _ KX G.T.g jZ
 exact Yg KX G.T.g G.T.b G.T.builtins G.T.nolimit hg fX YW (Nat.le_trans DI tU) hr hF hb (λH hO hS=>dc w H a ns DI hO hS) λH e s'=>mT w H s₁ e s'
end L2
namespace L2
open PySem PySem.Spec PyProof.Rows
def Fm (s:Stmt):Arguments:=match s with
 | .FunctionDef _ a _ _ _ _ _ _ _ _=>a
 | _=>{posonlyargs:= [],args:= [],vararg:=none,kwonlyargs:= [],kw_defaults:= [],kwarg:=none,defaults:= [] }
def EC (s:Stmt):List Stmt:=match s with
 | .FunctionDef _ _ b _ _ _ _ _ _ _=>b
 | _=> []
def AU (s:Stmt):Scope:=match s with
 | .FunctionDef _ _ _ _ _ _ sc _ _ _=>sc
 | _=>{kind:= .function,names:= [],isGenerator:=false,isCoroutine:=false}
abbrev C3:Vy:=λ_ _ _ _ _ _=>False
abbrev E0:XK:=λ_ _ _=>False
theorem j4 {X:Cx}:Passes C3 X E0:=λ_ _ _ _ _ _ _ h=>h.elim
structure DC (K:PySem.W.Frag) (x qual:Str) (st:Stmt) (f:Addr) (fd:FuncData):Prop where
 ex:∃(oc:Value) (od:Option Addr) (kV doc pm:Value) (an:Option Addr) (cdv ct:Value) (osl:Array (Option Value)),
  fd=PySem.W.fnOf x qual (Fm st) (EC st) (AU st) .none kV doc pm an cdv ct/\K.lookup f=some ⟨oc,od, .func fd,osl⟩/\PySem.W.codeIn K cdv qual=true
 kp:PySem.W.keepIn K (.ref f)=true
section
variable {P:Program} {w:World} {K:PySem.W.Frag} {mg:Str->Option Value} {base:Heap}
theorem DC.ok {x qual:Str} {st:Stmt} {f:Addr} {fd:FuncData} {N ps:List Str} {k:Nat} {sp:Sp} (F:DC K x qual st f fd) (S:AZ N ps (AU st)) (len:∀vs H Q E,sp vs H Q E->vs.length=ps.length)
 (Rh:∀(cdv:Value) (A:Around) (outer:List Env) (s:Shared) (H:Hp) (vs:List V) (Q:VK) (E:XK),Room k (A.deeper (envOfC qual (AU st) s.heap.objs.size f cdv))->sp vs H Q E->
   ∃t,Uj (TM C3 P w K mg base N qual (AU st) f cdv A outer s H E).nox (EC st) t/\t {nx:=λ_ H'=>Q .non H',rt:=Q} (start N vs) H):A7 P w K mg base C3 (k+1) f fd ps sp:=by
 obtain ⟨oc,od,kV,doc,pm,an,cdv,ct,osl,rfl,lk,Lj⟩:=F.ex
 refine jN lk Lj S len λA outer s H vs Q E hr dc=> ?_
 obtain ⟨t,h,q⟩:=Rh cdv A outer s H vs Q E hr dc
 exact ⟨t,h.nox,q⟩
theorem DC.binds {x qual:Str} {st:Stmt} {f:Addr} {fd:FuncData} {ps:List Str} (F:DC K x qual st f fd)
 (h:∀(kV doc pm:Value) (an:Option Addr) (cdv ct:Value) (us:List Value),us.length=ps.length->bindArgs (PySem.W.fnOf x qual (Fm st) (EC st) (AU st) .none kV doc pm an cdv ct) ⟨us, []⟩=pure (ps.zip us)):Binds K fd ps [] :=by
 obtain ⟨oc,od,kV,doc,pm,an,cdv,ct,osl,rfl,lk,Lj⟩:=F.ex
 exact .all (h kV doc pm an cdv ct)
theorem YH {x qual:Str} {st:Stmt} {f:Addr} {oc:Value} {od an:Option Addr} {osl:Array (Option Value)} {kV doc pm cdv ct:Value} (l:K.lookup f=some ⟨oc,od, .func (PySem.W.fnOf x qual (Fm st) (EC st) (AU st) .none kV doc pm an cdv ct),osl⟩)
 (c:PySem.W.codeIn K cdv qual=true) (k:PySem.W.keepIn K (.ref f)=true):DC K x qual st f (PySem.W.fnOf x qual (Fm st) (EC st) (AU st) .none kV doc pm an cdv ct):=⟨⟨oc,od,kV,doc,pm,an,cdv,ct,osl,rfl,l,c⟩,k⟩
end
section
variable {X:Cx}
theorem pv (i:Nat) {x:Str} {pos:Pos} (hN:X.N[i]? =some x:=by rfl) (hv:e8 X.env.scope x:=by first | exact Or.inl rfl|exact Or.inr (Or.inl rfl)|exact Or.inr (Or.inr rfl)) (hd:(x==("__debug__" :Str))=false:=by decide)
 (Lj:(x==("__classdict__" :Str))=false:=by decide):PE X (.Name x pos) (Fb i):=QH hN hv hd Lj
end
theorem jn {c A B:Prop} [Decidable c] (h1:c->A) (h2:¬c->B):if c then A else B:=by
 by_cases h:c
 ·rw [if_pos h]
  exact h1 h
 ·rw [if_neg h]
  exact h2 h
def Ib (H H':Hp):Prop:=∀b o,H b=some o->H' b=some o
theorem Ib.refl (H:Hp):Ib H H:=λ_ _ h=>h
theorem Ib.trans {H H1 H2:Hp} (a:Ib H H1) (b:Ib H1 H2):Ib H H2:=λc o h=>b c o (a c o h)
theorem Ib.free {H H':Hp} (e:Ib H H') {l:Addr} (h:H' l=Option.none):H l=Option.none:=by
 cases q:H l with
 | none=>rfl
 | some o=>
   rw [e l o q] at h
   cases h
theorem Ib.seq {K:PySem.W.Frag} {H H':Hp} {a:Addr} {xs:List V} (e:Ib H H') (h:GC K H a xs):GC K H' a xs:=by
 rcases h with (h|⟨o,h⟩)|h
 ·exact .inl (.inl (e _ _ h))
 ·exact .inl (.inr ⟨o,e _ _ h⟩)
 ·exact .inr h
end L2
section
namespace L2
open PySem PySem.Spec PyProof.Rows
theorem Gk {κ α:Type} [BEq κ] [LawfulBEq κ] {k:κ} {a:α}:∀{l:List (κ×α)},l.lookup k=some a->(k,a)∈l
 | [],h=>by simp at h
 | (n,b)::r,h=>by
   rw [List.lookup_cons] at h
   cases e:k==n with
   | true=>
     rw [e] at h
     have e':k=n:=by simpa using e
     have hb:b=a:=by simpa using h
     subst e' hb
     exact List.mem_cons_self
   | false=>
     rw [e] at h
     exact List.mem_cons_of_mem _ (Gk h)
theorem Oc {κ α:Type} [BEq κ] [LawfulBEq κ] {k:κ} {a:α}:∀{l:List (κ×α)},(k,a)∈l->∃b,l.lookup k=some b
 | [],h=>nomatch h
 | (n,b)::r,h=>by
   rw [List.lookup_cons]
   cases e:k==n with
   | true=>exact ⟨b,rfl⟩
   | false=>
     rcases List.mem_cons.mp h with z|z
     ·have:k=n:=congrArg Prod.fst z
      rw [this] at e
      simp at e
     ·exact Oc z
theorem Gf {env:Env} {F:Str×NameKind->List (Str×Addr)->Sem (ForInStep (List (Str×Addr)))}
 (h1:∀n r c,env.cells.lookup n=some c->F (n, .free) r=pure (.yield ((n,c)::r)))
 (h2:∀n k r,k≠NameKind.free->F (n,k) r=pure (.yield r)):
 ∀(names:List (Str×NameKind)) (acc:List (Str×Addr)),(∀x∈names,x.2= .free->∃c,env.cells.lookup x.1=some c)->
  ∃cl,(forIn names acc F:Sem _)=pure cl/\(∀p∈cl,p∈acc\/env.cells.lookup p.1=some p.2)/\(∀p∈acc,p∈cl)/\∀x∈names,x.2= .free->∃c,(x.1,c)∈cl
 | [],acc,_=>⟨acc,rfl,λp hp=> .inl hp,λp hp=>hp,λx hx=>nomatch hx⟩
 | (n,k)::r,acc,h=>by
   by_cases hk:k= .free
   ·subst hk
    obtain ⟨c,hc⟩:=h (n, .free) List.mem_cons_self rfl
    obtain ⟨cl,e,a,b,d⟩:=Gf h1 h2 r ((n,c)::acc) (λx hx=>h x (List.mem_cons_of_mem _ hx))
    refine ⟨cl, ?_,λp hp=> ?_,λp hp=>b p (List.mem_cons_of_mem _ hp),λx hx hf=> ?_⟩
    ·rw [List.forIn_cons,h1 n acc c hc]
     exact e
    ·rcases a p hp with z|z
     ·rcases List.mem_cons.mp z with z|z
      ·subst z
       exact .inr hc
      ·exact .inl z
     ·exact .inr z
    ·rcases List.mem_cons.mp hx with z|z
     ·subst z
      exact ⟨c,b _ List.mem_cons_self⟩
     ·exact d x z hf
   ·obtain ⟨cl,e,a,b,d⟩:=Gf h1 h2 r acc (λx hx=>h x (List.mem_cons_of_mem _ hx))
    refine ⟨cl, ?_,a,b,λx hx hf=> ?_⟩
    ·rw [List.forIn_cons,h2 n k acc hk]
     exact e
    ·rcases List.mem_cons.mp hx with z|z
     ·subst z
      exact absurd hf hk
     ·exact d x z hf
theorem Fk {env:Env} {scope:Scope} (h:∀x∈scope.names,x.2= .free->∃c,env.cells.lookup x.1=some c):
 ∃cl,closureFor scope env=pure cl/\(∀y c,cl.lookup y=some c->env.cells.lookup y=some c)/\∀y,(y,NameKind.free)∈scope.names->∃c,cl.lookup y=some c:=by
 obtain ⟨cl,e,a,_,d⟩:=Gf (env:=env) (F:=λx cs=>match x with | (name,kind)=>if (kind==NameKind.free)=true then do let a <-cellOf env name;pure (ForInStep.yield ((name,a)::cs)) else pure (ForInStep.yield cs))
  (λn r c hc=>by
    show (do let a <-cellOf env n;pure (ForInStep.yield ((n,a)::r)):Sem _)=_
    unfold cellOf
    rw [hc]
    rfl)
  (λn k r hk=>by
    have:(k==NameKind.free)=false:=by simpa using hk
    simp [this]) scope.names [] h
 refine ⟨cl, ?_,λy c q=> ?_,λy hy=> ?_⟩
 ·unfold closureFor
  have e2:(forIn scope.names ([] :List (Str×Addr)) λx cs=>match x with | (name,kind)=>if (kind==NameKind.free)=true then do let a <-cellOf env name;pure (ForInStep.yield ((name,a)::cs)) else pure (ForInStep.yield cs):Sem _) >>= (λr=>pure r)=pure cl:=by
   rw [e];rfl
  exact e2
 ·rcases a _ (Gk q) with z|z
  ·exact nomatch z
  ·exact z
 ·obtain ⟨c,hc⟩:=d (y, .free) hy rfl
  exact Oc hc
def E4 (env:Env) (sc:Scope) (cl:List (Str×Addr)) (C:Addr):Env:=
 {scope:=sc,locals:=C,globals:=env.globals,cells:=cl,qual:=env.qual,func:=none,code:=env.code,frame:=env.frame,builtins:=env.builtins}
def blk (X:Cx) (sc:Scope) (N:List Str) (cl:List (Str×Addr)) (C:Addr) (s:Shared) (H:Hp) (ex:List Addr) (pn:List (Addr×Obj)):Cx where
 prog:=X.prog
 w:=X.w
 K:=X.K
 mg:=X.mg
 base:=X.base
 A:=X.A
 N:=N
 s₀:=s
 H₀:=H
 env:=E4 X.env sc cl C
 outer:=X.stack
 stack:=X.stack
 ex:=ex
 fn:=λ_=>false
 calm:=X.calm
 pn:=pn
 xe:=λ_ _=>False
section
variable {X:Cx} {pins:List (Addr×Obj)} {σ:St} {H:Hp} {s:Shared} {fp:List Addr} {sc:Scope} {N:List Str} {cl:List (Str×Addr)}
theorem Inv.notStk (I:Inv X pins σ H s) {b:Addr} (h1:b≠X.env.locals) (h2:b ∉ X.fs):b ∉ XQ X.stack:=λz=>by
 rcases List.mem_cons.mp (I.stkSub b z) with e|e
 ·exact h1 e
 ·exact h2 e
theorem Inv.szLt (I:Inv X pins σ H s) {x:Str} {c:Addr} (e:X.env.cells.lookup x=some c):c<s.heap.objs.size:=by
 obtain ⟨v,q⟩:=I.cell x c e
 exact q.lt
theorem fE (I:Inv X pins σ H s) (hf:∀b∈fp,Db X pins H b) (Dk:∀b∈fp,b<s.heap.objs.size) (hk:sc.kind= .function)
 (h1:∀y c,cl.lookup y=some c->X.env.cells.lookup y=some c) (h2:∀y,(sc.names.lookup y=some .cell\/sc.names.lookup y=some .free)->∃c,cl.lookup y=some c):
 (blk X sc N cl s.heap.objs.size s H fp (X.pn++pins)).Ok where
 mod:=I.ok.mod
 kind:=hk
 glob:=I.ok.glob
 blt:=I.ok.blt
 above:=Nat.le_refl _
 inj:=λx y c a b=>I.ok.inj x y c (h1 x c a) (h1 y c b)
 has:=λx hx=>h2 x hx
 cab:=λx c z=>nomatch z
 hd:=I.ok.hd
 frames:=I.ok.frames
 stk:= .inl rfl
 exf:=λb hb=>⟨Nat.ne_of_lt (Dk b hb),λx c e=>(hf b hb).2.2.2.2.1 x c (h1 x c e)⟩
 bs:=I.bs
 bsz:=Nat.le_trans I.ok.bsz I.sz
 noex:=λb o e hb=>by
  rcases (hf b hb).2.2.2.1 with z|z
  ·exact I.ok.noex b o e z
  ·exact absurd (Nat.lt_of_lt_of_le (Heap.lt_size (I.ok.bs b o e).1) z) (Nat.lt_irrefl _)
 exfs:=λb hb=>I.notStk (hf b hb).2.1 (hf b hb).2.2.1
 funs:=I.stack
 frf:=I.stkFree
def Bo (own:Nat) (ix:List Nat) (σ:St):St:=List.replicate own none++ix.map λi=>(σ[i]?).getD none
theorem KB {own:Nat} {ix:List Nat} {σ:St}:(Bo own ix σ).length=own+ix.length:=by simp [Bo]
theorem ES {own:Nat} {ix:List Nat} {σ:St} {j:Nat} {v:V} (h:(Bo own ix σ)[j]? =some (some v)):own<=j/\∃i,ix[j-own]? =some i/\σ[i]? =some (some v):=by
 unfold Bo at h
 by_cases hj:j<own
 ·rw [List.getElem?_append_left (by simpa using hj),List.getElem?_replicate] at h
  simp [hj] at h
 ·have WU:own<=j:=by omega
  rw [List.getElem?_append_right (by simpa using WU),List.length_replicate,List.getElem?_map] at h
  refine ⟨WU, ?_⟩
  cases e:ix[j-own]? with
  | none=>rw [e] at h;simp at h
  | some i=>
    rw [e] at h
    refine ⟨i,rfl, ?_⟩
    have h':(σ[i]?).getD none=some v:=by simpa using h
    cases e2:σ[i]? with
    | none=>rw [e2] at h';simp at h'
    | some o=>
      rw [e2] at h'
      have:o=some v:=by simpa using h'
      rw [this]
structure ON (X:Cx) (sc:Scope) (own:Nat) (ix:List Nat) (N:List Str):Prop where
 len:N.length=own+ix.length
 out:∀j i,ix[j]? =some i->∃x,N[own+j]? =some x/\X.N[i]? =some x/\X.env.scope.names.lookup x=some .cell/\sc.names.lookup x=some .cell
theorem X0 {own:Nat} {ix:List Nat} {h':Heap} {m:Str->Option Value} {t':Nat} (I:Inv X pins σ H s) (hf:∀b∈fp,Db X pins H b) (Dk:∀b∈fp,b<s.heap.objs.size) (hk:sc.kind= .function)
 (h1:∀y c,cl.lookup y=some c->X.env.cells.lookup y=some c) (h2:∀y,(sc.names.lookup y=some .cell\/sc.names.lookup y=some .free)->∃c,cl.lookup y=some c) (F:ON X sc own ix N)
 (hn:h'.Ns s.heap.objs.size m) (k:∀b o,s.heap.get? b=some o->h'.get? b=some o):
 Inv (blk X sc N cl s.heap.objs.size s H fp (X.pn++pins)) [] (Bo own ix σ) H {s with heap:=h',toks:=t'} where
 ok:=fE I hf Dk hk h1 h2
 os:=rfl
 bare:=I.bare
 base:=Un.kept k
 loc:=by
  refine ⟨m,hn,λi x v e1 e2 e3=> ?_⟩
  obtain ⟨WU,io,ei,es⟩:=ES e2
  obtain ⟨y,ny,ey,oy,sy⟩:=F.out _ _ ei
  have exy:x=y:=by
   have e1':N[i]? =some x:=e1
   rw [show own+(i-own)=i by omega,e1'] at ny
   exact Option.some.inj ny
  subst exy
  obtain ⟨m0,tT,mw⟩:=I.loc
  obtain ⟨u,r,l⟩:=mw io x v ey es (.inr (.inl oy))
  refine ⟨u,r, ?_⟩
  rcases l with ⟨z,_⟩|⟨_,c,ec,z⟩
  ·have z':X.env.scope.names.lookup x=some .local:=z
   rw [oy] at z'
   cases z'
  ·obtain ⟨c',ec'⟩:=h2 x (.inl sy)
   have:=h1 x c' ec'
   rw [ec] at this
   cases this
   obtain ⟨o,ho,hd⟩:=z
   exact .inr ⟨.inl sy,c,ec',o,k c o ho,hd⟩
 cell:=λx c e=>by
  obtain ⟨v,o,ho,hd⟩:=I.cell x c (h1 x c e)
  exact ⟨v,o,k c o ho,hd⟩
 free:=I.hok.fresh (Nat.le_refl _)
 freeC:=λx c e=>I.freeC x c (h1 x c e)
 pin:=λp hp=>by
  have FF:p∈X.pn++pins:=by simpa [blk] using hp
  obtain ⟨a,b,c,d,e⟩:=I.pin p FF
  exact ⟨k _ _ a,b,Nat.ne_of_lt (Heap.lt_size a),I.notStk c d,e⟩
 hok:=I.hok.kept k
 len:=by rw [KB];exact F.len.symm
theorem Up {own:Nat} {ix:List Nat} {σ':St} {H':Hp} {s':Shared} {pins':List (Addr×Obj)} (I:Inv X pins σ H s) (hf:∀b∈fp,Db X pins H b) (Dk:∀b∈fp,b<s.heap.objs.size)
 (B:Inv (blk X sc N cl s.heap.objs.size s H fp (X.pn++pins)) pins' σ' H' s'):Inv X pins σ H' s':=
 I.call' (ch:=fp) B.os B.base B.hok B.bare λb hb=>⟨(hf b hb).2.2.2.1,(hf b hb).2.1,(hf b hb).2.2.2.2.1,(hf b hb).2.2.2.2.2⟩
theorem Mb {H':Hp} {σ':St} {s':Shared} {C:Addr} {h':Heap} (I:Inv X pins σ H s) (hC:C=s.heap.objs.size) (I':Inv X pins σ' H' s') (hn:H' C=none) (hs:Heap.SameBut C s'.heap h'):Inv X pins σ' H' {s' with heap:=h'}:=by
 subst hC
 refine I'.turned (t':=s'.toks) (it:=s.heap.objs.size) (λb o hb e=>(hs.2 b hb).trans e) hn (Nat.ne_of_gt I.lt) (.inr I.sz) (λx c e=>Nat.ne_of_lt (I.szLt e)) λp hp=>Nat.ne_of_lt (Heap.lt_size (I.pin p hp).1)
end
def Ui (X:Cx) (ifs:List Expr) (t:TT):Prop:=
 ∀(pins:List (Addr×Obj)) (s:Shared) (σ:St) (H:Hp) (Q:Bool->Hp->Prop),Inv X pins σ H s->t σ H Q->
  wpAny (model X.prog X.w) X.A (forIn ifs true λc r=>if r=true then do let ok <-isTrue c X.env (eval c X.env);pure (ForInStep.yield ok) else pure (ForInStep.yield r)) (TP X pins σ Q) X.xe s
def nj:TT:=λ_ H Q=>Q true H
theorem cP {X:Cx}:Ui X [] nj:=λ_ _ _ H _ I h=>wpAny_tests_nil ⟨H,I,h⟩
theorem cQ {X:Cx} {c:Expr} {t:TT} (hc:PT X c t):Ui X [c] t:=λpins s σ H Q I h=>wpAny_tests_one (hc pins s σ H Q I h)
def Gb (own:Nat) (g:TG):Prop:=∀v σ H Q,g v σ H Q->g v σ H λσ2 H2=>Q σ2 H2/\σ2.length=σ.length/\∀j,own<=j->σ2[j]? =σ[j]?
def MR (own:Nat) (g:S3):Prop:=∀vs σ H Q,g vs σ H Q->g vs σ H λσ2 H2=>Q σ2 H2/\σ2.length=σ.length/\∀j,own<=j->σ2[j]? =σ[j]?
theorem ax {own i:Nat} (h:i<own):Gb own (Cq i):=λv σ H Q q=>⟨q,by simp,λj hj=>List.getElem?_set_ne (by omega)⟩
theorem ay {own:Nat}:MR own RX:=λvs σ H Q q=>⟨q.1,q.2,rfl,λ_ _=>rfl⟩
theorem YM {own:Nat} {t:TG} {u:S3} (h1:Gb own t) (m1:∀v σ H Q Q',(∀σ2 H2,Q σ2 H2->Q' σ2 H2)->t v σ H Q->t v σ H Q') (h2:MR own u) (m2:∀v σ H Q Q',(∀σ2 H2,Q σ2 H2->Q' σ2 H2)->u v σ H Q->u v σ H Q'):MR own (Ei t u):=by
 intro vs σ H Q q
 obtain ⟨v,r,e,q⟩:=q
 refine ⟨v,r,e,m1 _ _ _ _ _ (λσ2 H2 z=> ?_) (h1 _ _ _ _ q)⟩
 obtain ⟨z,l,kk⟩:=z
 refine m2 _ _ _ _ _ (λσ3 H3 z3=> ?_) (h2 _ _ _ _ z)
 obtain ⟨z3,l3,k3⟩:=z3
 exact ⟨z3,l3.trans l,λj hj=>(k3 j hj).trans (kk j hj)⟩
theorem az {i:Nat}:∀v σ H Q Q',(∀σ2 H2,Q σ2 H2->Q' σ2 H2)->Cq i v σ H Q->Cq i v σ H Q':=λ_ _ _ _ _ m q=>m _ _ q
theorem bA:∀v σ H Q Q',(∀σ2 H2,Q σ2 H2->Q' σ2 H2)->RX v σ H Q->RX v σ H Q':=λ_ _ _ _ _ m q=>⟨q.1,m _ _ q.2⟩
theorem YN {t:TG} {u:S3} (m1:∀v σ H Q Q',(∀σ2 H2,Q σ2 H2->Q' σ2 H2)->t v σ H Q->t v σ H Q') (m2:∀v σ H Q Q',(∀σ2 H2,Q σ2 H2->Q' σ2 H2)->u v σ H Q->u v σ H Q'):
 ∀v σ H Q Q',(∀σ2 H2,Q σ2 H2->Q' σ2 H2)->Ei t u v σ H Q->Ei t u v σ H Q':=λ_ _ _ _ _ m ⟨v,r,e,q⟩=>⟨v,r,e,m1 _ _ _ _ _ (λ_ _ z=>m2 _ _ _ _ _ m z) q⟩
def Hm (J:It) (D:Addr) (σ0:St) (g:TG) (tt:TT) (te:TE) (Q:Hp->Prop) (W:Nat->Nat->Hp->Prop):Prop:=
 ∀i m H,W i m H->(J.stop i H/\Q H)\/(J.go i H/\∀x H',J.yld i H x H'->g x σ0 H' λσ2 H2=>tt σ2 H2 λok H3=>
  if ok=true then te σ2 H3 λy H4=>∃ys,H4 D=some (.lst ys)/\ys.length<sizeLine/\∃m',m'<m/\W (i+1) m' (upd H4 D (.lst (ys ++ [y]))) else ∃m',m'<m/\W (i+1) m' H3)
def Vs (wi:TI) (own:Nat) (ix:List Nat) (g:TG) (tt:TT) (te:TE):TE:=λσ H Q=>wi σ H λJ H1=>∀D,H1 D=none->
 ∃W:Nat->Nat->Hp->Prop,(∃m,W 0 m (upd H1 D (.lst [])))/\Hm J D (Bo own ix σ) g tt te (Q (.ref D)) W
section
variable {X:Cx} {tg elt iter:Expr} {ifs:List Expr} {scope:Scope} {pos:Pos} {wi:TI} {own:Nat} {ix:List Nat} {N:List Str} {g:TG} {tt:TT} {te:TE}
structure Jz (X:Cx) (tg elt:Expr) (ifs:List Expr) (scope:Scope) (own:Nat) (ix:List Nat) (N:List Str) (g:TG) (tt:TT) (te:TE):Prop where
 kind:scope.kind= .function
 nocell:∀y∈scope.names,y.2≠ .cell
 names:∀y∈scope.names,y.2= .local->scope.names.lookup y.1=some .local
 frees:∀y∈scope.names,y.2= .free->X.env.scope.names.lookup y.1=some .cell
 ins:ON X (relabel scope X.env) own ix N
 keep:Gb own g
 tgt:∀cl C s H ex pn,PG (blk X (relabel scope X.env) N cl C s H ex pn) tg g
 tst:∀cl C s H ex pn,Ui (blk X (relabel scope X.env) N cl C s H ex pn) ifs tt
 val:∀cl C s H ex pn,PE (blk X (relabel scope X.env) N cl C s H ex pn) elt te
theorem Em {env:Env} {y:Str} {k:NameKind} (VB:∀y∈scope.names,y.2≠ .cell) (h:(y,k)∈(relabel scope env).names) (hk:k= .cell\/k= .free):(y,NameKind.free)∈scope.names:=by
 obtain ⟨⟨n,k'⟩,hm,e⟩:=List.mem_map.mp (show (y,k)∈scope.names.map _ from h)
 dsimp only at e
 split at e
 ·rename_i hc
  cases e
  have:k'= .free:=by
   cases k' <;> simp_all
  subst this
  exact hm
 ·cases e
  rcases hk with z|z
  ·subst z
   exact absurd rfl (VB _ hm)
  ·subst z
   exact hm
theorem WG {pins:List (Addr×Obj)} {σ:St} {H:Hp} {s:Shared} {fp:List Addr} {cl:List (Str×Addr)} {it:Addr} {tn:Nat->Heap->Prop} {J:It} {D:Addr} {R:Result->Shared->Prop} {Qh:Hp->Prop} {W:Nat->Nat->Hp->Prop}
 (hc:X.calm=true) (O:Jz X tg elt ifs scope own ix N g tt te) (T:J7 X.prog X.w X.K tg J fp it tn) (I:Inv X pins σ H s) (hf:∀b∈fp,Db X pins H b) (Dk:∀b∈fp,b<s.heap.objs.size)
 (hW:Hm J D (Bo own ix σ) g tt te Qh W)
 (hR:∀σ' H' s',Inv (blk X (relabel scope X.env) N cl s.heap.objs.size s H fp (X.pn++pins)) [] σ' H' s'->Qh H'->R (.ok .next) s')
 (n:Nat) (s0:Shared) (h0:∃i H',Inv (blk X (relabel scope X.env) N cl s.heap.objs.size s H fp (X.pn++pins)) [] (Bo own ix σ) H' s0/\tn i s0.heap/\(∀b∈fp,H' b=none)/\W i n H'):
 codeAny (model X.prog X.w) X.A (.compLoop (.ListComp elt [⟨tg,iter,ifs,0⟩] scope pos) 0 (.ref it) (.ref D) (E4 X.env (relabel scope X.env) cl s.heap.objs.size)) R s0:=by
 refine codeAny_loop rfl (λn s'=>∃i H',Inv (blk X (relabel scope X.env) N cl s.heap.objs.size s H fp (X.pn++pins)) [] (Bo own ix σ) H' s'/\tn i s'.heap/\(∀b∈fp,H' b=none)/\W i n H') (λn s1 h1=> ?_) n h0
 obtain ⟨i,H1,B1,st1,fr1,w1⟩:=h1
 generalize hY:blk X (relabel scope X.env) N cl s.heap.objs.size s H fp (X.pn++pins)=Y at *
 have eA:Y.A=X.A:=by rw [<-hY];rfl
 have eP:Y.prog=X.prog:=by rw [<-hY];rfl
 have eW:Y.w=X.w:=by rw [<-hY];rfl
 have eK:Y.K=X.K:=by rw [<-hY];rfl
 have eE:E4 X.env (relabel scope X.env) cl s.heap.objs.size=Y.env:=by rw [<-hY];rfl
 have eX:Y.xe=λ_ _=>False:=by rw [<-hY];rfl
 have eC:Y.calm=true:=by rw [<-hY];exact hc
 have hg:PG Y tg g:=by rw [<-hY];exact O.tgt _ _ _ _ _ _
 have ht:Ui Y ifs tt:=by rw [<-hY];exact O.tst _ _ _ _ _ _
 have hv:PE Y elt te:=by rw [<-hY];exact O.val _ _ _ _ _ _
 have stat:∀{H':Hp},(∀b∈fp,H' b=none)->∀b∈fp,Db Y [] H' b:=λ{H'} hn b hb=>by
  obtain ⟨_,a1,a2,a3,a4,a5⟩:=hf b hb
  refine ⟨hn b hb, ?_, ?_, ?_, ?_, ?_⟩
  ·rw [<-hY];exact Nat.ne_of_lt (Dk b hb)
  ·rw [<-hY];exact I.notStk a1 a2
  ·rw [<-hY];exact .inl hb
  ·intro x c e
   exact (B1.ok.exf b (by rw [<-hY];exact hb)).2 x c e
  ·intro p hp
   have:p∈X.pn++pins:=by rw [<-hY] at hp;simpa [blk] using hp
   exact a5 p this
 rw [eE,<-eA,<-eP,<-eW]
 show wpAny _ _ ((compTurn (.ListComp elt [⟨tg,iter,ifs,0⟩] scope pos) 0 (.ref it) (.ref D) Y.env).onRaise (λx=>do noteFrame x Y.env;theTreesLotGoes x)) _ _ s1
 refine wpAny_noted ?_
 rw [compTurn_list]
 have ff:∀{α:Type} {t:Sem α} {Q:α->Shared->Prop} {E:Value->Shared->Prop} {s:Shared},wpAny (model Y.prog Y.w) Y.A t Q Y.xe s->wpAny (model Y.prog Y.w) Y.A t Q E s:=λh=>wpAny_mono h (λ_ _ q=>q) λ_ _ z=>by rw [eX] at z;exact z.elim
 refine wpAny_bind (wpAny_standAt (wpAny_bind ?_))
 rcases hW i n H1 w1 with ⟨stop,qn⟩|⟨go,step⟩
 ·have zd:=λE=>T.done Y eP eW eK eC i [] s1 _ H1 E B1 (stat fr1) st1 stop
  rw [<-eP,<-eW] at zd
  refine BS (zd _) λr s4 ⟨hr,I4⟩=> ?_
  subst hr
  exact wpAny_pure (hR _ _ _ I4 qn)
 ·have zi:=λE=>T.item Y eP eW eK eC i [] s1 _ H1 E B1 (stat fr1) st1 go
  rw [<-eP,<-eW] at zi
  refine BS (zi _) λr s4 ⟨u,hr,h4⟩=> ?_
  subst hr
  refine wpAny_bind (BS h4 λ_ s5 ⟨x,H5,I5,r5,y5,st5,fr5⟩=> ?_)
  have I5':=I5.pinned (stat fr5) (T.obj _ _ st5)
  refine wpAny_bind (BS (ff (hg _ s5 _ H5 x u _ I5' r5 (O.keep _ _ _ _ (step x H5 y5)))) λ_ s6 ⟨σ6,H6,I6,q6,l6,k6⟩=> ?_)
  refine wpAny_bind (BS (ff (ht _ s6 σ6 H6 _ I6 q6)) λok s7 ⟨H7,I7,q7⟩=> ?_)
  have back:∀{H8:Hp} {s8:Shared} {m':Nat},Inv Y ([] ++ E8 fp s5.heap) σ6 H8 s8->m'<n->W (i+1) m' H8->
   ∃m,m<n/\∃i H',Inv Y [] (Bo own ix σ) H' s8/\tn i s8.heap/\(∀b∈fp,H' b=none)/\W i m H':=λ{H8 s8 m'} I8 hm w8=>by
   refine ⟨m',hm,i+1,H8,I8.unpinned.weak l6.symm (λj v hj=> ?_),T.keep _ _ _ st5 λb hb o e=>(I8.pin (b,o) (List.mem_append_right _ (List.mem_append_right _ (Bt hb e)))).1,λb hb=> ?_,w8⟩
   ·rw [k6 j (ES hj).1]
    exact hj
   ·obtain ⟨o,e,d⟩:=T.obj _ _ st5 b hb
    exact (I8.pin (b,o) (List.mem_append_right _ (List.mem_append_right _ (Bt hb e)))).2.1
  cases ok with
  | false=>
    obtain ⟨m',hm,w8⟩:=q7
    exact wpAny_pure ⟨rfl,back I7 hm w8⟩
  | true=>
    refine wpAny_bind (wpAny_bind (BS (ff (hv _ s7 σ6 H7 _ I7 q7)) λyv s8 ⟨y,H8,I8,r8,ys,hD,hz,m',hm,w8⟩=> ?_))
    refine wpAny_bind (BS (ff (G3 _ s8 σ6 H8 (.ref D) [y] (.ref D) [yv] (λ_ H9=>H9=upd H8 D (.lst (ys ++ [y]))) I8 rfl (.cons r8 .nil) ⟨D,ys,y,rfl,rfl,hD,hz,rfl⟩)) λ_ s9 ⟨_,H9,I9,_,e9⟩=> ?_)
    subst e9
    exact wpAny_pure (wpAny_pure ⟨rfl,back I9 hm w8⟩)
theorem RQ {pins:List (Addr×Obj)} {σ:St} {H:Hp} {s:Shared} {use:Option (Value->Sem Unit)} {Q:Value->Shared->Prop} {it:Addr} {fp:List Addr} {cl:List (Str×Addr)} {tn:Nat->Heap->Prop} {J:It} {Qd:Addr->Hp->Prop}
 (hc:X.calm=true) (O:Jz X tg elt ifs scope own ix N g tt te) (T:J7 X.prog X.w X.K tg J fp it tn) (I:Inv X pins σ H s) (hf:∀b∈fp,Db X pins H b) (st:tn 0 s.heap)
 (h1:∀y c,cl.lookup y=some c->X.env.cells.lookup y=some c) (h2:∀y,(y,NameKind.free)∈scope.names->∃c,cl.lookup y=some c)
 (hq:∀D,H D=none->∃W:Nat->Nat->Hp->Prop,(∃m,W 0 m (upd H D (.lst [])))/\Hm J D (Bo own ix σ) g tt te (Qd D) W)
 (hR:∀D C H' s',(∃m,s'.heap.Ns C m)->Inv X pins σ H' s'->(∀σ2 s2,Inv X pins σ2 H' s2->∀h',Heap.SameBut C s2.heap h'->Inv X pins σ2 H' {s2 with heap:=h'})->C≠X.env.locals->(∀x c,X.env.cells.lookup x=some c->C≠c)->Qd D H'->
   compPost (model X.prog X.w) X.A X.xe use Q (.ref D) C (.ok .next) s'):
 wpAny (model X.prog X.w) X.A (newList []) (λacc s₃=>wpAny (model X.prog X.w) X.A (newFunctionEnv scope X.env.globals cl [] X.env.qual none .none (some X.env)) (λcenv s₄=>
  codeAny (model X.prog X.w) X.A (.compStart (.ListComp elt [⟨tg,iter,ifs,0⟩] scope pos) 0 (.ref it) acc {cenv with scope:=relabel scope X.env}) (compPost (model X.prog X.w) X.A X.xe use Q acc cenv.locals) s₄) X.xe s₃) X.xe s:=by
 refine wpAny_newObj_type ?_ (by simp [sizeOk])
 have I3:Inv X pins σ (upd H s.heap.objs.size (.lst [])) {s with heap:=s.heap.push {cls:= .type "list",data:= .seq ([] :List Value).toArray}}:=I.lnew (t':=s.toks) .nil (Nat.zero_le _)
 have Tf:=I.fresh
 obtain ⟨W,⟨m0,w0⟩,hW⟩:=hq _ Tf
 have YX:∀b∈fp,b<s.heap.objs.size:=λb hb=>by
  obtain ⟨o,e,_⟩:=T.obj _ _ st b hb
  exact Heap.lt_size e
 have U7:∀b∈fp,Db X pins (upd H s.heap.objs.size (.lst [])) b:=λb hb=>by
  obtain ⟨a0,ar⟩:=hf b hb
  exact ⟨by rw [Ag (Nat.ne_of_lt (YX b hb))];exact a0,ar⟩
 generalize jd:({s with heap:=s.heap.push {cls:= .type "list",data:= .seq ([] :List Value).toArray}}:Shared)=s3 at I3
 have st3:tn 0 s3.heap:=T.keep _ _ _ st λb hb o e=>by rw [<-jd];exact Heap.get?_push_of_some _ e
 have Dk:∀b∈fp,b<s3.heap.objs.size:=λb hb=>by
  obtain ⟨o,e,_⟩:=T.obj _ _ st3 b hb
  exact Heap.lt_size e
 refine wpAny_newFunctionEnv O.nocell (by intro y hy;simp at hy) (λh₁ db nB=> ?_) O.kind
 have kp:∀b o,s3.heap.get? b=some o->h₁.get? b=some o:=λb o e=>nB.extBut b o (Nat.ne_of_lt (Heap.lt_size e)) (Heap.get?_push_of_some _ e)
 have jW:∀y,((relabel scope X.env).names.lookup y=some .cell\/(relabel scope X.env).names.lookup y=some .free)->∃c,cl.lookup y=some c:=λy hy=>by
  rcases hy with z|z
  ·exact h2 y (Em O.nocell (Gk z) (.inl rfl))
  ·exact h2 y (Em O.nocell (Gk z) (.inr rfl))
 have B:=X0 (N:=N) (t':=s3.toks+([] :List (Str×Value)).length) I3 U7 Dk (sc:=relabel scope X.env) O.kind h1 jW O.ins db kp
 have st4:tn 0 h₁:=T.keep _ _ _ st3 λb hb o e=>kp b o e
 have loop:∀s4:Shared,s4={s3 with heap:=h₁,toks:=s3.toks+([] :List (Str×Value)).length}->
  codeAny (model X.prog X.w) X.A (.compLoop (.ListComp elt [⟨tg,iter,ifs,0⟩] scope pos) 0 (.ref it) (.ref s.heap.objs.size) (E4 X.env (relabel scope X.env) cl s3.heap.objs.size)) (compPost (model X.prog X.w) X.A X.xe use Q (.ref s.heap.objs.size) s3.heap.objs.size) s4:=by
  rintro s4 rfl
  refine WG (cl:=cl) (Qh:=Qd s.heap.objs.size) hc O T I3 U7 Dk hW (λσ' H' s' B' q'=> ?_) m0 _ ⟨0,_,B,st4,λb hb=>(U7 b hb).1,w0⟩
  refine hR _ _ H' s' (let ⟨m,hm,_⟩:=B'.loc;⟨m,hm⟩) (Up (own:=own) (ix:=ix) I3 U7 Dk B') (λσ2 s2 I2 h' hs=>Mb I3 rfl I2 B'.free hs) (Nat.ne_of_gt I3.lt) (λx c e=>Nat.ne_of_gt (I3.szLt e)) q'
 exact codeAny_compStart_list (loop _ rfl) (T.self _ 0 _ _ _ st4 (loop _ rfl))
theorem cJ (hc:X.calm=true) (hi:PI X tg iter wi) (O:Jz X tg elt ifs scope own ix N g tt te) (hs:∀x,foldedSetIterable iter X.env x=pure x:=by intro _;rfl):
 PE X (.ListComp elt [⟨tg,iter,ifs,0⟩] scope pos) (Vs wi own ix g tt te):=by
 intro pins s σ H Q I h
 obtain ⟨cl,Mn,h1,h2⟩:=Fk (env:=X.env) (scope:=scope) λy hy e=>I.ok.has y.1 (.inl (O.frees y hy e))
 rw [eval_ListComp]
 refine wpAny_comprehension_free (use:=none) rfl hs Mn O.kind O.names (BS (hi pins s σ H _ I h) λv s1 hv=>BS hv λitv s2 bO=> ?_)
 obtain ⟨it,fp,tn,J,H2,rfl,I2,T,st2,f2,q⟩:=bO
 exact RQ (Qd:=λD H'=>Q (.ref D) H') hc O T I2 f2 st2 h1 h2 q λD C H' s' hn I' gone nl nc q'=>by
  obtain ⟨m,hm⟩:=hn
  exact ⟨m,hm,λh' hs=>⟨.ref D,H',gone σ s' I' h' hs,rfl,q'⟩⟩
theorem cT {i:Nat} {x:Str} {pos' spos:Pos} (hc:X.calm=true) (hN:X.N.Nodup) (WS:X.N[i]? =some x) (hx:Loc X.env.scope x) (hi:PI X tg iter wi) (O:Jz X tg elt ifs scope own ix N g tt te)
 (jf:swapsWith (.ListComp elt [⟨tg,iter,ifs,0⟩] scope pos) (some (.Name x pos')) spos.line X.env=pure true:=by rfl) (hs:∀x,foldedSetIterable iter X.env x=pure x:=by intro _;rfl)
 (hf:X.fn x=true\/X.env.scope.names.lookup x=some .local:=by first | exact .inl rfl|exact .inr rfl|assumption):
 PS X (.Assign [.Name x pos'] (.ListComp elt [⟨tg,iter,ifs,0⟩] scope pos) spos) (Sd (Vs wi own ix g tt te) (Cq i)):=by
 intro pins s σ H D I h
 obtain ⟨cl,Mn,h1,h2⟩:=Fk (env:=X.env) (scope:=scope) λy hy e=>I.ok.has y.1 (.inl (O.frees y hy e))
 rw [exec_Assign_Name_used _ _ _ _ jf]
 refine wpAny_bind (wpAny_standAt (wpAny_bind ?_))
 show wpAny _ _ (do let _ <-comprehension (.ListComp elt [⟨tg,iter,ifs,0⟩] scope pos) scope X.env _ (newList []) false (eval iter X.env) (some (assign (.Name x pos') X.env))) _ _ s
 refine wpAny_bind (BS (wpAny_comprehension_free (use:=some (assign (.Name x pos') X.env)) (Q:=λ_ s'=>SP X pins D .next s') rfl hs Mn O.kind O.names (BS (hi pins s σ H _ I h) λv s1 hv=>BS hv λitv s2 bO=> ?_)) λ_ s' hq=>wpAny_pure (wpAny_pure hq))
 obtain ⟨it,fp,tn,J,H2,rfl,I2,T,st2,f2,q⟩:=bO
 refine RQ (Qd:=λD' H'=>Cq i (.ref D') σ H' D.nx) hc O T I2 f2 st2 h1 h2 q λD' C H' s' hn I' gone nl nc q'=> ?_
 obtain ⟨m,hm⟩:=hn
 show wpAny _ _ (assign (.Name x pos') X.env (.ref D')) _ _ s'
 refine wpAny_assign_Name (Ow (v:= .ref D') I' hN WS hx rfl (λs4 I4 ⟨a,sb,ha⟩=> ?_) hf)
 have sj:C≠a:=by
  rcases ha with z|z
  ·rw [z];exact nl
  ·exact nc x a z
 exact ⟨m,hm.sameBut sb sj,λh' hs=>⟨_,H',gone _ s4 I4 h' hs,q'⟩⟩
end
end L2
end
section
namespace L2
open PySem PySem.Spec PyProof.Rows
theorem Iy {n k:Nat} (h:n<2^k) (hk:0<k):n.log2<k:=by
 by_cases e:n=0
 ·subst e
  simpa using hk
 ·exact (Nat.log2_lt e).mpr h
theorem G1 {i:Int} {k:Nat} (h:i.natAbs<2^k):Builtin.Int.intBits i<=k:=by
 unfold Builtin.Int.intBits
 by_cases e:i=0
 ·subst e;simp
 ·have e2:(i==0)=false:=by simpa using e
  rw [e2]
  simp only [Bool.false_eq_true,if_false]
  have e3:i.natAbs≠0:=by omega
  have:=(Nat.log2_lt e3).mpr h
  omega
section
variable {X:Cx}
def l7 (i j:Int):Prop:=i.natAbs<2^8000/\j.natAbs<2^8000
def i5 (i j:Int):Prop:=MJ i j\/l7 i j
theorem G5:EB X (binaryOp .Mult) (rI i5 λi j=> .int (i*j)):=gP λ_ _ _ _ _ _ _ hc q=>mul_int q (by
 rcases hc with z|z
 ·exact z.ok
 ·exact .of_le (G1 z.1) (G1 z.2) (by decide))
def i4 (_ j:Int):Prop:=0<j/\j.natAbs<2^8000
theorem Yw:EB X (binaryOp .FloorDiv) (rI i4 λi j=> .int (i/j)):=gP λi j _ _ _ _ _ hc q=>by
 have h1:(0:Int)<j:=hc.1
 refine floordiv_int (by omega) ?_ (.inl (PyProof.noPylong_of_log2 (Nat.lt_trans (Iy hc.2 (by decide)) (by decide))))
 rw [Int.fdiv_eq_ediv_of_nonneg _ (Int.le_of_lt h1)]
 exact q
inductive Kd where
 | int|bl|non|str|lst|tup
 deriving DecidableEq
def pK (K:PySem.W.Frag) (x:V) (H:Hp):Kd->Prop
 | .int=>∃i,x= .int i
 | .bl=>∃b,x= .bl b
 | .non=>x= .non
 | .str=>∃z,x= .str z
 | .lst=>∃a ys,x= .ref a/\GC K H a ys
 | .tup=>∃a ys,x= .ref a/\J6 K H a ys
def Pt:Kd->String->Bool
 | .int,T=>T == "int"
 | .bl,T=>T == "bool" || T == "int"
 | .non,_=>false
 | .str,_=>false
 | .lst,T=>T == "list"
 | .tup,T=>T == "tuple"
def Ya (T:String):Prop:=T="int" \/T="bool" \/T="tuple" \/T="list"
def gk (K:PySem.W.Frag):List V->Hp->VK->Prop:=λxs H Q=>∃x T k,xs= [x, .ty T] /\Ya T/\pK K x H k/\Q (.bl (Pt k T)) H
theorem X2:B4 X (.builtin "isinstance") (gk X.K):=by
 intro pins s σ H xs us Q I r h
 obtain ⟨x,T,k,rfl,hT,hk,q⟩:=h
 cases r with
 | cons rx rr=>
 cases rr with
 | cons rt rr=>
 cases rr
 cases rt
 have yes:Q (.bl true) H->EP X pins σ Q (.bool true) s:=λz=>⟨.bl true,H,I,rfl,z⟩
 have no:Q (.bl false) H->EP X pins σ Q (.bool false) {s with toks:=s.toks+1}:=λz=>⟨.bl false,H,I.tok _,rfl,z⟩
 cases k with
 | int=>
   obtain ⟨i,rfl⟩:=hk
   obtain ⟨t,rfl⟩:=rx
   rcases hT with rfl|rfl|rfl|rfl
   ·exact IsiPair.int_int (yes q)
   ·exact IsiPair.int_bool (no q)
   ·exact IsiPair.int_tuple (no q)
   ·exact IsiPair.int_list (no q)
 | bl=>
   obtain ⟨i,rfl⟩:=hk
   cases rx
   rcases hT with rfl|rfl|rfl|rfl
   ·exact IsiPair.bool_int (yes q)
   ·exact IsiPair.bool_bool (yes q)
   ·exact IsiPair.bool_tuple (no q)
   ·exact IsiPair.bool_list (no q)
 | non=>
   have e:x= .non:=hk
   subst e
   cases rx
   rcases hT with rfl|rfl|rfl|rfl
   ·exact IsiPair.NoneType_int (no q)
   ·exact IsiPair.NoneType_bool (no q)
   ·exact IsiPair.NoneType_tuple (no q)
   ·exact IsiPair.NoneType_list (no q)
 | str=>
   obtain ⟨i,rfl⟩:=hk
   obtain ⟨t,rfl⟩:=rx
   rcases hT with rfl|rfl|rfl|rfl
   ·exact IsiPair.str_int (no q)
   ·exact IsiPair.str_bool (no q)
   ·exact IsiPair.str_tuple (no q)
   ·exact IsiPair.str_list (no q)
 | lst=>
   obtain ⟨a,ys,rfl,hq⟩:=hk
   cases rx
   obtain ⟨its,r',pl,hz⟩:=I.list hq
   rcases hT with rfl|rfl|rfl|rfl
   ·exact IsiPair.isList_int pl.isList (λ_ _ e=>e) (no q)
   ·exact IsiPair.isList_bool pl.isList (λ_ _ e=>e) (no q)
   ·exact IsiPair.isList_tuple pl.isList (λ_ _ e=>e) (no q)
   ·exact IsiPair.isList_list pl.isList (λ_ _ e=>e) (yes q)
 | tup=>
   obtain ⟨a,ys,rfl,hq⟩:=hk
   cases rx
   obtain ⟨its,r',pl,hz⟩:=I.tuple hq
   have pl':s.heap.IsTuple a its.toArray:=pl
   rcases hT with rfl|rfl|rfl|rfl
   ·exact IsiPair.isTuple_int pl' (λ_ _ e=>e) (no q)
   ·exact IsiPair.isTuple_bool pl' (λ_ _ e=>e) (no q)
   ·exact IsiPair.isTuple_tuple pl' (λ_ _ e=>e) (yes q)
   ·exact IsiPair.isTuple_list pl' (λ_ _ e=>e) (no q)
theorem W3 (bs:List Bool):(List.range bs.length).all (λi=>bs.getD i true)=bs.all id:=by
 rw [Bool.eq_iff_iff,List.all_eq_true,List.all_eq_true]
 constructor
 ·intro h b hb
  obtain ⟨i,hi,e⟩:=List.mem_iff_getElem.mp hb
  have:=h i (List.mem_range.mpr hi)
  rw [List.getD_eq_getElem?_getD,List.getElem?_eq_getElem hi] at this
  subst e
  simpa using this
 ·intro h i hi
  have WS:=List.mem_range.mp hi
  rw [List.getD_eq_getElem?_getD,List.getElem?_eq_getElem WS]
  simpa using h _ (List.getElem_mem WS)
theorem Inv.walked {pins:List (Addr×Obj)} {σ:St} {H:Hp} {s s':Shared} {o:Obj} (I:Inv X pins σ H s) (m:Moved [s.heap.objs.size] (λa b=>b=a) {s with heap:=s.heap.push o} s'):Inv X pins σ H s':=by
 obtain ⟨h',g',d',t',o'⟩:=s'
 obtain ⟨hk,hg,hd,ho,_⟩:=m
 have tJ:∀b u,s.heap.get? b=some u->h'.get? b=some u:=λb u e=>hk b u (by
  intro z
  have z':b=s.heap.objs.size:=by simpa using z
  exact absurd (Heap.lt_size e) (by rw [z'];exact Nat.lt_irrefl _)) (Heap.get?_push_of_some _ e)
 have hg:g'=s.gens:=hg
 have hd:d'=s.drawn:=hd
 have ho:o'=s.os:=ho
 subst hg hd ho
 exact I.kept (t':=t') tJ
theorem Z0 {bs:List Bool} {its:List Value} {A:Around} (r:Ar (bs.map V.bl) its):TruthOf X.prog X.w A (λi v=>its.toArray[i]? =some v) (λi=>bs.getD i true):=by
 intro i v s Q E hv hQ
 have jg:its[i]? =some v:=by simpa using hv
 cases e:(bs.map V.bl)[i]? with
 | none=>rw [r.none_of e] at jg;cases jg
 | some x=>
   obtain ⟨u,hu,ru⟩:=r.get e
   rw [jg] at hu
   cases hu
   rw [List.getElem?_map] at e
   cases e2:bs[i]? with
   | none=>rw [e2] at e;cases e
   | some b=>
     rw [e2] at e
     cases e
     cases ru
     replace hQ:Q (bs.getD i true) s:=hQ
     rw [List.getD_eq_getElem?_getD,e2] at hQ
     unfold truthy
     exact wpAny_pure hQ
def cW (K:PySem.W.Frag) (f:List Bool->Bool):List V->Hp->VK->Prop:=λxs H Q=>∃p bs,xs= [.ref p] /\GC K H p (bs.map V.bl)/\Q (.bl (f bs)) H
theorem WB (hc:X.calm=true):B4 X (.builtin "all") (cW X.K λbs=>bs.all id):=by
 intro pins s σ H xs us Q I r h
 obtain ⟨p,bs,rfl,hq,q⟩:=h
 obtain ⟨u,rfl,rx⟩:=vals1 r
 cases rx
 obtain ⟨its,r',pl,hz⟩:=I.list hq
 obtain ⟨ol,pz,m9⟩:=id pl.isList
 have VA:p≠s.heap.objs.size:=Nat.ne_of_lt (Heap.lt_size pz)
 have DI:its.toArray.size=bs.length:=by
  have:=r'.length
  simp at this
  simp [this]
 refine call_all_walkS (wpAny_pyIter_list pl.isList ?_)
 refine ⟨_,_,_,_,_,_,_,λi=>bs.getD i true,rfl,(Walks.list (A:=X.A.in1) (show X.A.in1.handled=none from I.ok.hd hc) s.heap.objs.size p VA its.toArray).toS,⟨⟨_,Heap.get?_push_size _ rfl,rfl,rfl⟩,⟨ol,Heap.get?_push_of_some _ pz,m9⟩⟩,Z0 r',λs' m=> ?_⟩
 rw [DI,W3]
 exact ⟨.bl (bs.all id),H,I.walked m,rfl,q⟩
def bP (xs:List V) (k:Nat) (y:V):List V:=xs.take k++y::xs.drop k
theorem Ar.ins {xs:List V} {us:List Value} {y:V} {u:Value} (r:Ar xs us) (ry:RelV y u) (k:Nat):Ar (bP xs k y) (us.take k++u::us.drop k):=Ar.append (r.take k) (.cons ry (r.drop k))
def QM:V->List V->Hp->VK->Prop:=λx vs H Q=>∃l xs i y,x= .ref l/\vs= [.int i,y] /\H l=some (.lst xs)/\0<=i/\i<=(xs.length:Int)/\xs.length<sizeLine/\Q .non (upd H l (.lst (bP xs i.toNat y)))
theorem Wg:jB X "list.insert" QM:=by
 intro pins s σ H x vs v us Q I rx rv h
 obtain ⟨l,xs,i,y,rfl,rfl,hH,h0,h1,hz,q⟩:=h
 cases rx
 cases rv with
 | cons ri rr=>
 cases rr with
 | cons ry rr=>
 cases rr
 rename_i uy
 obtain ⟨t,rfl⟩:=ri
 obtain ⟨z,its,n,r,hl,e⟩:=I.lstM hH
 have U9:=Ms
 have Ri:¬(!Builtin.List.listFitsIndex i)=true:=by
  have:=fitsIndex_both (k:=i) (by omega) (by omega)
  simp [this]
 refine call_meets F.slot_list_insert ⟨_,e,rfl⟩ F.entry_list_insert (F.args_list_insert_3 _ _ _) (AutoSeq1.list_insert_list_int_val_1 l its.toArray n i t uy Ri (by rw [List.size_toArray];omega)) ⟨e, ?_⟩
 refine ⟨.non,_,I.lset (ys:=bP xs i.toNat y) (its':=its.take i.toNat++uy::its.drop i.toNat) hH e ?_ (r.ins ry _) ?_,rfl,q⟩
 ·dsimp only
  rw [if_neg (by omega),List.size_toArray,Nat.min_eq_left (by omega)]
  apply Array.toList_inj.mp
  simp
  exact List.take_of_length_le (by simp)
 ·unfold bP
  simp
  omega
end
end L2
end
section
namespace L2
open PySem PySem.Spec PyProof.Rows
def Nu:Bool->Heap->Addr->Addr->Nat->Prop
 | true,h,q,l,k=>h.IsListIter q l k
 | false,h,q,l,k=>h.IsTupleIter q l k
def Lg:Bool->Heap->Addr->Array Value->Prop
 | true,h,l,xs=>h.IsList l xs
 | false,h,l,xs=>h.IsTuple l xs
theorem Nu.mv {b:Bool} {h h':Heap} {q l:Addr} {k:Nat} (x:Nu b h q l k) (e:∀o,h.get? q=some o->h'.get? q=some o):Nu b h' q l k:=by
 cases b with
 | true=>obtain ⟨o,a,r⟩:=x;exact ⟨o,e o a,r⟩
 | false=>obtain ⟨o,a,r⟩:=x;exact ⟨o,e o a,r⟩
theorem Nu.obj {b:Bool} {h:Heap} {q l:Addr} {k:Nat} (x:Nu b h q l k):∃o,h.get? q=some o/\∀v,o.data≠ .cell v:=by
 cases b with
 | true=>
   obtain ⟨o,a,_,d⟩:=x
   exact ⟨o,a,λv z=>by rw [d] at z;cases z⟩
 | false=>
   obtain ⟨o,a,_,d⟩:=x
   exact ⟨o,a,λv z=>by rw [d] at z;cases z⟩
theorem Lg.mv {b:Bool} {h h':Heap} {l:Addr} {xs:Array Value} (x:Lg b h l xs) (e:∀o,h.get? l=some o->h'.get? l=some o):Lg b h' l xs:=by
 cases b with
 | true=>obtain ⟨o,a,r⟩:=x;exact ⟨o,e o a,r⟩
 | false=>obtain ⟨o,a,r⟩:=x;exact ⟨o,e o a,r⟩
section
variable {prog:Program} {w:World} {A:Around} {E:Value->Shared->Prop} {s:Shared}
theorem Im {b:Bool} {q l:Addr} {k:Nat} {xs:Array Value} {x:Value} {Q:Value->Shared->Prop} (hq:Nu b s.heap q l k) (hl:Lg b s.heap l xs) (hx:xs[k]? =some x)
 (hQ:∀h',Nu b h' q l (k+1)->Heap.SameBut q s.heap h'->Q x {s with heap:=h'}):wpAny (model prog w) A (Builtin.SmallTypes.nextOf (.ref q)) Q E s:=by
 cases b with
 | true=>exact wpAny_nextOf_list_item hq hl hx hQ
 | false=>
   have fg:s.heap.IsTupleIter q l k:=hq
   obtain ⟨oq,gq,cq,dq⟩:=id fg
   obtain ⟨ol,gl,_,nl,dl⟩:=hl
   unfold Builtin.SmallTypes.nextOf
   refine wpAny_bind (wpAny_callSpecial?_slot (name:=Str.ofString "__next__") fg.typeIs F.slot_tuple_iterator_next (wpAny_call_entry F.slot_tuple_iterator_next fg.typeIs F.entry_tuple_iterator_next ?_ (F.args_tuple_iterator_next_1 _)))
   show wpAny _ _ (field (.ref q) 0 >>= _) _ _ _
   refine wpAny_bind (wpAny_field gq dq (x:= .ref l) rfl ?_)
   show wpAny _ _ (if (Value.ref l==Value.none)=true then _ else _) _ _ _
   rw [if_neg (by intro z;cases z)]
   show wpAny _ _ (field (.ref q) 1 >>= _) _ _ _
   refine wpAny_bind (wpAny_field gq dq (x:= .int k 0) rfl ?_)
   show wpAny _ _ (seqItems? (.ref l) >>= _) _ _ _
   refine wpAny_bind (wpAny_seqItems gl dl ?_)
   simp only [Int.toNat_natCast,hx]
   refine wpAny_bind (wpAny_setField gq dq (by simp) (wpAny_pure ⟨x,rfl,wpAny_pure (hQ _ ?_ (Heap.SameBut.update ..))⟩))
   refine ⟨_,Heap.get?_update_self _ gq (Obj.isFreed_of_fields (Obj.data_mapFields dq _)),(Obj.cls_mapFields ..).trans cq, ?_⟩
   rw [Obj.data_mapFields dq]
   simp [rawInt]
theorem KD {b:Bool} {q l:Addr} {k:Nat} {xs:Array Value} {Q:Value->Shared->Prop} (hh:A.handled=none) (hq:Nu b s.heap q l k) (hl:Lg b s.heap l xs) (hx:xs[k]? =none)
 (hE:∀h' e,Heap.ExtBut q s.heap h'->(∃o,h'.get? e=some o/\o.cls= .type "StopIteration")->E (.ref e) {s with heap:=h'}):wpAny (model prog w) A (Builtin.SmallTypes.nextOf (.ref q)) Q E s:=by
 cases b with
 | true=>exact wpAny_nextOf_list_end hh hq hl hx hE
 | false=>
   have fg:s.heap.IsTupleIter q l k:=hq
   obtain ⟨oq,gq,cq,dq⟩:=id fg
   obtain ⟨ol,gl,_,nl,dl⟩:=hl
   unfold Builtin.SmallTypes.nextOf
   refine wpAny_bind (wpAny_callSpecial?_slot (name:=Str.ofString "__next__") fg.typeIs F.slot_tuple_iterator_next (wpAny_call_entry F.slot_tuple_iterator_next fg.typeIs F.entry_tuple_iterator_next ?_ (F.args_tuple_iterator_next_1 _)))
   show wpAny _ _ (field (.ref q) 0 >>= _) _ _ _
   refine wpAny_bind (wpAny_field gq dq (x:= .ref l) rfl ?_)
   show wpAny _ _ (if (Value.ref l==Value.none)=true then _ else _) _ _ _
   rw [if_neg (by intro z;cases z)]
   show wpAny _ _ (field (.ref q) 1 >>= _) _ _ _
   refine wpAny_bind (wpAny_field gq dq (x:= .int k 0) rfl ?_)
   show wpAny _ _ (seqItems? (.ref l) >>= _) _ _ _
   refine wpAny_bind (wpAny_seqItems gl dl ?_)
   simp only [Int.toNat_natCast,hx]
   refine wpAny_bind (wpAny_rule (wpAny_bind (wpAny_setField gq dq (by simp) ?_)))
   refine wpAny_bind (m:=newExc (.type "StopIteration") []) ?_
   simp only [newExc,newTuple]
   refine wpAny_bind (wpAny_newObj_type ?_ (by size_fits))
   refine wpAny_bind (m:=firstArgMember _ _) (wpAny_of_eq (a:=Value.none) (by first | rfl|(simp only [firstArgMember];rfl)) (wpAny_newObj_type ?_ (by size_fits)))
   simp only [raiseNew]
   refine wpAny_bind (wpAny_handled ?_)
   first | rw [show A.in1.handled=none from hh] | rw [hh]
   exact wpAny_bind (wpAny_pure (wpAny_throw (hE _ _ (((Heap.SameBut.update ..).extBut.push _).push _) ⟨_,Heap.get?_push_size _ rfl,rfl⟩)))
structure fA (b c:Bool) (z TI TO i j l m:Addr) (k:Nat) (f:Value) (h:Heap):Prop where
 zip:IsZip h z TI TO f
 its:IsPair h TI (.ref i) (.ref j)
 own:∃x y,IsPair h TO x y
 one:Nu b h i l k
 two:Nu c h j m k
theorem fA.mv {b c:Bool} {z TI TO i j l m:Addr} {k:Nat} {f:Value} {h h':Heap} (Z:fA b c z TI TO i j l m k f h) (e:∀p∈ [z,TI,TO,i,j],∀o,h.get? p=some o->h'.get? p=some o):fA b c z TI TO i j l m k f h':=by
 obtain ⟨a1,a2,⟨x,y,a3⟩,a4,a5⟩:=Z
 exact ⟨e z (by simp) _ a1,e TI (by simp) _ a2,⟨x,y,e TO (by simp) _ a3⟩,a4.mv (e i (by simp)),a5.mv (e j (by simp))⟩
variable {b c:Bool} {z TI TO i j l m:Addr} {k:Nat} {xs ys:Array Value}
theorem lF {x y:Value} {Q:Value->Shared->Prop} (D:ZipApart z TI TO i j l m) (Z:fA b c z TI TO i j l m k .none s.heap) (hl:Lg b s.heap l xs) (hm:Lg c s.heap m ys) (hx:xs[k]? =some x) (hy:ys[k]? =some y)
 (hQ:∀h',IsZip h' z TI TO (rawInt s.heap.objs.size)->IsPair h' TI (.ref i) (.ref j)->IsPair h' TO x y->Nu b h' i l (k+1)->Nu c h' j m (k+1)->IsPair h' s.heap.objs.size x y->
   (∀p o,p≠z->p≠TO->p≠i->p≠j->s.heap.get? p=some o->h'.get? p=some o)->Q (.ref s.heap.objs.size) {s with heap:=h'}):
 wpAny (model prog w) A (Builtin.«zip.__next__» ⟨[.ref z], []⟩) (λfin s'=>∃v,fin= .done (.ret v)/\Q v s') E s:=by
 obtain ⟨zz,zi,⟨x0,y0,zo⟩,z1,z2⟩:=Z
 show wpAny _ _ (field (.ref z) 2 >>= _) _ _ _
 refine wpAny_bind (wpAny_field zz rfl (x:= .bool false) rfl ?_)
 show wpAny _ _ (field (.ref z) 3 >>= _) _ _ _
 refine wpAny_bind (wpAny_field zz rfl (x:= .ref TI) rfl (wpAny_bind (wpAny_seqItems zi rfl ?_)))
 refine wpAny_bind (m:=Builtin.SmallTypes.ownedTupleIsFree (.ref z)) ?_
 unfold Builtin.SmallTypes.ownedTupleIsFree
 refine wpAny_bind (wpAny_field zz rfl (x:= .none) rfl (wpAny_pure ?_))
 simp only [if_true]
 refine wpAny_bind (wpAny_rule (wpAny_bind (wpAny_field zz rfl (x:= .ref TO) rfl (wpAny_bind (wpAny_setField_rec zz (by simp) λg1 e1 b1=> ?_)))))
 have e1:IsZip g1 z TI TO .ellipsis:=e1
 refine wpAny_bind ?_
 simp only [List.zipIdx_cons,List.zipIdx_nil,List.forIn_cons,List.forIn_nil]
 refine wpAny_bind (wpAny_bind (wpAny_onRaise ?_))
 refine wpAny_bind (m:=Builtin.SmallTypes.nextOf (.ref i)) (Im (z1.mv λo=>b1.extBut _ o D.i1z) (hl.mv λo=>b1.extBut _ o D.l1z) hx λg2 e2 b2=>wpAny_pure ?_)
 have o2:IsPair g2 TO x0 y0:=b2.extBut _ _ D.TOi1 (b1.extBut _ _ D.TOz zo)
 refine wpAny_bind (wpAny_seqItems o2 rfl (wpAny_bind (wpAny_updateSeq_pair o2 λg3 o3 b3=>wpAny_bind (wpAny_letGo (wpAny_pure ?_)))))
 have o3:IsPair g3 TO x y0:=o3
 refine wpAny_bind (wpAny_bind (wpAny_onRaise ?_))
 refine wpAny_bind (m:=Builtin.SmallTypes.nextOf (.ref j)) (Im (((z2.mv λo=>b1.extBut _ o D.i2z).mv λo=>b2.extBut _ o D.i12.symm).mv λo=>b3.extBut _ o D.TOi2.symm)
  (((hm.mv λo=>b1.extBut _ o D.l2z).mv λo=>b2.extBut _ o D.l2i1).mv λo=>b3.extBut _ o D.l2TO) hy λg4 e4 b4=>wpAny_pure ?_)
 have o4:IsPair g4 TO x y0:=b4.extBut _ _ D.TOi2 o3
 refine wpAny_bind (wpAny_seqItems o4 rfl (wpAny_bind (wpAny_updateSeq_pair o4 λg5 o5 b5=>wpAny_bind (wpAny_letGo (wpAny_pure (wpAny_pure ?_))))))
 have o5:IsPair g5 TO x y:=o5
 refine wpAny_bind (wpAny_seqItems o5 rfl (wpAny_bind (wpAny_newTuple ?_)))
 have sz:g5.objs.size=s.heap.objs.size:=by rw [b5.1,b4.1,b3.1,b2.1,b1.1]
 have k5:IsZip g5 z TI TO .ellipsis:=b5.extBut _ _ D.TOz.symm (b4.extBut _ _ D.i2z.symm (b3.extBut _ _ D.TOz.symm (b2.extBut _ _ D.i1z.symm e1)))
 have all5:∀p o,p≠z->p≠TO->p≠i->p≠j->s.heap.get? p=some o->g5.get? p=some o:=λp o q1 q2 q3 q4 e=>
  b5.extBut _ _ q2 (b4.extBut _ _ q4 (b3.extBut _ _ q2 (b2.extBut _ _ q3 (b1.extBut _ _ q1 e))))
 have one5:Nu b g5 i l (k+1):=((e2.mv λo=>b3.extBut _ o D.TOi1.symm).mv λo=>b4.extBut _ o D.i12).mv λo=>b5.extBut _ o D.TOi1.symm
 have two5:Nu c g5 j m (k+1):=e4.mv λo=>b5.extBut _ o D.TOi2.symm
 have zlt:z<g5.objs.size:=Heap.lt_size k5
 refine wpAny_bind (m:=Builtin.SmallTypes.ownedTupleHandOut (.ref z) (.ref g5.objs.size)) ?_
 unfold Builtin.SmallTypes.ownedTupleHandOut
 have k6:IsZip (g5.push {cls:= .type "tuple",data:= .seq #[x,y] }) z TI TO .ellipsis:=Heap.get?_push_of_some _ k5
 refine wpAny_bind (wpAny_setField_rec k6 (by simp) λg7 k7 b7=> ?_)
 have k7:IsZip g7 z TI TO (rawInt g5.objs.size):=k7
 refine wpAny_setField_rec k7 (by simp) λg8 k8 b8=> ?_
 have k8:IsZip g8 z TI TO (rawInt g5.objs.size):=k8
 have up:∀p o,p≠z->g5.get? p=some o->g8.get? p=some o:=λp o q e=>b8.extBut _ _ q (b7.extBut _ _ q (Heap.get?_push_of_some _ e))
 have new8:IsPair g8 g5.objs.size x y:=b8.extBut _ _ (Nat.ne_of_gt zlt) (b7.extBut _ _ (Nat.ne_of_gt zlt) (Heap.get?_push_size _ rfl))
 rw [sz] at k8 new8
 refine wpAny_pure ⟨_,rfl, ?_⟩
 show Q (.ref g5.objs.size) _
 rw [sz]
 exact hQ g8 k8 (up _ _ D.TIz (all5 _ _ D.TIz D.TITO D.TIi1 D.TIi2 zi)) (up _ _ D.TOz o5) (one5.mv λo=>up _ o D.i1z) (two5.mv λo=>up _ o D.i2z) new8 λp o q1 q2 q3 q4 e=>up p o q1 (all5 p o q1 q2 q3 q4 e)
theorem pD {Q:Fin->Shared->Prop} (hh:A.handled=none) (D:ZipApart z TI TO i j l m) (Z:fA b c z TI TO i j l m k .none s.heap) (hl:Lg b s.heap l xs) (hm:Lg c s.heap m ys) (fR:xs[k]? =none\/ys[k]? =none)
 (hE:∀h' e,(∀p o,p≠z->p≠TO->p≠i->p≠j->s.heap.get? p=some o->h'.get? p=some o)->(∃o,h'.get? e=some o/\o.cls= .type "StopIteration")->E (.ref e) {s with heap:=h'}):
 wpAny (model prog w) A (Builtin.«zip.__next__» ⟨[.ref z], []⟩) Q E s:=by
 obtain ⟨zz,zi,⟨x0,y0,zo⟩,z1,z2⟩:=Z
 show wpAny _ _ (field (.ref z) 2 >>= _) _ _ _
 refine wpAny_bind (wpAny_field zz rfl (x:= .bool false) rfl ?_)
 show wpAny _ _ (field (.ref z) 3 >>= _) _ _ _
 refine wpAny_bind (wpAny_field zz rfl (x:= .ref TI) rfl (wpAny_bind (wpAny_seqItems zi rfl ?_)))
 refine wpAny_bind (m:=Builtin.SmallTypes.ownedTupleIsFree (.ref z)) ?_
 unfold Builtin.SmallTypes.ownedTupleIsFree
 refine wpAny_bind (wpAny_field zz rfl (x:= .none) rfl (wpAny_pure ?_))
 simp only [if_true]
 refine wpAny_bind (wpAny_rule (wpAny_bind (wpAny_field zz rfl (x:= .ref TO) rfl (wpAny_bind (wpAny_setField_rec zz (by simp) λg1 e1 b1=> ?_)))))
 have e1:IsZip g1 z TI TO .ellipsis:=e1
 refine wpAny_bind ?_
 simp only [List.zipIdx_cons,List.zipIdx_nil,List.forIn_cons,List.forIn_nil]
 refine wpAny_bind (wpAny_bind (wpAny_onRaise ?_))
 cases hx:xs[k]? with
 | none=>
   refine wpAny_bind (m:=Builtin.SmallTypes.nextOf (.ref i)) (KD hh (z1.mv λo=>b1.extBut _ o D.i1z) (hl.mv λo=>b1.extBut _ o D.l1z) hx λg2 e b2 he=> ?_)
   obtain ⟨oe,ge,ce⟩:=he
   have k2:IsZip g2 z TI TO .ellipsis:=b2 _ _ D.i1z.symm e1
   have ez:e≠z:=λq=>by subst q;rw [k2] at ge;cases ge;simp at ce
   refine wpAny_setField_rec k2 (by simp) λg3 _ b3=>hE g3 e (λp o q1 _ q3 _ q=>b3.extBut _ _ q1 (b2 _ _ q3 (b1.extBut _ _ q1 q))) ⟨oe,b3.extBut _ _ ez ge,ce⟩
 | some x=>
   have hy:ys[k]? =none:=by
    rcases fR with q|q
    ·rw [hx] at q;cases q
    ·exact q
   refine wpAny_bind (m:=Builtin.SmallTypes.nextOf (.ref i)) (Im (z1.mv λo=>b1.extBut _ o D.i1z) (hl.mv λo=>b1.extBut _ o D.l1z) hx λg2 e2 b2=>wpAny_pure ?_)
   have o2:IsPair g2 TO x0 y0:=b2.extBut _ _ D.TOi1 (b1.extBut _ _ D.TOz zo)
   refine wpAny_bind (wpAny_seqItems o2 rfl (wpAny_bind (wpAny_updateSeq_pair o2 λg3 o3 b3=>wpAny_bind (wpAny_letGo (wpAny_pure ?_)))))
   refine wpAny_bind (wpAny_bind (wpAny_onRaise ?_))
   refine wpAny_bind (m:=Builtin.SmallTypes.nextOf (.ref j)) (KD hh (((z2.mv λo=>b1.extBut _ o D.i2z).mv λo=>b2.extBut _ o D.i12.symm).mv λo=>b3.extBut _ o D.TOi2.symm)
    (((hm.mv λo=>b1.extBut _ o D.l2z).mv λo=>b2.extBut _ o D.l2i1).mv λo=>b3.extBut _ o D.l2TO) hy λg4 e b4 he=> ?_)
   obtain ⟨oe,ge,ce⟩:=he
   have k4:IsZip g4 z TI TO .ellipsis:=b4 _ _ D.i2z.symm (b3.extBut _ _ D.TOz.symm (b2.extBut _ _ D.i1z.symm e1))
   have ez:e≠z:=λq=>by subst q;rw [k4] at ge;cases ge;simp at ce
   refine wpAny_setField_rec k4 (by simp) λg5 _ b5=>hE g5 e (λp o q1 q2 q3 q4 q=>b5.extBut _ _ q1 (b4 _ _ q4 (b3.extBut _ _ q2 (b2.extBut _ _ q3 (b1.extBut _ _ q1 q))))) ⟨oe,b5.extBut _ _ ez ge,ce⟩
end
def Wa (b:Bool) (l:Addr):Obj:={cls:= .type (match b with | true=>"list_iterator" | false=>"tuple_iterator"),data:= .fields #[.ref l, .int 0 0] }
abbrev zA (b:Bool) (h:Heap) (l:Addr):Heap:=h.push (Wa b l)
abbrev zB (b c:Bool) (h:Heap) (l m:Addr):Heap:=(zA b h l).push (Wa c m)
abbrev zC (b c:Bool) (h:Heap) (l m:Addr):Heap:=(zB b c h l m).push {cls:= .type "tuple",data:= .seq #[.ref h.objs.size, .ref (zA b h l).objs.size] }
abbrev zD (b c:Bool) (h:Heap) (l m:Addr):Heap:=(zC b c h l m).push {cls:= .type "tuple",data:= .seq #[.none, .none] }
abbrev zF (b c:Bool) (h:Heap) (l m:Addr):Heap:=(zD b c h l m).push {cls:= .type "zip",data:= .fields #[.none, .bool false, .bool false, .ref (zB b c h l m).objs.size, .ref (zC b c h l m).objs.size] }
theorem Tk {prog:Program} {w:World} {A:Around} {E:Value->Shared->Prop} {h:Heap} {g:Array GenState} {d:Drawn} {tk:Nat} {os:OsState} {b:Bool} {l:Addr} {xs:Array Value} {Q:Value->Shared->Prop} (hl:Lg b h l xs)
 (q:Q (.ref h.objs.size) ⟨h.push (Wa b l),g,d,tk,os⟩):wpAny (model prog w) A (pyIter (.ref l)) Q E ⟨h,g,d,tk,os⟩:=by
 cases b with
 | true=>exact wpAny_pyIter_list (s:=⟨h,g,d,tk,os⟩) hl q
 | false=>exact wpAny_pyIter_tuple (s:=⟨h,g,d,tk,os⟩) hl q
theorem XN (b c:Bool) (l m:Addr) (xs ys:Array Value):Meets (Builtin.«zip.__new__» ⟨[.type "zip", .ref l, .ref m], []⟩) (λ_ R s=>Lg b s.heap l xs/\Lg c s.heap m ys/\R (.ok (.ret (.ref (zD b c s.heap l m).objs.size))) {s with heap:=zF b c s.heap l m}):=
 .of_wp λprog w A R s h=>by
   obtain ⟨hp,g,d,tk,os⟩:=s
   obtain ⟨hl,hm,h⟩:=h
   have nC:=sub_zip
   have my:Lg b hp l xs:=hl
   have m6:Lg c (hp.push (Wa b l)) m ys:=hm.mv λo e=>Heap.get?_push_of_some _ e
   wp_walk using Tk my,Tk m6
   exact ⟨_,rfl,h⟩
section
variable {prog:Program} {w:World} {A:Around} {E:Value->Shared->Prop} {s:Shared} {b c:Bool} {l m:Addr} {xs ys:Array Value}
theorem Ye {h:Heap} {q:Addr} (e:h.get? q=some (Wa b l)):Nu b h q l 0:=by
 cases b with
 | true=>exact ⟨_,e,rfl,rfl⟩
 | false=>exact ⟨_,e,rfl,rfl⟩
theorem iI (hl:Lg b s.heap l xs) (hm:Lg c s.heap m ys) {Q:Value->Shared->Prop}
 (h:∀h',fA b c (s.heap.objs.size+4) (s.heap.objs.size+2) (s.heap.objs.size+3) s.heap.objs.size (s.heap.objs.size+1) l m 0 .none h'->(∀p o,s.heap.get? p=some o->h'.get? p=some o)->Q (.ref (s.heap.objs.size+4)) {s with heap:=h'}):
 wpAny (model prog w) A (call (.type "zip") [.ref l, .ref m]) Q E s:=by
 refine callType_new F.called_zip (by decide) (F.typeCall_zip_2 _ _) (F.newCall_zip_2 _ _) (λobj=>F.args_object_init_3 obj _ _) F.entry_zip_new (XN b c l m xs ys) ⟨hl,hm, ?_⟩
 have n1:(zA b s.heap l).objs.size=s.heap.objs.size+1:=Heap.size_push ..
 have n2:(zB b c s.heap l m).objs.size=s.heap.objs.size+2:=by rw [Heap.size_push,n1]
 have n3:(zC b c s.heap l m).objs.size=s.heap.objs.size+3:=by rw [Heap.size_push,n2]
 have n4:(zD b c s.heap l m).objs.size=s.heap.objs.size+4:=by rw [Heap.size_push,n3]
 have p5:(zF b c s.heap l m).get? (zD b c s.heap l m).objs.size=some _:=Heap.get?_push_size _ rfl
 have p4:(zF b c s.heap l m).get? (zC b c s.heap l m).objs.size=some _:=Heap.get?_push_of_some _ (Heap.get?_push_size _ rfl)
 have p3:(zF b c s.heap l m).get? (zB b c s.heap l m).objs.size=some _:=Heap.get?_push_of_some _ (Heap.get?_push_of_some _ (Heap.get?_push_size _ rfl))
 have p2:(zF b c s.heap l m).get? (zA b s.heap l).objs.size=some (Wa c m):=Heap.get?_push_of_some _ (Heap.get?_push_of_some _ (Heap.get?_push_of_some _ (Heap.get?_push_size _ rfl)))
 have p1:(zF b c s.heap l m).get? s.heap.objs.size=some (Wa b l):=Heap.get?_push_of_some _ (Heap.get?_push_of_some _ (Heap.get?_push_of_some _ (Heap.get?_push_of_some _ (Heap.get?_push_size _ rfl))))
 rw [n2,n3,n4] at p5
 rw [n1,n2] at p3
 rw [n3] at p4
 rw [n1] at p2
 show _/\_
 rw [n4]
 exact ⟨⟨_,p5,rfl⟩,h _ ⟨p5,p3,⟨_,_,p4⟩,Ye p1,Ye p2⟩ λp o e=>Heap.get?_push_of_some _ (Heap.get?_push_of_some _ (Heap.get?_push_of_some _ (Heap.get?_push_of_some _ (Heap.get?_push_of_some _ e))))⟩
end
def Sq (K:PySem.W.Frag):Bool->Hp->Addr->List V->Prop
 | true,H,a,xs=>GC K H a xs
 | false,H,a,xs=>J6 K H a xs
section
variable {X:Cx} {pins:List (Addr×Obj)} {σ:St} {H:Hp} {s:Shared} {a:Addr} {ys xs:List V} {b:Bool} {h':Heap}
theorem Inv.sq (I:Inv X pins σ H s) (h:Sq X.K b H a xs):∃its:List Value,Ar xs its/\Lg b s.heap a its.toArray/\xs.length<=sizeLine:=by
 cases b with
 | true=>
   obtain ⟨its,r,p,z⟩:=I.list h
   exact ⟨its,r,p.isList,z⟩
 | false=>
   obtain ⟨its,r,p,z⟩:=I.tuple h
   exact ⟨its,r,p,z⟩
theorem Inv.sq_inj (I:Inv X pins σ H s) (h:Sq X.K b H a xs) (h2:Sq X.K b H a ys):xs=ys:=by
 cases b with
 | true=>exact I.list_inj h h2
 | false=>exact I.tuple_inj h h2
theorem Inv.turnedL {ch:List Addr} {t':Nat} (I:Inv X pins σ H s) (Ll:∀p∈ch,Db X pins H p) (k:∀p o,p ∉ ch->s.heap.get? p=some o->h'.get? p=some o):Inv X pins σ H {s with heap:=h',toks:=t'}:=by
 have nit:∀p u,H p=some u->p ∉ ch:=λp u e z=>by rw [(Ll p z).1] at e;cases e
 refine I.step (g':=s.gens) (d':=s.drawn) (ch:=ch) (λp hp=>⟨(Ll p hp).2.2.2.1,(Ll p hp).2.1,(Ll p hp).2.2.2.2.1,(Ll p hp).2.2.2.2.2⟩) (λp o _ _ hc e _=>k p o hc e) (λp o _ _ hc e _=>⟨o.slots,k p o hc e⟩)
  (λ_ _ _ _ n=>n) (λp o hc e=>⟨o,k p o hc e⟩) (λ_ _ e=>e) (λ_ _ _ e=>e) (λp ps e=>⟨#[],by rw [e];simp⟩) (λm hm=> ?_) (λp u e=> ?_) I.bare
 ·obtain ⟨o,es,ep,ho,r⟩:=hm
  exact ⟨o,es,ep,k _ o (λz=>(Ll _ z).2.1 rfl) ho,r⟩
 ·refine (I.hok p u e).stay (λq v hq e2=>k q v ?_ e2) (λ_ q=>q) λ_ _ q=>q
  rcases hq with z|z
  ·rw [z];exact nit p u e
  ·exact nit q _ z
theorem Inv.turnedN {ch:List Addr} {t':Nat} {n:Addr} {o:HO} (I:Inv X pins σ H s) (Ll:∀p∈ch,Db X pins H p) (Dk:∀p∈ch,p<s.heap.objs.size) (k:∀p o,p ∉ ch->s.heap.get? p=some o->h'.get? p=some o) (hn:s.heap.objs.size<=n)
 (new:Cp X.prog X.w (upd H n o) h' n o):Inv X pins σ (upd H n o) {s with heap:=h',toks:=t'}:=by
 have I1:Inv X pins σ H {s with heap:=h',toks:=t'}:=I.turnedL Ll k
 have Tf:H n=none:=I.hok.fresh hn
 have hx:∀p u,s.heap.get? p=some u->p≠n:=λp u e=>Nat.ne_of_lt (Nat.lt_of_lt_of_le (Heap.lt_size e) hn)
 refine I.step (g':=s.gens) (d':=s.drawn) (ch:=ch) (λp hp=>⟨(Ll p hp).2.2.2.1,(Ll p hp).2.1,(Ll p hp).2.2.2.2.1,(Ll p hp).2.2.2.2.2⟩) (λp o _ _ hc e _=>k p o hc e) (λp o _ _ hc e _=>⟨o.slots,k p o hc e⟩)
  (λp u _ e z=>by rw [Ag (hx p u e)];exact z) (λp o hc e=>⟨o,k p o hc e⟩) (λp xs e=>by rw [Ag (Ao e Tf)];exact e) (λp o xs e=>by rw [Ag (Ao e Tf)];exact e)
  (λp ps e=>⟨#[],by rw [Ag (Ao e Tf),e];simp⟩) (λm hm=> ?_) (λp u e=> ?_) I.bare
 ·obtain ⟨o,es,ep,ho,r⟩:=hm
  exact ⟨o,es,ep,k _ o (λz=>(Ll _ z).2.1 rfl) ho,r⟩
 ·by_cases hp:p=n
  ·subst hp
   rw [Ah] at e
   cases e
   exact new
  ·rw [Ag hp] at e
   exact (I1.hok p u e).stay (λ_ _ _ q=>q) (λq hq=>by rw [Ag (Ao hq Tf)];exact hq) λq xs hq=>by rw [Ag (Ao hq Tf)];exact hq
end
def mH (K:PySem.W.Frag) (b c:Bool) (l m:Addr):It:=
 ⟨λi H=>∃xs ys x y,Sq K b H l xs/\Sq K c H m ys/\xs[i]? =some x/\ys[i]? =some y,
  λi H v H'=>∃T x y,v= .ref T/\H T=none/\H'=upd H T (.tup [x,y])/\(∀xs,Sq K b H l xs->xs[i]? =some x)/\∀ys,Sq K c H m ys->ys[i]? =some y,
  λi H=>∃xs ys,Sq K b H l xs/\Sq K c H m ys/\(xs.length<=i\/ys.length<=i)⟩
theorem Z1 {P:Program} {w:World} {K:PySem.W.Frag} {es:List Expr} {x1:Nat} {pos:Pos} {b c:Bool} {z TI TO i j l m:Addr} (D:ZipApart z TI TO i j l m):
 J7 P w K (.Tuple es x1 pos) (mH K b c l m) [z,TI,TO,i,j] z (λk h=>fA b c z TI TO i j l m k .none h) where
 mem:=by simp
 obj:=λk h Z p hp=>by
  have FF:p=z\/p=TI\/p=TO\/p=i\/p=j:=by simpa using hp
  rcases FF with e|e|e|e|e
  ·subst e;exact ⟨_,Z.zip,λv q=>nomatch q⟩
  ·subst e;exact ⟨_,Z.its,λv q=>nomatch q⟩
  ·subst e;obtain ⟨x,y,q⟩:=Z.own;exact ⟨_,q,λv q=>nomatch q⟩
  ·subst e;exact Z.one.obj
  ·subst e;exact Z.two.obj
 keep:=λk h h' Z e=>Z.mv e
 item:=by
  intro X hP hw hK hc k pins s σ H E I hf Z hg
  subst hP hw hK
  obtain ⟨xs,ys,x,y,hl,hm,hx,hy⟩:=hg
  obtain ⟨us,ru,su,_⟩:=I.sq hl
  obtain ⟨vs,rv,sv,_⟩:=I.sq hm
  obtain ⟨u,hu,rx⟩:=ru.get hx
  obtain ⟨v,hv,ry⟩:=rv.get hy
  have hT:s.TypeIs (.ref z) "zip" :=⟨_,Z.zip,rfl⟩
  unfold pyNext
  refine wpAny_bind (wpAny_attempt (wpAny_callSpecial?_slot (name:=Str.ofString "__next__") hT F.slot_zip_next (wpAny_call_entry F.slot_zip_next hT F.entry_zip_next
   (lF D Z su sv (x:=u) (y:=v) (by simpa using hu) (by simpa using hv) λh1 a1 a2 a3 a4 a5 a6 a7=>wpAny_pure ?_) (F.args_zip_next_1 _))))
  refine ⟨_,rfl,wpAny_letOwnedTupleGo_zip (s:={s with heap:=h1}) a1 λh2 c1 c2=> ?_⟩
  have nT:∀p∈ [z,TI,TO,i,j],p<s.heap.objs.size:=λp hp=>by
   have FF:p=z\/p=TI\/p=TO\/p=i\/p=j:=by simpa using hp
   rcases FF with e|e|e|e|e
   ·subst e;exact Heap.lt_size Z.zip
   ·subst e;exact Heap.lt_size Z.its
   ·subst e;obtain ⟨x,y,q⟩:=Z.own;exact Heap.lt_size q
   ·subst e;obtain ⟨o,q,_⟩:=Z.one.obj;exact Heap.lt_size q
   ·subst e;obtain ⟨o,q,_⟩:=Z.two.obj;exact Heap.lt_size q
  have c2':∀p o,p≠z->h1.get? p=some o->h2.get? p=some o:=λp o q e=>c2.extBut _ _ q e
  have kp:∀p o,p ∉ [z,TI,TO,i,j] ->s.heap.get? p=some o->h2.get? p=some o:=λp o hp e=>by
   have FF:p≠z/\p≠TI/\p≠TO/\p≠i/\p≠j:=by simpa using hp
   exact c2' p o FF.1 (a7 p o FF.1 FF.2.2.1 FF.2.2.2.1 FF.2.2.2.2 e)
  have nI:s.heap.objs.size≠z:=Nat.ne_of_gt (nT z (by simp))
  have I2:Inv X pins σ (upd H s.heap.objs.size (.tup [x,y])) {s with heap:=h2,toks:=s.toks}:=I.turnedN hf nT kp (Nat.le_refl _)
   ⟨(by show 2<=sizeLine;decide), [u,v], .cons rx (.cons ry .nil),⟨_,c2' _ _ nI a6,rfl,_,rfl⟩⟩
  have Tf:H s.heap.objs.size=none:=I.fresh
  refine ⟨.ref s.heap.objs.size,upd H s.heap.objs.size (.tup [x,y]),I2,rfl,⟨_,x,y,rfl,Tf,rfl,λxs' h'=> ?_,λys' h'=> ?_⟩, ?_,λp hp=> ?_⟩
  ·rw [I.sq_inj h' hl];exact hx
  ·rw [I.sq_inj h' hm];exact hy
  ·exact ⟨c1,c2' _ _ D.TIz a2,⟨_,_,c2' _ _ D.TOz a3⟩,a4.mv λo=>c2' _ o D.i1z,a5.mv λo=>c2' _ o D.i2z⟩
  ·rw [Ag (Nat.ne_of_lt (nT p hp))]
   exact (hf p hp).1
 done:=by
  intro X hP hw hK hc k pins s σ H E I hf Z hg
  subst hP hw hK
  obtain ⟨xs,ys,hl,hm,he⟩:=hg
  obtain ⟨us,ru,su,_⟩:=I.sq hl
  obtain ⟨vs,rv,sv,_⟩:=I.sq hm
  have e1:=ru.length
  have e2:=rv.length
  have fR:us.toArray[k]? =none\/vs.toArray[k]? =none:=by
   rcases he with q|q
   ·exact .inl (by simp;omega)
   ·exact .inr (by simp;omega)
  have hT:s.TypeIs (.ref z) "zip" :=⟨_,Z.zip,rfl⟩
  unfold pyNext
  refine wpAny_bind (wpAny_attempt (wpAny_callSpecial?_slot (name:=Str.ofString "__next__") hT F.slot_zip_next (wpAny_call_entry F.slot_zip_next hT F.entry_zip_next
   (pD (I.ok.hd hc) D Z su sv fR λh1 e hk he=> ?_) (F.args_zip_next_1 _))))
  obtain ⟨o,ho,fQ⟩:=he
  refine wpAny_bind (wpAny_isInstance (T:="StopIteration") (b:=true) ⟨o,ho,fQ⟩ isSubtype_stop (wpAny_pure ⟨rfl, ?_⟩))
  exact I.turnedL (t':=s.toks) hf λp o hp e=>by
   have FF:p≠z/\p≠TI/\p≠TO/\p≠i/\p≠j:=by simpa using hp
   exact hk p o FF.1 FF.2.2.1 FF.2.2.2.1 FF.2.2.2.2 e
 self:=λ_ _ _ _ _ Z h=>wpAny_pyIter_zip Z.zip h
section
variable {X:Cx}
end
end L2
end
section
namespace L2
open PySem PySem.Spec PyProof.Rows
structure Has (P:Program) (w:World) (K:PySem.W.Frag) (mg:Str->Option Value) (base:Heap) (k:Nat) (x:Str) (ps:List Str) (sp:Sp):Prop where
 ex:∃f fd,mg x=some (.ref f)/\PySem.W.keepIn K (.ref f)=true/\Binds K fd ps [] /\A7 P w K mg base C3 k f fd ps sp
theorem Has.mono {P:Program} {w:World} {K:PySem.W.Frag} {mg:Str->Option Value} {base:Heap} {j k:Nat} {x:Str} {ps:List Str} {sp:Sp} (h:Has P w K mg base j x ps sp) (hk:j<=k):Has P w K mg base k x ps sp:=by
 obtain ⟨f,fd,a,b,c,d⟩:=h.ex
 exact ⟨f,fd,a,b,c,d.mono hk⟩
section
variable {X:Cx} {x:Str} {p pos:Pos} {e:Expr} {es:List Expr} {t:TA} {k:Nat} {ps:List Str} {sp:Sp}
theorem gY (D:Has X.prog X.w X.K X.mg X.base k x ps sp) (hr:Room k X.A) (hg:Gl X x) (ha:PA X (e::es) t)
 (hs:starEach (e::es) X.env=(false,eval e X.env)::starEach es X.env:=by rfl) (hpl:(backTo pos (starEach es X.env)).any (·.1)=false:=by rfl) (hd:(x==("__debug__" :Str))=false:=by decide):
 PE X (.Call (.Name x p) (e::es) [] pos) (eB sp [] E0 t):=by
 obtain ⟨f,fd,mG,kG,bG,G⟩:=D.ex
 exact cI G hr hg mG kG bG .nil j4 ha (hdb:=hd) (he:=hs) (hpl:=hpl)
end
section
variable {X:Cx} {tg elt:Expr} {ifs:List Expr} {scope:Scope} {own:Nat} {ix:List Nat} {N:List Str} {g:TG} {tt:TT} {te:TE}
def Mh (X:Cx) (sc:Scope) (own:Nat) (ix:List Nat) (N:List Str):Bool:=
 (List.range ix.length).all λj=>match ix[j]? with
   | none=>false
   | some i=>match N[own+j]?,X.N[i]? with
     | some x,some y=>decide (x=y)&&decide (X.env.scope.names.lookup x=some .cell)&&decide (sc.names.lookup x=some .cell)
     | _,_=>false
theorem RV {sc:Scope} (h1:N.length=own+ix.length) (h2:Mh X sc own ix N=true):ON X sc own ix N:=by
 refine ⟨h1,λj i hj=> ?_⟩
 have Dk:j<ix.length:=(List.getElem?_eq_some_iff.mp hj).1
 have h:=List.all_eq_true.mp h2 j (List.mem_range.mpr Dk)
 rw [hj] at h
 dsimp only at h
 cases e1:N[own+j]? with
 | none=>rw [e1] at h;simp at h
 | some x=>
   cases e2:X.N[i]? with
   | none=>rw [e1,e2] at h;simp at h
   | some y=>
     rw [e1,e2] at h
     simp only [Bool.and_eq_true,decide_eq_true_eq] at h
     obtain ⟨⟨h3,h4⟩,h5⟩:=h
     subst h3
     exact ⟨x,rfl,rfl,h4,h5⟩
theorem Ut (h1:scope.kind= .function) (h2:(scope.names.all λy=> !decide (y.2= .cell))=true) (h3:(scope.names.all λy=> !decide (y.2= .local)||decide (scope.names.lookup y.1=some .local))=true)
 (h4:(scope.names.all λy=> !decide (y.2= .free)||decide (X.env.scope.names.lookup y.1=some .cell))=true) (h5:N.length=own+ix.length) (h6:Mh X (relabel scope X.env) own ix N=true) (hk:Gb own g)
 (tgt:∀cl C s H ex pn,PG (blk X (relabel scope X.env) N cl C s H ex pn) tg g)
 (tst:∀cl C s H ex pn,Ui (blk X (relabel scope X.env) N cl C s H ex pn) ifs tt)
 (val:∀cl C s H ex pn,PE (blk X (relabel scope X.env) N cl C s H ex pn) elt te):Jz X tg elt ifs scope own ix N g tt te:=by
 refine ⟨h1,λy hy e=> ?_,λy hy e=> ?_,λy hy e=> ?_,RV h5 h6,hk,tgt,tst,val⟩
 ·have:=List.all_eq_true.mp h2 y hy
  simp [e] at this
 ·have:=List.all_eq_true.mp h3 y hy
  simpa [e] using this
 ·have:=List.all_eq_true.mp h4 y hy
  simpa [e] using this
end
theorem Ib.new {H:Hp} {p:Addr} {o:HO} (h:H p=none):Ib H (upd H p o):=λb u q=>by rw [Ag (Ao q h)];exact q
def aI (p:Addr) (H H':Hp):Prop:=∀b o,b≠p->H b=some o->H' b=some o
theorem aI.refl {p:Addr} {H:Hp}:aI p H H:=λ_ _ _ h=>h
theorem aI.trans {p:Addr} {H H1 H2:Hp} (a:aI p H H1) (b:aI p H1 H2):aI p H H2:=λc o n h=>b c o n (a c o n h)
theorem Ib.but {p:Addr} {H H1:Hp} (a:Ib H H1):aI p H H1:=λc o _ h=>a c o h
theorem aI.upd {p:Addr} {H:Hp} {o:HO}:aI p H (upd H p o):=λb u n q=>by rw [Ag n];exact q
end L2
end
section
namespace PL
open PySem PySem.Spec PyProof.Rows L2
inductive PV where
 | non|bl (b:Bool)|int (i:Int)|str (x:Str)|ty (n:String)
 | tup (xs:List PV)|lst (xs:List PV)|tape|scr (ns:List Int)|dct (kvs:List (FK×Int))
def EQ (H:Hp) (p:Addr):Prop:=∃d x:Int,H p=some (.lst [.int d, .int x])/\0<=d/\0<=x/\x<2147483647
def J4 (o:HO):Prop:=(∀vs,o≠ .tup vs)/\∀q u,o≠ .frz q u
theorem J4.lst {xs:List V}:J4 (.lst xs):=⟨(λ_ e=>nomatch e),(λ_ _ e=>nomatch e)⟩
theorem EQ.mut {H:Hp} {p:Addr} (h:EQ H p):∃o,H p=some o/\J4 o:=by
 obtain ⟨d,x,e,_⟩:=h
 exact ⟨_,e,J4.lst⟩
def lJ (K:PySem.W.Frag) (H:Hp) (a:Addr) (xs:List V):Prop:=H a=some (.tup xs)\/∃(o:Obj) (its:Array Value) (n:Nat),K.lookup a=some o/\o.cls= .type "tuple" /\o.data= .seq its n/\its.size<=sizeLine/\Ar xs its.toList
theorem lJ.sq {K:PySem.W.Frag} {H:Hp} {a:Addr} {xs:List V} (h:lJ K H a xs):J6 K H a xs:=h.elim (λz=> .inl (.inl z)) .inr
def Bu (kvs:List (FK×Int)):List (FK×V):=kvs.map λp=>(p.1,V.int p.2)
mutual
inductive CB (K:PySem.W.Frag) (T M:Addr->Prop) (H:Hp):V->PV->Prop where
 | non:CB K T M H .non .non
 | bl (b:Bool):CB K T M H (.bl b) (.bl b)
 | int (i:Int):CB K T M H (.int i) (.int i)
 | str (x:Str):CB K T M H (.str x) (.str x)
 | ty (n:String):CB K T M H (.ty n) (.ty n)
 | tup {a:Addr} {vs:List V} {xs:List PV} (h:lJ K H a vs) (r:Az K T M H vs xs):CB K T M H (.ref a) (.tup xs)
 | lst {a:Addr} {vs:List V} {xs:List PV} (h:H a=some (.lst vs)) (t:¬T a) (m:¬M a) (r:Az K T M H vs xs):CB K T M H (.ref a) (.lst xs)
 | tape {a:Addr} (t:T a):CB K T M H (.ref a) .tape
 | dct {a:Addr} {kvs:List (FK×Int)} (h:H a=some (.dN K (Bu kvs))) (t:¬T a) (m:¬M a):CB K T M H (.ref a) (.dct kvs)
 | scr {a:Addr} {ns:List Int} (h:(Rd H a (.lst (ns.map V.int))/\¬T a/\¬M a)\/∀H,GC K H a (ns.map V.int)):CB K T M H (.ref a) (.scr ns)
inductive Az (K:PySem.W.Frag) (T M:Addr->Prop) (H:Hp):List V->List PV->Prop where
 | nil:Az K T M H [] []
 | cons {v:V} {x:PV} {vs:List V} {xs:List PV} (h:CB K T M H v x) (t:Az K T M H vs xs):Az K T M H (v::vs) (x::xs)
end
structure GP (T M:Addr->Prop) (H:Hp):Prop where
 tp:∀a,T a->EQ H a
 mu:∀a,M a->∃o,H a=some o/\J4 o
theorem GP.noTup {T M:Addr->Prop} {H:Hp} (v:GP T M H) {a:Addr} {vs:List V} (r:Rd H a (.tup vs)):¬T a/\¬M a:=by
 have go:∀o,H a=some o->J4 o->False:=λo e m=>by
  rcases r with r|⟨q,r⟩
  ·rw [e] at r;cases r;exact m.1 _ rfl
  ·rw [e] at r;cases r;exact m.2 _ _ rfl
 exact ⟨λt=>let ⟨o,e,m⟩:=(v.tp a t).mut;go o e m,λt=>let ⟨o,e,m⟩:=v.mu a t;go o e m⟩
structure Mv (K:PySem.W.Frag) (T M:Addr->Prop) (H:Hp) (T' M':Addr->Prop) (H':Hp):Prop where
 va:GP T M H
 keep:∀b o,¬T b->¬M b->H b=some o->H' b=some o
 sub:∀b,T b->T' b
 tn:∀b,H b≠none->T' b->T b
 mn:∀b,H b≠none->M' b->M b
theorem VT {H:Hp} {a:Addr} {u:HO} (r:Rd H a u):H a≠none:=by
 rcases r with r|⟨o,r⟩ <;> rw [r] <;> exact λe=>nomatch e
theorem kK {H H':Hp} {a:Addr} {u:HO} (r:Rd H a u) (k:∀o,H a=some o->H' a=some o):Rd H' a u:=by
 rcases r with r|⟨o,r⟩
 ·exact .inl (k _ r)
 ·exact .inr ⟨o,k _ r⟩
section
variable {K:PySem.W.Frag} {T M T' M':Addr->Prop} {H H':Hp}
mutual
theorem CB.mv (m:Mv K T M H T' M' H'):∀{v:V} {x:PV},CB K T M H v x->CB K T' M' H' v x
 | _,_, .non=> .non
 | _,_, .bl b=> .bl b
 | _,_, .int i=> .int i
 | _,_, .str x=> .str x
 | _,_, .ty n=> .ty n
 | _,_, .tup (a:=a) (vs:=vs) h r=>by
   refine .tup (vs:=vs) ?_ (Az.mv m r)
   rcases h with h|h
   ·obtain ⟨t,u⟩:=m.va.noTup (.inl h)
    exact .inl (m.keep _ _ t u h)
   ·exact .inr h
 | _,_, .lst (a:=a) h t u r=> .lst (m.keep _ _ t u h) (λz=>t (m.tn a (by rw [h];exact λe=>nomatch e) z)) (λz=>u (m.mn a (by rw [h];exact λe=>nomatch e) z)) (Az.mv m r)
 | _,_, .tape t=> .tape (m.sub _ t)
 | _,_, .dct (a:=a) h t u=> .dct (m.keep _ _ t u h) (λz=>t (m.tn a (by rw [h];exact λe=>nomatch e) z)) (λz=>u (m.mn a (by rw [h];exact λe=>nomatch e) z))
 | _,_, .scr (a:=a) (.inl ⟨h,t,u⟩)=> .scr (.inl ⟨kK h λo e=>m.keep _ o t u e,λz=>t (m.tn a (VT h) z),λz=>u (m.mn a (VT h) z)⟩)
 | _,_, .scr (.inr h)=> .scr (.inr h)
theorem Az.mv (m:Mv K T M H T' M' H'):∀{vs:List V} {xs:List PV},Az K T M H vs xs->Az K T' M' H' vs xs
 | _,_, .nil=> .nil
 | _,_, .cons h t=> .cons (CB.mv m h) (Az.mv m t)
end
end
theorem Az.length {K:PySem.W.Frag} {T M:Addr->Prop} {H:Hp}:∀{vs:List V} {xs:List PV},Az K T M H vs xs->vs.length=xs.length
 | _,_, .nil=>rfl
 | _,_, .cons _ t=>by simp [t.length]
theorem Az.get {K:PySem.W.Frag} {T M:Addr->Prop} {H:Hp}:∀{vs:List V} {xs:List PV} {i:Nat} {x:PV},Az K T M H vs xs->xs[i]? =some x->∃v,vs[i]? =some v/\CB K T M H v x
 | _,_,_,_, .nil,e=>by simp at e
 | _,_,0,_, .cons h _,e=>by simp at e;subst e;exact ⟨_,rfl,h⟩
 | _,_,i+1,x, .cons _ t,e=>by
   obtain ⟨u,h1,h2⟩:=Az.get (i:=i) (x:=x) t (by simpa using e)
   exact ⟨u,by simpa using h1,h2⟩
theorem Az.get' {K:PySem.W.Frag} {T M:Addr->Prop} {H:Hp} {vs:List V} {xs:List PV} {i:Nat} {v:V} (h:Az K T M H vs xs) (e:vs[i]? =some v):∃x,xs[i]? =some x/\CB K T M H v x:=by
 have hl:=h.length
 have hi:i<vs.length:=(List.getElem?_eq_some_iff.mp e).1
 obtain ⟨w,e2,r⟩:=h.get (i:=i) (x:=xs[i]'(by omega)) (List.getElem?_eq_getElem (by omega))
 rw [e] at e2;cases e2
 exact ⟨_,List.getElem?_eq_getElem (by omega),r⟩
theorem Az.append {K:PySem.W.Frag} {T M:Addr->Prop} {H:Hp}:∀{vs ws:List V} {xs ys:List PV},Az K T M H vs xs->Az K T M H ws ys->Az K T M H (vs++ws) (xs++ys)
 | _,_,_,_, .nil,s=>s
 | _,_,_,_, .cons h t,s=> .cons h (t.append s)
theorem Az.take {K:PySem.W.Frag} {T M:Addr->Prop} {H:Hp}:∀{vs:List V} {xs:List PV} (n:Nat),Az K T M H vs xs->Az K T M H (vs.take n) (xs.take n)
 | _,_,0,_=> .nil
 | _,_,_+1, .nil=> .nil
 | _,_,n+1, .cons r t=> .cons r (t.take n)
theorem Az.drop {K:PySem.W.Frag} {T M:Addr->Prop} {H:Hp}:∀{vs:List V} {xs:List PV} (n:Nat),Az K T M H vs xs->Az K T M H (vs.drop n) (xs.drop n)
 | _,_,0,r=>r
 | _,_,_+1, .nil=> .nil
 | _,_,n+1, .cons _ t=>t.drop n
theorem Az.set {K:PySem.W.Frag} {T M:Addr->Prop} {H:Hp} {v:V} {x:PV} (r:CB K T M H v x):∀{vs:List V} {xs:List PV} (i:Nat),Az K T M H vs xs->Az K T M H (vs.set i v) (xs.set i x)
 | _,_,_, .nil=> .nil
 | _,_,0, .cons _ t=> .cons r t
 | _,_,i+1, .cons q t=> .cons q (Az.set r i t)
theorem Az.nil_iff {K:PySem.W.Frag} {T M:Addr->Prop} {H:Hp} {vs:List V} {xs:List PV} (h:Az K T M H vs xs):vs= [] ↔xs= [] :=by
 cases h <;> simp
theorem Az.reverse {K:PySem.W.Frag} {T M:Addr->Prop} {H:Hp} {vs:List V} {xs:List PV} (h:Az K T M H vs xs):Az K T M H vs.reverse xs.reverse:=by
 induction vs generalizing xs with
 | nil=>cases h;exact .nil
 | cons v vs ih=>
   cases h with
   | cons h t=>rw [List.reverse_cons,List.reverse_cons];exact (ih t).append (.cons h .nil)
structure DM (T:Addr->Prop) (H:Hp) (T':Addr->Prop) (H':Hp):Prop where
 keep:∀b o,¬T b->H b=some o->H' b=some o
 sub:∀b,T b->T' b
 new:∀b,T' b->T b\/H b=none
 tp:∀a,T' a->EQ H' a
theorem DM.refl {T:Addr->Prop} {H:Hp} (h:∀a,T a->EQ H a):DM T H T H:=⟨λ_ _ _ e=>e,λ_ e=>e,λ_ e=> .inl e,h⟩
theorem DM.some {T T':Addr->Prop} {H H':Hp} (s:DM T H T' H') {b:Addr} (h:H b≠none):H' b≠none:=by
 by_cases t:T b
 ·obtain ⟨o,e,_⟩:=(s.tp b (s.sub b t)).mut
  rw [e];exact λe=>nomatch e
 ·cases e:H b with
  | none=>exact absurd e h
  | some o=>rw [s.keep b o t e];exact λe=>nomatch e
theorem DM.none {T T':Addr->Prop} {H H':Hp} (s:DM T H T' H') {b:Addr} (h:H' b=none):H b=none:=by
 cases e:H b with
 | none=>rfl
 | some o=>exact absurd h (s.some (by rw [e];exact λe=>nomatch e))
theorem DM.trans {T T1 T2:Addr->Prop} {H H1 H2:Hp} (a:DM T H T1 H1) (b:DM T1 H1 T2 H2):DM T H T2 H2 where
 keep:=λc o t e=>b.keep c o (λz=>(a.new c z).elim t λn=>by rw [n] at e;cases e) (a.keep c o t e)
 sub:=λc t=>b.sub c (a.sub c t)
 new:=λc t=>(b.new c t).elim (λz=>a.new c z) λz=> .inr (a.none z)
 tp:=b.tp
theorem DM.lay {T:Addr->Prop} {H:Hp} {p:Addr} {o:HO} (h:∀a,T a->EQ H a) (hp:H p=Option.none):DM T H T (upd H p o) where
 keep:=λb u _ e=>by rw [Ag (Ao e hp)];exact e
 sub:=λ_ t=>t
 new:=λ_ t=> .inl t
 tp:=λa t=>by
  obtain ⟨d,x,e,z⟩:=h a t
  exact ⟨d,x,by rw [Ag (Ao e hp)];exact e,z⟩
theorem DM.mv {K:PySem.W.Frag} {T T' M:Addr->Prop} {H H':Hp} (s:DM T H T' H') (v:GP T M H):Mv K T M H T' M H' where
 va:=v
 keep:=λb o t _ e=>s.keep b o t e
 sub:=s.sub
 tn:=λb n t=>(s.new b t).elim id λz=>absurd z n
 mn:=λ_ _ z=>z
theorem GP.stp {T T' M:Addr->Prop} {H H':Hp} (v:GP T M H) (s:DM T H T' H') (d:∀a,M a->¬T a):GP T' M H':=
 ⟨s.tp,λa m=>let ⟨o,e,q⟩:=v.mu a m;⟨o,s.keep a o (d a m) e,q⟩⟩
theorem CB.stp {K:PySem.W.Frag} {T T' M:Addr->Prop} {H H':Hp} {v:V} {x:PV} (r:CB K T M H v x) (s:DM T H T' H') (va:GP T M H):CB K T' M H' v x:=r.mv (s.mv va)
theorem Az.stp {K:PySem.W.Frag} {T T' M:Addr->Prop} {H H':Hp} {v:List V} {x:List PV} (r:Az K T M H v x) (s:DM T H T' H') (va:GP T M H):Az K T' M H' v x:=r.mv (s.mv va)
theorem Mv.anti {K:PySem.W.Frag} {T M M':Addr->Prop} {H:Hp} (v:GP T M H) (h:∀a,M' a->M a):Mv K T M H T M' H:=⟨v,λ_ _ _ _ e=>e,λ_ t=>t,λ_ _ t=>t,λb _ t=>h b t⟩
inductive AV where
 | val (x:PV)
 | own (xs:List PV)
abbrev BB:=List (Option AV)
structure Ch where
 T:Addr->Prop
 H:Hp
 M:Addr->Prop
def Ch.add (B:Ch) (p:Addr):Ch:=⟨B.T,B.H,λa=>B.M a\/a=p⟩
def Cr (σ:L2.St) (τ:BB) (p:Addr):Prop:=∃(i:Nat) (xs:List PV),τ[i]? =some (some (.own xs))/\σ[i]? =some (some (.ref p))
def mt (B:Ch) (σ:L2.St) (τ:BB) (p:Addr):Prop:=B.M p\/Cr σ τ p
structure SR (K:PySem.W.Frag) (B:Ch) (T:Addr->Prop) (H:Hp) (σ:L2.St) (τ:BB):Prop where
 len:σ.length=τ.length
 val:∀(i:Nat) (x:PV),τ[i]? =some (some (.val x))->∃v,σ[i]? =some (some v)/\CB K T (mt B σ τ) H v x
 own:∀(i:Nat) (xs:List PV),τ[i]? =some (some (.own xs))->∃p vs,σ[i]? =some (some (.ref p))/\H p=some (.lst vs)/\Az K T (mt B σ τ) H vs xs/\B.H p=none/\¬T p/\¬B.M p
 dist:∀(i j:Nat) (xs ys:List PV) (p:Addr),τ[i]? =some (some (.own xs))->τ[j]? =some (some (.own ys))->σ[i]? =some (some (.ref p))->σ[j]? =some (some (.ref p))->i=j
 tp:∀a,T a->EQ H a
 bm:∀a,B.M a->∃o,H a=some o/\J4 o
 bt:∀a,B.M a->¬T a
 st:DM B.T B.H T H
section
variable {K:PySem.W.Frag} {B:Ch} {T T':Addr->Prop} {H H':Hp} {σ:L2.St} {τ:BB}
theorem SR.ownH (s:SR K B T H σ τ) {p:Addr} (o:Cr σ τ p):∃vs,H p=some (.lst vs)/\B.H p=none/\¬T p/\¬B.M p:=by
 obtain ⟨i,xs,h1,h2⟩:=o
 obtain ⟨q,vs,e,h,_,b,t,m⟩:=s.own i xs h1
 rw [h2] at e;cases e
 exact ⟨vs,h,b,t,m⟩
theorem SR.va (s:SR K B T H σ τ):GP T (mt B σ τ) H:=⟨s.tp,λa m=>m.elim (s.bm a) λo=>let ⟨vs,h,_⟩:=s.ownH o;⟨_,h,J4.lst⟩⟩
theorem SR.nt (s:SR K B T H σ τ) {a:Addr} (m:mt B σ τ a):¬T a:=m.elim (s.bt a) λo=>let ⟨_,_,_,t,_⟩:=s.ownH o;t
theorem SR.stp (s:SR K B T H σ τ) (p:DM T H T' H'):SR K B T' H' σ τ where
 len:=s.len
 val:=λi x e=>let ⟨v,h,r⟩:=s.val i x e;⟨v,h,r.stp p s.va⟩
 own:=λi xs e=>by
  obtain ⟨q,vs,e1,h,r,b,t,m⟩:=s.own i xs e
  exact ⟨q,vs,e1,p.keep _ _ t h,r.stp p s.va,b,(λz=>(p.new q z).elim t λn=>by rw [n] at h;cases h),m⟩
 dist:=s.dist
 tp:=p.tp
 bm:=λa m=>let ⟨o,e,q⟩:=s.bm a m;⟨o,p.keep a o (s.bt a m) e,q⟩
 bt:=λa m z=>by
  obtain ⟨o,e,_⟩:=s.bm a m
  exact (p.new a z).elim (s.bt a m) λn=>by rw [n] at e;cases e
 st:=s.st.trans p
theorem SR.add {p:Addr} {o:HO} (s:SR K B T H σ τ) (q:DM T H T' H') (hn:H p=none) (ho:H' p=some o) (hm:J4 o) (ht:¬T' p):SR K (B.add p) T' H' σ τ:=by
 have s':=s.stp q
 have mv:Mv K T (mt B σ τ) H T' (mt (B.add p) σ τ) H':=⟨s.va,λb o t _ e=>q.keep b o t e,q.sub,λb n t=>(q.new b t).elim id λz=>absurd z n,λb n z=>by
  rcases z with (z|z)|z
  ·exact .inl z
  ·subst z;exact absurd hn n
  ·exact .inr z⟩
 refine ⟨s.len,λi x e=> ?_,λi xs e=> ?_,s.dist,s'.tp,λa m=> ?_,λa m=> ?_,s'.st⟩
 ·obtain ⟨v,h,r⟩:=s.val i x e
  exact ⟨v,h,r.mv mv⟩
 ·obtain ⟨a,vs,e1,h,r,b,t,m⟩:=s.own i xs e
  obtain ⟨a',vs',e1',h',_,b',t',m'⟩:=s'.own i xs e
  rw [e1] at e1';cases e1'
  rw [q.keep _ _ t h] at h';cases h'
  refine ⟨a,vs,e1,q.keep _ _ t h,r.mv mv,b,t',λz=> ?_⟩
  rcases z with z|z
  ·exact m z
  ·subst z;rw [hn] at h;cases h
 ·rcases m with m|m
  ·exact s'.bm a m
  ·subst m;exact ⟨o,ho,hm⟩
 ·rcases m with m|m
  ·exact s'.bt a m
  ·subst m;exact ht
theorem SR.drop {p:Addr} (s:SR K (B.add p) T H σ τ):SR K B T H σ τ:=by
 have mv:Mv K T (mt (B.add p) σ τ) H T (mt B σ τ) H:= .anti s.va λa m=>m.elim (λz=> .inl (.inl z)) .inr
 refine ⟨s.len,λi x e=>let ⟨v,h,r⟩:=s.val i x e;⟨v,h,r.mv mv⟩,λi xs e=> ?_,s.dist,s.tp,λa m=>s.bm a (.inl m),λa m=>s.bt a (.inl m),s.st⟩
 obtain ⟨a,vs,e1,h,r,b,t,m⟩:=s.own i xs e
 exact ⟨a,vs,e1,h,r.mv mv,b,t,λz=>m (.inl z)⟩
end
def aq:Option AV->Option AV
 | some (.own xs)=>some (.val (.lst xs))
 | o=>o
def frz (τ:BB):BB:=τ.map aq
theorem U2 {τ:BB} {i:Nat}:(frz τ)[i]? =(τ[i]?).map aq:=by simp [frz]
theorem au {τ:BB} {i:Nat} {x:PV} (h:(frz τ)[i]? =some (some (.val x))):τ[i]? =some (some (.val x))\/∃xs,x= .lst xs/\τ[i]? =some (some (.own xs)):=by
 rw [U2] at h
 cases e:τ[i]? with
 | none=>rw [e] at h;cases h
 | some o=>
   rw [e] at h
   cases o with
   | none=>cases h
   | some a=>
     cases a with
     | val y=>cases h;exact .inl rfl
     | own xs=>cases h;exact .inr ⟨xs,rfl,rfl⟩
theorem Pk {τ:BB} {i:Nat} {xs:List PV}:(frz τ)[i]? ≠some (some (.own xs)):=by
 rw [U2]
 cases e:τ[i]? with
 | none=>exact λz=>nomatch z
 | some o=>
   cases o with
   | none=>exact λz=>nomatch z
   | some a=>cases a <;> exact λz=>nomatch z
theorem R1 {σ:L2.St} {τ:BB} {p:Addr}:¬Cr σ (frz τ) p:=λ⟨_,_,h,_⟩=>Pk h
section
variable {K:PySem.W.Frag} {B:Ch} {T T':Addr->Prop} {H H':Hp} {σ:L2.St} {τ:BB}
theorem SR.frz (s:SR K B T H σ τ):SR K B T H σ (frz τ):=by
 have mv:Mv K T (mt B σ τ) H T (mt B σ (PL.frz τ)) H:= .anti s.va λa m=>m.elim .inl λz=>absurd z R1
 refine ⟨by simp [PL.frz,s.len],λi x e=> ?_,λi xs e=>absurd e Pk,λi j xs ys p e=>absurd e Pk,s.tp,s.bm,s.bt,s.st⟩
 rcases au e with e'|⟨xs,e0,e'⟩
 ·obtain ⟨v,h,r⟩:=s.val i x e'
  exact ⟨v,h,r.mv mv⟩
 ·subst e0
  obtain ⟨p,vs,e1,h,r,b,t,m⟩:=s.own i xs e'
  exact ⟨.ref p,e1, .lst h t (λz=>z.elim m R1) (r.mv mv)⟩
end
mutual
def XU:PV->Bool
 | .lst _=>false
 | .tape=>false
 | .scr _=>false
 | .dct _=>false
 | .tup xs=>bi xs
 | _=>true
def bi:List PV->Bool
 | [] =>true
 | x::xs=>XU x&&bi xs
end
section
variable {K:PySem.W.Frag} {T M M':Addr->Prop} {H:Hp}
mutual
theorem CB.free:∀{v:V} {x:PV},XU x=true->CB K T M H v x->CB K T M' H v x
 | _,_,_, .non=> .non
 | _,_,_, .bl b=> .bl b
 | _,_,_, .int i=> .int i
 | _,_,_, .str x=> .str x
 | _,_,_, .ty n=> .ty n
 | _,_,n, .tup h r=> .tup h (Az.free (by rw [XU] at n;exact n) r)
 | _,_,n, .lst _ _ _ _=>by rw [XU] at n;cases n
 | _,_,n, .tape _=>by rw [XU] at n;cases n
 | _,_,n, .scr _=>by rw [XU] at n;cases n
 | _,_,n, .dct _ _ _=>by rw [XU] at n;cases n
theorem Az.free:∀{vs:List V} {xs:List PV},bi xs=true->Az K T M H vs xs->Az K T M' H vs xs
 | _,_,_, .nil=> .nil
 | _,_,n, .cons h t=>by
   rw [bi,Bool.and_eq_true] at n
   exact .cons (CB.free n.1 h) (Az.free n.2 t)
end
end
end PL
end
section
namespace PL
open PySem PySem.Spec PyProof.Rows L2
abbrev AE:=BB->(PV->Prop)->Prop
abbrev AT:=BB->(Bool->Prop)->Prop
abbrev AA:=BB->(List PV->Prop)->Prop
abbrev AF:=List PV->(PV->Prop)->Prop
def Qs:BB->Nat->Option AV
 | [],_=>none
 | x::_,0=>x
 | _::r,n+1=>Qs r n
theorem Mu:∀{τ:BB} {i:Nat} {a:AV},Qs τ i=some a->τ[i]? =some (some a)
 | [],_,_,h=>by simp [Qs] at h
 | x::_,0,_,h=>by simpa [Qs] using h
 | _::r,n+1,a,h=>by
   have:=Mu (τ:=r) (i:=n) (a:=a) (by simpa [Qs] using h)
   simpa using this
def Z9 (x:PV) (R:Int->Prop):Prop:=match x with | .int i=>R i|_=>False
def Wx (x y:PV) (R:Int->Int->Prop):Prop:=match x,y with | .int i, .int j=>R i j|_,_=>False
def cA (x:PV) (R:Bool->Prop):Prop:=match x with | .bl b=>R b|_=>False
def aA (o:Option PV) (R:PV->Prop):Prop:=match o with | some z=>R z|none=>False
theorem gN {o:Option PV} {R:PV->Prop} (h:aA o R):∃z,o=some z/\R z:=by
 cases o <;> first | exact ⟨_,rfl,h⟩|exact h.elim
def Qt (x:PV) (R:List PV->Prop):Prop:=match x with | .tup xs=>R xs | .lst xs=>R xs|_=>False
theorem QE {x:PV} {R:Int->Prop} (h:Z9 x R):∃i,x= .int i/\R i:=by
 cases x <;> first | exact ⟨_,rfl,h⟩|exact h.elim
theorem Lp {x y:PV} {R:Int->Int->Prop} (h:Wx x y R):∃i j,x= .int i/\y= .int j/\R i j:=by
 cases x <;> cases y <;> first | exact ⟨_,_,rfl,rfl,h⟩|exact h.elim
theorem QD {x:PV} {R:Bool->Prop} (h:cA x R):∃b,x= .bl b/\R b:=by
 cases x <;> first | exact ⟨_,rfl,h⟩|exact h.elim
theorem Hw {x:PV} {R:List PV->Prop} (h:Qt x R):∃xs,(x= .tup xs\/x= .lst xs)/\R xs:=by
 cases x <;> first | exact ⟨_, .inl rfl,h⟩|exact ⟨_, .inr rfl,h⟩|exact h.elim
theorem CB.toI {K:PySem.W.Frag} {T M:Addr->Prop} {H:Hp} {v:V} {i:Int} (r:CB K T M H v (.int i)):v= .int i:=by cases r;rfl
theorem CB.toB {K:PySem.W.Frag} {T M:Addr->Prop} {H:Hp} {v:V} {i:Bool} (r:CB K T M H v (.bl i)):v= .bl i:=by cases r;rfl
def Fj (K:PySem.W.Frag) (t:TE) (a:AE):Prop:=∀(B:Ch) (T:Addr->Prop) (σ:L2.St) (τ:BB) (H:Hp) (Q:VK) (AQ:PV->Prop),SR K B T H σ τ->a τ AQ->
 (∀v x T' H',DM T H T' H'->CB K T' (mt B σ τ) H' v x->AQ x->Q v H')->t σ H Q
def LO (K:PySem.W.Frag) (t:TT) (a:AT):Prop:=∀(B:Ch) (T:Addr->Prop) (σ:L2.St) (τ:BB) (H:Hp) (Q:Bool->Hp->Prop) (AQ:Bool->Prop),SR K B T H σ τ->a τ AQ->
 (∀b T' H',DM T H T' H'->AQ b->Q b H')->t σ H Q
def e6 (K:PySem.W.Frag) (t:TA) (a:AA):Prop:=∀(B:Ch) (T:Addr->Prop) (σ:L2.St) (τ:BB) (H:Hp) (Q:List V->Hp->Prop) (AQ:List PV->Prop),SR K B T H σ τ->a τ AQ->
 (∀vs xs T' H',DM T H T' H'->Az K T' (mt B σ τ) H' vs xs->AQ xs->Q vs H')->t σ H Q
def Xr (K:PySem.W.Frag) (t:TE) (a:AA):Prop:=∀(B:Ch) (T:Addr->Prop) (σ:L2.St) (τ:BB) (H:Hp) (Q:VK) (AQ:List PV->Prop),SR K B T H σ τ->a τ AQ->
 (∀p vs xs T' H',DM T H T' H'->SR K (B.add p) T' H' σ τ->H p=none->H' p=some (.lst vs)->¬T' p->Az K T' (mt (B.add p) σ τ) H' vs xs->AQ xs->Q (.ref p) H')->t σ H Q
def SE (X:Cx) (e:Expr) (a:AE):Prop:=∃t,PE X e t/\Fj X.K t a
def RG (X:Cx) (e:Expr) (a:AT):Prop:=∃t,PT X e t/\LO X.K t a
def SW (X:Cx) (e:Expr) (a:AT):Prop:=∃t,PW X e t/\LO X.K t a
def SA (X:Cx) (es:List Expr) (a:AA):Prop:=∃t,PA X es t/\e6 X.K t a
def SF (X:Cx) (e:Expr) (a:AA):Prop:=∃t,PE X e t/\Xr X.K t a
abbrev II:=PV->PV->(PV->Prop)->Prop
def B6 (K:PySem.W.Frag) (r:R2) (f:II):Prop:=∀(T M:Addr->Prop) (H:Hp) (u v:V) (x y:PV) (Q:VK) (AQ:PV->Prop),GP T M H->CB K T M H u x->CB K T M H v y->f x y AQ->
 (∀w z T' H',DM T H T' H'->CB K T' M H' w z->AQ z->Q w H')->r u v H Q
def FS (K:PySem.W.Frag) (r:List V->Hp->VK->Prop) (f:AF):Prop:=∀(T M:Addr->Prop) (H:Hp) (us:List V) (xs:List PV) (Q:VK) (AQ:PV->Prop),GP T M H->Az K T M H us xs->f xs AQ->
 (∀w z T' H',DM T H T' H'->CB K T' M H' w z->AQ z->Q w H')->r us H Q
section
variable {X:Cx} {a b c:Expr} {es:List Expr} {pos:Pos} {ta tb:AE} {tA tB':AT}
def aV (i:Nat):AE:=λτ Q=>match Qs τ i with | some (.val x)=>Q x|_=>False
theorem jH {i:Nat} {τ:BB} {Q:PV->Prop} (h:aV i τ Q):∃x,τ[i]? =some (some (.val x))/\Q x:=by
 unfold aV at h
 cases e:Qs τ i with
 | none=>rw [e] at h;exact h.elim
 | some z=>
   rw [e] at h
   cases z with
   | own xs=>exact h.elim
   | val x=>exact ⟨x,Mu e,h⟩
theorem AJ (i:Nat) {x:Str} {pos:Pos} (hN:X.N[i]? =some x:=by rfl) (hv:e8 X.env.scope x:=by first | exact Or.inl rfl|exact Or.inr (Or.inl rfl)|exact Or.inr (Or.inr rfl)) (hd:(x==("__debug__" :Str))=false:=by decide)
 (Lj:(x==("__classdict__" :Str))=false:=by decide):SE X (.Name x pos) (aV i):=by
 refine ⟨_,QH hN hv hd Lj,λB T σ τ H Q AQ s h k=> ?_⟩
 obtain ⟨x,e,q⟩:=jH h
 obtain ⟨v,e1,r⟩:=s.val i x e
 exact ⟨v,e1,k v x T H (.refl s.tp) r q⟩
def aC (x:PV):AE:=λ_ Q=>Q x
theorem Vi {v:V} {x:PV} (h:∀T M H,CB X.K T M H v x):Fj X.K (tC v) (aC x):=λB T σ τ H Q AQ s h' k=>k v x T H (.refl s.tp) (h _ _ _) h'
theorem AH {i:Int} {j pos}:SE X (.Constant (.int i) j pos) (aC (.int i)):=⟨_,BA,Vi λ_ _ _=> .int i⟩
theorem GH {i:Bool} {j pos}:SE X (.Constant (.bool i) j pos) (aC (.bl i)):=⟨_,j6,Vi λ_ _ _=> .bl i⟩
theorem Dg {j pos}:SE X (.Constant .none j pos) (aC .non):=⟨_,Y3,Vi λ_ _ _=> .non⟩
theorem K7 {x:Str} {n:String} {u:Value} {pos:Pos} (hg:Gl X x) (hm:X.mg x=none) (hv:bootBuiltins x=some u) (r:RelV (.ty n) u) (hn:x≠"__name__" :=by decide) (hd:(x==("__debug__" :Str))=false:=by decide):SE X (.Name x pos) (aC (.ty n)):=
 ⟨_,cH (v:= .ty n) hg hm hv r hn hd,Vi λ_ _ _=> .ty n⟩
def AY (f:II) (ta tb:AE):AE:=λτ Q=>ta τ λx=>tb τ λy=>f x y Q
theorem Qf {r:R2} {f:II} {t u:TE} (hr:B6 X.K r f) (ha:Fj X.K t ta) (hb:Fj X.K u tb):Fj X.K (dC r t u) (AY f ta tb):=by
 intro B T σ τ H Q AQ s h k
 refine ha B T σ τ H _ _ s h λv x T1 H1 s1 r1 h1=> ?_
 refine hb B T1 σ τ H1 _ _ (s.stp s1) h1 λw y T2 H2 s2 r2 h2=> ?_
 have s':=(s.stp s1).stp s2
 exact hr T2 _ H2 v w x y Q AQ s'.va (r1.stp s2 (s.stp s1).va) r2 h2 λw z T3 H3 s3 r3 q=>k w z T3 H3 ((s1.trans s2).trans s3) r3 q
theorem Ab {op:Operator} {r:R2} {f:II} (ho:EB X (binaryOp op) r/\B6 X.K r f) (ha:SE X a ta) (hb:SE X b tb):SE X (.BinOp a op b pos) (AY f ta tb):=
 let ⟨_,p,s⟩:=ha;let ⟨_,p',s'⟩:=hb;⟨_,B9 ho.1 p p',Qf ho.2 s s'⟩
theorem F0 {op:CmpOp} {r:R2} {f:II} (ho:EB X (compareOp op) r/\B6 X.K r f) (ha:SE X a ta) (hb:SE X b tb) (hm:behindInMarks op b=false):SE X (.Compare a [op] [b] pos) (AY f ta tb):=
 let ⟨_,p,s⟩:=ha;let ⟨_,p',s'⟩:=hb;⟨_,VP ho.1 p p' hm,Qf ho.2 s s'⟩
theorem kX {r:R2} {f:II} (ho:aQ X r/\B6 X.K r f) (ha:SE X a ta) (hb:SE X b tb) (hs:Pa b):SE X (.Subscript a b pos) (AY f ta tb):=
 let ⟨_,p,s⟩:=ha;let ⟨_,p',s'⟩:=hb;⟨_,Kz ho.1 p p' hs,Qf ho.2 s s'⟩
def fI (g:Int->Int->PV):II:=λx y Q=>Wx x y λi j=>Q (g i j)
def jM (C:Int->Int->Prop) (g:Int->Int->PV):II:=λx y Q=>Wx x y λi j=>C i j/\Q (g i j)
theorem Vh {g:Int->Int->V} {g':Int->Int->PV} (hg:∀i j T M H,CB X.K T M H (g i j) (g' i j)):B6 X.K (Oe g) (fI g'):=by
 intro T M H u v x y Q AQ va ru rv h k
 obtain ⟨i,j,rfl,rfl,q⟩:=Lp h
 exact ⟨i,j,ru.toI,rv.toI,k _ _ T H (.refl va.tp) (hg i j T M H) q⟩
theorem UQ {C:Int->Int->Prop} {g:Int->Int->V} {g':Int->Int->PV} (hg:∀i j T M H,CB X.K T M H (g i j) (g' i j)):B6 X.K (rI C g) (jM C g'):=by
 intro T M H u v x y Q AQ va ru rv h k
 obtain ⟨i,j,rfl,rfl,c,q⟩:=Lp h
 exact ⟨i,j,ru.toI,rv.toI,c,k _ _ T H (.refl va.tp) (hg i j T M H) q⟩
abbrev jL:II:=fI λi j=> .int (i+j)
abbrev Fn:II:=fI λi j=> .int (i-j)
abbrev Z7:II:=fI λi j=> .bl (decide (i<j))
abbrev iS:II:=fI λi j=> .bl (decide (j<i))
abbrev iR:II:=fI λi j=> .bl (decide (j<=i))
theorem CO:EB X (binaryOp .Sub) (Oe λi j=> .int (i-j))/\B6 X.K (Oe λi j=> .int (i-j)) Fn:=⟨UE,Vh λi j _ _ _=> .int _⟩
theorem HZ:EB X (compareOp .Lt) (Oe λi j=> .bl (decide (i<j)))/\B6 X.K (Oe λi j=> .bl (decide (i<j))) Z7:=⟨dw,Vh λi j _ _ _=> .bl _⟩
theorem Vm:EB X (compareOp .Gt) (Oe λi j=> .bl (decide (j<i)))/\B6 X.K (Oe λi j=> .bl (decide (j<i))) iS:=⟨dt,Vh λi j _ _ _=> .bl _⟩
theorem SY:EB X (compareOp .GtE) (Oe λi j=> .bl (decide (j<=i)))/\B6 X.K (Oe λi j=> .bl (decide (j<=i))) iR:=⟨dn,Vh λi j _ _ _=> .bl _⟩
structure MulOk (i j:Int):Prop where
 l:i.natAbs<2^1000000
 r:j.natAbs<2^1000000
theorem cE:EB X (binaryOp .Mult) (rI MulOk λi j=> .int (i*j)):=gP λ_ _ _ _ _ _ _ hc q=>mul_int q (.of_le (G1 hc.l) (G1 hc.r) (by decide))
abbrev DH:II:=jM MulOk λi j=> .int (i*j)
theorem BN:EB X (binaryOp .Mult) (rI MulOk λi j=> .int (i*j))/\B6 X.K (rI MulOk λi j=> .int (i*j)) DH:=⟨cE,UQ λi j _ _ _=> .int _⟩
structure RD (i j:Int):Prop where
 ne:j≠0
 lt:j.natAbs<2^8900
theorem Yx:EB X (binaryOp .FloorDiv) (rI RD λi j=> .int (i.fdiv j)):=gP λi j _ _ _ _ _ hc q=>
 floordiv_int hc.ne q (.inl (PyProof.noPylong_of_log2 (Nat.lt_trans (Iy hc.lt (by decide)) (by decide))))
abbrev Pi:II:=jM RD λi j=> .int (i.fdiv j)
theorem Ez:EB X (binaryOp .FloorDiv) (rI RD λi j=> .int (i.fdiv j))/\B6 X.K (rI RD λi j=> .int (i.fdiv j)) Pi:=⟨Yx,UQ λi j _ _ _=> .int _⟩
abbrev YF:II:=jM (λ_ j=>j≠0) λi j=> .int (i.fmod j)
theorem Zh:EB X (binaryOp .Mod) (rI (λ_ j=>j≠0) λi j=> .int (i.fmod j))/\B6 X.K (rI (λ_ j=>j≠0) λi j=> .int (i.fmod j)) YF:=⟨cD,UQ λi j _ _ _=> .int _⟩
def lT:PV->Bool | .non=>true|_=>false
def TR:II:=λx y Q=>match y with | .non=>Q (.bl (lT x))|_=>False
def RT:II:=λx y Q=>match y with | .non=>Q (.bl (!lT x))|_=>False
theorem VE {K:PySem.W.Frag} {T M:Addr->Prop} {H:Hp} {v:V} {x:PV} (r:CB K T M H v x):decide (v= .non)=lT x:=by cases r <;> simp [lT]
theorem UR:EB X (compareOp .Is) (λx y H Q=>y= .non/\Q (.bl (decide (x= .non))) H)/\B6 X.K (λx y H Q=>y= .non/\Q (.bl (decide (x= .non))) H) TR:=by
 refine ⟨gS,λT M H u v x y Q AQ va ru rv h k=> ?_⟩
 cases y <;> first | exact h.elim|skip
 cases rv
 refine ⟨rfl, ?_⟩
 rw [VE ru]
 exact k _ _ T H (.refl va.tp) (.bl _) h
theorem Vn:EB X (compareOp .IsNot) (λx y H Q=>y= .non/\Q (.bl (!decide (x= .non))) H)/\B6 X.K (λx y H Q=>y= .non/\Q (.bl (!decide (x= .non))) H) RT:=by
 refine ⟨VN,λT M H u v x y Q AQ va ru rv h k=> ?_⟩
 cases y <;> first | exact h.elim|skip
 cases rv
 refine ⟨rfl, ?_⟩
 rw [VE ru]
 exact k _ _ T H (.refl va.tp) (.bl _) h
def Ap:II:=λx y Q=>Qt x λxs=>Z9 y λi=>aA (IJ xs i) Q
theorem Uo {K:PySem.W.Frag} {T M:Addr->Prop} {H:Hp} {vs:List V} {xs:List PV} {i:Int} {z:PV} (r:Az K T M H vs xs) (h:IJ xs i=some z):∃v,IJ vs i=some v/\CB K T M H v z:=by
 unfold IJ at h ⊢
 rw [r.length]
 cases e:Rn xs.length i with
 | none=>rw [e] at h;cases h
 | some j=>
   rw [e] at h
   exact r.get h
def kE (K:PySem.W.Frag):R2:=λx y H Q=>kD K x y H Q\/kF K x y H Q
theorem kb:aQ X (kE X.K)/\B6 X.K (kE X.K) Ap:=by
 refine ⟨Ej.or fo,λT M H u v x y Q AQ va ru rv h k=> ?_⟩
 obtain ⟨xs,hx,h1⟩:=Hw h
 obtain ⟨i,rfl,h2⟩:=QE h1
 cases rv.toI
 obtain ⟨z,e,q⟩:=gN h2
 rcases hx with rfl|rfl
 ·cases ru with
  | tup hq r=>
    obtain ⟨w,ew,rw'⟩:=Uo r e
    exact .inr ⟨_,_,i,w,rfl,rfl,hq.sq,ew,k w z T H (.refl va.tp) rw' q⟩
 ·cases ru with
  | lst hq t m r=>
    obtain ⟨w,ew,rw'⟩:=Uo r e
    exact .inl ⟨_,_,i,w,rfl,rfl, .inl (.inl hq),ew,k w z T H (.refl va.tp) rw' q⟩
def Sk (f:PV->(PV->Prop)->Prop) (ta:AE):AE:=λτ Q=>ta τ λx=>f x Q
def KE (x:PV) (Q:PV->Prop):Prop:=Z9 x λi=>Q (.int (-i))
theorem EX (ha:SE X a ta):SE X (.UnaryOp .USub a pos) (Sk KE ta):=by
 obtain ⟨t,p,s⟩:=ha
 refine ⟨_,j9 iF p,λB T σ τ H Q AQ sr h k=>s B T σ τ H _ _ sr h λv x T1 H1 s1 r1 h1=> ?_⟩
 obtain ⟨i,rfl,q⟩:=QE h1
 exact ⟨i,r1.toI,k _ _ T1 H1 s1 (.int _) q⟩
def ap (x:PV) (Q:PV->Prop):Prop:=cA x λi=>Q (.bl (!i))
theorem ZV (ha:SE X a ta):SE X (.UnaryOp .Not a pos) (Sk ap ta):=by
 obtain ⟨t,p,s⟩:=ha
 refine ⟨_,gZ p,λB T σ τ H Q AQ sr h k=>s B T σ τ H _ _ sr h λv x T1 H1 s1 r1 h1=> ?_⟩
 obtain ⟨i,rfl,q⟩:=QD h1
 exact ⟨i,r1.toB,k _ _ T1 H1 s1 (.bl _) q⟩
def S4 (ta tb:AE):AE:=λτ Q=>ta τ λx=>cA x λc=>if c=true then tb τ Q else Q (.bl false)
def mN (ta tb:AE):AE:=λτ Q=>ta τ λx=>cA x λc=>if c=true then Q (.bl true) else tb τ Q
theorem NM {op} (h:SE X a ta):SE X (.BoolOp op [a] pos) ta:=let ⟨_,p,s⟩:=h;⟨_,ga p,s⟩
theorem NK {rest:List Expr} (ha:SE X a ta) (hb:SE X (.BoolOp .And (b::rest) pos) tb):SE X (.BoolOp .And (a::b::rest) pos) (S4 ta tb):=by
 obtain ⟨t,p,s⟩:=ha
 obtain ⟨t',p',s'⟩:=hb
 refine ⟨_,gX p p',λB T σ τ H Q AQ sr h k=>s B T σ τ H _ _ sr h λv x T1 H1 s1 r1 h1=> ?_⟩
 obtain ⟨i,rfl,q⟩:=QD h1
 refine ⟨i,r1.toB, ?_⟩
 cases i with
 | true=>rw [if_pos rfl] at q ⊢;exact s' B T1 σ τ H1 _ _ (sr.stp s1) q λw y T2 H2 s2 r2 h2=>k w y T2 H2 (s1.trans s2) r2 h2
 | false=>rw [if_neg Bool.false_ne_true] at q ⊢;exact k _ _ T1 H1 s1 (.bl _) q
theorem kY {rest:List Expr} (ha:SE X a ta) (hb:SE X (.BoolOp .Or (b::rest) pos) tb):SE X (.BoolOp .Or (a::b::rest) pos) (mN ta tb):=by
 obtain ⟨t,p,s⟩:=ha
 obtain ⟨t',p',s'⟩:=hb
 refine ⟨_,j8 p p',λB T σ τ H Q AQ sr h k=>s B T σ τ H _ _ sr h λv x T1 H1 s1 r1 h1=> ?_⟩
 obtain ⟨i,rfl,q⟩:=QD h1
 refine ⟨i,r1.toB, ?_⟩
 cases i with
 | false=>rw [if_neg Bool.false_ne_true] at q ⊢;exact s' B T1 σ τ H1 _ _ (sr.stp s1) q λw y T2 H2 s2 r2 h2=>k w y T2 H2 (s1.trans s2) r2 h2
 | true=>rw [if_pos rfl] at q ⊢;exact k _ _ T1 H1 s1 (.bl _) q
def A1 (ta:AE):AT:=λτ Q=>ta τ λx=>cA x Q
theorem Qg {t:TE} (s:Fj X.K t ta):LO X.K (Zv t) (A1 ta):=λB T σ τ H Q AQ sr h k=>s B T σ τ H _ _ sr h λv x T1 H1 s1 r1 h1=>by
 obtain ⟨i,rfl,q⟩:=QD h1
 exact ⟨i,r1.toB,k _ T1 H1 s1 q⟩
theorem Zq {op:CmpOp} {r:R2} {f:II} (ho:EB X (compareOp op) r/\B6 X.K r f) (ha:SE X a ta) (hb:SE X b tb) (hm:behindInMarks op b=false):RG X (.Compare a [op] [b] pos) (A1 (AY f ta tb)):=
 let ⟨_,p,s⟩:=ha;let ⟨_,p',s'⟩:=hb;⟨_,Lr ho.1 p p' hm,Qg (Qf ho.2 s s')⟩
theorem Ba {e:Expr} (h:SE X e ta) (he:∀whole,isTrue e X.env whole=(do let v <-whole;standAt e.pos;holding [v] (truthy v)):=by intro _;rfl):RG X e (A1 ta):=
 let ⟨_,p,s⟩:=h;⟨_,gh p he,Qg s⟩
def Ef (t:AT):AT:=λτ Q=>t τ λc=>Q (!c)
def Ko (t u:AT):AT:=λτ Q=>t τ λc=>if c=true then u τ Q else Q false
def Pb (t u:AT):AT:=λτ Q=>t τ λc=>if c=true then Q true else u τ Q
theorem D6 (ha:RG X a tA):RG X (.UnaryOp .Not a pos) (Ef tA):=by
 obtain ⟨t,p,s⟩:=ha
 exact ⟨_,gg p,λB T σ τ H Q AQ sr h k=>s B T σ τ H _ _ sr h λv T1 H1 s1 h1=>k _ T1 H1 s1 h1⟩
theorem Jd (ha:RG X a tA):SW X (.BoolOp .And [a] pos) tA:=let ⟨_,p,s⟩:=ha;⟨_,cV p,s⟩
theorem IE (ha:RG X a tA):SW X (.BoolOp .Or [a] pos) tA:=let ⟨_,p,s⟩:=ha;⟨_,gj p,s⟩
theorem Nb {rest:List Expr} (ha:RG X a tA) (hb:SW X (.BoolOp .And (b::rest) pos) tB'):SW X (.BoolOp .And (a::b::rest) pos) (Ko tA tB'):=by
 obtain ⟨t,p,s⟩:=ha
 obtain ⟨t',p',s'⟩:=hb
 refine ⟨_,gi p p',λB T σ τ H Q AQ sr h k=>s B T σ τ H _ _ sr h λi T1 H1 s1 q=> ?_⟩
 cases i with
 | true=>rw [if_pos rfl] at q ⊢;exact s' B T1 σ τ H1 _ _ (sr.stp s1) q λb T2 H2 s2 h2=>k b T2 H2 (s1.trans s2) h2
 | false=>rw [if_neg Bool.false_ne_true] at q ⊢;exact k _ T1 H1 s1 q
theorem Nc {rest:List Expr} (ha:RG X a tA) (hb:SW X (.BoolOp .Or (b::rest) pos) tB'):SW X (.BoolOp .Or (a::b::rest) pos) (Pb tA tB'):=by
 obtain ⟨t,p,s⟩:=ha
 obtain ⟨t',p',s'⟩:=hb
 refine ⟨_,kA p p',λB T σ τ H Q AQ sr h k=>s B T σ τ H _ _ sr h λi T1 H1 s1 q=> ?_⟩
 cases i with
 | false=>rw [if_neg Bool.false_ne_true] at q ⊢;exact s' B T1 σ τ H1 _ _ (sr.stp s1) q λb T2 H2 s2 h2=>k b T2 H2 (s1.trans s2) h2
 | true=>rw [if_pos rfl] at q ⊢;exact k _ T1 H1 s1 q
theorem Lb (h:SW X a tA):RG X a tA:=let ⟨_,p,s⟩:=h;⟨_,p.pt,s⟩
def iO (t:AT) (ta tb:AE):AE:=λτ Q=>t τ λc=>if c=true then ta τ Q else tb τ Q
theorem Ve (hc:RG X c tA) (ha:SE X a ta) (hb:SE X b tb):SE X (.IfExp c a b pos) (iO tA ta tb):=by
 obtain ⟨t,p,s⟩:=hc
 obtain ⟨t1,p1,s1'⟩:=ha
 obtain ⟨t2,p2,s2'⟩:=hb
 refine ⟨_,Y1 p p1 p2,λB T σ τ H Q AQ sr h k=>s B T σ τ H _ _ sr h λi T1 H1 s1 q=> ?_⟩
 cases i with
 | true=>rw [if_pos rfl] at q ⊢;exact s1' B T1 σ τ H1 _ _ (sr.stp s1) q λw y T2 H2 s2 r2 h2=>k w y T2 H2 (s1.trans s2) r2 h2
 | false=>rw [if_neg Bool.false_ne_true] at q ⊢;exact s2' B T1 σ τ H1 _ _ (sr.stp s1) q λw y T2 H2 s2 r2 h2=>k w y T2 H2 (s1.trans s2) r2 h2
def AL:AA:=λ_ Q=>Q []
def AB (ta:AE) (r:AA):AA:=λτ Q=>ta τ λx=>r τ λxs=>Q (x::xs)
theorem FA:SA X [] AL:=⟨_,E7,λB T σ τ H Q AQ sr h k=>k [] [] T H (.refl sr.tp) .nil h⟩
theorem C1 {e:Expr} {r:AA} (ha:SE X e ta) (hr:SA X es r) (hs:starEach (e::es) X.env=(false,eval e X.env)::starEach es X.env:=by rfl):SA X (e::es) (AB ta r):=by
 obtain ⟨t,p,s⟩:=ha
 obtain ⟨t',p',s'⟩:=hr
 refine ⟨_,CC p p' hs,λB T σ τ H Q AQ sr h k=>s B T σ τ H _ _ sr h λv x T1 H1 s1 r1 h1=> ?_⟩
 exact s' B T1 σ τ H1 _ _ (sr.stp s1) h1 λvs xs T2 H2 s2 r2 h2=>k _ _ T2 H2 (s1.trans s2) (.cons (r1.stp s2 (sr.stp s1).va) r2) h2
def BG (r:AA):AE:=λτ Q=>r τ λxs=>xs.length<=sizeLine/\Q (.tup xs)
theorem Af {x1} {r:AA} (h:SA X es r):SE X (.Tuple es x1 pos) (BG r):=by
 obtain ⟨t,p,s⟩:=h
 refine ⟨_,M5 p,λB T σ τ H Q AQ sr h k=>s B T σ τ H _ _ sr h λvs xs T1 H1 s1 r1 h1=>⟨by rw [r1.length];exact h1.1,λq hq=> ?_⟩⟩
 have l:=DM.lay (o:= .tup vs) (sr.stp s1).tp hq
 exact k _ _ T1 _ (s1.trans l) (.tup (.inl Ah) (r1.stp l (sr.stp s1).va)) h1.2
def Dx (r:AA):AA:=λτ Q=>r τ λxs=>xs.length<=sizeLine/\Q xs
theorem Px {K:PySem.W.Frag} {B:Ch} {T:Addr->Prop} {H:Hp} {σ:L2.St} {τ:BB} {p:Addr} {vs:List V} {xs:List PV} (sr:SR K B T H σ τ) (hq:H p=none) (r:Az K T (mt B σ τ) H vs xs):
 DM T H T (upd H p (.lst vs))/\SR K (B.add p) T (upd H p (.lst vs)) σ τ/\¬T p/\Az K T (mt (B.add p) σ τ) (upd H p (.lst vs)) vs xs:=by
 have l:=DM.lay (o:= .lst vs) sr.tp hq
 have nt:¬T p:=λz=>by obtain ⟨o,e,_⟩:=(sr.tp p z).mut;rw [hq] at e;cases e
 refine ⟨l,sr.add l hq Ah J4.lst nt,nt,r.mv ⟨sr.va,λb o t _ e=>l.keep b o t e,l.sub,λb n t=>t,λb n z=> ?_⟩⟩
 rcases z with (z|z)|z
 ·exact .inl z
 ·subst z;exact absurd hq n
 ·exact .inr z
theorem Be {r:AA} (h:SA X es r):SF X (.List es pos) (Dx r):=by
 obtain ⟨t,p,s⟩:=h
 refine ⟨_,Y2 p,λB T σ τ H Q AQ sr h k=>s B T σ τ H _ _ sr h λvs xs T1 H1 s1 r1 h1=>⟨by rw [r1.length];exact h1.1,λq hq=> ?_⟩⟩
 obtain ⟨l,sr2,nt,r2⟩:=Px (sr.stp s1) hq r1
 exact k q vs xs T1 _ (s1.trans l) sr2 (s1.none hq) Ah nt r2 h1.2
def GQ (r:AA):AE:=λτ Q=>r τ λxs=>Q (.lst xs)
theorem Zb {t:TE} {r:AA} (s:Xr X.K t r):Fj X.K t (GQ r):=λB T σ τ H Q AQ sr h k=>s B T σ τ H _ _ sr h λp vs xs T1 H1 s1 sr1 hn hp nt r1 h1=>by
 have ho:¬Cr σ τ p:=λo=>by obtain ⟨_,e,_⟩:=sr.ownH o;rw [hn] at e;cases e
 have hb:¬B.M p:=λo=>by obtain ⟨_,e,_⟩:=sr.bm p o;rw [hn] at e;cases e
 exact k _ _ T1 H1 s1 (.lst hp nt (λz=>z.elim hb ho) (r1.mv (.anti sr1.va λa m=>m.elim (λz=> .inl (.inl z)) .inr))) h1
theorem C7 {r:AA} (h:SF X a r):SE X a (GQ r):=let ⟨_,p,s⟩:=h;⟨_,p,Zb s⟩
def BQ (K:PySem.W.Frag) (n:Nat) (F:AF):Sp:=λvs H Q _=>∃(T M:Addr->Prop) (xs:List PV) (AQ:PV->Prop),GP T M H/\(∀a,M a->¬T a)/\Az K T M H vs xs/\xs.length=n/\F xs AQ/\
 ∀v x T' H',DM T H T' H'->CB K T' M H' v x->AQ x->Q v H'
def AN (n:Nat) (F:AF) (r:AA):AE:=λτ Q=>r τ λxs=>xs.length=n/\F xs Q
theorem AK {x:Str} {p:Pos} {e:Expr} {k n:Nat} {ps:List Str} {F:AF} {r:AA} (D:Has X.prog X.w X.K X.mg X.base k x ps (BQ X.K n F)) (hr:Room k X.A) (hg:Gl X x) (ha:SA X (e::es) r)
 (hs:starEach (e::es) X.env=(false,eval e X.env)::starEach es X.env:=by rfl) (hpl:(backTo pos (starEach es X.env)).any (·.1)=false:=by rfl) (hd:(x==("__debug__" :Str))=false:=by decide):
 SE X (.Call (.Name x p) (e::es) [] pos) (AN n F r):=by
 obtain ⟨t,pa,s⟩:=ha
 refine ⟨_,gY D hr hg pa hs hpl hd,λB T σ τ H Q AQ sr h k=>s B T σ τ H _ _ sr h λvs xs T1 H1 s1 r1 h1=> ?_⟩
 rw [List.append_nil]
 exact ⟨T1,_,xs,AQ,(sr.stp s1).va,λa m=>(sr.stp s1).nt m,r1,h1.1,h1.2,λv x T2 H2 s2 r2 q=>k v x T2 H2 (s1.trans s2) r2 q⟩
def Ea (f:AF) (r:AA):AE:=λτ Q=>r τ λxs=>f xs Q
theorem Za {rr:List V->Hp->VK->Prop} {f:AF} {t:TA} {r:AA} (hr:FS X.K rr f) (s:e6 X.K t r):Fj X.K (nY rr t) (Ea f r):=λB T σ τ H Q AQ sr h k=>s B T σ τ H _ _ sr h λvs xs T1 H1 s1 r1 h1=>
 hr T1 _ H1 vs xs Q AQ (sr.stp s1).va r1 h1 λw z T2 H2 s2 r2 q=>k w z T2 H2 (s1.trans s2) r2 q
theorem As {id:String} {x:Str} {p:Pos} {e:Expr} {rr:List V->Hp->VK->Prop} {f:AF} {r:AA} (hc:B4 X (.builtin id) rr/\FS X.K rr f) (hg:Gl X x) (hm:X.mg x=none) (hv:bootBuiltins x=some (.builtin id)) (ha:SA X (e::es) r)
 (hn:x≠"__name__" :=by decide) (hdb:(x==("__debug__" :Str))=false:=by decide) (he:starEach (e::es) X.env=(false,eval e X.env)::starEach es X.env:=by rfl) (hpl:(backTo pos (starEach es X.env)).any (·.1)=false:=by rfl):
 SE X (.Call (.Name x p) (e::es) [] pos) (Ea f r):=by
 obtain ⟨t,pa,s⟩:=ha
 exact ⟨_,JA hc.1 hg hm hv pa hn hdb he hpl,Za hc.2 s⟩
theorem Bg {T:String} {x:Str} {p:Pos} {e:Expr} {rr:List V->Hp->VK->Prop} {f:AF} {r:AA} (hc:B4 X (.type T) rr/\FS X.K rr f) (hg:Gl X x) (hm:X.mg x=none) (hv:bootBuiltins x=some (.type T)) (ha:SA X (e::es) r)
 (hn:x≠"__name__" :=by decide) (hdb:(x==("__debug__" :Str))=false:=by decide) (he:starEach (e::es) X.env=(false,eval e X.env)::starEach es X.env:=by rfl) (hpl:(backTo pos (starEach es X.env)).any (·.1)=false:=by rfl):
 SE X (.Call (.Name x p) (e::es) [] pos) (Ea f r):=by
 obtain ⟨t,pa,s⟩:=ha
 exact ⟨_,G6 hc.1 hg hm hv pa hn hdb he hpl,Za hc.2 s⟩
end
end PL
end
section
namespace PL
open PySem PySem.Spec PyProof.Rows L2
section
variable {X:Cx}
theorem Cj {K:PySem.W.Frag} {T M:Addr->Prop} {H:Hp} {v:V} {xs:List PV} (r:CB K T M H v (.tup xs)):∃a vs,v= .ref a/\J6 K H a vs/\Az K T M H vs xs:=by
 cases r with
 | tup h r=>exact ⟨_,_,rfl,h.sq,r⟩
theorem Zk {K:PySem.W.Frag} {T M:Addr->Prop} {H:Hp} {v:V} {xs:List PV} (r:CB K T M H v (.tup xs)):∃a vs,v= .ref a/\lJ K H a vs/\Az K T M H vs xs:=by
 cases r with
 | tup h r=>exact ⟨_,_,rfl,h,r⟩
theorem DS {K:PySem.W.Frag} {T M:Addr->Prop} {H:Hp} {v:V} {xs:List PV} (r:CB K T M H v (.lst xs)):∃a vs,v= .ref a/\H a=some (.lst vs)/\¬T a/\¬M a/\Az K T M H vs xs:=by
 cases r with
 | lst h t m r=>exact ⟨_,_,rfl,h,t,m,r⟩
theorem ZU {K:PySem.W.Frag} {T M:Addr->Prop} {H:Hp} {v:V} {ns:List Int} (r:CB K T M H v (.scr ns)):∃a,v= .ref a/\GC K H a (ns.map V.int):=by
 cases r with
 | scr h=>
   rcases h with ⟨h,_,_⟩|h
   ·exact ⟨_,rfl, .inl h⟩
   ·exact ⟨_,rfl,h H⟩
def FU:AF:=λxs Q=>match xs with | [.tup ys] =>Q (.int ys.length) | [.lst ys] =>Q (.int ys.length) | [.scr ns] =>Q (.int ns.length)|_=>False
def kH (K:PySem.W.Frag):List V->Hp->VK->Prop:=λxs H Q=>∃p ys,xs= [.ref p] /\(GC K H p ys\/J6 K H p ys)/\Q (.int ys.length) H
theorem D1:B4 X (.builtin "len") (kH X.K)/\FS X.K (kH X.K) FU:=by
 refine ⟨Ij,λT M H us xs Q AQ va r h k=> ?_⟩
 unfold FU at h
 split at h <;> first | exact h.elim|skip
 ·rename_i ys
  cases r with | cons r t=>cases t;obtain ⟨a,vs,rfl,hq,r⟩:=Cj r;refine ⟨a,vs,rfl, .inr hq, ?_⟩;rw [r.length];exact k _ _ T H (.refl va.tp) (.int _) h
 ·rename_i ys
  cases r with | cons r t=>cases t;obtain ⟨a,vs,rfl,hq,_,_,r⟩:=DS r;refine ⟨a,vs,rfl, .inl (.inl (.inl hq)), ?_⟩;rw [r.length];exact k _ _ T H (.refl va.tp) (.int _) h
 ·rename_i ns
  cases r with | cons r t=>cases t;obtain ⟨a,rfl,hq⟩:=ZU r;refine ⟨a,_,rfl, .inl hq, ?_⟩;rw [List.length_map];exact k _ _ T H (.refl va.tp) (.int _) h
def WJ:AF:=λxs Q=>match xs with | [.int i] =>Q (.int i.natAbs)|_=>False
theorem QV:B4 X (.builtin "abs") (λxs H Q=>∃i,xs= [.int i] /\Q (.int (if i<0 then -i else i)) H)/\FS X.K (λxs H Q=>∃i,xs= [.int i] /\Q (.int (if i<0 then -i else i)) H) WJ:=by
 refine ⟨Mc,λT M H us xs Q AQ va r h k=> ?_⟩
 unfold WJ at h
 split at h <;> first | exact h.elim|skip
 rename_i i
 cases r with
 | cons r t=>
   cases t
   cases r
   refine ⟨i,rfl, ?_⟩
   rw [show (if i<0 then -i else i)=(i.natAbs:Int) by split <;> omega]
   exact k _ _ T H (.refl va.tp) (.int _) h
def iT (g:Int->Int->Int):AF:=λxs Q=>match xs with | [.int i, .int j] =>Q (.int (g i j))|_=>False
theorem hJ {g g':Int->Int->Int} (hg:∀i j,g i j=g' i j):FS X.K (λxs H Q=>∃i j,xs= [.int i, .int j] /\Q (.int (g i j)) H) (iT g'):=by
 intro T M H us xs Q AQ va r h k
 unfold iT at h
 split at h <;> first | exact h.elim|skip
 rename_i i j
 cases r with
 | cons r t=>
   cases t with
   | cons r2 t=>
     cases t;cases r;cases r2
     refine ⟨i,j,rfl, ?_⟩
     rw [hg]
     exact k _ _ T H (.refl va.tp) (.int _) h
theorem ZQ (hc:X.calm=true):B4 X (.builtin "min") (λxs H Q=>∃i j,xs= [.int i, .int j] /\Q (.int (if j<i then j else i)) H)/\FS X.K (λxs H Q=>∃i j,xs= [.int i, .int j] /\Q (.int (if j<i then j else i)) H) (iT min):=
 ⟨WD hc,hJ λi j=>by split <;> omega⟩
def YJ:AF:=λxs Q=>match xs with | [.int i] =>Q (.int i) | [.bl k] =>Q (.int (if k then 1 else 0))|_=>False
theorem ZP:B4 X (.type "int") (λxs H Q=>(∃i,xs= [.int i] /\Q (.int i) H)\/∃k,xs= [.bl k] /\Q (.int (if k then 1 else 0)) H)/\FS X.K (λxs H Q=>(∃i,xs= [.int i] /\Q (.int i) H)\/∃k,xs= [.bl k] /\Q (.int (if k then 1 else 0)) H) YJ:=by
 refine ⟨OV,λT M H us xs Q AQ va r h k=> ?_⟩
 unfold YJ at h
 split at h <;> first | exact h.elim|skip
 ·cases r with | cons r t=>cases t;cases r;exact .inl ⟨_,rfl,k _ _ T H (.refl va.tp) (.int _) h⟩
 ·cases r with | cons r t=>cases t;cases r;exact .inr ⟨_,rfl,k _ _ T H (.refl va.tp) (.int _) h⟩
def Ci:AF:=λxs Q=>match xs with | [.tup ys] =>Q (.tup ys) | [.lst ys] =>Q (.tup ys)|_=>False
def ZD (K:PySem.W.Frag):List V->Hp->VK->Prop:=λxs H Q=>∃p ys,xs= [.ref p] /\((GC K H p ys/\∀l,H l=none->Q (.ref l) (upd H l (.tup ys)))\/(J6 K H p ys/\Q (.ref p) H))
theorem Ca:B4 X (.type "tuple") (ZD X.K)/\FS X.K (ZD X.K) Ci:=by
 refine ⟨Ny,λT M H us xs Q AQ va r h k=> ?_⟩
 unfold Ci at h
 split at h <;> first | exact h.elim|skip
 ·cases r with | cons r t=>cases t;obtain ⟨a,vs,rfl,hq,r'⟩:=Zk r;exact ⟨a,vs,rfl, .inr ⟨hq.sq,k _ _ T H (.refl va.tp) (.tup hq r') h⟩⟩
 ·cases r with
  | cons r t=>
    cases t
    obtain ⟨a,vs,rfl,hq,_,_,r'⟩:=DS r
    refine ⟨a,vs,rfl, .inl ⟨.inl (.inl hq),λl hl=> ?_⟩⟩
    have s:=DM.lay (o:= .tup vs) va.tp hl
    exact k _ _ T _ s (.tup (.inl Ah) (r'.stp s va)) h
def U4 (xs:List PV) (Q:List PV->Prop):Prop:=match xs with | [.tup ys] =>Q ys | [.lst ys] =>Q ys|_=>False
def Xv (r:AA):AA:=λτ Q=>r τ λxs=>U4 xs Q
theorem cr {x:Str} {p pos:Pos} {e:Expr} {es:List Expr} {r:AA} (hg:Gl X x) (hm:X.mg x=none) (hv:bootBuiltins x=some (.type "list")) (ha:SA X (e::es) r)
 (hn:x≠"__name__" :=by decide) (hdb:(x==("__debug__" :Str))=false:=by decide) (he:starEach (e::es) X.env=(false,eval e X.env)::starEach es X.env:=by rfl) (hpl:(backTo pos (starEach es X.env)).any (·.1)=false:=by rfl):
 SF X (.Call (.Name x p) (e::es) [] pos) (Xv r):=by
 obtain ⟨t,pa,s⟩:=ha
 refine ⟨_,G6 Pf hg hm hv pa hn hdb he hpl,λB T σ τ H Q AQ sr h k=>s B T σ τ H _ _ sr h λvs xs T1 H1 s1 r1 h1=> ?_⟩
 have go:∀(ws:List V) (ys:List PV),Az X.K T1 (mt B σ τ) H1 ws ys->AQ ys->∀l,H1 l=none->Q (.ref l) (upd H1 l (.lst ws)):=λws ys rr q l hl=>by
  obtain ⟨l2,sr2,nt,r2⟩:=Px (sr.stp s1) hl rr
  exact k l ws ys T1 _ (s1.trans l2) sr2 (s1.none hl) Ah nt r2 q
 unfold U4 at h1
 split at h1 <;> first | exact h1.elim|skip
 ·cases r1 with | cons r t=>cases t;obtain ⟨a,ws,rfl,hq,r'⟩:=Cj r;exact ⟨a,ws,rfl, .inr hq,go ws _ r' h1⟩
 ·cases r1 with | cons r t=>cases t;obtain ⟨a,ws,rfl,hq,_,_,r'⟩:=DS r;exact ⟨a,ws,rfl, .inl (.inl (.inl hq)),go ws _ r' h1⟩
def kdOf:PV->Option Kd
 | .non=>some .non | .bl _=>some .bl | .int _=>some .int | .str _=>some .str | .tup _=>some .tup | .lst _=>some .lst | .tape=>none | .scr _=>none | .ty _=>none | .dct _=>none
def RW:AF:=λxs Q=>match xs with | [x, .ty T] =>Ya T/\(match kdOf x with | some k=>Q (.bl (Pt k T))|none=>False)|_=>False
theorem NC:B4 X (.builtin "isinstance") (gk X.K)/\FS X.K (gk X.K) RW:=by
 refine ⟨X2,λT M H us xs Q AQ va r h k=> ?_⟩
 unfold RW at h
 split at h <;> first | exact h.elim|skip
 rename_i x ty
 obtain ⟨ht,h⟩:=h
 cases r with
 | cons r t=>
   cases t with
   | cons r2 t=>
     cases t;cases r2
     cases r with
     | non=>exact ⟨_,_, .non,rfl,ht,rfl,k _ _ T H (.refl va.tp) (.bl _) h⟩
     | bl b=>exact ⟨_,_, .bl,rfl,ht,⟨_,rfl⟩,k _ _ T H (.refl va.tp) (.bl _) h⟩
     | int b=>exact ⟨_,_, .int,rfl,ht,⟨_,rfl⟩,k _ _ T H (.refl va.tp) (.bl _) h⟩
     | str b=>exact ⟨_,_, .str,rfl,ht,⟨_,rfl⟩,k _ _ T H (.refl va.tp) (.bl _) h⟩
     | ty b=>exact h.elim
     | tup hq _=>exact ⟨_,_, .tup,rfl,ht,⟨_,_,rfl,hq.sq⟩,k _ _ T H (.refl va.tp) (.bl _) h⟩
     | lst hq _ _ _=>exact ⟨_,_, .lst,rfl,ht,⟨_,_,rfl, .inl (.inl hq)⟩,k _ _ T H (.refl va.tp) (.bl _) h⟩
     | tape _=>exact h.elim
     | scr _=>exact h.elim
     | dct _ _ _=>exact h.elim
def Ii:List PV->Option (List Bool)
 | [] =>some []
 | .bl b::r=>(Ii r).map (b :: ·)
 | _=>none
theorem Ur {K:PySem.W.Frag} {T M:Addr->Prop} {H:Hp}:∀{vs:List V} {xs:List PV} {bs:List Bool},Az K T M H vs xs->Ii xs=some bs->vs=bs.map V.bl
 | _,_,_, .nil,e=>by simp [Ii] at e;subst e;rfl
 | _,_,bs, .cons h t,e=>by
   cases h <;> simp [Ii] at e
   obtain ⟨c,e1,e2⟩:=e
   subst e2
   simp [Ur t e1]
def YI (g:List Bool->Bool):AF:=λxs Q=>match xs with | [.lst ys] =>(match Ii ys with | some bs=>Q (.bl (g bs))|none=>False)|_=>False
theorem cw {g:List Bool->Bool}:FS X.K (cW X.K g) (YI g):=by
 intro T M H us xs Q AQ va r h k
 unfold YI at h
 split at h <;> first | exact h.elim|skip
 split at h <;> first | exact h.elim|skip
 rename_i bs e
 cases r with
 | cons r t=>
   cases t
   obtain ⟨a,ws,rfl,hq,_,_,r'⟩:=DS r
   have:=Ur r' e
   subst this
   exact ⟨a,bs,rfl, .inl (.inl hq),k _ _ T H (.refl va.tp) (.bl _) h⟩
theorem g9 (hc:X.calm=true):B4 X (.builtin "all") (cW X.K λbs=>bs.all id)/\FS X.K (cW X.K λbs=>bs.all id) (YI λbs=>bs.all id):=⟨WB hc,cw⟩
def Vd:PV->PV->Option Bool
 | .non, .non=>some true | .non, .int _=>some false | .int _, .non=>some false | .non, .bl _=>some false | .bl _, .non=>some false | .non, .str _=>some false | .str _, .non=>some false
 | .int i, .int j=>some (decide (i=j)) | .bl i, .bl j=>some (decide (i=j)) | .str i, .str j=>some (decide (i=j))
 | .int _, .str _=>some false | .str _, .int _=>some false | .bl _, .str _=>some false | .str _, .bl _=>some false
 | _,_=>none
theorem SN {K:PySem.W.Frag} {T M:Addr->Prop} {H:Hp} {u v:V} {x y:PV} {b:Bool} (r:CB K T M H u x) (r2:CB K T M H v y) (e:Vd x y=some b):cm u v=true/\decide (u=v)=b:=by
 cases r <;> cases r2 <;> simp [Vd] at e <;> subst e <;> simp [cm]
end
end PL
end
section
namespace PL
open PySem PySem.Spec PyProof.Rows L2
structure GT where
 nx:BB->Prop
 rt:PV->Prop
 bk:BB->Prop
 ct:BB->Prop
abbrev AS:=GT->BB->Prop
structure E1 (T:Addr->Prop) (H:Hp) (σ:L2.St) (τ:BB) (T':Addr->Prop) (H':Hp) (σ':L2.St) (τ':BB):Prop where
 keep:∀b o,¬T b->¬Cr σ τ b->H b=some o->H' b=some o
 sub:∀b,T b->T' b
 new:∀b,T' b->T b\/H b=none
 own:∀b,Cr σ' τ' b->Cr σ τ b\/H b=none
 some:∀b,H b≠none->H' b≠none
section
variable {K:PySem.W.Frag} {B:Ch} {T T' T1 T2:Addr->Prop} {H H' H1 H2:Hp} {σ σ' σ1 σ2:L2.St} {τ τ' τ1 τ2:BB}
theorem E1.refl:E1 T H σ τ T H σ τ:=⟨λ_ _ _ _ e=>e,λ_ t=>t,λ_ t=> .inl t,λ_ o=> .inl o,λ_ h=>h⟩
theorem E1.trans (a:E1 T H σ τ T1 H1 σ1 τ1) (b:E1 T1 H1 σ1 τ1 T2 H2 σ2 τ2):E1 T H σ τ T2 H2 σ2 τ2 where
 keep:=λc o t w e=>b.keep c o (λz=>(a.new c z).elim t λn=>by rw [n] at e;cases e) (λz=>(a.own c z).elim w λn=>by rw [n] at e;cases e) (a.keep c o t w e)
 sub:=λc t=>b.sub c (a.sub c t)
 new:=λc t=>(b.new c t).elim (λz=>a.new c z) λz=> .inr (by
  cases e:H c with
  | none=>rfl
  | some o=>exact absurd z (a.some c (by rw [e];exact λe=>nomatch e)))
 own:=λc t=>(b.own c t).elim (λz=>a.own c z) λz=> .inr (by
  cases e:H c with
  | none=>rfl
  | some o=>exact absurd z (a.some c (by rw [e];exact λe=>nomatch e)))
 some:=λc h=>b.some c (a.some c h)
theorem DM.prog (s:DM T H T' H'):E1 T H σ τ T' H' σ τ:=⟨λb o t _ e=>s.keep b o t e,s.sub,s.new,λ_ o=> .inl o,λ_ h=>s.some h⟩
theorem E1.less (h:∀b,Cr σ' τ' b->Cr σ τ b):E1 T H σ τ T H σ' τ':=⟨λ_ _ _ _ e=>e,λ_ t=>t,λ_ t=> .inl t,λb o=> .inl (h b o),λ_ h=>h⟩
structure ER (K:PySem.W.Frag) (B:Ch) (T:Addr->Prop) (H:Hp) (σ:L2.St) (τ:BB) (D:MN) (AD:GT):Prop where
 nx:∀T' H' σ' τ',E1 T H σ τ T' H' σ' τ'->SR K B T' H' σ' τ'->AD.nx τ'->D.nx σ' H'
 bk:∀T' H' σ' τ',E1 T H σ τ T' H' σ' τ'->SR K B T' H' σ' τ'->AD.bk τ'->D.bk σ' H'
 ct:∀T' H' σ' τ',E1 T H σ τ T' H' σ' τ'->SR K B T' H' σ' τ'->AD.ct τ'->D.ct σ' H'
 rt:∀v x T' H',DM B.T B.H T' H'->CB K T' B.M H' v x->AD.rt x->D.rt v H'
theorem ER.shift {D:MN} {AD:GT} (e:ER K B T H σ τ D AD) (p:E1 T H σ τ T1 H1 σ1 τ1):ER K B T1 H1 σ1 τ1 D AD:=
 ⟨λ_ _ _ _ q=>e.nx _ _ _ _ (p.trans q),λ_ _ _ _ q=>e.bk _ _ _ _ (p.trans q),λ_ _ _ _ q=>e.ct _ _ _ _ (p.trans q),e.rt⟩
end
def Xs (K:PySem.W.Frag) (t:TS) (a:AS):Prop:=∀(B:Ch) (T:Addr->Prop) (σ:L2.St) (τ:BB) (H:Hp) (D:MN) (AD:GT),SR K B T H σ τ->a AD τ->ER K B T H σ τ D AD->t D σ H
def SS (X:Cx) (st:Stmt) (a:AS):Prop:=∃t,PS X st t/\Xs X.K t a
def aS (X:Cx) (st:List Stmt) (a:AS):Prop:=∃t,Uj X st t/\Xs X.K t a
theorem BW {α:Type} {l:List α} {i j:Nat} {x y:α} (h:(l.set i x)[j]? =some y):(j=i/\y=x/\i<l.length)\/(j≠i/\l[j]? =some y):=by
 by_cases e:j=i
 ·subst e
  rw [List.getElem?_set] at h
  simp at h
  obtain ⟨h1,h2⟩:=h
  exact .inl ⟨rfl,h2.symm,h1⟩
 ·rw [List.getElem?_set_ne (λz=>e z.symm)] at h
  exact .inr ⟨e,h⟩
section
variable {K:PySem.W.Frag} {B:Ch} {T:Addr->Prop} {H:Hp} {σ:L2.St} {τ:BB}
theorem DF {i:Nat} {v:V} {x:PV} {b:Addr} (h:Cr (σ.set i (some v)) (τ.set i (some (.val x))) b):Cr σ τ b:=by
 obtain ⟨j,xs,h1,h2⟩:=h
 rcases BW h1 with ⟨_,e,_⟩|⟨n,bB⟩
 ·cases e
 ·rw [List.getElem?_set_ne (λz=>n z.symm)] at h2
  exact ⟨j,xs,bB,h2⟩
theorem SR.set {i:Nat} {v:V} {x:PV} (s:SR K B T H σ τ) (r:CB K T (mt B σ τ) H v x):SR K B T H (σ.set i (some v)) (τ.set i (some (.val x))):=by
 have mv:Mv K T (mt B σ τ) H T (mt B (σ.set i (some v)) (τ.set i (some (.val x)))) H:= .anti s.va λa m=>m.elim .inl λz=> .inr (DF z)
 refine ⟨by simp [s.len],λj y e=> ?_,λj ys e=> ?_,λj k ys zs p e1 e2 e3 e4=> ?_,s.tp,s.bm,s.bt,s.st⟩
 ·rcases BW e with ⟨rfl,e',hl⟩|⟨n,e'⟩
  ·cases e'
   refine ⟨v,by rw [List.getElem?_set];simp [s.len,hl],r.mv mv⟩
  ·obtain ⟨w,hw,rw'⟩:=s.val j y e'
   exact ⟨w,by rw [List.getElem?_set_ne (λz=>n z.symm)];exact hw,rw'.mv mv⟩
 ·rcases BW e with ⟨_,e',_⟩|⟨n,e'⟩
  ·cases e'
  ·obtain ⟨p,vs,h1,h2,h3,h4⟩:=s.own j ys e'
   exact ⟨p,vs,by rw [List.getElem?_set_ne (λz=>n z.symm)];exact h1,h2,h3.mv mv,h4⟩
 ·rcases BW e1 with ⟨_,e',_⟩|⟨n,e1'⟩
  ·cases e'
  ·rcases BW e2 with ⟨_,e',_⟩|⟨n2,e2'⟩
   ·cases e'
   ·rw [List.getElem?_set_ne (λz=>n z.symm)] at e3
    rw [List.getElem?_set_ne (λz=>n2 z.symm)] at e4
    exact s.dist j k ys zs p e1' e2' e3 e4
theorem Ky {i:Nat} {p:Addr} {xs:List PV} {b:Addr} (h:Cr (σ.set i (some (.ref p))) (τ.set i (some (.own xs))) b):Cr σ τ b\/b=p:=by
 obtain ⟨j,ys,h1,h2⟩:=h
 rcases BW h1 with ⟨rfl,e,_⟩|⟨n,bB⟩
 ·rcases BW h2 with ⟨_,e',_⟩|⟨n,_⟩
  ·cases e';exact .inr rfl
  ·exact absurd rfl n
 ·rw [List.getElem?_set_ne (λz=>n z.symm)] at h2
  exact .inl ⟨j,ys,bB,h2⟩
theorem SR.take {i:Nat} {p:Addr} {vs:List V} {xs:List PV} (s:SR K (B.add p) T H σ τ) (hp:H p=some (.lst vs)) (nt:¬T p) (no:¬Cr σ τ p) (nb:¬B.M p) (b0:B.H p=none) (r:Az K T (mt (B.add p) σ τ) H vs xs):
 SR K B T H (σ.set i (some (.ref p))) (τ.set i (some (.own xs))):=by
 have mv:Mv K T (mt (B.add p) σ τ) H T (mt B (σ.set i (some (.ref p))) (τ.set i (some (.own xs)))) H:= .anti s.va λa m=>by
  rcases m with m|m
  ·exact .inl (.inl m)
  ·rcases Ky m with z|z
   ·exact .inr z
   ·exact .inl (.inr z)
 refine ⟨by simp [s.len],λj y e=> ?_,λj ys e=> ?_,λj k ys zs q e1 e2 e3 e4=> ?_,s.tp,λa m=>s.bm a (.inl m),λa m=>s.bt a (.inl m),s.st⟩
 ·rcases BW e with ⟨_,e',_⟩|⟨n,e'⟩
  ·cases e'
  ·obtain ⟨w,hw,rw'⟩:=s.val j y e'
   exact ⟨w,by rw [List.getElem?_set_ne (λz=>n z.symm)];exact hw,rw'.mv mv⟩
 ·rcases BW e with ⟨rfl,e',hl⟩|⟨n,e'⟩
  ·cases e'
   exact ⟨p,vs,by rw [List.getElem?_set];simp [s.len,hl],hp,r.mv mv,b0,nt,nb⟩
  ·obtain ⟨q,ws,h1,h2,h3,h4,h5,h6⟩:=s.own j ys e'
   exact ⟨q,ws,by rw [List.getElem?_set_ne (λz=>n z.symm)];exact h1,h2,h3.mv mv,h4,h5,λz=>h6 (.inl z)⟩
 ·rcases BW e1 with ⟨a1,_,_⟩|⟨n,e1'⟩
  ·rcases BW e2 with ⟨a2,_,_⟩|⟨n2,e2'⟩
   ·rw [a1,a2]
   ·subst a1
    rw [List.getElem?_set_ne (λz=>n2 z.symm)] at e4
    rcases BW e3 with ⟨_,e',_⟩|⟨n,_⟩
    ·cases e';exact absurd ⟨k,zs,e2',e4⟩ no
    ·exact absurd rfl n
  ·rw [List.getElem?_set_ne (λz=>n z.symm)] at e3
   rcases BW e2 with ⟨a2,_,_⟩|⟨n2,e2'⟩
   ·subst a2
    rcases BW e4 with ⟨_,e',_⟩|⟨n,_⟩
    ·cases e';exact absurd ⟨j,ys,e1',e3⟩ no
    ·exact absurd rfl n
   ·rw [List.getElem?_set_ne (λz=>n2 z.symm)] at e4
    exact s.dist j k ys zs q e1' e2' e3 e4
theorem SR.write {i:Nat} {p:Addr} {ws vs:List V} {xs ys:List PV} (s:SR K B T H σ τ) (ht:τ[i]? =some (some (.own xs))) (hs:σ[i]? =some (some (.ref p))) (hp:H p=some (.lst ws)) (r:Az K T (mt B σ τ) H vs ys):
 SR K B T (upd H p (.lst vs)) σ (τ.set i (some (.own ys)))/\E1 T H σ τ T (upd H p (.lst vs)) σ (τ.set i (some (.own ys))):=by
 obtain ⟨p',ws',e1,e2,r0,b0,nt,nb⟩:=s.own i xs ht
 rw [hs] at e1;cases e1
 have bN:σ.set i (some (.ref p))=σ:=by
  apply List.ext_getElem?
  intro k
  by_cases hk:i=k
  ·subst hk
   rw [List.getElem?_set,hs]
   simp [(List.getElem?_eq_some_iff.mp hs).1]
  ·rw [List.getElem?_set_ne hk]
 have owp:Cr σ τ p:=⟨i,xs,ht,hs⟩
 have ow:∀b,Cr σ (τ.set i (some (.own ys))) b->Cr σ τ b:=λb h=>by
  obtain ⟨j,zs,h1,h2⟩:=h
  rcases BW h1 with ⟨rfl,e,_⟩|⟨n,bB⟩
  ·exact ⟨j,xs,ht,h2⟩
  ·exact ⟨j,zs,bB,h2⟩
 have mv:Mv K T (mt B σ τ) H T (mt B σ (τ.set i (some (.own ys)))) (upd H p (.lst vs)):=⟨s.va,λb o _ m e=>by
  rw [Ag (λz=>m (by subst z;exact .inr owp))];exact e,λ_ t=>t,λ_ _ t=>t,λb _ m=>m.elim .inl λz=> .inr (ow b z)⟩
 refine ⟨⟨by simp [s.len],λj y e=> ?_,λj zs e=> ?_,λj k zs us q h1 h2 h3 h4=> ?_,λa t=> ?_,λa m=> ?_,s.bt, ?_⟩,⟨λb o t w e=>by rw [Ag (λz=>w (by subst z;exact owp))];exact e,λ_ t=>t,λ_ t=> .inl t,λb o=> .inl (ow b o),λb h=> ?_⟩⟩
 ·rcases BW e with ⟨_,e',_⟩|⟨n,e'⟩
  ·cases e'
  ·obtain ⟨v,h,rr⟩:=s.val j y e'
   exact ⟨v,h,rr.mv mv⟩
 ·rcases BW e with ⟨rfl,e',_⟩|⟨n,e'⟩
  ·cases e'
   exact ⟨p,vs,hs,Ah,r.mv mv,b0,nt,nb⟩
  ·obtain ⟨q,us,h1,h2,h3,h4⟩:=s.own j zs e'
   have hq:q≠p:=λz=>by subst z;exact n (s.dist j i zs xs q e' ht h1 hs)
   exact ⟨q,us,h1,by rw [Ag hq];exact h2,h3.mv mv,h4⟩
 ·rcases BW h1 with ⟨rfl,_,_⟩|⟨n,bB⟩
  ·rcases BW h2 with ⟨rfl,_,_⟩|⟨n2,lP⟩
   ·rfl
   ·exact s.dist _ k xs us q ht lP h3 h4
  ·rcases BW h2 with ⟨rfl,_,_⟩|⟨n2,lP⟩
   ·exact s.dist j _ zs xs q bB ht h3 h4
   ·exact s.dist j k zs us q bB lP h3 h4
 ·obtain ⟨d,x,e,z⟩:=s.tp a t
  exact ⟨d,x,by rw [Ag (λw=>by subst w;exact nt t)];exact e,z⟩
 ·obtain ⟨o,e,z⟩:=s.bm a m
  exact ⟨o,by rw [Ag (λw=>by subst w;exact nb m)];exact e,z⟩
 ·refine ⟨λb o t e=> ?_,s.st.sub,s.st.new,λa t=> ?_⟩
  ·rw [Ag (λw=>by subst w;rw [b0] at e;cases e)];exact s.st.keep b o t e
  ·obtain ⟨d,x,e,z⟩:=s.tp a t
   exact ⟨d,x,by rw [Ag (λw=>by subst w;exact nt t)];exact e,z⟩
 ·by_cases z:b=p
  ·subst z;rw [Ah];exact λe=>nomatch e
  ·rw [Ag z];exact h
end
section
variable {X:Cx} {st:Stmt} {rest:List Stmt} {e:Expr} {pos:Pos} {a b:AS} {ta:AE}
def RJ (ta:AE):AE:=λτ Q=>ta (frz τ) λx=>XU x=true/\Q x
theorem NL (h:SE X e ta):SE X e (RJ ta):=by
 obtain ⟨t,p,s⟩:=h
 refine ⟨t,p,λB T σ τ H Q AQ sr h k=>s B T σ (frz τ) H _ _ sr.frz h λv x T1 H1 s1 r1 h1=> ?_⟩
 exact k v x T1 H1 s1 (r1.free h1.1) h1.2
def RK (tt:AT):AT:=λτ Q=>tt (frz τ) Q
theorem Zo {tt:AT} (h:RG X e tt):RG X e (RK tt):=by
 obtain ⟨t,p,s⟩:=h
 exact ⟨t,p,λB T σ τ H Q AQ sr h k=>s B T σ (frz τ) H _ _ sr.frz h λb T1 H1 s1 h1=>k b T1 H1 s1 h1⟩
def BJ:AS:=λD τ=>D.nx τ
def Ad (a b:AS):AS:=λD τ=>a {D with nx:=b D} τ
theorem Ax:aS X [] BJ:=⟨_,Lq,λB T σ τ H D AD sr h er=>er.nx T H σ τ .refl sr h⟩
theorem AM (h1:SS X st a) (h2:aS X rest b):aS X (st::rest) (Ad a b):=by
 obtain ⟨t,p,s⟩:=h1
 obtain ⟨t',p',s'⟩:=h2
 exact ⟨_,Bq p p',λB T σ τ H D AD sr h er=>s B T σ τ H _ _ sr h ⟨λT' H' σ' τ' q sr' h'=>s' B T' σ' τ' H' D AD sr' h' (er.shift q),er.bk,er.ct,er.rt⟩⟩
theorem AR (h1:SS X st a):aS X [st] a:=let ⟨_,p,s⟩:=h1;⟨_,El p,s⟩
def Av (ta:AE):AS:=λD τ=>ta (frz τ) D.rt
theorem AX (h:SE X e ta):SS X (.Return (some e) pos) (Av ta):=by
 obtain ⟨t,p,s⟩:=h
 refine ⟨_,M7 p,λB T σ τ H D AD sr h er=>s B T σ (frz τ) H _ _ sr.frz h λv x T1 H1 s1 r1 h1=> ?_⟩
 exact er.rt v x T1 H1 (sr.st.trans s1) (r1.mv (.anti (sr.frz.stp s1).va λa m=> .inl m)) h1
def Bn (c:AT) (a b:AS):AS:=λD τ=>c τ λk=>if k=true then a D τ else b D τ
theorem BE {c:Expr} {x y:List Stmt} {tc:AT} (hc:RG X c tc) (ha:aS X x a) (hb:aS X y b):SS X (.If c x y pos) (Bn tc a b):=by
 obtain ⟨t,p,s⟩:=hc
 obtain ⟨t1,p1,s1'⟩:=ha
 obtain ⟨t2,p2,s2'⟩:=hb
 refine ⟨_,VR p p1 p2,λB T σ τ H D AD sr h er=>s B T σ τ H _ _ sr h λk T1 H1 s1 h1=> ?_⟩
 cases k with
 | true=>rw [if_pos rfl] at h1 ⊢;exact s1' B T1 σ τ H1 D AD (sr.stp s1) h1 (er.shift s1.prog)
 | false=>rw [if_neg Bool.false_ne_true] at h1 ⊢;exact s2' B T1 σ τ H1 D AD (sr.stp s1) h1 (er.shift s1.prog)
abbrev AG:=PV->BB->(BB->Prop)->Prop
abbrev Sm:=List PV->BB->(BB->Prop)->Prop
def Ic (K:PySem.W.Frag) (g:TG) (ag:AG):Prop:=∀(B:Ch) (T:Addr->Prop) (σ:L2.St) (τ:BB) (H:Hp) (v:V) (x:PV) (Q:L2.St->Hp->Prop) (AQ:BB->Prop),SR K B T H σ τ->CB K T (mt B σ τ) H v x->ag x τ AQ->
 (∀σ' τ',SR K B T H σ' τ'->(∀b,Cr σ' τ' b->Cr σ τ b)->AQ τ'->Q σ' H)->g v σ H Q
def OO (K:PySem.W.Frag) (g:S3) (ag:Sm):Prop:=∀(B:Ch) (T:Addr->Prop) (σ:L2.St) (τ:BB) (H:Hp) (vs:List V) (xs:List PV) (Q:L2.St->Hp->Prop) (AQ:BB->Prop),SR K B T H σ τ->Az K T (mt B σ τ) H vs xs->ag xs τ AQ->
 (∀σ' τ',SR K B T H σ' τ'->(∀b,Cr σ' τ' b->Cr σ τ b)->AQ τ'->Q σ' H)->g vs σ H Q
def SG (X:Cx) (tg:Expr) (ag:AG):Prop:=∃g,PG X tg g/\Ic X.K g ag
def lH (X:Cx) (tg:List Expr) (ag:Sm):Prop:=∃g,iM X tg g/\OO X.K g ag
def A2 (i:Nat):AG:=λx τ Q=>Q (τ.set i (some (.val x)))
theorem Qe {K:PySem.W.Frag} {i:Nat}:Ic K (Cq i) (A2 i):=λB T σ τ H v x Q AQ sr r h k=>k _ _ (sr.set r) (λb o=>DF o) h
theorem QZ {i:Nat} {x:Str} (hN:X.N.Nodup) (hi:X.N[i]? =some x) (hx:Loc X.env.scope x) (hf:X.fn x=true\/X.env.scope.names.lookup x=some .local:=by first | exact .inl rfl|exact .inr rfl|assumption):SG X (.Name x pos) (A2 i):=
 ⟨_,JB hN hi hx hf,Qe⟩
def CZ:Sm:=λxs τ Q=>match xs with | [] =>Q τ|_=>False
def Aj (g:AG) (r:Sm):Sm:=λxs τ Q=>match xs with | x::t=>g x τ λτ'=>r t τ' Q | [] =>False
theorem SX {K:PySem.W.Frag}:OO K RX CZ:=λB T σ τ H vs xs Q AQ sr r h k=>by
 cases r with
 | nil=>exact ⟨rfl,k σ τ sr (λ_ o=>o) h⟩
 | cons _ _=>exact h.elim
theorem Op {K:PySem.W.Frag} {g:TG} {gs:S3} {ag:AG} {ags:Sm} (h1:Ic K g ag) (h2:OO K gs ags):OO K (Ei g gs) (Aj ag ags):=λB T σ τ H vs xs Q AQ sr r h k=>by
 cases r with
 | nil=>exact h.elim
 | cons r t=>
   refine ⟨_,_,rfl,h1 B T σ τ H _ _ _ _ sr r h λσ1 τ1 sr1 o1 q1=> ?_⟩
   exact h2 B T σ1 τ1 H _ _ Q AQ sr1 (t.mv (.anti sr.va λa m=>m.elim .inl λz=> .inr (o1 a z))) q1 λσ2 τ2 sr2 o2 q2=>k σ2 τ2 sr2 (λb o=>o1 b (o2 b o)) q2
theorem Dq:lH X [] CZ:=⟨_,QI,SX⟩
theorem Au {es:List Expr} {ag:AG} {ags:Sm} (h1:SG X e ag) (h2:lH X es ags) (hs:(assignEach (e::es) X.env).map (·.2)=assign e X.env::(assignEach es X.env).map (·.2):=by rfl):lH X (e::es) (Aj ag ags):=
 let ⟨_,p,s⟩:=h1;let ⟨_,p',s'⟩:=h2;⟨_,Gm p p' hs,Op s s'⟩
def A0 (ta:AE) (g:AG):AS:=λD τ=>ta τ λx=>g x τ D.nx
theorem Qb {K:PySem.W.Frag} {t:TE} {g:TG} {ag:AG} (s:Fj K t ta) (s':Ic K g ag):Xs K (Sd t g) (A0 ta ag):=λB T σ τ H D AD sr h er=>s B T σ τ H _ _ sr h λv x T1 H1 s1 r1 h1=>
 s' B T1 σ τ H1 v x _ _ (sr.stp s1) r1 h1 λσ2 τ2 sr2 o2 q2=>er.nx T1 H1 σ2 τ2 (s1.prog.trans (.less o2)) sr2 q2
theorem US {tg:Expr} {ag:AG} (he:SE X e ta) (hg:SG X tg ag) (hs:swapsWithSole [tg] e pos.line X.env=pure false:=by rfl) (hw:swappedStores [tg] e X.env=pure none:=by rfl)
 (h1:(assignEach [tg] X.env).map (·.2)= [assign tg X.env] :=by rfl):SS X (.Assign [tg] e pos) (A0 ta ag):=
 let ⟨_,p,s⟩:=he;let ⟨_,p',s'⟩:=hg;⟨_,QJ p p' hs hw h1,Qb s s'⟩
theorem IC {i:Nat} {x:Str} {pos':Pos} (hN:X.N.Nodup) (hi:X.N[i]? =some x) (hx:Loc X.env.scope x) (he:SE X e ta) (hs:swapsWith e (some (.Name x pos')) pos.line X.env=pure false:=by rfl) (hf:X.fn x=true\/X.env.scope.names.lookup x=some .local:=by first | exact .inl rfl|exact .inr rfl|assumption):
 SS X (.Assign [.Name x pos'] e pos) (A0 ta (A2 i)):=let ⟨_,p,s⟩:=he;⟨_,E9 hN hi hx p hs hf,Qb s Qe⟩
def LP (r:AA) (i:Nat):AS:=λD τ=>r τ λxs=>D.nx (τ.set i (some (.own xs)))
theorem cz {K:PySem.W.Frag} {t:TE} {r:AA} {i:Nat} (s:Xr K t r):Xs K (Sd t (Cq i)) (LP r i):=λB T σ τ H D AD sr h er=>s B T σ τ H _ _ sr h λp vs xs T1 H1 s1 sr1 hn hp nt r1 h1=>by
 have no:¬Cr σ τ p:=λo=>by obtain ⟨_,e,_⟩:=sr.ownH o;rw [hn] at e;cases e
 have nb:¬B.M p:=λo=>by obtain ⟨_,e,_⟩:=sr.bm p o;rw [hn] at e;cases e
 refine er.nx T1 H1 _ _ ⟨λb o t _ e=>s1.keep b o t e,s1.sub,s1.new,λb o=> ?_,λb h=>s1.some h⟩ (sr1.take hp nt no nb (sr.st.none hn) r1) h1
 rcases Ky o with z|z
 ·exact .inl z
 ·subst z;exact .inr hn
theorem F4 {i:Nat} {x:Str} {pos':Pos} {r:AA} (hN:X.N.Nodup) (hi:X.N[i]? =some x) (hx:Loc X.env.scope x) (he:SF X e r) (hs:swapsWith e (some (.Name x pos')) pos.line X.env=pure false:=by rfl) (hf:X.fn x=true\/X.env.scope.names.lookup x=some .local:=by first | exact .inl rfl|exact .inr rfl|assumption):
 SS X (.Assign [.Name x pos'] e pos) (LP r i):=let ⟨_,p,s⟩:=he;⟨_,E9 hN hi hx p hs hf,cz s⟩
def Pd (i j:Nat) (r:AA):AS:=λD τ=>r τ λxs=>match xs with | [x,y] =>D.nx ((τ.set i (some (.val x))).set j (some (.val y)))|_=>False
theorem NY {i j:Nat} {x y:Str} {c d:Expr} {r:AA} {px py pt:Pos} {kt k2 pt2} (hc:X.calm=true) (hN:X.N.Nodup) (hi:X.N[i]? =some x) (hj:X.N[j]? =some y) (mo:i≠j)
 (hx:X.env.scope.names.lookup x=some .local) (hy:X.env.scope.names.lookup y=some .local) (ha:SA X [c,d] r)
 (hw:swappedStores [.Tuple [.Name x px, .Name y py] kt pt] (.Tuple [c,d] k2 pt2) X.env=pure (some [x,y]))
 (hs:swapsWithSole [.Tuple [.Name x px, .Name y py] kt pt] (.Tuple [c,d] k2 pt2) pos.line X.env=pure false:=by rfl):
 SS X (.Assign [.Tuple [.Name x px, .Name y py] kt pt] (.Tuple [c,d] k2 pt2) pos) (Pd i j r):=by
 obtain ⟨t,p,s⟩:=ha
 refine ⟨_,gc hc hN hi hj mo hx hy p hw hs,λB T σ τ H D AD sr h er=>s B T σ τ H _ _ sr h λvs xs T1 H1 s1 r1 h1=> ?_⟩
 cases r1 with
 | nil=>exact h1.elim
 | cons ra ta=>
   cases ta with
   | nil=>exact h1.elim
   | cons rb tb=>
     cases tb with
     | cons _ _=>exact h1.elim
     | nil=>
       have sr1:=sr.stp s1
       refine ⟨_,_,rfl,er.nx T1 H1 _ _ ?_ ((sr1.set (i:=i) ra).set (i:=j) (rb.mv (.anti sr1.va λa m=>m.elim .inl λz=> .inr (DF z)))) h1⟩
       exact s1.prog.trans (.less λb o=>DF (DF o))
def S5 (i:Nat) (f:II) (ta:AE):AS:=λD τ=>match Qs τ i with | some (.val x)=>ta τ λy=>f x y λz=>D.nx (τ.set i (some (.val z)))|_=>False
theorem Zl {i:Nat} {x:Str} {op:Operator} {ti:jG} {f:II} {pos':Pos} (hN:X.N.Nodup) (hi:X.N[i]? =some x) (hx:Loc X.env.scope x) (he:SE X e ta) (ho:iN X op ti/\B6 X.K ti f) (hf:X.fn x=true\/X.env.scope.names.lookup x=some .local:=by first | exact .inl rfl|exact .inr rfl|assumption):
 SS X (.AugAssign (.Name x pos') op e pos) (S5 i f ta):=by
 obtain ⟨t,p,s⟩:=he
 refine ⟨_,gb hN hi hx p ho.1 hf,λB T σ τ H D AD sr h er=> ?_⟩
 unfold S5 at h
 split at h <;> first | exact h.elim|skip
 rename_i y ey
 obtain ⟨v,ev,rv⟩:=sr.val i y (Mu ey)
 refine ⟨v,ev,s B T σ τ H _ _ sr h λw z T1 H1 s1 r1 h1=> ?_⟩
 refine ho.2 T1 _ H1 v w y z _ _ (sr.stp s1).va (rv.stp s1 sr.va) r1 h1 λu q T2 H2 s2 r2 h2=> ?_
 exact er.nx T2 H2 _ _ ((s1.trans s2).prog.trans (.less λb o=>DF o)) (((sr.stp s1).stp s2).set r2) h2
theorem hG:iN X .Add (nK λi j=>i+j)/\B6 X.K (nK λi j=>i+j) jL:=⟨fj,λT M H u v x y Q AQ va ru rv h k=>by
 obtain ⟨i,j,rfl,rfl,q⟩:=Lp h
 exact ⟨i,j,ru.toI,rv.toI,k _ _ T H (.refl va.tp) (.int _) q⟩⟩
def MV (i:Nat) (τ:BB) (R:List PV->Prop):Prop:=match Qs τ i with | some (.own xs)=>R xs|_=>False
theorem Uk {i:Nat} {τ:BB} {R:List PV->Prop} (h:MV i τ R):∃xs,τ[i]? =some (some (.own xs))/\R xs:=by
 unfold MV at h
 cases e:Qs τ i with
 | none=>rw [e] at h;exact h.elim
 | some z=>
   rw [e] at h
   cases z with
   | val x=>exact h.elim
   | own xs=>exact ⟨xs,Mu e,h⟩
abbrev eo:=List PV->List PV->(List PV->Prop)->Prop
def aT (K:PySem.W.Frag) (r:V->List V->Hp->VK->Prop) (f:eo):Prop:=∀(T M:Addr->Prop) (H:Hp) (l:Addr) (ws vs:List V) (xs ys:List PV) (Q:VK) (AQ:List PV->Prop),H l=some (.lst ws)->Az K T M H ws xs->Az K T M H vs ys->f xs ys AQ->
 (∀ws' xs',Az K T M H ws' xs'->AQ xs'->Q .non (upd H l (.lst ws')))->r (.ref l) vs H Q
def Ee (i:Nat) (f:eo) (r:AA):AS:=λD τ=>MV i τ λxs=>r τ λys=>f xs ys λzs=>D.nx (τ.set i (some (.own zs)))
theorem Zd {K:PySem.W.Frag} {i:Nat} {rr:V->List V->Hp->VK->Prop} {f:eo} {t:TA} {r:AA} (hm:aT K rr f) (s:e6 K t r):Xs K (eF (qM K "list" rr (Fb i) t)) (Ee i f r):=λB T σ τ H D AD sr h er=>by
 obtain ⟨xs,e,h⟩:=Uk h
 obtain ⟨p,vs,e1,hp,r1,b0,nt,nb⟩:=sr.own i xs e
 refine ⟨.ref p,e1, .inl ⟨rfl,vs, .inl (.inl hp)⟩,s B T σ τ H _ _ sr h λus ys T1 H1 s1 r2 h2=> ?_⟩
 have sr1:=sr.stp s1
 refine hm T1 (mt B σ τ) H1 p vs us xs ys _ _ (s1.keep _ _ nt hp) (r1.stp s1 sr.va) r2 h2 λws' zs r3 h3=> ?_
 obtain ⟨sr3,pr3⟩:=sr1.write (i:=i) (xs:=xs) e e1 (s1.keep _ _ nt hp) r3
 exact er.nx T1 _ _ _ (s1.prog.trans pr3) sr3 h3
theorem Dr {i:Nat} {x name:Str} {es:List Expr} {id:String} {rr:V->List V->Hp->VK->Prop} {f:eo} {r:AA} {p apos cpos:Pos} (slot:Slot "list" name id) (nF:typeOf (.builtin id)=pure (.type "method_descriptor")) (hm:jB X id rr/\aT X.K rr f) (ha:SA X (e::es) r)
 (hN:X.N[i]? =some x:=by rfl) (hv:e8 X.env.scope x:=by first | exact Or.inl rfl|exact Or.inr (Or.inl rfl)|exact Or.inr (Or.inr rfl)) (hd:(x==("__debug__" :Str))=false:=by decide) (Lj:(x==("__classdict__" :Str))=false:=by decide)
 (YU:attributeBase (.Name x p) name X.env (eval (.Name x p) X.env)=eval (.Name x p) X.env:=by rfl)
 (fS:((backTo cpos (starEach (e::es) X.env)).all (λx=> !x.1)&&(backToKw cpos (keywordEach [] X.env)).all (λx=>x.1.isSome)
   && decide ((e::es).length+([] :List Keyword).length+(if ([] :List Keyword).isEmpty then 0 else 1)<30))=true:=by rfl)
 (U9:(apos.endLine==cpos.line)=true:=by rfl) (hs:starEach (e::es) X.env=(false,eval e X.env)::starEach es X.env:=by rfl) (Th:(backTo cpos (starEach es X.env)).any (·.1)=false:=by rfl)
 (jf:swapsWith (.Call (.Attribute (.Name x p) name apos) (e::es) [] cpos) none pos.line X.env=pure false:=by rfl):
 SS X (.Expr (.Call (.Attribute (.Name x p) name apos) (e::es) [] cpos) pos) (Ee i f r):=by
 obtain ⟨t,pa,s⟩:=ha
 exact ⟨_,cU (j7 PySem.F.plainAttrs_list slot nF hm.1 (QH hN hv hd Lj) pa YU fS U9 hs Th) jf,Zd hm.2 s⟩
def LW:eo:=λxs ys Q=>match ys with | [y] =>xs.length<sizeLine/\Q (xs ++ [y])|_=>False
theorem DG:jB X "list.append" QK/\aT X.K QK LW:=by
 refine ⟨G3,λT M H l ws vs xs ys Q AQ hl r1 r2 h k=> ?_⟩
 unfold LW at h
 split at h <;> first | exact h.elim|skip
 cases r2 with
 | cons ry t=>
   cases t
   exact ⟨l,ws,_,rfl,rfl,hl,by rw [r1.length];exact h.1,k _ _ (r1.append (.cons ry .nil)) h.2⟩
def Yl:eo:=λxs ys Q=>match ys with | [.int i,y] =>(0<=i/\i<=(xs.length:Int)/\xs.length<sizeLine)/\Q (xs.take i.toNat++y::xs.drop i.toNat)|_=>False
theorem Oq:jB X "list.insert" QM/\aT X.K QM Yl:=by
 refine ⟨Wg,λT M H l ws vs xs ys Q AQ hl r1 r2 h k=> ?_⟩
 unfold Yl at h
 split at h <;> first | exact h.elim|skip
 cases r2 with
 | cons ri t=>
   cases t with
   | cons ry t=>
     cases t;cases ri
     obtain ⟨⟨h1,h2,h3⟩,h4⟩:=h
     exact ⟨l,ws,_,_,rfl,rfl,hl,h1,by rw [r1.length];exact h2,by rw [r1.length];exact h3,k _ _ ((r1.take _).append (.cons ry (r1.drop _))) h4⟩
def cB (o:Option Nat) (R:Nat->Prop):Prop:=match o with | some j=>R j|none=>False
theorem gM {o:Option Nat} {R:Nat->Prop} (h:cB o R):∃z,o=some z/\R z:=by
 cases o <;> first | exact ⟨_,rfl,h⟩|exact h.elim
def aX (i:Nat) (ti ta:AE):AS:=λD τ=>ta τ λy=>MV i τ λxs=>ti τ λk=>Z9 k λk=>cB (Rn xs.length k) λj=>D.nx (τ.set i (some (.own (xs.set j y))))
theorem Zn {i:Nat} {x:Str} {ix:Expr} {ti:AE} {p tpos:Pos} (hi:SE X ix ti) (he:SE X e ta) (hN:X.N[i]? =some x:=by rfl) (hv:e8 X.env.scope x:=by first | exact Or.inl rfl|exact Or.inr (Or.inl rfl)|exact Or.inr (Or.inr rfl)) (hd:(x==("__debug__" :Str))=false:=by decide) (Lj:(x==("__classdict__" :Str))=false:=by decide)
 (ha:∀v,assign (.Subscript (.Name x p) ix tpos) X.env v=(do
   let ov <-holding [v] (eval (.Name x p) X.env)
   let iv <-holding [v,ov] (eval ix X.env)
   standAt tpos
   holding [v,ov,iv] (setItem ov iv v)
   release [v,ov,iv] []):=by intro _;rfl)
 (hs:swapsWithSole [.Subscript (.Name x p) ix tpos] e pos.line X.env=pure false:=by rfl) (hw:swappedStores [.Subscript (.Name x p) ix tpos] e X.env=pure none:=by rfl)
 (h1:(assignEach [.Subscript (.Name x p) ix tpos] X.env).map (·.2)= [assign (.Subscript (.Name x p) ix tpos) X.env] :=by rfl):SS X (.Assign [.Subscript (.Name x p) ix tpos] e pos) (aX i ti ta):=by
 obtain ⟨t,pt,s⟩:=hi
 obtain ⟨t',pt',s'⟩:=he
 refine ⟨_,QJ pt' (UG (QH hN hv hd Lj) pt NO ha) hs hw h1,λB T σ τ H D AD sr h er=>s' B T σ τ H _ _ sr h λv y T1 H1 s1 r1 h1=> ?_⟩
 have sr1:=sr.stp s1
 obtain ⟨xs,e,h1⟩:=Uk h1
 obtain ⟨q,vs,e1,hp,r2,b0,nt,nb⟩:=sr1.own i xs e
 refine ⟨.ref q,e1,s B T1 σ τ H1 _ _ sr1 h1 λw k T2 H2 s2 r3 h3=> ?_⟩
 obtain ⟨k,rfl,h3⟩:=QE h3
 obtain ⟨j,ej,h3⟩:=gM h3
 cases r3.toI
 have sr2:=sr1.stp s2
 obtain ⟨sr4,pr4⟩:=sr2.write (i:=i) (xs:=xs) e e1 (s2.keep _ _ nt hp) (((r2.stp s2 sr1.va)).set (r1.stp s2 sr1.va) j)
 exact ⟨q,vs,k,j,rfl,rfl,s2.keep _ _ nt hp,by rw [r2.length];exact ej,er.nx T2 _ _ _ ((s1.trans s2).prog.trans pr4) sr4 h3⟩
end
end PL
end
section
namespace PL
open PySem PySem.Spec PyProof.Rows L2
section
variable {X:Cx} {st:Stmt} {e:Expr} {pos:Pos} {a b:AS} {ta:AE}
def Sg (c:AT) (b:AS) (D:GT):Nat->BB->Prop
 | 0,_=>False
 | n+1,τ=>c (frz τ) λk=>if k=true then b {D with nx:=Sg c b D n,ct:=Sg c b D n,bk:=D.nx} τ else D.nx τ
def J8 (c:AT) (b:AS):AS:=λD τ=>∃n,Sg c b D n τ
theorem Jb {c:Expr} {body:List Stmt} {tc:AT} (hp:PassesOwn (model X.prog X.w) X.A X.env X.xe) (hc:RG X c tc) (hb:aS X body b):SS X (.While c body [] pos) (J8 tc b):=by
 obtain ⟨t,p,s⟩:=hc
 obtain ⟨t',p',s'⟩:=hb
 refine ⟨_,Y8 hp p p',λB T σ τ H D AD sr h er=> ?_⟩
 obtain ⟨n,h⟩:=h
 refine ⟨λm σ1 H1=>∃T1 τ1,SR X.K B T1 H1 σ1 τ1/\E1 T H σ τ T1 H1 σ1 τ1/\Sg tc b AD m τ1,⟨n,T,τ,sr, .refl,h⟩, ?_⟩
 rintro m σ1 H1 ⟨T1,τ1,sr1,pr1,h1⟩
 cases m with
 | zero=>exact h1.elim
 | succ m=>
   refine s B T1 σ1 (frz τ1) H1 _ _ sr1.frz h1 λk T2 H2 s2 h2=> ?_
   have sr2:=sr1.stp s2
   have er2:=(er.shift pr1).shift s2.prog
   cases k with
   | false=>rw [if_neg Bool.false_ne_true] at h2 ⊢;exact er2.nx T2 H2 σ1 τ1 .refl sr2 h2
   | true=>
     rw [if_pos rfl] at h2 ⊢
     refine ⟨λσ' H'=>∃T' τ',SR X.K B T' H' σ' τ'/\E1 T H σ τ T' H' σ' τ'/\Sg tc b AD m τ',λσ' H' q=>⟨m,Nat.lt_succ_self m,q⟩, ?_⟩
     exact s' B T2 σ1 τ1 H2 _ _ sr2 h2 ⟨λT' H' σ' τ' q sr' h'=>⟨T',τ',sr',(pr1.trans s2.prog).trans q,h'⟩,er2.nx,λT' H' σ' τ' q sr' h'=>⟨T',τ',sr',(pr1.trans s2.prog).trans q,h'⟩,er.rt⟩
abbrev AI:=BB->(List PV->Prop)->Prop
structure S0 (K:PySem.W.Frag) (M:Addr->Prop) (J:It) (xs:List PV) (T:Addr->Prop) (H:Hp):Prop where
 go:∀i y,xs[i]? =some y->J.go i H
 yld:∀i y v H',xs[i]? =some y->J.yld i H v H'->DM T H T H'/\CB K T M H' v y
 stop:∀i,xs.length<=i->J.stop i H
def Uh (T:Addr->Prop) (H H2:Hp):Prop:=∀b o,¬T b->H b=some o->H2 b=some o
def V4 (K:PySem.W.Frag) (s:Bool) (wi:TI) (ai:AI):Prop:=∀(B:Ch) (T:Addr->Prop) (σ:L2.St) (τ:BB) (H:Hp) (R:It->Hp->Prop) (AQ:List PV->Prop),SR K B T H σ τ->ai τ AQ->
 (∀J xs T' H',DM T H T' H'->(∀M2 T2 H2,Mv K T' (mt B σ τ) H' T2 M2 H2->GP T2 M2 H2->(s=true\/Uh T' H' H2)->S0 K M2 J xs T2 H2)->AQ xs->R J H')->wi σ H R
def SI (X:Cx) (tg iter:Expr) (s:Bool) (ai:AI):Prop:=∃wi,PI X tg iter wi/\V4 X.K s wi ai
def jl (K:PySem.W.Frag) (tl:TE):TI:=λσ H R=>tl σ H λx H1=>∃a,x= .ref a/\(((∃xs,GC K H1 a xs)/\R (mD K a) H1)\/((∃xs,J6 K H1 a xs)/\R (mE K a) H1))
theorem Y5 {tg l:Expr} {tl:TE} (hl:PE X l tl):PI X tg l (jl X.K tl):=by
 intro pins s σ H R I h
 refine BS (hl pins s σ H _ I h) λv s1 ⟨x,H1,I1,r1,q1⟩=> ?_
 obtain ⟨a,e,q⟩:=q1
 subst e
 cases r1
 rcases q with ⟨⟨xs,hq⟩,q⟩|⟨⟨xs,hq⟩,q⟩
 ·obtain ⟨its,rv,p,hz⟩:=I1.list hq
  refine wpAny_pyIter_list p.isList ?_
  refine ⟨s1.heap.objs.size, [s1.heap.objs.size],_,_,H1,rfl,I1.kept (t':=s1.toks) λb o e=>Heap.get?_push_of_some _ e,XG a _,⟨_,Heap.get?_push_size _ rfl,rfl,rfl⟩,λb hb=> ?_,q⟩
  have e:b=s1.heap.objs.size:=by simpa using hb
  subst e
  exact I1.fpOk (Nat.le_refl _) (I1.hok.fresh (Nat.le_refl _))
 ·obtain ⟨its,rv,p,hz⟩:=I1.tuple hq
  refine wpAny_pyIter_tuple (show s1.heap.IsTuple a its.toArray from p) ?_
  refine ⟨s1.heap.objs.size, [s1.heap.objs.size],_,_,H1,rfl,I1.kept (t':=s1.toks) λb o e=>Heap.get?_push_of_some _ e,Uc a _,⟨_,Heap.get?_push_size _ rfl,rfl,rfl⟩,λb hb=> ?_,q⟩
  have e:b=s1.heap.objs.size:=by simpa using hb
  subst e
  exact I1.fpOk (Nat.le_refl _) (I1.hok.fresh (Nat.le_refl _))
def OP (ta:AE):AI:=λτ Q=>ta τ λx=>Qt x Q
theorem Yc {K:PySem.W.Frag} {T M:Addr->Prop} {H:Hp} {a:Addr} {xs:List PV} (va:GP T M H) (r:CB K T M H (.ref a) (.tup xs)):S0 K M (mE K a) xs T H:=by
 obtain ⟨a',vs,e,hq,rs⟩:=Cj r
 cases e
 refine ⟨λi y h=> ?_,λi y v H' h yl=> ?_,λi h=>⟨vs,hq,by rw [rs.length];exact h⟩⟩
 ·obtain ⟨v,hv,_⟩:=rs.get h
  exact ⟨vs,v,hq,hv⟩
 ·obtain ⟨rfl,yl⟩:=yl
  obtain ⟨z,hz,rz⟩:=rs.get' (yl vs hq)
  rw [h] at hz;cases hz
  exact ⟨.refl va.tp,rz⟩
theorem Yb {K:PySem.W.Frag} {T M:Addr->Prop} {H:Hp} {a:Addr} {vs:List V} {xs:List PV} (va:GP T M H) (hq:H a=some (.lst vs)) (rs:Az K T M H vs xs):S0 K M (mD K a) xs T H:=by
 have Pr:GC K H a vs:= .inl (.inl hq)
 refine ⟨λi y h=> ?_,λi y v H' h yl=> ?_,λi h=>⟨vs,Pr,by rw [rs.length];exact h⟩⟩
 ·obtain ⟨v,hv,_⟩:=rs.get h
  exact ⟨vs,v,Pr,hv⟩
 ·obtain ⟨rfl,yl⟩:=yl
  obtain ⟨z,hz,rz⟩:=rs.get' (yl vs Pr)
  rw [h] at hz;cases hz
  exact ⟨.refl va.tp,rz⟩
theorem GN {tg:Expr} (h:SE X e ta):SI X tg e true (OP ta):=by
 obtain ⟨t,p,s⟩:=h
 refine ⟨_,Y5 p,λB T σ τ H R AQ sr h k=>s B T σ τ H _ _ sr h λv x T1 H1 s1 r1 h1=> ?_⟩
 obtain ⟨xs,hx,q⟩:=Hw h1
 rcases hx with rfl|rfl
 ·obtain ⟨a,vs,rfl,hq,rs⟩:=Cj r1
  refine ⟨a,rfl, .inr ⟨⟨vs,hq⟩,k _ xs T1 H1 s1 (λM2 T2 H2 mv va _=>Yc va (r1.mv mv)) q⟩⟩
 ·obtain ⟨a,vs,rfl,hq,nt,nm,rs⟩:=DS r1
  refine ⟨a,rfl, .inl ⟨⟨vs, .inl (.inl hq)⟩,k _ xs T1 H1 s1 (λM2 T2 H2 mv va _=> ?_) q⟩⟩
  obtain ⟨a',vs',e',Pr,_,_,rs'⟩:=DS (r1.mv mv)
  cases e'
  exact Yb va Pr rs'
def rng (lo:Int) (n:Nat):List PV:=(List.range n).map λ(k:Nat)=> .int (lo+(k:Int))
theorem Rm {K:PySem.W.Frag} {T M:Addr->Prop} {H:Hp} {lo:Int} {n:Nat} (va:GP T M H):S0 K M (jA lo n) (rng lo n) T H:=by
 have hl:(rng lo n).length=n:=by simp [rng]
 refine ⟨λi y h=> ?_,λi y v H' h yl=> ?_,λi h=>by rw [hl] at h;exact h⟩
 ·have:=(List.getElem?_eq_some_iff.mp h).1
  rw [hl] at this
  exact this
 ·obtain ⟨rfl,rfl⟩:=yl
  have hi:=(List.getElem?_eq_some_iff.mp h).1
  rw [hl] at hi
  have:y= .int (lo+(i:Int)):=by
   simp [rng,List.getElem?_range hi] at h
   exact h.symm
  subst this
  exact ⟨.refl va.tp, .int _⟩
def S8 (r:AA):AI:=λτ Q=>r τ λxs=>match xs with | [.int j] =>(-(2^62)<=j/\j<2^62)/\Q (rng 0 j.toNat)|_=>False
def aY (r:AA):AI:=λτ Q=>r τ λxs=>match xs with | [.int i, .int j] =>(-(2^62)<=i/\i<2^62/\ -(2^62)<=j/\j<2^62)/\Q (rng i (j-i).toNat)|_=>False
theorem SV {tg c:Expr} {r:AA} {p:Pos} (hg:Gl X "range") (hm:X.mg "range" =none) (ha:SA X [c] r) (hs:starEach [c] X.env= [(false,eval c X.env)] :=by rfl):SI X tg (.Call (.Name "range" p) [c] [] pos) true (S8 r):=by
 obtain ⟨t,pa,s⟩:=ha
 refine ⟨_,Wy hg hm pa hs,λB T σ τ H R AQ sr h k=>s B T σ τ H _ _ sr h λvs xs T1 H1 s1 r1 h1=> ?_⟩
 split at h1 <;> first | exact h1.elim|skip
 cases r1 with
 | cons r t=>
   cases t;cases r
   exact ⟨_,rfl,h1.1.1,h1.1.2,k _ _ T1 H1 s1 (λM2 T2 H2 mv va _=>Rm va) h1.2⟩
theorem d9 {tg c d:Expr} {r:AA} {p:Pos} (hg:Gl X "range") (hm:X.mg "range" =none) (ha:SA X [c,d] r) (hs:starEach [c,d] X.env= [(false,eval c X.env),(false,eval d X.env)] :=by rfl) (Qr:starEach [d] X.env= [(false,eval d X.env)] :=by rfl):
 SI X tg (.Call (.Name "range" p) [c,d] [] pos) true (aY r):=by
 obtain ⟨t,pa,s⟩:=ha
 refine ⟨_,Wz hg hm pa hs Qr,λB T σ τ H R AQ sr h k=>s B T σ τ H _ _ sr h λvs xs T1 H1 s1 r1 h1=> ?_⟩
 split at h1 <;> first | exact h1.elim|skip
 cases r1 with
 | cons r t=>
   cases t with
   | cons r' t=>
     cases t;cases r;cases r'
     exact ⟨_,_,rfl,h1.1,k _ _ T1 H1 s1 (λM2 T2 H2 mv va _=>Rm va) h1.2⟩
def D7 (xs ys:List PV):List PV:=List.zipWith (λx y=> .tup [x,y]) xs ys
def jm (K:PySem.W.Frag) (ta:TA):TI:=λσ H R=>ta σ H λvs H1=>∃b c l m,vs= [.ref l, .ref m] /\(∃xs,Sq K b H1 l xs)/\(∃ys,Sq K c H1 m ys)/\R (mH K b c l m) H1
theorem cN {e f:Expr} {ta:TA} {p pos tpos:Pos} {es:List Expr} {x1:Nat} (hg:Gl X "zip") (hm:X.mg "zip" =none) (ha:PA X [e,f] ta)
 (hs:starEach [e,f] X.env= [(false,eval e X.env),(false,eval f X.env)] :=by rfl) (Qr:starEach [f] X.env= [(false,eval f X.env)] :=by rfl):
 PI X (.Tuple es x1 tpos) (.Call (.Name "zip" p) [e,f] [] pos) (jm X.K ta):=by
 intro pins s σ H R I h
 refine Call_ (Gi I hg hm boot_zip (PyProof.Rows.callWith_type1 (BS (ha pos pins s σ H _ I h) λus s1 ⟨vs,H1,I1,r1,q1⟩=> ?_) (by rw [hs,Qr]) (by rw [Qr];rfl)))
 obtain ⟨b,c,l,m,rfl,⟨xs,hl⟩,⟨ys,fU⟩,q⟩:=q1
 cases r1 with
 | cons r rr=>
 cases rr with
 | cons r' rr=>
 cases rr
 cases r
 cases r'
 obtain ⟨us,ru,su,_⟩:=I1.sq hl
 obtain ⟨vs,rv,sv,_⟩:=I1.sq fU
 have llt:l<s1.heap.objs.size:=by cases b <;> (obtain ⟨o,e,_⟩:=su;exact Heap.lt_size e)
 have mlt:m<s1.heap.objs.size:=by cases c <;> (obtain ⟨o,e,_⟩:=sv;exact Heap.lt_size e)
 refine iI su sv λh1 Z kp=>wpAny_pyIter_zip Z.zip ?_
 refine ⟨_,_,_,_,H1,rfl,I1.kept (t':=s1.toks) kp,Z1 (zipApart_new llt mlt),Z,λp hp=> ?_,q⟩
 have FF:s1.heap.objs.size<=p:=by
  have fZ:p=s1.heap.objs.size+4\/p=s1.heap.objs.size+2\/p=s1.heap.objs.size+3\/p=s1.heap.objs.size\/p=s1.heap.objs.size+1:=by simpa using hp
  rcases fZ with e|e|e|e|e <;> (rw [e];omega)
 exact I1.fpOk FF (I1.hok.fresh FF)
def jI:PV->Bool | .lst _=>true|_=>false
theorem Vo {K:PySem.W.Frag} {T M:Addr->Prop} {H:Hp} {v:V} {x:PV} {xs:List PV} (hx:x= .tup xs\/x= .lst xs) (r:CB K T M H v x):∃a vs,v= .ref a/\Sq K (jI x) H a vs/\Az K T M H vs xs:=by
 rcases hx with rfl|rfl
 ·obtain ⟨a,vs,rfl,hq,rs⟩:=Cj r
  exact ⟨a,vs,rfl,hq,rs⟩
 ·obtain ⟨a,vs,rfl,hq,_,_,rs⟩:=DS r
  exact ⟨a,vs,rfl, .inl (.inl hq),rs⟩
theorem Yd {K:PySem.W.Frag} {T M:Addr->Prop} {H:Hp} {l m:Addr} {x y:PV} {xs ys:List PV} (va:GP T M H) (hx:x= .tup xs\/x= .lst xs) (hy:y= .tup ys\/y= .lst ys) (r:CB K T M H (.ref l) x) (r2:CB K T M H (.ref m) y):
 S0 K M (mH K (jI x) (jI y) l m) (D7 xs ys) T H:=by
 obtain ⟨_,vs,e,hq,rs⟩:=Vo hx r
 cases e
 obtain ⟨_,ws,e,Ps,rs2⟩:=Vo hy r2
 cases e
 have hz:∀i z,(D7 xs ys)[i]? =some z->∃a b,xs[i]? =some a/\ys[i]? =some b/\z=PV.tup [a,b] :=λi z h=>by
  unfold D7 at h
  rw [List.getElem?_zipWith] at h
  cases e1:xs[i]? with
  | none=>rw [e1] at h;cases h
  | some a=>
    cases e2:ys[i]? with
    | none=>rw [e1,e2] at h;cases h
    | some b=>rw [e1,e2] at h;cases h;exact ⟨a,b,by first | rfl|exact e1,by first | rfl|exact e2,rfl⟩
 refine ⟨λi z h=> ?_,λi z v H' h yl=> ?_,λi h=>⟨vs,ws,hq,Ps, ?_⟩⟩
 ·obtain ⟨a,b,ha,hb,_⟩:=hz i z h
  obtain ⟨u,hu,_⟩:=rs.get ha
  obtain ⟨w,hw,_⟩:=rs2.get hb
  exact ⟨vs,ws,u,w,hq,Ps,hu,hw⟩
 ·obtain ⟨a,b,ha,hb,rfl⟩:=hz i z h
  obtain ⟨p,u,w,rfl,hn,rfl,hu,hw⟩:=yl
  obtain ⟨a',jO,ra⟩:=rs.get' (hu vs hq)
  obtain ⟨b',jP,rb⟩:=rs2.get' (hw ws Ps)
  rw [ha] at jO;cases jO
  rw [hb] at jP;cases jP
  have st:=DM.lay (o:= .tup [u,w]) va.tp hn
  exact ⟨st, .tup (.inl Ah) (.cons (ra.stp st va) (.cons (rb.stp st va) .nil))⟩
 ·rw [rs.length,rs2.length]
  have:(D7 xs ys).length=min xs.length ys.length:=by simp [D7]
  omega
def fB (r:AA):AI:=λτ Q=>r τ λls=>match ls with | [x,y] =>Qt x λxs=>Qt y λys=>Q (D7 xs ys)|_=>False
theorem ZZ {e f:Expr} {r:AA} {p pos tpos:Pos} {es:List Expr} {x1:Nat} (hg:Gl X "zip") (hm:X.mg "zip" =none) (ha:SA X [e,f] r)
 (hs:starEach [e,f] X.env= [(false,eval e X.env),(false,eval f X.env)] :=by rfl) (Qr:starEach [f] X.env= [(false,eval f X.env)] :=by rfl):
 SI X (.Tuple es x1 tpos) (.Call (.Name "zip" p) [e,f] [] pos) true (fB r):=by
 obtain ⟨t,pa,s⟩:=ha
 refine ⟨_,cN hg hm pa hs Qr,λB T σ τ H R AQ sr h k=>s B T σ τ H _ _ sr h λvs xs T1 H1 s1 r1 h1=> ?_⟩
 split at h1 <;> first | exact h1.elim|skip
 rename_i x y
 obtain ⟨xs,hx,h2⟩:=Hw h1
 obtain ⟨ys,hy,h3⟩:=Hw h2
 cases r1 with
 | cons ra t=>
   cases t with
   | cons rb t=>
     cases t
     obtain ⟨l,us,rfl,hq,rs⟩:=Vo hx ra
     obtain ⟨m,ws,rfl,Ps,rs2⟩:=Vo hy rb
     exact ⟨jI x,jI y,l,m,rfl,⟨us,hq⟩,⟨ws,Ps⟩,k _ _ T1 H1 s1 (λM2 T2 H2 mv va _=>Yd va hx hy (ra.mv mv) (rb.mv mv)) h3⟩
def D8 (g:AG) (b:AS) (D:GT):List PV->BB->Prop
 | [],τ=>D.nx τ
 | x::r,τ=>g x τ λτ1=>b {D with nx:=D8 g b D r,ct:=D8 g b D r,bk:=D.nx} τ1
def Gd (ai:AI) (g:AG) (b:AS):AS:=λD τ=>ai τ λxs=>D8 g b D xs τ
theorem E1.mvv {K:PySem.W.Frag} {B:Ch} {T T':Addr->Prop} {H H':Hp} {σ σ':L2.St} {τ τ':BB} (s:SR K B T H σ τ) (p:E1 T H σ τ T' H' σ' τ'):Mv K T (mt B σ τ) H T' (mt B σ' τ') H':=
 ⟨s.va,λb o t m e=>p.keep b o t (λz=>m (.inr z)) e,p.sub,λb n t=>(p.new b t).elim id λz=>absurd z n,λb n m=>m.elim .inl λz=>(p.own b z).elim .inr λz=>absurd z n⟩
theorem C9 {tg iter:Expr} {body:List Stmt} {ai:AI} {g:AG} (hp:PassesOwn (model X.prog X.w) X.A X.env X.xe) (hc:X.calm=true) (hi:SI X tg iter true ai) (hg:SG X tg g) (hb:aS X body b)
 (hs:∀x,foldedSetIterable iter X.env x=pure x:=by intro _;rfl):SS X (.For tg iter body [] pos) (Gd ai g b):=by
 obtain ⟨wi,pi,si⟩:=hi
 obtain ⟨tg',pg,sg⟩:=hg
 obtain ⟨tb,pb,sb⟩:=hb
 refine ⟨_,Y7 hp hc pi pg pb hs,λB T σ τ H D AD sr h er=>si B T σ τ H _ _ sr h λJ xs T1 H1 s1 walk h1=> ?_⟩
 have sr1:=sr.stp s1
 refine ⟨λi m σ2 H2=>m=xs.length-i/\∃T2 τ2,SR X.K B T2 H2 σ2 τ2/\E1 T1 H1 σ τ T2 H2 σ2 τ2/\D8 g b AD (xs.drop i) τ2,⟨_,rfl,T1,τ,sr1, .refl,h1⟩, ?_⟩
 rintro i m σ2 H2 ⟨rfl,T2,τ2,sr2,pr2,h2⟩
 have w:=walk _ T2 H2 (pr2.mvv sr1) sr2.va (.inl rfl)
 have er2:=(er.shift s1.prog).shift pr2
 by_cases Dk:i<xs.length
 ·have Rj:xs[i]? =some xs[i] :=List.getElem?_eq_getElem Dk
  rw [List.drop_eq_getElem_cons Dk] at h2
  refine .inr ⟨w.go i _ Rj,λσ' H'=>∃T' τ',SR X.K B T' H' σ' τ'/\E1 T1 H1 σ τ T' H' σ' τ'/\D8 g b AD (xs.drop (i+1)) τ',λσ' H' ⟨T',τ',q1,q2,q3⟩=>⟨_,by omega,rfl,T',τ',q1,q2,q3⟩,λv H3 yl=> ?_⟩
  obtain ⟨s3,r3⟩:=w.yld i _ v H3 Rj yl
  have sr3:=sr2.stp s3
  refine sg B T2 σ2 τ2 H3 v _ _ _ sr3 r3 h2 λσ4 τ4 sr4 o4 h4=> ?_
  have pr4:E1 T1 H1 σ τ T2 H3 σ4 τ4:=(pr2.trans s3.prog).trans (.less o4)
  have er4:=(er.shift s1.prog).shift pr4
  exact sb B T2 σ4 τ4 H3 _ _ sr4 h4 ⟨λT' H' σ' τ' q sr' h'=>⟨T',τ',sr',pr4.trans q,h'⟩,er4.nx,λT' H' σ' τ' q sr' h'=>⟨T',τ',sr',pr4.trans q,h'⟩,er.rt⟩
 ·rw [List.drop_eq_nil_of_le (by omega)] at h2
  exact .inl ⟨w.stop i (by omega),er2.nx T2 H2 σ2 τ2 .refl sr2 h2⟩
def WA:Option AV->Option AV|some (.val x)=>some (.val x)|_=>none
def Ih (own:Nat) (ix:List Nat) (τ:BB):BB:=List.replicate own none++ix.map λi=>WA (Qs τ i)
def CS (g:AG) (t:AT) (te:AE) (τ0:BB) (Q:List PV->Prop):List PV->List PV->Prop
 | [],acc=>Q acc
 | x::r,acc=>g x τ0 λτ1=>t τ1 λok=>if ok=true then te τ1 λy=>CS g t te τ0 Q r (acc ++ [y]) else CS g t te τ0 Q r acc
def DD (ai:AI) (own:Nat) (ix:List Nat) (g:AG) (t:AT) (te:AE):AA:=λτ Q=>ai τ λxs=>xs.length<sizeLine/\CS g t te (Ih own ix τ) Q xs []
theorem Xy {own:Nat} {ix:List Nat} {τ:BB} {j:Nat} {x:PV} (h:(Ih own ix τ)[j]? =some (some (.val x))):own<=j/\∃i,ix[j-own]? =some i/\τ[i]? =some (some (.val x)):=by
 unfold Ih at h
 by_cases hj:j<own
 ·rw [List.getElem?_append_left (by simpa using hj),List.getElem?_replicate,if_pos hj] at h
  cases h
 ·rw [List.getElem?_append_right (by simpa using hj),List.length_replicate,List.getElem?_map] at h
  cases e:ix[j-own]? with
  | none=>rw [e] at h;cases h
  | some i=>
    rw [e] at h
    refine ⟨by omega,i,rfl,Mu ?_⟩
    cases e2:Qs τ i with
    | none=>simp [e2,WA] at h
    | some z=>cases z <;> simp [e2,WA] at h;subst h;rfl
theorem FT {own:Nat} {ix:List Nat} {τ:BB} {j:Nat} {xs:List PV}:(Ih own ix τ)[j]? ≠some (some (.own xs)):=λh=>by
 unfold Ih at h
 by_cases hj:j<own
 ·rw [List.getElem?_append_left (by simpa using hj),List.getElem?_replicate,if_pos hj] at h
  cases h
 ·rw [List.getElem?_append_right (by simpa using hj),List.length_replicate,List.getElem?_map] at h
  cases e:ix[j-own]? with
  | none=>rw [e] at h;cases h
  | some i=>
    rw [e] at h
    cases e2:Qs τ i with
    | none=>simp [e2,WA] at h
    | some z=>cases z <;> simp [e2,WA] at h
def Ch.blk (B:Ch) (σ:L2.St) (τ:BB) (D:Addr):Ch:=⟨B.T,B.H,λa=>mt B σ τ a\/a=D⟩
theorem SR.blk {K:PySem.W.Frag} {B:Ch} {T T':Addr->Prop} {H H':Hp} {σ:L2.St} {τ:BB} {D:Addr} {ws:List V} {own:Nat} {ix:List Nat} (s:SR K B T H σ τ) (q:DM T H T' H') (hn:H D=none) (hd:H' D=some (.lst ws)) (nt:¬T' D):
 SR K (B.blk σ τ D) T' H' (Bo own ix σ) (Ih own ix τ):=by
 have s':=s.stp q
 have mv:Mv K T (mt B σ τ) H T' (mt (B.blk σ τ D) (Bo own ix σ) (Ih own ix τ)) H':=⟨s.va,λb o t _ e=>q.keep b o t e,q.sub,λb n t=>(q.new b t).elim id λz=>absurd z n,λb n z=>by
  rcases z with (z|z)|⟨_,_,z,_⟩
  ·exact z
  ·subst z;exact absurd hn n
  ·exact absurd z FT⟩
 refine ⟨by simp [Bo,Ih],λj x e=> ?_,λj xs e=>absurd e FT,λj k xs ys p e=>absurd e FT,s'.tp,λa m=> ?_,λa m=> ?_,s'.st⟩
 ·obtain ⟨hj,i,hi,e'⟩:=Xy e
  obtain ⟨v,hv,r⟩:=s.val i x e'
  refine ⟨v, ?_,r.mv mv⟩
  unfold Bo
  rw [List.getElem?_append_right (by simpa using hj),List.length_replicate,List.getElem?_map,hi]
  simp [hv]
 ·rcases m with m|m
  ·exact s'.va.mu a m
  ·subst m;exact ⟨_,hd,J4.lst⟩
 ·rcases m with m|m
  ·exact s'.nt m
  ·subst m;exact nt
def dR (X:Cx) (ifs:List Expr) (t:AT):Prop:=∃tt,Ui X ifs tt/\LO X.K tt t
def E3:AT:=λ_ Q=>Q true
theorem CD:dR X [] E3:=⟨_,cP,λB T σ τ H Q AQ sr h k=>k true T H (.refl sr.tp) h⟩
theorem cv {c:Expr} {t:AT} (h:RG X c t):dR X [c] t:=let ⟨_,p,s⟩:=h;⟨_,cQ p,s⟩
theorem NP {K:PySem.W.Frag} {s:Bool} {wi:TI} {ai:AI} {own:Nat} {ix:List Nat} {g:TG} {ag:AG} {tt:TT} {at':AT} {te:TE} (hi:V4 K s wi ai) (hg:Ic K g ag) (ht:LO K tt at') (he:Fj K te ta):
 Xr K (Vs wi own ix g tt te) (DD ai own ix ag at' ta):=by
 intro B T σ τ H Q AQ sr h k
 refine hi B T σ τ H _ _ sr h λJ xs T1 H1 s1 walk h1 D hD=> ?_
 obtain ⟨hl,h1⟩:=h1
 have sr1:=sr.stp s1
 have nt1:¬T1 D:=λz=>by obtain ⟨o,e,_⟩:=(sr1.tp D z).mut;rw [hD] at e;cases e
 have lay:=DM.lay (o:= .lst []) sr1.tp hD
 refine ⟨λi m H2=>m=xs.length-i/\∃T2 vs acc,DM T1 H1 T2 H2/\H2 D=some (.lst vs)/\¬T2 D/\Az K T2 (λa=>mt B σ τ a\/a=D) H2 vs acc/\acc.length<=i/\CS ag at' ta (Ih own ix τ) AQ (xs.drop i) acc,
  ⟨_,rfl,T1, [], [],lay,Ah,nt1, .nil,Nat.le_refl _,h1⟩, ?_⟩
 rintro i m H2 ⟨rfl,T2,vs,acc,s2,bD,nt2,r2,bH,h2⟩
 have srb:=sr1.blk (own:=own) (ix:=ix) s2 hD bD nt2
 have va2:GP T2 (λa=>mt B σ τ a\/a=D) H2:=⟨srb.tp,srb.bm⟩
 have w:=walk (λa=>mt B σ τ a\/a=D) T2 H2 ⟨sr1.va,λb o t _ e=>s2.keep b o t e,s2.sub,λb n t=>(s2.new b t).elim id λz=>absurd z n,λb n z=>z.elim id λz=>by subst z;exact absurd hD n⟩ va2 (.inr s2.keep)
 by_cases Dk:i<xs.length
 ·have Rj:xs[i]? =some xs[i] :=List.getElem?_eq_getElem Dk
  rw [List.drop_eq_getElem_cons Dk] at h2
  refine .inr ⟨w.go i _ Rj,λv H3 yl=> ?_⟩
  obtain ⟨s3,r3⟩:=w.yld i _ v H3 Rj yl
  have sr3:=srb.stp s3
  refine hg _ T2 _ _ H3 v _ _ _ sr3 (r3.mv (.anti ⟨sr3.tp,sr3.bm⟩ λa z=>z.elim id λ⟨_,_,z,_⟩=>absurd z FT)) h2 λσ4 τ4 sr4 o4 h4=> ?_
  refine ht _ T2 σ4 τ4 H3 _ _ sr4 h4 λok T5 H5 s5 h5=> ?_
  have sr5:=sr4.stp s5
  have fP:=s3.keep D _ nt2 bD
  have bE:=s5.keep D _ nt2 fP
  have nt5:¬T5 D:=λz=>(s5.new D z).elim nt2 λn=>by rw [n] at fP;cases fP
  have r5:=(r2.stp s3 va2).stp s5 ⟨sr3.tp,sr3.bm⟩
  cases ok with
  | false=>
    rw [if_neg Bool.false_ne_true] at h5 ⊢
    exact ⟨_,by omega,rfl,T5,vs,acc,(s2.trans s3).trans s5,bE,nt5,r5,by omega,h5⟩
  | true=>
    rw [if_pos rfl] at h5 ⊢
    refine he _ T5 σ4 τ4 H5 _ _ sr5 h5 λvy y T6 H6 s6 r6 h6=> ?_
    have sr6:=sr5.stp s6
    have mV:=s6.keep D _ nt5 bE
    have nt6:¬T6 D:=λz=>(s6.new D z).elim nt5 λn=>by rw [n] at bE;cases bE
    have va6:GP T6 (λa=>mt B σ τ a\/a=D) H6:=⟨sr6.tp,sr6.bm⟩
    have r7:=r5.stp s6 ⟨sr5.tp,sr5.bm⟩
    have s7:=((s2.trans s3).trans s5).trans s6
    have tp8:∀a,T6 a->EQ (upd H6 D (.lst (vs ++ [vy]))) a:=λa t=>by
     obtain ⟨d,x,e,z⟩:=sr6.tp a t
     exact ⟨d,x,by rw [Ag (λw=>by subst w;exact nt6 t)];exact e,z⟩
    have mv8:Mv K T6 (λa=>mt B σ τ a\/a=D) H6 T6 (λa=>mt B σ τ a\/a=D) (upd H6 D (.lst (vs ++ [vy]))):=⟨va6,λb o _ m e=>by rw [Ag (λw=>m (.inr w))];exact e,λ_ t=>t,λ_ _ t=>t,λ_ _ z=>z⟩
    refine ⟨vs,mV,by rw [r2.length];omega,_,(by omega:xs.length-(i+1)<xs.length-i),rfl,T6,vs ++ [vy],acc ++ [y],⟨λb o t e=> ?_,s7.sub,s7.new,tp8⟩,Ah,nt6,(r7.append (.cons (r6.mv (.anti sr6.va λa z=> .inl z)) .nil)).mv mv8,by simp;omega,h6⟩
    rw [Ag (Ao e hD)]
    exact s7.keep b o t e
 ·rw [List.drop_eq_nil_of_le (by omega)] at h2
  refine .inl ⟨w.stop i (by omega), ?_⟩
  exact k D vs acc T2 H2 (s1.trans s2) (sr1.add s2 hD bD J4.lst nt2) (s1.none hD) bD nt2 (r2.mv (.anti va2 λa z=>by
   rcases z with (z|z)|z
   ·exact .inl (.inl z)
   ·exact .inr z
   ·exact .inl (.inr z))) h2
structure Xb (X:Cx) (tg elt:Expr) (ifs:List Expr) (scope:Scope) (own:Nat) (ix:List Nat) (N:List Str) (g:AG) (t:AT) (te:AE):Prop where
 ex:∃g' t' te',Jz X tg elt ifs scope own ix N g' t' te'/\Ic X.K g' g/\LO X.K t' t/\Fj X.K te' te
theorem C2 {tg elt iter:Expr} {ifs:List Expr} {scope:Scope} {own:Nat} {ix:List Nat} {N:List Str} {g:AG} {t:AT} {s:Bool} {ai:AI} (hc:X.calm=true) (hi:SI X tg iter s ai) (O:Xb X tg elt ifs scope own ix N g t ta) (hs:∀x,foldedSetIterable iter X.env x=pure x:=by intro _;rfl):
 SF X (.ListComp elt [⟨tg,iter,ifs,0⟩] scope pos) (DD ai own ix g t ta):=by
 obtain ⟨wi,pi,si⟩:=hi
 obtain ⟨g',t',te',O,sg,st,se⟩:=O.ex
 exact ⟨_,cJ hc pi O hs,NP si sg st se⟩
theorem Zm {i:Nat} {x:Str} {pos' spos:Pos} {tg elt iter:Expr} {ifs:List Expr} {scope:Scope} {own:Nat} {ix:List Nat} {N:List Str} {g:AG} {t:AT} {s:Bool} {ai:AI} (hc:X.calm=true) (hN:X.N.Nodup) (WS:X.N[i]? =some x) (hx:Loc X.env.scope x) (hi:SI X tg iter s ai) (O:Xb X tg elt ifs scope own ix N g t ta)
 (jf:swapsWith (.ListComp elt [⟨tg,iter,ifs,0⟩] scope pos) (some (.Name x pos')) spos.line X.env=pure true:=by rfl) (hs:∀x,foldedSetIterable iter X.env x=pure x:=by intro _;rfl)
 (hf:X.fn x=true\/X.env.scope.names.lookup x=some .local:=by first | exact .inl rfl|exact .inr rfl|assumption):
 SS X (.Assign [.Name x pos'] (.ListComp elt [⟨tg,iter,ifs,0⟩] scope pos) spos) (A0 (GQ (DD ai own ix g t ta)) (A2 i)):=by
 obtain ⟨wi,pi,si⟩:=hi
 obtain ⟨g',t',te',O,sg,st,se⟩:=O.ex
 exact ⟨_,cT hc hN WS hx pi O jf hs hf,Qb (Zb (NP si sg st se)) Qe⟩
end
def KU (N:Nat) (xs:List PV):BB:=xs.map (λx=>some (.val x))++List.replicate (N-xs.length) none
def A5 (N:Nat) (b:AS):AF:=λxs Q=>b {nx:=λ_=>Q .non,rt:=Q,bk:=λ_=>False,ct:=λ_=>False} (KU N xs)
theorem Zr {K:PySem.W.Frag} {T M:Addr->Prop} {H:Hp} {N:List Str} {vs:List V} {xs:List PV} (va:GP T M H) (mt':∀a,M a->¬T a) (r:Az K T M H vs xs):SR K ⟨T,H,M⟩ T H (start N vs) (KU N.length xs):=by
 have no:∀(j:Nat) (ys:List PV),(KU N.length xs)[j]? ≠some (some (.own ys)):=λj ys h=>by
  unfold KU at h
  by_cases hj:j<xs.length
  ·rw [List.getElem?_append_left (by simpa using hj),List.getElem?_map,List.getElem?_eq_getElem hj] at h
   cases h
  ·rw [List.getElem?_append_right (by simpa using hj),List.getElem?_replicate] at h
   split at h <;> cases h
 refine ⟨by simp [L2.start,KU,r.length],λj x h=> ?_,λj ys h=>absurd h (no j ys),λj k ys zs p h=>absurd h (no j ys),va.tp,va.mu,mt', .refl va.tp⟩
 unfold KU at h
 by_cases hj:j<xs.length
 ·rw [List.getElem?_append_left (by simpa using hj),List.getElem?_map,List.getElem?_eq_getElem hj] at h
  cases h
  obtain ⟨v,hv,rv⟩:=r.get (List.getElem?_eq_getElem hj)
  refine ⟨v, ?_,rv.mv (.anti va λa m=>m.elim id λ⟨_,_,z,_⟩=>absurd z (no _ _))⟩
  unfold L2.start
  rw [List.getElem?_append_left (by rw [List.length_map,r.length];exact hj),List.getElem?_map,hv]
  rfl
 ·rw [List.getElem?_append_right (by simpa using hj),List.getElem?_replicate] at h
  split at h <;> cases h
section
variable {P:Program} {w:World} {K:PySem.W.Frag} {mg:Str->Option Value} {base:Heap}
theorem Ae {x qual:Str} {st:Stmt} {f:Addr} {fd:FuncData} {N ps:List Str} {k n:Nat} {b:AS} (F:DC K x qual st f fd) (S:AZ N ps (AU st)) (hn:n=ps.length)
 (Rh:∀(cdv:Value) (A:Around) (outer:List Env) (s:Shared) (H:Hp) (E:XK),Room k (A.deeper (envOfC qual (AU st) s.heap.objs.size f cdv))->
   aS (TM C3 P w K mg base N qual (AU st) f cdv A outer s H E).nox (EC st) b):A7 P w K mg base C3 (k+1) f fd ps (BQ K n (A5 N.length b)):=by
 refine F.ok S (λvs H Q E h=> ?_) (λcdv A outer s H vs Q E hr h=> ?_)
 ·obtain ⟨T,M,xs,AQ,_,_,r,hl,_⟩:=h
  rw [r.length,hl,hn]
 ·obtain ⟨T,M,xs,AQ,va,mt',r,hl,hF,hQ⟩:=h
  obtain ⟨t,p,sm⟩:=Rh cdv A outer s H E hr
  refine ⟨t,p,sm ⟨T,H,M⟩ T _ _ H _ _ (Zr va mt' r) hF ⟨λT' H' σ' τ' _ sr q=> ?_,λ_ _ _ _ _ _ q=>q.elim,λ_ _ _ _ _ _ q=>q.elim,λv x T' H' s' r' q=>hQ v x T' H' s' r' q⟩⟩
  exact hQ _ _ T' H' sr.st .non q
end
end PL
end
section
namespace PL
open PySem PySem.Spec PyProof.Rows L2
section
variable {X:Cx}
theorem X6 {prog:Program} {w:World} {A:Around} {E:Value->Shared->Prop} {s:Shared} {t b:Addr} {ws:List Value} {Q:Value->Shared->Prop} (ht:IsTup s.heap t #[]) (hb:IsTup s.heap b ws.toArray) (h0:Q (.ref b) s):wpAny (model prog w) A (binaryOp .Add (.ref t) (.ref b)) Q E s:=by
 obtain ⟨⟨cls,dd,data,sl⟩,ho,hc,n,hd⟩:=id ht
 obtain ⟨⟨cls2,dd2,data2,sl2⟩,fW,Te,n2,jR⟩:=id hb
 simp only at hc hd Te jR
 subst hc hd Te jR
 exact concat_meets ⟨_,ho,rfl⟩ ⟨_,fW,rfl⟩ noFill_tuple_add seq_tuple_add PySem.F.slot_tuple_add PySem.F.entry_tuple_add (PySem.F.args_tuple_add_2 _ _)
  (tuple_addW0 t b #[] ws.toArray n n2 dd dd2 sl sl2 (by simp)) ⟨ho,fW,h0⟩
def ZA (K:PySem.W.Frag):R2:=λx y H Q=>∃a b ys,x= .ref a/\y= .ref b/\J6 K H a [] /\J6 K H b ys/\Q (.ref b) H
theorem Yv:EB X (binaryOp .Add) (ZA X.K):=by
 intro pins s σ H x y v u Q I rx ry h
 obtain ⟨a,b,ys,rfl,rfl,ha,hb,q⟩:=h
 cases rx
 cases ry
 obtain ⟨its,r1,p1,_⟩:=I.tuple ha
 obtain ⟨its2,r2,p2,_⟩:=I.tuple hb
 cases r1
 exact X6 p1 p2 ⟨.ref b,H,I,rfl,q⟩
def dy (K:PySem.W.Frag):R2:=λx y H Q=>((Oe (λi j=>V.int (i+j)) x y H Q\/kB x y H Q)\/dz K x y H Q)\/ZA K x y H Q
def BV:II:=λx y Q=>match x,y with
 | .int i, .int j=>Q (.int (i+j))
 | .lst xs, .lst ys=>xs.length+ys.length<=sizeLine/\Q (.lst (xs++ys))
 | .tup xs, .tup ys=>xs.length+ys.length<=sizeLine/\Q (.tup (xs++ys))
 | _,_=>False
theorem A9:EB X (binaryOp .Add) (dy X.K)/\B6 X.K (dy X.K) BV:=by
 refine ⟨((Hx.or gQ).or cC).or Yv,λT M H u v x y Q AQ va ru rv h k=> ?_⟩
 unfold BV at h
 split at h <;> first | exact h.elim|skip
 ·exact .inl (.inl (.inl ⟨_,_,ru.toI,rv.toI,k _ _ T H (.refl va.tp) (.int _) h⟩))
 ·obtain ⟨a,vs,rfl,hq,nt,nm,rs⟩:=DS ru
  obtain ⟨b,ws,rfl,Ps,nt2,nm2,rs2⟩:=DS rv
  refine .inl (.inl (.inr ⟨a,b,vs,ws,rfl,rfl,hq,Ps,by rw [rs.length,rs2.length];exact h.1,λp hp=> ?_⟩))
  have st:=DM.lay (o:= .lst (vs++ws)) va.tp hp
  have np:¬T p:=λz=>by obtain ⟨o,e,_⟩:=(va.tp p z).mut;rw [hp] at e;cases e
  have nq:¬M p:=λz=>by obtain ⟨o,e,_⟩:=va.mu p z;rw [hp] at e;cases e
  exact k _ _ T _ st (.lst Ah np nq ((rs.append rs2).stp st va)) h.2
 ·obtain ⟨a,vs,rfl,hq,rs⟩:=Cj ru
  obtain ⟨b,ws,rfl,Ps,rs2⟩:=Cj rv
  by_cases e:vs= []
  ·subst e
   cases rs
   exact .inr ⟨a,b,ws,rfl,rfl,hq,Ps,k _ _ T H (.refl va.tp) rv (by simpa using h.2)⟩
  ·refine .inl (.inr ⟨a,b,vs,ws,rfl,rfl,hq,Ps,e,by rw [rs.length,rs2.length];exact h.1,λz=> ?_,λz p hp=> ?_⟩)
   ·subst z
    cases rs2
    exact k _ _ T H (.refl va.tp) ru (by simpa using h.2)
   ·have st:=DM.lay (o:= .tup (vs++ws)) va.tp hp
    exact k _ _ T _ st (.tup (.inl Ah) ((rs.append rs2).stp st va)) h.2
theorem HK {prog:Program} {w:World} {A:Around} {E:Value->Shared->Prop} {s:Shared} {t sl:Addr} {items:Array Value} {vl vu:Value} {lo hi:Option Int} {Q:Value->Shared->Prop} (ht:IsTup s.heap t items) (hs:s.heap.IsSliceOf sl vl vu .none) (pl:IsPart vl lo) (pu:IsPart vu hi)
 (hw:HT.sIx items.size 0 lo=0/\HT.sIx items.size items.size hi=items.size)
 (h:Q (.ref t) s):wpAny (model prog w) A (getItem (.ref t) (.ref sl)) Q E s:=by
 obtain ⟨os,fY,lR,jV⟩:=id hs
 have mZ:s.TypeIs (.ref sl) "slice" :=⟨os,fY,lR⟩
 obtain ⟨ot,uw,uq,nt,ur⟩:=id ht
 unfold getItem
 try with_reducible refine wpAny_holding ?_
 first | refine wpAny_bind (wpAny_pure ?_)|skip
 refine wpAny_bind (wpAny_sequenceKey ht.typeIs (by decide) ?_)
 refine wpAny_bind (wpAny_callSpecial?_slot (name:=Str.ofString "__getitem__") ht.typeIs PyProof.Rows.slot_tuple_getitem
  (wpAny_call_entry PyProof.Rows.slot_tuple_getitem ht.typeIs entry_tuple_getitem ?_ (args_tuple_getitem _ _)))
 show wpAny _ _ (Builtin.Tuple.tupleItemsOf (.ref t) >>= _) _ _ s
 refine wpAny_bind (tupleItemsOf_ ht ?_)
 refine wpAny_bind (wpAny_typeOf mZ ?_)
 rw [if_pos (by decide)]
 refine wpAny_bind (HT.sliceApplied_gen hs pl pu ?_)
 have nH:((((HT.sIx items.size 0 lo:Nat):Int)==0&&(1:Int)==1&&(HT.sIx items.size items.size hi-HT.sIx items.size 0 lo)==items.size)=true):=by
  rw [hw.1,hw.2]
  simp
 show wpAny _ _ (if (((HT.sIx items.size 0 lo:Nat):Int)==0&&(1:Int)==1&&(HT.sIx items.size items.size hi-HT.sIx items.size 0 lo)==items.size)=true then _ else _) _ _ s
 rw [if_pos nH]
 unfold Builtin.Tuple.tupleIsExact
 simp only [bind_assoc,pure_bind]
 refine wpAny_bind (wpAny_typeOf ht.typeIs ?_)
 rw [if_pos (by decide)]
 exact wpAny_bind (wpAny_rule (wpAny_pure ⟨_,rfl,wpAny_pure h⟩))
def nU (K:PySem.W.Frag):V->Option Int->Option Int->Hp->VK->Prop:=λx lo hi H Q=>∃a xs,x= .ref a/\J6 K H a xs/\
 (HT.sIx xs.length 0 lo=0/\HT.sIx xs.length xs.length hi=xs.length)/\Q (.ref a) H
theorem c6:dS X (nU X.K):=by
 intro pins s σ H x v vl vu lo hi sl Q I rx hs pl pu h
 obtain ⟨a,xs,rfl,hx,hw,q⟩:=h
 cases rx
 obtain ⟨its,r,ht,hz⟩:=I.tuple hx
 have DI:its.toArray.size=xs.length:=by rw [List.size_toArray];exact r.length.symm
 refine ⟨"tuple",_,PyProof.Rows.slot_tuple_getitem.lookup,ht.typeIs, ?_⟩
 exact HK ht hs pl pu (by rw [DI];exact hw) ⟨.ref a,H,I,rfl,q⟩
def HJ (xs:List PV) (lo hi:Option Int):List PV:=(xs.drop (HT.sIx xs.length 0 lo)).take (HT.sIx xs.length xs.length hi-HT.sIx xs.length 0 lo)
theorem Uu {K:PySem.W.Frag} {T M:Addr->Prop} {H:Hp} {vs:List V} {xs:List PV} (r:Az K T M H vs xs) (lo hi:Option Int):Az K T M H (Nz vs lo hi) (HJ xs lo hi):=by
 unfold Nz HJ
 rw [r.length]
 exact (r.drop _).take _
abbrev AO:=BB->(Option Int->Prop)->Prop
def mK (K:PySem.W.Frag) (t:TO) (a:AO):Prop:=∀(B:Ch) (T:Addr->Prop) (σ:L2.St) (τ:BB) (H:Hp) (Q:Option Int->Hp->Prop) (AQ:Option Int->Prop),SR K B T H σ τ->a τ AQ->
 (∀o T' H',DM T H T' H'->AQ o->Q o H')->t σ H Q
def SO (X:Cx) (e:Option Expr) (a:AO):Prop:=∃t,PO X e t/\mK X.K t a
def V7:AO:=λ_ Q=>Q none
def V8 (ta:AE):AO:=λτ Q=>ta τ λx=>Z9 x λi=>Q (some i)
theorem Zf:SO X none V7:=⟨_,cR,λB T σ τ H Q AQ sr h k=>k _ T H (.refl sr.tp) h⟩
theorem Zg {e:Expr} {ta:AE} (h:SE X e ta):SO X (some e) (V8 ta):=by
 obtain ⟨t,p,s⟩:=h
 refine ⟨_,cS p,λB T σ τ H Q AQ sr h k=>s B T σ τ H _ _ sr h λv x T1 H1 s1 r1 h1=> ?_⟩
 obtain ⟨i,rfl,q⟩:=QE h1
 exact ⟨i,r1.toI,k _ T1 H1 s1 q⟩
@[irreducible] def U0 (x:PV) (lo hi:Option Int) (Q:PV->Prop):Prop:=match x with | .tup xs=>Q (.tup (HJ xs lo hi)) | .lst xs=>Q (.lst (HJ xs lo hi))|_=>False
theorem F2 {xs:List PV} {lo hi:Option Int} {Q:PV->Prop} (h:Q (.tup (HJ xs lo hi))):U0 (.tup xs) lo hi Q:=by unfold U0;exact h
theorem Ey {xs:List PV} {lo hi:Option Int} {Q:PV->Prop} (h:Q (.lst (HJ xs lo hi))):U0 (.lst xs) lo hi Q:=by unfold U0;exact h
def V5 (ta:AE) (l h:AO):AE:=λτ Q=>ta τ λx=>l τ λlo=>h τ λhi=>U0 x lo hi Q
theorem Gy {e:Expr} {lo hi:Option Expr} {p2 pos:Pos} {ta:AE} {l h:AO} (he:SE X e ta) (hl:SO X lo l) (hh:SO X hi h):SE X (.Subscript e (.Slice lo hi none p2) pos) (V5 ta l h):=by
 obtain ⟨t,p,s⟩:=he
 obtain ⟨t1,p1,s1'⟩:=hl
 obtain ⟨t2,p2',s2'⟩:=hh
 refine ⟨_,Y4 ((c5.or hU).or c6) p p1 p2',λB T σ τ H Q AQ sr h k=>s B T σ τ H _ _ sr h λv x T1 H1 s1 r1 h1=> ?_⟩
 refine s1' B T1 σ τ H1 _ _ (sr.stp s1) h1 λlo T2 H2 s2 h2=> ?_
 refine s2' B T2 σ τ H2 _ _ ((sr.stp s1).stp s2) h2 λhi T3 H3 s3 h3=> ?_
 have sr3:=((sr.stp s1).stp s2).stp s3
 have r3:=(r1.stp s2 (sr.stp s1).va).stp s3 ((sr.stp s1).stp s2).va
 have s123:=(s1.trans s2).trans s3
 unfold U0 at h3
 split at h3 <;> first | exact h3.elim|skip
 ·obtain ⟨a,vs,rfl,hq,rs⟩:=Cj r3
  by_cases hw:HT.sIx vs.length 0 lo=0/\HT.sIx vs.length vs.length hi=vs.length
  ·refine .inr ⟨a,vs,rfl,hq,hw,k _ _ T3 H3 s123 r3 ?_⟩
   rename_i xs
   have:HJ xs lo hi=xs:=by
    unfold HJ
    rw [<-rs.length,hw.1,hw.2,rs.length]
    simp
   rw [this] at h3
   exact h3
  ·refine .inl (.inr ⟨a,vs,rfl,hq,hw,λq Pr=> ?_⟩)
   have st:=DM.lay (o:= .tup (Nz vs lo hi)) sr3.tp Pr
   exact k _ _ T3 _ (s123.trans st) (.tup (.inl Ah) ((Uu rs lo hi).stp st sr3.va)) h3
 ·obtain ⟨a,vs,rfl,hq,nt,nm,rs⟩:=DS r3
  refine .inl (.inl ⟨a,vs,rfl, .inl (.inl hq),λq Pr=> ?_⟩)
  have st:=DM.lay (o:= .lst (Nz vs lo hi)) sr3.tp Pr
  have np:¬T3 q:=λz=>by obtain ⟨o,e,_⟩:=(sr3.tp q z).mut;rw [Pr] at e;cases e
  have nq:¬mt B σ τ q:=λz=>by obtain ⟨o,e,_⟩:=sr3.va.mu q z;rw [Pr] at e;cases e
  exact k _ _ T3 _ (s123.trans st) (.lst Ah np nq ((Uu rs lo hi).stp st sr3.va)) h3
end
def BH:AF:=λxs Q=>match xs with | [.tape, .int m] =>(0<m/\m<4611686018427387904)/\∀r,0<=r->r<m->Q (.int r)|_=>False
def MP:AF:=λxs Q=>match xs with | [.scr ns, .int k] =>(0<=k/\k<=1000)/\Q .tape|_=>False
end PL
end
section
namespace PL
open PySem PySem.Spec PyProof.Rows L2
def i7 (g:TG):Prop:=∀v σ H Q Q',(∀σ2 H2,Q σ2 H2->Q' σ2 H2)->g v σ H Q->g v σ H Q'
def eU (g:S3):Prop:=∀v σ H Q Q',(∀σ2 H2,Q σ2 H2->Q' σ2 H2)->g v σ H Q->g v σ H Q'
def SK (own:Nat) (X:Cx) (tg:Expr) (ag:AG):Prop:=∃g,PG X tg g/\Ic X.K g ag/\Gb own g/\i7 g
def lI (own:Nat) (X:Cx) (tg:List Expr) (ag:Sm):Prop:=∃g,iM X tg g/\OO X.K g ag/\MR own g/\eU g
section
variable {X:Cx} {pos:Pos} {own:Nat}
theorem Vk {i:Nat} {x:Str} (hN:X.N.Nodup) (hi:X.N[i]? =some x) (hx:Loc X.env.scope x) (hk:i<own) (hf:X.fn x=true\/X.env.scope.names.lookup x=some .local:=by first | exact .inl rfl|exact .inr rfl|assumption):SK own X (.Name x pos) (A2 i):=
 ⟨_,JB hN hi hx hf,Qe,ax hk,az⟩
theorem JZ:lI own X [] CZ:=⟨_,QI,SX,ay,bA⟩
theorem Cd {e:Expr} {es:List Expr} {ag:AG} {ags:Sm} (h1:SK own X e ag) (h2:lI own X es ags) (hs:(assignEach (e::es) X.env).map (·.2)=assign e X.env::(assignEach es X.env).map (·.2):=by rfl):lI own X (e::es) (Aj ag ags):=
 let ⟨_,p,s,k,m⟩:=h1;let ⟨_,p',s',k',m'⟩:=h2;⟨_,Gm p p' hs,Op s s',YM k m k' m',YN m m'⟩
end
def fM (K:PySem.W.Frag) (own:Nat) (ag:AG):TG:=λv σ H Q=>∃(B:Ch) (T:Addr->Prop) (τ:BB) (x:PV) (AQ:BB->Prop),SR K B T H σ τ/\CB K T (mt B σ τ) H v x/\ag x τ AQ/\
 ∀σ' τ',SR K B T H σ' τ'->(∀b,Cr σ' τ' b->Cr σ τ b)->AQ τ'->(σ'.length=σ.length/\∀j,own<=j->σ'[j]? =σ[j]?)->Q σ' H
def iZ (K:PySem.W.Frag) (a:AT):TT:=λσ H Q=>∃(B:Ch) (T:Addr->Prop) (τ:BB) (AQ:Bool->Prop),SR K B T H σ τ/\a τ AQ/\∀b T' H',DM T H T' H'->AQ b->Q b H'
def iQ (K:PySem.W.Frag) (a:AE):TE:=λσ H Q=>∃(B:Ch) (T:Addr->Prop) (τ:BB) (AQ:PV->Prop),SR K B T H σ τ/\a τ AQ/\∀v x T' H',DM T H T' H'->CB K T' (mt B σ τ) H' v x->AQ x->Q v H'
theorem Ly {K:PySem.W.Frag} {own:Nat} {ag:AG}:Ic K (fM K own ag) ag:=λB T σ τ H v x Q AQ sr r h k=>⟨B,T,τ,x,AQ,sr,r,h,λσ' τ' s o q _=>k σ' τ' s o q⟩
theorem Iv {K:PySem.W.Frag} {own:Nat} {ag:AG}:Gb own (fM K own ag):=λv σ H Q ⟨B,T,τ,x,AQ,sr,r,h,k⟩=>⟨B,T,τ,x,AQ,sr,r,h,λσ' τ' s o q z=>⟨k σ' τ' s o q z,z⟩⟩
theorem Lz {K:PySem.W.Frag} {a:AT}:LO K (iZ K a) a:=λB T σ τ H Q AQ sr h k=>⟨B,T,τ,AQ,sr,h,k⟩
theorem Qc {K:PySem.W.Frag} {a:AE}:Fj K (iQ K a) a:=λB T σ τ H Q AQ sr h k=>⟨B,T,τ,AQ,sr,h,k⟩
section
variable {X:Cx}
theorem SK.of {own:Nat} {tg:Expr} {ag:AG} (h:SK own X tg ag):PG X tg (fM X.K own ag):=by
 obtain ⟨g,p,s,k,m⟩:=h
 intro pins sh σ H v u Q I r hw
 obtain ⟨B,T,τ,x,AQ,sr,rx,h,c⟩:=hw
 have h1:g v σ H λσ' H'=>H'=H/\∃τ',SR X.K B T H σ' τ'/\(∀b,Cr σ' τ' b->Cr σ τ b)/\AQ τ':=s B T σ τ H v x _ AQ sr rx h λσ' τ' s o q=>⟨rfl,τ',s,o,q⟩
 have h2:=k v σ H _ h1
 refine p pins sh σ H v u Q I r (m v σ H _ _ (λσ2 H2 q=> ?_) h2)
 obtain ⟨⟨rfl,τ',s',o',q'⟩,z⟩:=q
 exact c σ2 τ' s' o' q' z
theorem dR.of {ifs:List Expr} {a:AT} (h:dR X ifs a):Ui X ifs (iZ X.K a):=by
 obtain ⟨t,p,s⟩:=h
 intro pins sh σ H Q I hw
 obtain ⟨B,T,τ,AQ,sr,h,c⟩:=hw
 exact p pins sh σ H Q I (s B T σ τ H Q AQ sr h c)
theorem SE.of {e:Expr} {a:AE} (h:SE X e a):PE X e (iQ X.K a):=by
 obtain ⟨t,p,s⟩:=h
 intro pins sh σ H Q I hw
 obtain ⟨B,T,τ,AQ,sr,h,c⟩:=hw
 exact p pins sh σ H Q I (s B T σ τ H Q AQ sr h c)
theorem De {tg elt:Expr} {ifs:List Expr} {scope:Scope} {own:Nat} {ix:List Nat} {N:List Str} {g:AG} {t:AT} {te:AE} (h1:scope.kind= .function) (h2:(scope.names.all λy=> !decide (y.2= .cell))=true) (h3:(scope.names.all λy=> !decide (y.2= .local)||decide (scope.names.lookup y.1=some .local))=true)
 (h4:(scope.names.all λy=> !decide (y.2= .free)||decide (X.env.scope.names.lookup y.1=some .cell))=true) (h5:N.length=own+ix.length) (h6:Mh X (relabel scope X.env) own ix N=true)
 (tgt:∀cl C s H ex pn,SK own (blk X (relabel scope X.env) N cl C s H ex pn) tg g)
 (tst:∀cl C s H ex pn,dR (blk X (relabel scope X.env) N cl C s H ex pn) ifs t)
 (val:∀cl C s H ex pn,SE (blk X (relabel scope X.env) N cl C s H ex pn) elt te):Xb X tg elt ifs scope own ix N g t te:=
 ⟨fM X.K own g,iZ X.K t,iQ X.K te,Ut h1 h2 h3 h4 h5 h6 Iv (λcl C s H ex pn=>(tgt cl C s H ex pn).of) (λcl C s H ex pn=>(tst cl C s H ex pn).of) (λcl C s H ex pn=>(val cl C s H ex pn).of),Ly,Lz,Qc⟩
end
end PL
end
section
namespace PL
open PySem PySem.Spec PyProof.Rows L2
mutual
def pd:PV->PyData
 | .bl b=> .bool b
 | .int i=> .int i
 | .str x=> .str x
 | .tup xs=> .tuple (Nj xs)
 | .lst xs=> .list (Nj xs)
 | _=> .none
def Nj:List PV->List PyData
 | [] => []
 | x::xs=>pd x::Nj xs
end
mutual
def EK:Nat->PV->Bool
 | _, .non=>true
 | _, .bl _=>true
 | _, .int _=>true
 | _, .str x=>PyData.strOk x
 | n+1, .tup xs=>Hu n xs
 | n+1, .lst xs=>Hu n xs
 | _,_=>false
def Hu:Nat->List PV->Bool
 | _, [] =>true
 | n,x::xs=>EK n x&&Hu n xs
end
mutual
theorem G4:∀(n:Nat) (x:PV),EK n x=true->(pd x).canLay0=true/\(pd x).depth<=n/\(pd x).hasDict=false
 | n, .non,_=>⟨rfl,Nat.zero_le _,rfl⟩
 | n, .bl _,_=>⟨rfl,Nat.zero_le _,rfl⟩
 | n, .int _,_=>⟨rfl,Nat.zero_le _,rfl⟩
 | n, .str x,h=>⟨by simpa [pd,PyData.canLay0,EK] using h,Nat.zero_le _,rfl⟩
 | 0, .tup xs,h=>by simp [EK] at h
 | 0, .lst xs,h=>by simp [EK] at h
 | n+1, .tup xs,h=>by
   obtain ⟨a,b,c⟩:=I0 n xs (by simpa [EK] using h)
   exact ⟨by simpa [pd,PyData.canLay0] using a,by simpa [pd,PyData.depth] using b,by simpa [pd,PyData.hasDict] using c⟩
 | n+1, .lst xs,h=>by
   obtain ⟨a,b,c⟩:=I0 n xs (by simpa [EK] using h)
   exact ⟨by simpa [pd,PyData.canLay0] using a,by simpa [pd,PyData.depth] using b,by simpa [pd,PyData.hasDict] using c⟩
 | n, .tape,h=>by simp [EK] at h
 | n, .scr _,h=>by simp [EK] at h
 | n, .ty _,h=>by simp [EK] at h
theorem I0:∀(n:Nat) (xs:List PV),Hu n xs=true->PyData.canLayAll0 (Nj xs)=true/\PyData.depthAll (Nj xs)<=n/\PyData.hasDictAll (Nj xs)=false
 | n, [],_=>⟨rfl,Nat.zero_le _,rfl⟩
 | n,x::xs,h=>by
   simp only [Hu,Bool.and_eq_true] at h
   obtain ⟨a,b,c⟩:=G4 n x h.1
   obtain ⟨a',b',c'⟩:=I0 n xs h.2
   exact ⟨by simp [Nj,PyData.canLayAll0,a,a'],by simp only [Nj,PyData.depthAll];omega,by simp [Nj,PyData.hasDictAll,c,c']⟩
end
section
variable {X:Cx} {pins:List (Addr×Obj)} {σ:L2.St} {H:Hp} {s:Shared}
mutual
theorem Dy (I:Inv X pins σ H s) {T M:Addr->Prop}:∀(n:Nat) {x:PV} {v:V} {u:Value},CB X.K T M H v x->EK n x=true->RelV v u->∃as,Reads s.heap u (pd x) as
 | _,_,_,_, .non,_,r=>by cases r;exact ⟨_, .none⟩
 | _,_,_,_, .bl b,_,r=>by cases r;exact ⟨_, .bool b⟩
 | _,_,_,_, .int i,_,r=>by obtain ⟨t,rfl⟩:=r;exact ⟨_, .int i t⟩
 | _,_,_,_, .str x,_,r=>by obtain ⟨t,rfl⟩:=r;exact ⟨_, .str x t⟩
 | _,_,_,_, .ty n,h,r=>by simp [EK] at h
 | 0,_,_,_, .tup hq rs,h,r=>by simp [EK] at h
 | 0,_,_,_, .lst hq t m rs,h,r=>by simp [EK] at h
 | n+1,_,_,_, .tup hq rs,h,r=>by
   cases r
   obtain ⟨its,rv,⟨o,ho,hc,k,hd⟩,_⟩:=I.tuple hq.sq
   obtain ⟨as,ra⟩:=Gq I n rs (by simpa [EK] using h) rv
   exact ⟨_, .tuple ho hc hd (by simpa using ra)⟩
 | n+1,_,_,_, .lst hq t m rs,h,r=>by
   cases r
   obtain ⟨its,rv,⟨o,k,ho,hc,_,hd⟩,_⟩:=I.list (GC.of hq)
   obtain ⟨as,ra⟩:=Gq I n rs (by simpa [EK] using h) rv
   exact ⟨_, .list ho hc hd (by simpa using ra)⟩
 | _,_,_,_, .tape _,h,r=>by simp [EK] at h
 | _,_,_,_, .scr _,h,r=>by simp [EK] at h
theorem Gq (I:Inv X pins σ H s) {T M:Addr->Prop}:∀(n:Nat) {xs:List PV} {vs:List V} {us:List Value},Az X.K T M H vs xs->Hu n xs=true->Ar vs us->∃as,ReadsAll s.heap us (Nj xs) as
 | _,_,_,_, .nil,_,r=>by cases r;exact ⟨_, .nil⟩
 | n,_,_,_, .cons h t,hk,r=>by
   simp only [Hu,Bool.and_eq_true] at hk
   cases r with
   | cons r rr=>
     obtain ⟨as,ra⟩:=Dy I n h hk.1 r
     obtain ⟨bs,rb⟩:=Gq I n t hk.2 rr
     exact ⟨_, .cons ra rb⟩
end
end
section
variable {X:Cx}
def fG (x y:PV):Bool:=PyData.eqv (pd x) (pd y)
def cX (K:PySem.W.Frag) (neg:Bool):R2:=λu v H Q=>∃(T M:Addr->Prop) (x y:PV),CB K T M H u x/\CB K T M H v y/\EK 30 x=true/\EK 30 y=true/\Q (.bl (if neg then !fG x y else fG x y)) H
theorem gR {k:Nat} (hr:Room k X.A):EB X (compareOp .Eq) (cX X.K false):=by
 intro pins s σ H u v uu vv Q I ru rv h
 obtain ⟨T,M,x,y,rx,ry,kx,ky,q⟩:=h
 obtain ⟨as,ra⟩:=Dy I 30 rx kx ru
 obtain ⟨bs,rb⟩:=Dy I 30 ry ky rv
 obtain ⟨a1,a2,_⟩:=G4 30 x kx
 obtain ⟨b1,b2,_⟩:=G4 30 y ky
 exact SeqAt.compareEq_reads ra rb a1 b1 (by have:=hr.un;omega) ⟨.bl _,H,I,rfl,q⟩
theorem gT {k:Nat} (hr:Room k X.A):EB X (compareOp .NotEq) (cX X.K true):=by
 intro pins s σ H u v uu vv Q I ru rv h
 obtain ⟨T,M,x,y,rx,ry,kx,ky,q⟩:=h
 obtain ⟨as,ra⟩:=Dy I 30 rx kx ru
 obtain ⟨bs,rb⟩:=Dy I 30 ry ky rv
 obtain ⟨a1,a2,_⟩:=G4 30 x kx
 obtain ⟨b1,b2,_⟩:=G4 30 y ky
 exact SeqAt.compareNe_reads ra rb a1 b1 (by have:=hr.un;omega) ⟨.bl _,H,I,rfl,q⟩
def LR:II:=λx y Q=>match Vd x y with | some b=>Q (.bl b)|none=>(EK 30 x=true/\EK 30 y=true)/\Q (.bl (fG x y))
def ao:II:=λx y Q=>match Vd x y with | some b=>Q (.bl (!b))|none=>(EK 30 x=true/\EK 30 y=true)/\Q (.bl (!fG x y))
def kC (K:PySem.W.Frag):R2:=λx y H Q=>qK x y H Q\/cX K false x y H Q
def kI (K:PySem.W.Frag):R2:=λx y H Q=>qL x y H Q\/cX K true x y H Q
theorem DU {k:Nat} (hr:Room k X.A):EB X (compareOp .Eq) (kC X.K)/\B6 X.K (kC X.K) LR:=by
 refine ⟨jy.or (gR hr),λT M H u v x y Q AQ va ru rv h k=> ?_⟩
 unfold LR at h
 split at h
 ·rename_i b e
  obtain ⟨h1,h2⟩:=SN ru rv e
  refine .inl ⟨h1, ?_⟩
  rw [h2]
  exact k _ _ T H (.refl va.tp) (.bl _) h
 ·exact .inr ⟨T,M,x,y,ru,rv,h.1.1,h.1.2,k _ _ T H (.refl va.tp) (.bl _) h.2⟩
theorem Zi {k:Nat} (hr:Room k X.A):EB X (compareOp .NotEq) (kI X.K)/\B6 X.K (kI X.K) ao:=by
 refine ⟨j3.or (gT hr),λT M H u v x y Q AQ va ru rv h k=> ?_⟩
 unfold ao at h
 split at h
 ·rename_i b e
  obtain ⟨h1,h2⟩:=SN ru rv e
  refine .inl ⟨h1, ?_⟩
  rw [h2]
  exact k _ _ T H (.refl va.tp) (.bl _) h
 ·exact .inr ⟨T,M,x,y,ru,rv,h.1.1,h.1.2,k _ _ T H (.refl va.tp) (.bl _) h.2⟩
structure e5 (x:PV):Prop where
 ok:EK 30 x=true
 sh:(pd x).showable=true
 sz:(pd x).shown.length<=sizeLine
end
end PL
end
section
namespace PL
open PySem PySem.Spec PyProof.Rows L2
section
variable {prog:Program} {w:World} {A:Around} {E:Value->Shared->Prop} {s:Shared}
theorem Kv {h:Heap} {l:Addr} {items:Array Value} (hl:h.IsList l items) (o:Obj):(h.push o).IsList l items:=by
 obtain ⟨ob,e,r⟩:=hl
 exact ⟨ob,Heap.get?_push_of_some _ e,r⟩
theorem Oa {it t:Addr} {items:Array Value} (VA:t≠it):∀(n i:Nat) (s:Shared) (Q:List Value->Shared->Prop),s.heap.IsListIter it t i->s.heap.IsList t items->i+n<=items.size->
 (∀h',h'.IsListIter it t (i+n)->Heap.SameBut it s.heap h'->Q ((items.toList.drop i).take n) {s with heap:=h'})->wpAny (model prog w) A (draw (.ref it) n) Q E s
 | 0,i,s,Q,hit,_,_,hQ=>by
   show wpAny _ _ (pure []) Q E s
   exact wpAny_pure (by simpa using hQ s.heap hit (Heap.SameBut.refl ..))
 | n+1,i,s,Q,hit,ht,WU,hQ=>by
   have Dk:i<items.size:=by omega
   show wpAny _ _ (pyNext (.ref it) >>= _) Q E s
   refine wpAny_bind (wpAny_pyNext_list_item hit ht (x:=items[i]) (by simp [Dk]) λh₁ hit₁ hs₁=> ?_)
   refine wpAny_bind (wpAny_holding (Oa VA n (i+1) _ _ hit₁ (ht.extBut hs₁.extBut VA) (by omega) λh₂ hit₂ hs₂=>wpAny_pure ?_))
   have hd:items.toList.drop i=items[i] :: items.toList.drop (i+1):=by simp [List.drop_eq_getElem_cons,Dk]
   have:=hQ h₂ (by rw [show i+(n+1)=i+1+n by omega];exact hit₂) (hs₁.trans hs₂)
   rw [hd,List.take_succ_cons] at this
   exact this
theorem KW {t:Addr} {items:Array Value} {Q:List Value->Shared->Prop} (hh:A.handled=none) (ht:s.heap.IsList t items)
 (hQ:∀h',Heap.ExtBut s.heap.objs.size s.heap h'->Q items.toList {s with heap:=h'}):wpAny (model prog w) A (unpackItems (.ref t) items.size none) Q E s:=by
 have Dk:t≠s.heap.objs.size:=by obtain ⟨o,ho,_⟩:=ht;exact Nat.ne_of_lt (Heap.lt_size ho)
 unfold unpackItems
 refine wpAny_bind ?_
 ·unfold notIterableAtAll
  refine wpAny_bind (wpAny_specialOf ht.typeIs slot_list_iter.lookup ?_)
  refine wpAny_pure ?_
  simp only [Bool.false_eq_true,if_false]
  refine wpAny_bind (wpAny_holding (wpAny_pyIter_list ht ?_))
  refine wpAny_bind (wpAny_holding (Oa Dk items.size 0 _ _ ⟨_,Heap.get?_push_size _ rfl,rfl,rfl⟩ (Kv ht _) (by omega) λh₁ hit₁ hs₁=> ?_))
  have WR:List.take items.size (List.drop 0 items.toList)=items.toList:=by
   rw [List.drop_zero];exact List.take_of_length_le (by simp)
  rw [WR]
  rw [if_neg (by simp)]
  have ht₁:h₁.IsList t items:=(Kv ht _).extBut hs₁.extBut Dk
  refine wpAny_bind (wpAny_holding (wpAny_pyNext_list_end hh hit₁ ht₁ (by simp) λh₂ he₂=> ?_))
  simp only [Option.isSome_none,Bool.false_eq_true,if_false]
  refine wpAny_pure (hQ h₂ λb o hb e=>he₂ b o hb (hs₁.extBut b o hb (Heap.get?_push_of_some _ e)))
theorem Ig {env:Env} {elts:List Expr} {x1} {pos:Pos} {t:Addr} {items:Array Value} {Q:Unit->Shared->Prop} (hh:A.handled=none) (ht:s.heap.IsList t items)
 (hn:(assignEach elts env).length=items.size) (je:(assignEach elts env).findIdx? (·.1)=none)
 (h:∀h',Heap.ExtBut s.heap.objs.size s.heap h'->wpAny (model prog w) A (assignInOrder ((assignEach elts env).map (·.2)) items.toList) Q E {s with heap:=h'}):
 wpAny (model prog w) A (assign (.Tuple elts x1 pos) env (.ref t)) Q E s:=by
 rw [assign_Tuple]
 refine wpAny_bind (wpAny_standAt ?_)
 unfold unpack
 rw [hn,je]
 exact wpAny_bind (wpAny_holding (KW hh ht h))
end
section
variable {X:Cx} {pos:Pos}
def WK (K:PySem.W.Frag) (n:Nat) (t:S3):TG:=λv σ H Q=>∃a xs,v= .ref a/\(J6 K H a xs\/GC K H a xs)/\xs.length=n/\t xs σ H Q
theorem UF {es:List Expr} {k:Nat} {t:S3} {n:Nat} (hc:X.calm=true) (h:iM X es t)
 (hn:(assignEach es X.env).length=n:=by rfl) (Ti:(assignEach es X.env).findIdx? (·.1)=none:=by rfl):PG X (.Tuple es k pos) (WK X.K n t):=by
 intro pins s σ H v u Q I r hw
 obtain ⟨a,xs,e1,hq,hl,hw⟩:=hw
 subst e1
 cases r
 rcases hq with hq|hq
 ·obtain ⟨its,rv,ht,hz⟩:=I.tuple hq
  refine assign_Tuple_tuple (I.ok.hd hc) ht (by simp [hn,<-hl,rv.length]) Ti λh' hx=> ?_
  have I1:Inv X pins σ H {s with heap:=h'}:=I.kept (t':=s.toks) λb o e=>hx b o (Nat.ne_of_lt (Heap.lt_size e)) e
  exact h pins _ σ H xs _ Q I1 (by simpa using rv) hw
 ·obtain ⟨its,rv,ht,hz⟩:=I.list hq
  refine Ig (I.ok.hd hc) ht.isList (by simp [hn,<-hl,rv.length]) Ti λh' hx=> ?_
  have I1:Inv X pins σ H {s with heap:=h'}:=I.kept (t':=s.toks) λb o e=>hx b o (Nat.ne_of_lt (Heap.lt_size e)) e
  exact h pins _ σ H xs _ Q I1 (by simpa using rv) hw
def MX (n:Nat) (r:Sm):AG:=λx τ Q=>Qt x λxs=>xs.length=n/\r xs τ Q
theorem Zc {K:PySem.W.Frag} {n:Nat} {gs:S3} {ags:Sm} (s:OO K gs ags):Ic K (WK K n gs) (MX n ags):=λB T σ τ H v x Q AQ sr r h k=>by
 obtain ⟨xs,hx,h⟩:=Hw h
 rcases hx with rfl|rfl
 ·obtain ⟨p,vs,rfl,hq,r'⟩:=Cj r
  exact ⟨p,vs,rfl, .inl hq,by rw [r'.length];exact h.1,s B T σ τ H vs _ Q AQ sr r' h.2 k⟩
 ·obtain ⟨p,vs,rfl,hq,nt,nm,r'⟩:=DS r
  exact ⟨p,vs,rfl, .inr (.inl (.inl hq)),by rw [r'.length];exact h.1,s B T σ τ H vs _ Q AQ sr r' h.2 k⟩
theorem FB {es:List Expr} {k:Nat} {ags:Sm} {n:Nat} (hc:X.calm=true) (h:lH X es ags) (hn:(assignEach es X.env).length=n:=by rfl) (Ti:(assignEach es X.env).findIdx? (·.1)=none:=by rfl):SG X (.Tuple es k pos) (MX n ags):=
 let ⟨_,p,s⟩:=h;⟨_,UF hc p hn Ti,Zc s⟩
theorem fN {own:Nat} {K:PySem.W.Frag} {n:Nat} {t:S3} (h:MR own t):Gb own (WK K n t):=λv σ H Q ⟨a,xs,e,h1,h2,h3⟩=>⟨a,xs,e,h1,h2,h xs σ H Q h3⟩
theorem NQ {own:Nat} {es:List Expr} {k:Nat} {ags:Sm} {n:Nat} (hc:X.calm=true) (h:lI own X es ags) (hn:(assignEach es X.env).length=n:=by rfl) (Ti:(assignEach es X.env).findIdx? (·.1)=none:=by rfl):SK own X (.Tuple es k pos) (MX n ags):=
 let ⟨_,p,s,kp,m⟩:=h;⟨_,UF hc p hn Ti,Zc s,fN kp,λv σ H Q Q' z ⟨a,xs,e,h1,h2,h3⟩=>⟨a,xs,e,h1,h2,m _ _ _ _ _ z h3⟩⟩
theorem fk:iN X .Mult (λx y H Q=>∃i j,x= .int i/\y= .int j/\MulOk i j/\Q (.int (i*j)) H):=by
 intro pins s σ H x y v u Q I r1 r2 h
 obtain ⟨i,j,e1,e2,c,q⟩:=h
 subst e1;subst e2
 obtain ⟨t,rfl⟩:=r1
 obtain ⟨t',rfl⟩:=r2
 exact AutoIntOps.imul_0 (show (Made.int (i*j)).post _ _ from ⟨.int _,H,I.tok _,⟨_,rfl⟩,q⟩) (.of_le (G1 c.l) (G1 c.r) (by decide))
theorem hI:iN X .Mult (λx y H Q=>∃i j,x= .int i/\y= .int j/\MulOk i j/\Q (.int (i*j)) H)/\B6 X.K (λx y H Q=>∃i j,x= .int i/\y= .int j/\MulOk i j/\Q (.int (i*j)) H) DH:=⟨fk,λT M H u v x y Q AQ va ru rv h k=>by
 obtain ⟨i,j,rfl,rfl,c,q⟩:=Lp h
 exact ⟨i,j,ru.toI,rv.toI,c,k _ _ T H (.refl va.tp) (.int _) q⟩⟩
end
end PL
end
section
namespace PL
open PySem PySem.Spec PyProof.Rows L2
theorem NS {i:Int} (a:0<=i) (b:i<2147483647): -(2^64)<i/\i<2^64:=⟨by omega,by omega⟩
theorem sQ (b:Bool):(0:Int)<=(if b=true then 1 else 0):=by cases b <;> decide
theorem pO (b:Bool): -(2^64)<(if b=true then (1:Int) else 0)/\(if b=true then (1:Int) else 0)<2^64:=by cases b <;> decide
theorem Zx {T:Addr->Prop} {H:Hp} {p:Addr} {d x:Int} (tp:∀a,T a->EQ H a) (t:T p) (d0:0<=d) (x0:0<=x) (x1:x<2147483647):DM T H T (upd H p (.lst [.int d, .int x])) where
 keep:=λb o n e=>by rw [Ag (λz=>n (by subst z;exact t))];exact e
 sub:=λ_ t=>t
 new:=λ_ t=> .inl t
 tp:=λa ta=>by
  by_cases z:a=p
  ·subst z;exact ⟨d,x,Ah,d0,x0,x1⟩
  ·obtain ⟨d',x',e,q⟩:=tp a ta
   exact ⟨d',x',by rw [Ag z];exact e,q⟩
theorem Zw {T:Addr->Prop} {H:Hp} {p:Addr} {d x:Int} (tp:∀a,T a->EQ H a) (hp:H p=none) (d0:0<=d) (x0:0<=x) (x1:x<2147483647):DM T H (λb=>T b\/b=p) (upd H p (.lst [.int d, .int x])) where
 keep:=λb o n e=>by rw [Ag (Ao e hp)];exact e
 sub:=λ_ t=> .inl t
 new:=λb t=>t.elim .inl λz=> .inr (by subst z;exact hp)
 tp:=λa ta=>by
  by_cases z:a=p
  ·subst z;exact ⟨d,x,Ah,d0,x0,x1⟩
  ·rcases ta with ta|ta
   ·obtain ⟨d',x',e,q⟩:=tp a ta
    exact ⟨d',x',by rw [Ag z];exact e,q⟩
   ·exact absurd ta z
theorem law_sp {K:PySem.W.Frag} {H:Hp} {a:Addr} {ns:List Int} {F:AF} (hS:GC K H a (ns.map V.int)) (h:F [.scr ns] λx=>x= .bl true):BQ K 1 F [.ref a] H (λv _=>v= .bl true) λ_ _ _=>False:=by
 refine ⟨λ_=>False,λ_=>False, [.scr ns],_,⟨λ_ z=>z.elim,λ_ z=>z.elim⟩,λ_ z=>z.elim, .cons (.scr ?_) .nil,rfl,h,λv x T' H' _ r e=> ?_⟩
 ·rcases hS with h|h
  ·exact .inl ⟨h,id,id⟩
  ·exact .inr λH=> .inr h
 ·subst e;cases r;rfl
theorem Io {g:AG} {b:AS} {D:GT} (Pv:List PV->BB->Prop) (hd:∀τ,Pv [] τ->D.nx τ)
 (hs:∀x r τ (R:BB->Prop),(∀τ,Pv r τ->R τ)->Pv (x::r) τ->g x τ λτ1=>b {D with nx:=R,ct:=R,bk:=D.nx} τ1):
 ∀xs τ,Pv xs τ->D8 g b D xs τ
 | [],τ,h=>hd τ h
 | x::r,τ,h=>hs x r τ _ (λτ2 h2=>Io Pv hd hs r τ2 h2) h
theorem Ue {c:AT} {b:AS} {D:GT} (Pv:Nat->BB->Prop) (h0:∀τ,¬Pv 0 τ)
 (hs:∀n τ (R:BB->Prop),(∀τ,Pv n τ->R τ)->Pv (n+1) τ->c (frz τ) λk=>if k=true then b {D with nx:=R,ct:=R,bk:=D.nx} τ else D.nx τ):
 ∀n τ,Pv n τ->Sg c b D n τ
 | 0,τ,h=>absurd h (h0 τ)
 | n+1,τ,h=>hs n τ _ (λτ2 h2=>Ue Pv h0 hs n τ2 h2) h
theorem JE (lo:Int) (n:Nat):rng lo (n+1)= .int lo::rng (lo+1) n:=by
 unfold rng
 rw [List.range_succ_eq_map,List.map_cons,List.map_map]
 congr 1
 ·simp
 ·apply List.map_congr_left
  intro k _
  simp only [Function.comp]
  congr 1
  omega
theorem UJ (lo:Int) (n:Nat):(rng lo n).length=n:=by simp [rng]
end PL
end
section
namespace PL
open PySem L2 PyProof.Rows
def fr (r:Rat):PV:= .tup [.int r.num, .int (r.den:Int)]
theorem Eb {b:Bool} {A B:Prop} (h1:b=true->A) (h2:b=false->B):if b=true then A else B:=by
 cases b with
 | true=>rw [if_pos rfl];exact h1 rfl
 | false=>rw [if_neg Bool.false_ne_true];exact h2 rfl
structure Bd (n:Nat) (r:Rat):Prop where
 top:r.num.natAbs<2^n
 bot:r.den<2^n
theorem Bd.botI {n:Nat} {r:Rat} (b:Bd n r):(r.den:Int).natAbs<2^n:=by simpa using b.bot
theorem M6 {m n:Nat} (h:m<=n):2^m<=2^n:=Nat.pow_le_pow_right (by decide) h
theorem Bd.mono {m n:Nat} {r:Rat} (b:Bd m r) (h:m<=n):Bd n r:=⟨Nat.lt_of_lt_of_le b.top (M6 h),Nat.lt_of_lt_of_le b.bot (M6 h)⟩
theorem Ym {a b m n:Nat} (ha:a<2^m) (hb:b<2^n):a*b<2^(m+n):=by
 rw [Nat.pow_add]
 exact Nat.mul_lt_mul_of_lt_of_le ha (Nat.le_of_lt hb) (Nat.pos_of_ne_zero (by intro z;rw [z] at hb;omega)) |> λh=>h
theorem BX {a b:Int} {m n:Nat} (ha:a.natAbs<2^m) (hb:b.natAbs<2^n):(a*b).natAbs<2^(m+n):=by
 rw [Int.natAbs_mul];exact Ym ha hb
theorem Ul {a b:Int} {n:Nat} (ha:a.natAbs<2^n) (hb:b.natAbs<2^n):(a+b).natAbs<2^(n+1):=by
 rw [Nat.pow_succ];omega
theorem Qm {a b:Int} {n:Nat} (ha:a.natAbs<2^n) (hb:b.natAbs<2^n):(a-b).natAbs<2^(n+1):=by
 rw [Nat.pow_succ];omega
theorem Ay {a m n:Nat} (h:a<2^m) (hm:m<=n):a<2^n:=Nat.lt_of_lt_of_le h (M6 hm)
theorem MulOk.of {a b:Int} {m n:Nat} (ha:a.natAbs<2^m) (hb:b.natAbs<2^n) (hm:m<=1000000:=by omega) (hn:n<=1000000:=by omega):MulOk a b:=⟨Ay ha hm,Ay hb hn⟩
theorem TQ (t b:Int):(Rat.divInt t b).num.natAbs<=t.natAbs:=by
 rw [Rat.num_divInt]
 by_cases h:b=0
 ·subst h;simp
 ·have e:(b.gcd t:Int) ∣ b.sign*t:=Int.dvd_trans (Int.gcd_dvd_right ..) (Int.dvd_mul_left ..)
  rw [Int.natAbs_ediv_of_dvd e,Int.natAbs_mul]
  refine Nat.le_trans (Nat.div_le_self _ _) ?_
  rw [Int.natAbs_sign_of_ne_zero h]
  omega
theorem TN (t b:Int) (h:b≠0):(Rat.divInt t b).den<=b.natAbs:=by
 rw [Rat.den_divInt,if_neg h]
 exact Nat.div_le_self _ _
theorem Bd.divInt {n:Nat} {t b:Int} (h:b≠0) (ht:t.natAbs<2^n) (hb:b.natAbs<2^n):Bd n (Rat.divInt t b):=
 ⟨Nat.lt_of_le_of_lt (TQ t b) ht,Nat.lt_of_le_of_lt (TN t b h) hb⟩
theorem BU (a:Rat):(a.den:Int)≠0:=by have:=a.den_pos;omega
theorem Hk (a b:Rat):a+b=Rat.divInt (a.num*b.den+b.num*a.den) (a.den*b.den):=by
 have h:=Rat.divInt_add_divInt a.num b.num (BU a) (BU b)
 rw [Rat.num_divInt_den,Rat.num_divInt_den] at h
 exact h
theorem ID (a b:Rat):a-b=Rat.divInt (a.num*b.den-b.num*a.den) (a.den*b.den):=by
 have h:=Rat.divInt_sub_divInt a.num b.num (BU a) (BU b)
 rw [Rat.num_divInt_den,Rat.num_divInt_den] at h
 exact h
theorem Ht (a b:Rat):a*b=Rat.divInt (a.num*b.num) (a.den*b.den):=by
 have h:=Rat.divInt_mul_divInt a.num b.num (d₁:=a.den) (d₂:=b.den)
 rw [Rat.num_divInt_den,Rat.num_divInt_den] at h
 exact h
theorem Hq (a b:Rat):a/b=Rat.divInt (a.num*b.den) (a.den*b.num):=by
 rw [Rat.div_def,Rat.inv_def]
 have h:=Rat.divInt_mul_divInt a.num b.den (d₁:=a.den) (d₂:=b.num)
 rw [Rat.num_divInt_den] at h
 exact h
theorem DN {a b:Int} (ha:a≠0) (hb:b≠0):a*b≠0:=Int.mul_ne_zero ha hb
theorem Tw {b:Rat} (h:b≠0):b.num≠0:=λz=>h (Rat.num_eq_zero.mp z)
theorem Bd.add {m n:Nat} {a b:Rat} (ha:Bd m a) (hb:Bd n b):Bd (m+n+1) (a+b):=by
 rw [Hk]
 refine .divInt (DN (BU a) (BU b)) (Ul (BX ha.top (by simpa using hb.bot)) ?_) ?_
 ·rw [Nat.add_comm m n];exact BX hb.top (by simpa using ha.bot)
 ·exact Ay (BX (by simpa using ha.bot) (by simpa using hb.bot)) (by omega)
theorem Bd.sub {m n:Nat} {a b:Rat} (ha:Bd m a) (hb:Bd n b):Bd (m+n+1) (a-b):=by
 rw [ID]
 refine .divInt (DN (BU a) (BU b)) (Qm (BX ha.top (by simpa using hb.bot)) ?_) ?_
 ·rw [Nat.add_comm m n];exact BX hb.top (by simpa using ha.bot)
 ·exact Ay (BX (by simpa using ha.bot) (by simpa using hb.bot)) (by omega)
theorem Bd.mul {m n:Nat} {a b:Rat} (ha:Bd m a) (hb:Bd n b):Bd (m+n) (a*b):=by
 rw [Ht]
 exact .divInt (DN (BU a) (BU b)) (BX ha.top hb.top) (BX (by simpa using ha.bot) (by simpa using hb.bot))
theorem Bd.div {m n:Nat} {a b:Rat} (h:b≠0) (ha:Bd m a) (hb:Bd n b):Bd (m+n) (a/b):=by
 rw [Hq]
 exact .divInt (DN (BU a) (Tw h)) (BX ha.top (by simpa using hb.bot)) (BX (by simpa using ha.bot) hb.top)
theorem Bd.neg {n:Nat} {a:Rat} (ha:Bd n a):Bd n (-a):=⟨by show (-a.num).natAbs<_;rw [Int.natAbs_neg];exact ha.top,ha.bot⟩
theorem YG (n:Int):fr (n:Rat)= .tup [.int n, .int 1] :=by simp [fr]
theorem Bd.int {n:Int} {k:Nat} (h:n.natAbs<2^k) (hk:1<=k):Bd k (n:Rat):=⟨by simpa using h,by simp;omega⟩
def XY:AS:=
 (Ad (J8 (A1 (AY ao (aV 1) (aC (.int 0)))) (Pd 0 1 (AB (aV 1) (AB (AY YF (aV 0) (aV 1)) AL))))
   (Av (aV 0)))
def GX:AF:=A5 2 XY
theorem Kk (x y:Nat) (Q:PV->Prop) (h:Q (.int (Nat.gcd x y:Nat))):GX [.int x, .int y] Q:=by
 have go:∀y x:Nat,∀D:GT,D.nx [some (.val (.int (Nat.gcd x y:Nat))),some (.val (.int 0))] ->∃n,Sg (A1 (AY ao (aV 1) (aC (.int 0)))) (Pd 0 1 (AB (aV 1) (AB (AY YF (aV 0) (aV 1)) AL))) D n [some (.val (.int x)),some (.val (.int y))] :=by
  intro y
  induction y using Nat.strongRecOn with
  | _ y ih=>
    intro x D hD
    by_cases hy:y=0
    ·subst hy
     refine ⟨1, ?_⟩
     rw [Nat.gcd_zero_right] at hD
     exact hD
    ·obtain ⟨n,hn⟩:=ih (x % y) (Nat.mod_lt _ (by omega)) y D (by rw [Nat.gcd_comm y,<-Nat.gcd_rec,Nat.gcd_comm y];exact hD)
     refine ⟨n+1, ?_⟩
     refine Eb (b:= !decide ((y:Int)=0)) (λ_=> ?_) (λz=> ?_)
     ·have e2:(x:Int).fmod (y:Int)=((x % y:Nat):Int):=by
       rw [Int.fmod_eq_emod_of_nonneg _ (by omega)];simp
      refine ⟨by omega, ?_⟩
      rw [<-e2] at hn
      exact hn
     ·have:(y:Int)=0:=by simpa using z
      omega
 obtain ⟨n,hn⟩:=go y x {nx:=λτ=>Av (aV 0) {nx:=λ_=>Q .non,rt:=Q,bk:=λ_=>False,ct:=λ_=>False} τ,rt:=Q,bk:=λ_=>False,ct:=λ_=>False} h
 exact ⟨n,hn⟩
def Vw:AS:=
 (Ad (Bn (A1 (AY Z7 (aV 1) (aC (.int 0)))) (A0 (Sk KE (aV 2)) (A2 2)) BJ)
   (Av (BG (AB (AY Pi (aV 0) (aV 2)) (AB (AY Pi (aV 1) (aV 2)) AL)))))
def eO:AS:=
 (Ad (A0 (AN 2 GX (AB (Ea WJ (AB (aV 0) AL)) (AB (Ea WJ (AB (aV 1) AL)) AL))) (A2 2))
   Vw)
def GZ:AF:=A5 3 eO
theorem Yy (t b:Int) (hb:b≠0):∀s:Int,s=(if b<0 then -(Nat.gcd t.natAbs b.natAbs:Int) else (Nat.gcd t.natAbs b.natAbs:Int))->s≠0/\t.fdiv s=(Rat.divInt t b).num/\b.fdiv s=((Rat.divInt t b).den:Int):=by
 intro s hs
 have g0:0<Nat.gcd t.natAbs b.natAbs:=Nat.gcd_pos_of_pos_right _ (by omega)
 have eg:b.gcd t=Nat.gcd t.natAbs b.natAbs:=by rw [Int.gcd_eq_natAbs_gcd_natAbs,Nat.gcd_comm]
 have d1:(Nat.gcd t.natAbs b.natAbs:Int) ∣ t:=by rw [<-Int.dvd_natAbs];exact Int.ofNat_dvd.mpr (Nat.gcd_dvd_left ..)
 have d2:(Nat.gcd t.natAbs b.natAbs:Int) ∣ b:=by rw [<-Int.dvd_natAbs];exact Int.ofNat_dvd.mpr (Nat.gcd_dvd_right ..)
 have d1':s ∣ t:=by rw [hs];split <;> first | exact Int.neg_dvd.mpr d1|exact d1
 have d2':s ∣ b:=by rw [hs];split <;> first | exact Int.neg_dvd.mpr d2|exact d2
 refine ⟨by rw [hs];split <;> omega, ?_, ?_⟩
 ·rw [Int.fdiv_eq_ediv_of_dvd d1',Rat.num_divInt,eg,hs]
  by_cases h:b<0
  ·rw [if_pos h,Int.sign_eq_neg_one_of_neg h,Int.ediv_neg]
   have:(-1:Int)*t= -t:=by omega
   rw [this,Int.neg_ediv_of_dvd d1]
  ·rw [if_neg h,Int.sign_eq_one_of_pos (by omega),Int.one_mul]
 ·rw [Int.fdiv_eq_ediv_of_dvd d2',Rat.den_divInt,if_neg hb,eg,hs]
  by_cases h:b<0
  ·rw [if_pos h,Int.ediv_neg]
   have:(b.natAbs:Int)= -b:=by omega
   rw [Int.natCast_ediv,this,Int.neg_ediv_of_dvd d2]
  ·rw [if_neg h]
   have:(b.natAbs:Int)=b:=by omega
   rw [Int.natCast_ediv,this]
theorem FP (t b:Int) (hb:b≠0) (hB:b.natAbs<2^8900) (Q:PV->Prop) (h:Q (fr (Rat.divInt t b))):GZ [.int t, .int b] Q:=by
 have g0:0<Nat.gcd t.natAbs b.natAbs:=Nat.gcd_pos_of_pos_right _ (by omega)
 have gl:Nat.gcd t.natAbs b.natAbs<2^8900:=Nat.lt_of_le_of_lt (Nat.le_of_dvd (by omega) (Nat.gcd_dvd_right ..)) hB
 obtain ⟨s0,e1,e2⟩:=Yy t b hb _ rfl
 refine ⟨rfl,Kk _ _ _ ?_⟩
 refine Eb (b:=decide (b<0)) (λz=> ?_) (λz=> ?_)
 ·have z':b<0:=of_decide_eq_true z
  rw [if_pos z'] at s0 e1 e2
  refine ⟨⟨s0,by rw [Int.natAbs_neg];exact gl⟩,⟨s0,by rw [Int.natAbs_neg];exact gl⟩,(show 2<=sizeLine by decide), ?_⟩
  unfold fr at h
  rw [<-e1,<-e2] at h
  exact h
 ·have z':¬b<0:=of_decide_eq_false z
  rw [if_neg z'] at s0 e1 e2
  refine ⟨⟨s0,gl⟩,⟨s0,gl⟩,(show 2<=sizeLine by decide), ?_⟩
  unfold fr at h
  rw [<-e1,<-e2] at h
  exact h
theorem Bd.mt {n:Nat} {a b:Rat} (ha:Bd 4000 a) (hb:Bd 4000 b):MulOk a.num b.den/\MulOk b.num a.den/\MulOk a.den b.den/\MulOk a.num b.num/\MulOk a.den b.num:=
 ⟨.of ha.top (by simpa using hb.bot), .of hb.top (by simpa using ha.bot), .of (by simpa using ha.bot) (by simpa using hb.bot), .of ha.top hb.top, .of (by simpa using ha.bot) hb.top⟩
theorem OY {a b:Rat} (ha:Bd 4000 a) (hb:Bd 4000 b):((a.den:Int)*(b.den:Int)).natAbs<2^8900:=Ay (BX (a:=(a.den:Int)) (by simpa using ha.bot) (by simpa using hb.bot)) (by omega)
def eQ:AS:=
 (Av (AN 2 GZ (AB (AY BV (AY DH (AY Ap (aV 0) (aC (.int 0))) (AY Ap (aV 1) (aC (.int 1)))) (AY DH (AY Ap (aV 1) (aC (.int 0))) (AY Ap (aV 0) (aC (.int 1))))) (AB (AY DH (AY Ap (aV 0) (aC (.int 1))) (AY Ap (aV 1) (aC (.int 1)))) AL))))
def Hh:AF:=A5 2 eQ
theorem OM {a b:Rat} (ha:Bd 4000 a) (hb:Bd 4000 b) {Q:PV->Prop} (h:Q (fr (a+b))):Hh [fr a,fr b] Q:=by
 obtain ⟨m1,m2,m3,_⟩:=Bd.mt (n:=0) ha hb
 refine ⟨m1,m2,m3,rfl,FP _ _ (DN (BU a) (BU b)) (OY ha hb) _ ?_⟩
 rw [Hk] at h
 exact h
def aG:AS:=
 (Av (AN 2 GZ (AB (AY Fn (AY DH (AY Ap (aV 0) (aC (.int 0))) (AY Ap (aV 1) (aC (.int 1)))) (AY DH (AY Ap (aV 1) (aC (.int 0))) (AY Ap (aV 0) (aC (.int 1))))) (AB (AY DH (AY Ap (aV 0) (aC (.int 1))) (AY Ap (aV 1) (aC (.int 1)))) AL))))
def Di:AF:=A5 2 aG
theorem DY {a b:Rat} (ha:Bd 4000 a) (hb:Bd 4000 b) {Q:PV->Prop} (h:Q (fr (a-b))):Di [fr a,fr b] Q:=by
 obtain ⟨m1,m2,m3,_⟩:=Bd.mt (n:=0) ha hb
 refine ⟨m1,m2,m3,rfl,FP _ _ (DN (BU a) (BU b)) (OY ha hb) _ ?_⟩
 rw [ID] at h
 exact h
def aH:AS:=
 (Av (AN 2 GZ (AB (AY DH (AY Ap (aV 0) (aC (.int 0))) (AY Ap (aV 1) (aC (.int 0)))) (AB (AY DH (AY Ap (aV 0) (aC (.int 1))) (AY Ap (aV 1) (aC (.int 1)))) AL))))
def Fh:AF:=A5 2 aH
theorem MQ {a b:Rat} (ha:Bd 4000 a) (hb:Bd 4000 b) {Q:PV->Prop} (h:Q (fr (a*b))):Fh [fr a,fr b] Q:=by
 obtain ⟨_,_,m3,m4,_⟩:=Bd.mt (n:=0) ha hb
 refine ⟨m4,m3,rfl,FP _ _ (DN (BU a) (BU b)) (OY ha hb) _ ?_⟩
 rw [Ht] at h
 exact h
def eM:AS:=
 (Av (AN 2 GZ (AB (AY DH (AY Ap (aV 0) (aC (.int 0))) (AY Ap (aV 1) (aC (.int 1)))) (AB (AY DH (AY Ap (aV 0) (aC (.int 1))) (AY Ap (aV 1) (aC (.int 0)))) AL))))
def J1:AF:=A5 2 eM
theorem J3 {a b:Rat} (h0:b≠0) (ha:Bd 4000 a) (hb:Bd 4000 b) {Q:PV->Prop} (h:Q (fr (a/b))):J1 [fr a,fr b] Q:=by
 obtain ⟨m1,_,_,_,m5⟩:=Bd.mt (n:=0) ha hb
 refine ⟨m1,m5,rfl,FP _ _ (DN (BU a) (Tw h0)) (Ay (BX (a:=(a.den:Int)) (by simpa using ha.bot) hb.top) (by omega)) _ ?_⟩
 rw [Hq] at h
 exact h
def L8:AS:=
 (Ad (A0 (AY Fn (aC (.int 1)) (AY DH (aC (.int 2)) (Ea YJ (AB (AY Z7 (aV 1) (aC (.int 0))) AL)))) (A2 2))
   (Av (BG (AB (AY Pi (AY DH (aV 2) (aV 0)) (aV 3)) (AB (AY Pi (AY DH (aV 2) (aV 1)) (aV 3)) AL)))))
def L7:AS:=
 (Ad (J8 (A1 (AY iS (aV 4) (aC (.int 0)))) (Pd 3 4 (AB (aV 4) (AB (AY YF (aV 3) (aV 4)) AL))))
   L8)
def Qu:AS:=
 (Ad (Pd 3 4 (AB (Ea WJ (AB (aV 0) AL)) (AB (Ea WJ (AB (aV 1) AL)) AL)))
   L7)
def A4:AF:=A5 5 Qu
theorem Pw (t b:Int) (hb:b≠0):∀s:Int,s=(if b<0 then -1 else 1)->(s*t).fdiv (Nat.gcd t.natAbs b.natAbs:Int)=(Rat.divInt t b).num/\(s*b).fdiv (Nat.gcd t.natAbs b.natAbs:Int)=((Rat.divInt t b).den:Int):=by
 intro s hs
 have g0:0<Nat.gcd t.natAbs b.natAbs:=Nat.gcd_pos_of_pos_right _ (by omega)
 have eg:b.gcd t=Nat.gcd t.natAbs b.natAbs:=by rw [Int.gcd_eq_natAbs_gcd_natAbs,Nat.gcd_comm]
 have es:b.sign=s:=by
  rw [hs];split
  ·rename_i h;exact Int.sign_eq_neg_one_of_neg h
  ·exact Int.sign_eq_one_of_pos (by omega)
 rw [Rat.num_divInt,Rat.den_divInt,if_neg hb,eg,es,Int.fdiv_eq_ediv_of_nonneg _ (by omega),Int.fdiv_eq_ediv_of_nonneg _ (by omega)]
 refine ⟨rfl, ?_⟩
 rw [Int.natCast_ediv]
 congr 1
 rw [hs];split <;> omega
theorem CY (t b:Int) (hb:b≠0) (hT:t.natAbs<2^900000) (hB:b.natAbs<2^8900) {Q:PV->Prop} (h:Q (fr (Rat.divInt t b))):A4 [.int t, .int b] Q:=by
 have g0:0<Nat.gcd t.natAbs b.natAbs:=Nat.gcd_pos_of_pos_right _ (by omega)
 have gl:Nat.gcd t.natAbs b.natAbs<2^8900:=Nat.lt_of_le_of_lt (Nat.le_of_dvd (by omega) (Nat.gcd_dvd_right ..)) hB
 have sg:(1:Int)-2*(if decide (b<0)=true then 1 else 0)=(if b<0 then -1 else 1):=by
  by_cases z:b<0 <;> simp [z]
 obtain ⟨e1,e2⟩:=Pw t b hb _ sg
 have go:∀y x:Nat,∀D:GT,∀u v w,D.nx [u,v,w,some (.val (.int (Nat.gcd x y:Nat))),some (.val (.int 0))] ->∃n,Sg (A1 (AY iS (aV 4) (aC (.int 0)))) (Pd 3 4 (AB (aV 4) (AB (AY YF (aV 3) (aV 4)) AL))) D n [u,v,w,some (.val (.int x)),some (.val (.int y))] :=by
  intro y
  induction y using Nat.strongRecOn with
  | _ y ih=>
    intro x D u v w hD
    by_cases hy:y=0
    ·subst hy
     refine ⟨1, ?_⟩
     rw [Nat.gcd_zero_right] at hD
     exact hD
    ·obtain ⟨n,hn⟩:=ih (x % y) (Nat.mod_lt _ (by omega)) y D u v w (by rw [Nat.gcd_comm y,<-Nat.gcd_rec,Nat.gcd_comm y];exact hD)
     refine ⟨n+1, ?_⟩
     refine Eb (b:=decide (0<(y:Int))) (λ_=> ?_) (λz=> ?_)
     ·have e2:(x:Int).fmod (y:Int)=((x % y:Nat):Int):=by
       rw [Int.fmod_eq_emod_of_nonneg _ (by omega)];simp
      refine ⟨by omega, ?_⟩
      rw [<-e2] at hn
      exact hn
     ·have:¬(0:Int)<y:=of_decide_eq_false z
      omega
 refine go b.natAbs t.natAbs _ (some (.val (.int t))) (some (.val (.int b))) none ?_
 have one:(1:Int).natAbs<2^1:=by decide
 have sb:((1:Int)-2*(if decide (b<0)=true then 1 else 0)).natAbs<2^1:=by rw [sg];split <;> decide
 refine ⟨.of (m:=2) (n:=1) (by decide) (by split <;> decide), .of sb hT,⟨by omega,gl⟩, .of sb hB,⟨by omega,gl⟩,(show 2<=sizeLine by decide), ?_⟩
 unfold fr at h
 rw [<-e1,<-e2] at h
 exact h
theorem Cg {m:Int} {Q:PV->Prop} (m0:0<m) (m1:m<4611686018427387904) (h:∀r,0<=r->r<m->Q (.int r)):BH [.tape, .int m] Q:=⟨⟨m0,m1⟩,h⟩
mutual
def t6:Nat->PV->Bool
 | 0,_=>false
 | _+1, .non=>true
 | _+1, .bl _=>true
 | _+1, .int _=>true
 | n+1, .tup xs=>jv n xs&&decide (xs.length<sizeLine)
 | _+1,_=>false
def jv:Nat->List PV->Bool
 | _, [] =>true
 | n,x::xs=>t6 n x&&jv n xs
end
theorem c9 {t:Int} {n:Nat} (h:t.natAbs<2^n) (hn:n<=900000:=by omega):t.natAbs<2^900000:=Ay h hn
section
variable {a b:Rat} {Q:PV->Prop}
theorem gB (ha:Bd 4000 a) (hb:Bd 4000 b) (h:Q (fr (a+b))):A4 [.int (a.num*b.den+b.num*a.den), .int (a.den*b.den)] Q:=
 CY _ _ (DN (BU a) (BU b)) (c9 (Ul (n:=8000) (BX ha.top hb.botI) (BX hb.top ha.botI))) (OY ha hb) (by rw [<-Hk];exact h)
theorem gE (ha:Bd 4000 a) (hb:Bd 4000 b) (h:Q (fr (a-b))):A4 [.int (a.num*b.den-b.num*a.den), .int (a.den*b.den)] Q:=
 CY _ _ (DN (BU a) (BU b)) (c9 (Qm (n:=8000) (BX ha.top hb.botI) (BX hb.top ha.botI))) (OY ha hb) (by rw [<-ID];exact h)
theorem gD (ha:Bd 4000 a) (hb:Bd 4000 b) (h:Q (fr (a*b))):A4 [.int (a.num*b.num), .int (a.den*b.den)] Q:=
 CY _ _ (DN (BU a) (BU b)) (c9 (BX ha.top hb.top)) (OY ha hb) (by rw [<-Ht];exact h)
theorem gC (h0:b≠0) (ha:Bd 4000 a) (hb:Bd 4000 b) (h:Q (fr (a/b))):A4 [.int (a.num*b.den), .int (a.den*b.num)] Q:=
 CY _ _ (DN (BU a) (Tw h0)) (c9 (BX ha.top (by simpa using hb.bot))) (Ay (BX (a:=(a.den:Int)) (by simpa using ha.bot) hb.top) (by omega)) (by rw [<-Hq];exact h)
end
theorem Qp {n:Int} {Q:PV->Prop} (h:Q (fr (n:Rat))):Q (.tup [.int n, .int 1]):=by rw [<-YG];exact h
theorem Bd.part {t b:Int} {n:Nat} (h:b≠0) (ht:t.natAbs<2^n) (hb:b.natAbs<2^n):Bd n (Rat.divInt t b):= .divInt h ht hb
theorem lz {a b:Nat} (h:Nat.ble a b=true:=by rfl):a<=b:=Nat.le_of_ble_eq_true h
structure Sh (d n:Nat) (x:PV):Prop where
 ok:EK d x=true
 sh:(pd x).showable=true
 sz:(pd x).shown.length<=n
mutual
theorem Mw:∀{d e:Nat} (x:PV),d<=e->EK d x=true->EK e x=true
 | _,_, .non,_,_=>by simp [EK]
 | _,_, .bl _,_,_=>by simp [EK]
 | _,_, .int _,_,_=>by simp [EK]
 | _,_, .str x,_,h=>by simpa [EK] using h
 | 0,_, .tup xs,_,h=>by simp [EK] at h
 | 0,_, .lst xs,_,h=>by simp [EK] at h
 | d+1,0, .tup xs,h,_=>by omega
 | d+1,0, .lst xs,h,_=>by omega
 | d+1,e+1, .tup xs,h,k=>by simp only [EK] at k ⊢;exact KL xs (by omega) k
 | d+1,e+1, .lst xs,h,k=>by simp only [EK] at k ⊢;exact KL xs (by omega) k
 | _,_, .tape,_,h=>by simp [EK] at h
 | _,_, .scr _,_,h=>by simp [EK] at h
 | _,_, .dct _,_,h=>by simp [EK] at h
 | _,_, .ty _,_,h=>by simp [EK] at h
theorem KL:∀{d e:Nat} (xs:List PV),d<=e->Hu d xs=true->Hu e xs=true
 | _,_, [],_,_=>by simp [Hu]
 | _,_,x::xs,h,k=>by
   simp only [Hu,Bool.and_eq_true] at k ⊢
   exact ⟨Mw x h k.1,KL xs h k.2⟩
end
theorem Sh.mono {d n e m:Nat} {x:PV} (s:Sh d n x) (h1:d<=e) (h2:n<=m):Sh e m x:=⟨Mw x h1 s.ok,s.sh,Nat.le_trans s.sz h2⟩
theorem Sh.go {d n:Nat} {x:PV} (s:Sh d n x) (h1:d<=30:=by omega) (h2:n<=16777216:=by omega):e5 x:=⟨Mw x h1 s.ok,s.sh,Nat.le_trans s.sz h2⟩
theorem Sh.int {i:Int} (h:i.natAbs<2^1900):Sh 0 1902 (.int i):=by
 refine ⟨rfl, ?_, ?_⟩
 ·show decide (i.natAbs.log2<1920)=true
  exact decide_eq_true (Nat.lt_trans (Iy h (by decide)) (by decide))
 ·show (Str.ofString (toString i)).length<=1902
  rw [PySem.ofString_length]
  exact Nat.le_trans (int_text_length_le (k:=1900) (by decide) (Iy h (by decide))) (by decide)
theorem Iz {d:Nat}:∀{xs:List PV},(∀x∈xs,EK d x=true)->Hu d xs=true
 | [],_=>rfl
 | x::xs,h=>by
   simp only [Hu,Bool.and_eq_true]
   exact ⟨h x (by simp),Iz λy hy=>h y (by simp [hy])⟩
theorem UO:∀{xs:List PV},(∀x∈xs,(pd x).showable=true)->PyData.showableAll (Nj xs)=true
 | [],_=>rfl
 | x::xs,h=>by
   simp only [Nj,PyData.showableAll,Bool.and_eq_true]
   exact ⟨h x (by simp),UO λy hy=>h y (by simp [hy])⟩
theorem Qo {n:Nat}:∀{xs:List PV},(∀x∈xs,(pd x).shown.length<=n)->((PyData.shownAll (Nj xs)).map (·.length)).sum<=xs.length*n
 | [],_=>by simp [Nj,PyData.shownAll]
 | x::xs,h=>by
   simp only [Nj,PyData.shownAll,List.map_cons,List.sum_cons,List.length_cons]
   have h1:=h x (by simp)
   have h2:=Qo (n:=n) (xs:=xs) λy hy=>h y (by simp [hy])
   rw [Nat.succ_mul];omega
theorem F1:∀(xs:List PV),(PyData.shownAll (Nj xs)).length=xs.length
 | [] =>rfl
 | x::xs=>by simp [Nj,PyData.shownAll,F1 xs]
theorem Sh.tup {d n:Nat} {xs:List PV} (h:∀x∈xs,Sh d n x):Sh (d+1) (xs.length*(n+2)+3) (.tup xs):=by
 refine ⟨by simp only [EK];exact Iz λx hx=>(h x hx).ok,by simp only [pd,PyData.showable];exact UO λx hx=>(h x hx).sh, ?_⟩
 have h1:=Qo (n:=n) (xs:=xs) λx hx=>(h x hx).sz
 have h2:=tupleText_len_le (PyData.shownAll (Nj xs))
 rw [F1] at h2
 simp only [pd,PyData.shown]
 rw [Nat.mul_add]
 omega
theorem Sh.lst {d n:Nat} {xs:List PV} (h:∀x∈xs,Sh d n x):Sh (d+1) (xs.length*(n+2)+3) (.lst xs):=by
 refine ⟨by simp only [EK];exact Iz λx hx=>(h x hx).ok,by simp only [pd,PyData.showable];exact UO λx hx=>(h x hx).sh, ?_⟩
 have h1:=Qo (n:=n) (xs:=xs) λx hx=>(h x hx).sz
 have h2:=listText_len_le (PyData.shownAll (Nj xs))
 rw [F1] at h2
 simp only [pd,PyData.shown]
 rw [Nat.mul_add]
 omega
theorem nO {α:Type} {P:α->Prop} {a b:α} (ha:P a) (hb:P b):∀x∈ [a,b],P x:=λx hx=>by
 simp only [List.mem_cons,List.not_mem_nil,or_false] at hx
 rcases hx with rfl|rfl
 ·exact ha
 ·exact hb
theorem jq {α:Type} {P:α->Prop} {a b c:α} (ha:P a) (hb:P b) (hc:P c):∀x∈ [a,b,c],P x:=λx hx=>by
 simp only [List.mem_cons,List.not_mem_nil,or_false] at hx
 rcases hx with rfl|rfl|rfl
 ·exact ha
 ·exact hb
 ·exact hc
theorem jr {α:Type} {P:α->Prop} {a b c d:α} (ha:P a) (hb:P b) (hc:P c) (hd:P d):∀x∈ [a,b,c,d],P x:=λx hx=>by
 simp only [List.mem_cons,List.not_mem_nil,or_false] at hx
 rcases hx with rfl|rfl|rfl|rfl
 ·exact ha
 ·exact hb
 ·exact hc
 ·exact hd
theorem Sh.fr {r:Rat} (h:Bd 1900 r):Sh 1 4000 (fr r):=(Sh.tup (nO (Sh.int h.top) (Sh.int h.botI))).mono (by omega) lz
theorem YE (a b:Rat):fG (fr a) (fr b)=decide (a=b):=by
 show (PyData.eqvAll [.int a.num, .int a.den] [.int b.num, .int b.den])=_
 simp only [PyData.eqvAll,PyData.eqv]
 by_cases h:a=b
 ·subst h;simp
 ·have:¬(a.num=b.num/\(a.den:Int)=b.den):=λz=>h (Rat.ext z.1 (by omega))
  rw [decide_eq_false h]
  simp only [Bool.and_true,Bool.and_eq_false_iff,beq_eq_false_iff_ne]
  by_cases h1:a.num=b.num
  ·exact .inr λz=>this ⟨h1,z⟩
  ·exact .inl h1
theorem VM (d:Nat) (a:Rat):EK (d+1) (fr a)=true:=rfl
theorem jo {a b:Rat}:decide (a.num*(b.den:Int)<b.num*(a.den:Int))=decide (a<b):=by
 rw [decide_eq_decide];exact (Rat.lt_iff a b).symm
def XX:AS:=
 (Av (AY Z7 (AY DH (AY Ap (aV 0) (aC (.int 0))) (AY Ap (aV 1) (aC (.int 1)))) (AY DH (AY Ap (aV 1) (aC (.int 0))) (AY Ap (aV 0) (aC (.int 1))))))
def Aw:AF:=A5 2 XX
section
variable {a b:Rat} {Q:PV->Prop}
theorem Bf (ha:Bd 4000 a) (hb:Bd 4000 b) (h:Q (.bl (decide (a<b)))):Aw [fr a,fr b] Q:=by
 obtain ⟨m1,m2,_⟩:=Bd.mt (n:=0) ha hb
 refine ⟨m1,m2, ?_⟩
 rw [<-jo] at h
 exact h
def So:AS:=
 (Av (AN 2 A4 (AB (AY BV (AY DH (AY Ap (aV 0) (aC (.int 0))) (AY Ap (aV 1) (aC (.int 1)))) (AY DH (AY Ap (aV 1) (aC (.int 0))) (AY Ap (aV 0) (aC (.int 1))))) (AB (AY DH (AY Ap (aV 0) (aC (.int 1))) (AY Ap (aV 1) (aC (.int 1)))) AL))))
def BK:AF:=A5 2 So
theorem Cn (ha:Bd 4000 a) (hb:Bd 4000 b) (h:Q (fr (a+b))):BK [fr a,fr b] Q:=by
 obtain ⟨m1,m2,m3,_⟩:=Bd.mt (n:=0) ha hb
 exact ⟨m1,m2,m3,rfl,gB ha hb h⟩
def Sn:AS:=
 (Av (AN 2 A4 (AB (AY Fn (AY DH (AY Ap (aV 0) (aC (.int 0))) (AY Ap (aV 1) (aC (.int 1)))) (AY DH (AY Ap (aV 1) (aC (.int 0))) (AY Ap (aV 0) (aC (.int 1))))) (AB (AY DH (AY Ap (aV 0) (aC (.int 1))) (AY Ap (aV 1) (aC (.int 1)))) AL))))
def CA:AF:=A5 2 Sn
theorem CJ (ha:Bd 4000 a) (hb:Bd 4000 b) (h:Q (fr (a-b))):CA [fr a,fr b] Q:=by
 obtain ⟨m1,m2,m3,_⟩:=Bd.mt (n:=0) ha hb
 exact ⟨m1,m2,m3,rfl,gE ha hb h⟩
def MA:AS:=
 (Av (AN 2 A4 (AB (AY DH (AY Ap (aV 0) (aC (.int 0))) (AY Ap (aV 1) (aC (.int 0)))) (AB (AY DH (AY Ap (aV 0) (aC (.int 1))) (AY Ap (aV 1) (aC (.int 1)))) AL))))
def Bi:AF:=A5 2 MA
theorem CP (ha:Bd 4000 a) (hb:Bd 4000 b) (h:Q (fr (a*b))):Bi [fr a,fr b] Q:=by
 obtain ⟨m1,m2,m3,m4,_⟩:=Bd.mt (n:=0) ha hb
 exact ⟨m4,m3,rfl,gD ha hb h⟩
def O3:AS:=
 (Av (AN 2 A4 (AB (AY DH (AY Ap (aV 0) (aC (.int 0))) (AY Ap (aV 1) (aC (.int 1)))) (AB (AY DH (AY Ap (aV 0) (aC (.int 1))) (AY Ap (aV 1) (aC (.int 0)))) AL))))
def EA:AF:=A5 2 O3
theorem LM (h0:b≠0) (ha:Bd 4000 a) (hb:Bd 4000 b) (h:Q (fr (a/b))):EA [fr a,fr b] Q:=by
 obtain ⟨m1,m2,m3,m4,m5⟩:=Bd.mt (n:=0) ha hb
 exact ⟨m1,m5,rfl,gC h0 ha hb h⟩
end
theorem mR {t b:Int} (ht:0<t) (hb:0<b):0<Rat.divInt t b:=by
 rw [Rat.lt_iff]
 have h1:=Rat.num_divInt t b
 show (0:Int)*_<_*1
 rw [Int.zero_mul,Int.mul_one,h1,Int.sign_eq_one_of_pos hb,Int.one_mul]
 have g:0<(b.gcd t:Int):=by have:=Int.gcd_pos_of_ne_zero_left t (show b≠0 by omega);omega
 exact Int.ediv_pos_of_pos_of_dvd ht (by omega) (Int.gcd_dvd_right ..)
theorem IB {t b:Int} {Q:PV->Prop} (k:Nat) (hb:b≠0) (ht:t.natAbs<2^k) (pW:b.natAbs<2^k) (hk:k<=2000) (h:Bd k (Rat.divInt t b)->Q (fr (Rat.divInt t b))):A4 [.int t, .int b] Q:=
 CY t b hb (Ay ht (by omega)) (Ay pW (by omega)) (h (.part hb ht pW))
def Mul (D N:Nat) (a:Rat):Prop:=0<D/\∃k:Int,a=Rat.divInt k D/\k.natAbs<=N
theorem Mul.bd {D N n:Nat} {a:Rat} (h:Mul D N a) (h1:N<2^n) (h2:D<2^n):Bd n a:=by
 obtain ⟨h0,k,rfl,hk⟩:=h
 exact .divInt (by omega) (by omega) (by simpa using h2)
theorem Mul.part {t b:Int} {c:Nat} (hb:0<b) (hc:0<c) {N:Nat} (h:(t*c).natAbs<=N):Mul (b.toNat*c) N (Rat.divInt t b):=by
 refine ⟨Nat.mul_pos (by omega) hc,t*c, ?_,h⟩
 have e:((b.toNat*c:Nat):Int)=b*c:=by rw [Int.natCast_mul];congr 1;omega
 rw [e,(Rat.divInt_eq_divInt_iff (by omega) (DN (by omega) (by omega)))]
 rw [Int.mul_comm b,Int.mul_assoc]
theorem Mul.add {D N M:Nat} {a b:Rat} (ha:Mul D N a) (hb:Mul D M b):Mul D (N+M) (a+b):=by
 obtain ⟨h0,k,rfl,hk⟩:=ha
 obtain ⟨_,l,rfl,hl⟩:=hb
 refine ⟨h0,k+l, ?_,by omega⟩
 rw [Rat.divInt_add_divInt _ _ (by omega) (by omega),Rat.divInt_eq_divInt_iff (DN (by omega) (by omega)) (by omega)]
 rw [<-Int.add_mul,Int.mul_assoc]
theorem Mul.mono {D N M:Nat} {a:Rat} (h:Mul D N a) (hm:N<=M):Mul D M a:=⟨h.1,let ⟨k,e,hk⟩:=h.2;⟨k,e,by omega⟩⟩
theorem Mul.int {n:Int} {D N:Nat} (hD:0<D) (h:(n*D).natAbs<=N):Mul D N (n:Rat):=by
 have e:(n:Rat)=Rat.divInt n 1:=by rw [<-Rat.num_divInt_den (n:Rat)];simp
 rw [e]
 have:=Mul.part (t:=n) (b:=1) (c:=D) (by decide) hD h
 simpa using this
def MB:AS:=
 (Ad (Bn (A1 (AY Z7 (aV 1) (aC (.int 3)))) (Av (BG (AB (AY BV (aC (.int 1)) (AN 2 BH (AB (aV 0) (AB (aC (.int 5)) AL)))) (AB (aC (.int 1)) AL)))) BJ)
   (Av (AN 2 A4 (AB (AY BV (aC (.int 1)) (AN 2 BH (AB (aV 0) (AB (aC (.int 8)) AL)))) (AB (AY Fn (aV 1) (aC (.int 1))) AL)))))
def Qv:AS:=
 (Ad (A0 (AN 2 BH (AB (aV 0) (AB (aC (.int 5)) AL))) (A2 1))
   MB)
def B5:AF:=A5 2 Qv
theorem GA {Q:PV->Prop} (h:∀a,Bd 8 a->0<a->Mul 6 48 a->Q (fr a)):B5 [.tape] Q:=by
 refine ⟨rfl,Cg (by decide) (by decide) λw w0 w1=> ?_⟩
 refine Eb (b:=decide (w<3)) (λ_=> ?_) (λz=> ?_)
 ·refine ⟨rfl,Cg (by decide) (by decide) λr r0 r1=>⟨lz, ?_⟩⟩
  exact Qp (h _ (.int (by omega) (by decide)) (by exact_mod_cast (by omega:(0:Int)<1+r)) (.int (by decide) (by omega)))
 ·have z':¬w<3:=of_decide_eq_false z
  have hw:w-1=2\/w-1=3:=by omega
  refine ⟨rfl,Cg (by decide) (by decide) λr r0 r1=>⟨rfl, ?_⟩⟩
  refine IB 8 (by omega) (by omega) (by omega) (by decide) λb=>h _ b (mR (by omega) (by omega)) ?_
  rcases hw with e|e
  ·rw [e];exact Mul.part (t:=1+r) (b:=2) (c:=3) (by decide) (by decide) (by omega)
  ·rw [e];exact Mul.part (t:=1+r) (b:=3) (c:=2) (by decide) (by decide) (by omega)
def LB:AS:=
 (Ad (Bn (A1 (AY LR (aV 1) (aC (.int 6)))) (Av (AN 2 A4 (AB (AY Fn (AN 2 BH (AB (aV 0) (AB (aC (.int 25)) AL))) (aC (.int 6))) (AB (aC (.int 2)) AL)))) BJ)
   (Av (AN 2 A4 (AB (AY Fn (AN 2 BH (AB (aV 0) (AB (aC (.int 31)) AL))) (aC (.int 9))) (AB (aC (.int 3)) AL)))))
def LA:AS:=
 (Ad (Bn (A1 (AY Z7 (aV 1) (aC (.int 6)))) (Av (BG (AB (AY Fn (AN 2 BH (AB (aV 0) (AB (aC (.int 10)) AL))) (aC (.int 3))) (AB (aC (.int 1)) AL)))) BJ)
   LB)
def O2:AS:=
 (Ad (A0 (AN 2 BH (AB (aV 0) (AB (aC (.int 8)) AL))) (A2 1))
   LA)
def An:AF:=A5 2 O2
theorem A6 {Q:PV->Prop} (h:∀a,Mul 6 60 a->Q (fr a)):An [.tape] Q:=by
 refine ⟨rfl,Cg (by decide) (by decide) λw w0 w1=> ?_⟩
 refine Eb (b:=decide (w<6)) (λ_=> ?_) (λz=> ?_)
 ·refine ⟨rfl,Cg (by decide) (by decide) λr r0 r1=>⟨lz, ?_⟩⟩
  exact Qp (h _ (.int (by decide) (by omega)))
 refine Eb (b:=decide (w=6)) (λ_=> ?_) (λz=> ?_)
 ·exact ⟨rfl,Cg (by decide) (by decide) λr r0 r1=>⟨rfl,IB 8 (by omega) (by omega) (by omega) (by decide) λb=>h _ (Mul.part (t:=r-6) (b:=2) (c:=3) (by decide) (by decide) (by omega))⟩⟩
 ·exact ⟨rfl,Cg (by decide) (by decide) λr r0 r1=>⟨rfl,IB 8 (by omega) (by omega) (by omega) (by decide) λb=>h _ (Mul.part (t:=r-9) (b:=3) (c:=2) (by decide) (by decide) (by omega))⟩⟩
abbrev C4:=Rat×Rat×Rat×Rat
def cor (c:C4):PV:= .tup [fr c.1,fr c.2.1,fr c.2.2.1,fr c.2.2.2]
def corL (c:C4):PV:= .lst [fr c.1,fr c.2.1,fr c.2.2.1,fr c.2.2.2]
def A8 (cs:List C4):PV:= .tup (cs.map cor)
structure GO (B:Nat) (c:C4):Prop where
 m:Bd B c.1
 x:Bd B c.2.1
 y:Bd B c.2.2.1
 z:Bd B c.2.2.2
theorem GO.mono {B B':Nat} {c:C4} (h:GO B c) (k:B<=B'):GO B' c:=⟨h.m.mono k,h.x.mono k,h.y.mono k,h.z.mono k⟩
structure MJ (D N:Nat) (c:C4):Prop where
 m:Mul D N c.1
 x:Mul D N c.2.1
 y:Mul D N c.2.2.1
 z:Mul D N c.2.2.2
theorem MJ.mono {D N M:Nat} {c:C4} (h:MJ D N c) (k:N<=M):MJ D M c:=⟨h.m.mono k,h.x.mono k,h.y.mono k,h.z.mono k⟩
theorem MJ.bd {D N n:Nat} {c:C4} (h:MJ D N c) (h1:N<2^n) (h2:D<2^n):GO n c:=⟨h.m.bd h1 h2,h.x.bd h1 h2,h.y.bd h1 h2,h.z.bd h1 h2⟩
def GM (cs:List C4):Prop:=cs.Pairwise λa b=>a.1<b.1
structure MS (n D N:Nat) (cs:List C4):Prop where
 two:2<=cs.length
 few:cs.length<=n
 mu:∀c∈cs,MJ D N c
 ris:GM cs
structure D0 (n B:Nat) (cs:List C4):Prop where
 two:2<=cs.length
 few:cs.length<=n
 bd:∀c∈cs,GO B c
 ris:GM cs
theorem ZJ {cs:List C4} {c d:C4} (h:GM (cs ++ [c])) (hd:c.1<d.1):GM (cs ++ [c] ++ [d]):=by
 refine List.pairwise_append.mpr ⟨h,by simp,λa ha b hb=> ?_⟩
 simp at hb;subst hb
 rcases List.mem_append.mp ha with ha|ha
 ·have:=(List.pairwise_append.mp h).2.2 a ha c (by simp)
  grind
 ·simp at ha;subst ha;exact hd
theorem fF {cs:List C4} {i:Int} {k:Nat} (hk:i=(k:Int)) (h:k<=cs.length):HJ (cs.map cor) none (some i)=(cs.take k).map cor:=by
 unfold HJ
 rw [hk,HT.sIx_none,HT.sIx_nat]
 rw [show min k (cs.map cor).length=k by simp;omega,List.map_take]
 simp
theorem X9 {cs:List C4} {i:Int} {k:Nat} (hk:i=(k:Int)) (h:k<=cs.length):HJ (cs.map cor) (some i) none=(cs.drop k).map cor:=by
 unfold HJ
 rw [hk,HT.sIx_none,HT.sIx_nat]
 rw [show min k (cs.map cor).length=k by simp;omega,List.map_drop]
 exact List.take_of_length_le (by simp)
theorem ka {cs:List C4} {i:Int} {k:Nat} {Q:PV->Prop} (hk:i=(k:Int)) (h:k<=cs.length) (q:Q (A8 (cs.take k))):U0 (A8 cs) none (some i) Q:=by
 refine F2 ?_
 rw [fF hk h];exact q
theorem Vl {cs:List C4} {i:Int} {k:Nat} {Q:PV->Prop} (hk:i=(k:Int)) (h:k<=cs.length) (q:Q (A8 (cs.drop k))):U0 (A8 cs) (some i) none Q:=by
 refine F2 ?_
 rw [X9 hk h];exact q
theorem RM {cs ds:List C4} {Q:PV->Prop} (h:cs.length+ds.length<=10000) (q:Q (A8 (cs++ds))):BV (A8 cs) (A8 ds) Q:=by
 refine ⟨?_, ?_⟩
 ·simp only [List.length_map];exact Nat.le_trans h (by decide)
 ·show Q (.tup (cs.map cor++ds.map cor))
  rw [<-List.map_append];exact q
theorem MS.ok {n D N m:Nat} {cs:List C4} (p:MS n D N cs) (h1:N<2^m) (h2:D<2^m):D0 n m cs:=⟨p.two,p.few,λc hc=>(p.mu c hc).bd h1 h2,p.ris⟩
def CQ (cs:List C4) (v:PV):Prop:=∃f:C4->PV,(f=cor\/f=corL)/\(v= .tup (cs.map f)\/v= .lst (cs.map f))
theorem CQ.self (cs:List C4):CQ cs (A8 cs):=⟨cor, .inl rfl, .inl rfl⟩
theorem CQ.lists (cs:List C4):CQ cs (.lst (cs.map corL)):=⟨corL, .inr rfl, .inr rfl⟩
theorem CQ.list (cs:List C4):CQ cs (.lst (cs.map cor)):=⟨cor, .inl rfl, .inr rfl⟩
theorem Dj {α β:Type} {g:AG} {te:AE} {τ0:BB} {Q:List PV->Prop} (f:α->PV) (k:β->PV) (e:α->β) (P:α->Prop)
 (hs:∀a,P a->∀R:PV->Prop,R (k (e a))->g (f a) τ0 λτ1=>te τ1 R):
 ∀(xs:List α) (acc:List PV),(∀a∈xs,P a)->Q (acc++(xs.map e).map k)->CS g E3 te τ0 Q (xs.map f) acc
 | [],acc,_,h=>(by simpa using h:Q acc)
 | a::xs,acc,hp,h=>by
   refine hs a (hp a (by simp)) (λy=>CS g E3 te τ0 Q (xs.map f) (acc ++ [y])) (Dj f k e P hs xs _ (λb hb=>hp b (by simp [hb])) ?_)
   simpa using h
theorem Sh.cor {c:C4} (h:GO 1900 c):Sh 2 17000 (cor c):=(Sh.tup (jr (Sh.fr h.m) (Sh.fr h.x) (Sh.fr h.y) (Sh.fr h.z))).mono (by decide) lz
theorem Sh.corL {c:C4} (h:GO 1900 c):Sh 2 17000 (corL c):=(Sh.lst (jr (Sh.fr h.m) (Sh.fr h.x) (Sh.fr h.y) (Sh.fr h.z))).mono (by decide) lz
abbrev T3:=Rat×Rat×Rat
def inter (a b:C4) (m:Rat):T3:=(a.2.1+(m-a.1)/(b.1-a.1)*(b.2.1-a.2.1),a.2.2.1+(m-a.1)/(b.1-a.1)*(b.2.2.1-a.2.2.1),a.2.2.2+(m-a.1)/(b.1-a.1)*(b.2.2.2-a.2.2.2))
def spotG:C4->List C4->Rat->Option T3
 | _, [],_=>none
 | a,b::r,m=>if b.1<m then spotG b r m else some (inter a b m)
def spotC:List C4->Rat->Option T3
 | [],_=>none
 | a::r,m=>if m<a.1 then none else spotG a r m
def iY (t:T3):PV:= .tup [fr t.1,fr t.2.1,fr t.2.2]
def NW:Option T3->PV
 | none=> .non
 | some t=>iY t
structure E2 (B:Nat) (t:T3):Prop where
 x:Bd B t.1
 y:Bd B t.2.1
 z:Bd B t.2.2
theorem E2.mono {B B':Nat} {t:T3} (h:E2 B t) (k:B<=B'):E2 B' t:=⟨h.x.mono k,h.y.mono k,h.z.mono k⟩
section
variable {B M:Nat} {a b:C4} {m:Rat}
theorem Na {x y:Rat} (h:x<y):y-x≠0:=by grind
theorem Bd.share (ha:GO B a) (hb:GO B b) (hm:Bd M m) (h:a.1<b.1):Bd (M+B+1+(B+B+1)) ((m-a.1)/(b.1-a.1)):=(hm.sub ha.m).div (Na h) (hb.m.sub ha.m)
theorem E2.inter (ha:GO B a) (hb:GO B b) (hm:Bd M m) (h:a.1<b.1):E2 (M+6*B+10) (inter a b m):=by
 have s:=Bd.share ha hb hm h
 exact ⟨(ha.x.add (s.mul (hb.x.sub ha.x))).mono (by omega),(ha.y.add (s.mul (hb.y.sub ha.y))).mono (by omega),(ha.z.add (s.mul (hb.z.sub ha.z))).mono (by omega)⟩
end
theorem E2.spotG {B M:Nat} {m:Rat} (hm:Bd M m):∀{a:C4} {r:List C4},GM (a::r)->(∀c∈a::r,GO B c)->∀t,spotG a r m=some t->E2 (M+6*B+10) t
 | a, [],_,_,t,e=>by cases e
 | a,b::r,hr,hb,t,e=>by
   unfold PL.spotG at e
   split at e
   ·exact E2.spotG hm (List.pairwise_cons.mp hr).2 (λc hc=>hb c (by simp [hc])) t e
   ·cases e
    exact .inter (hb a (by simp)) (hb b (by simp)) hm ((List.pairwise_cons.mp hr).1 b (by simp))
theorem E2.spotC {B M:Nat} {m:Rat} {cs:List C4} (hm:Bd M m) (hr:GM cs) (hb:∀c∈cs,GO B c):∀t,spotC cs m=some t->E2 (M+6*B+10) t:=λt e=>by
 cases cs with
 | nil=>cases e
 | cons a r=>
   simp only [PL.spotC] at e
   split at e
   ·cases e
   ·exact E2.spotG hm hr hb t e
theorem Fo {f:C4->PV} {cs:List C4} {i:Int} {k:Nat} {c:C4} {Q:PV->Prop} (hk:i=(k:Int)) (e:cs[k]? =some c) (h:Q (f c)):aA (IJ (cs.map f) i) Q:=by
 have q:IJ (cs.map f) ((k:Nat):Int)=some (f c):=Cf (by rw [List.getElem?_map,e] <;> rfl)
 rw [hk,q];exact h
theorem Ip {f:C4->PV} {cs:List C4} {c:C4} {Q:PV->Prop} (e:cs.getLast?=some c) (h:Q (f c)):aA (IJ (cs.map f) (-1)) Q:=by
 have VA:cs≠ [] :=by intro z;subst z;cases e
 have hl:0<cs.length:=List.length_pos_iff.mpr VA
 have q:IJ (cs.map f) (-1)=some (f c):=by
  unfold IJ Rn
  rw [List.length_map,if_neg (by decide),if_pos (by omega)]
  have e2:(-1+(cs.length:Int)).toNat=cs.length-1:=by omega
  rw [Option.bind_some,e2,List.getElem?_map,<-List.getLast?_eq_getElem?,e]
  rfl
 rw [q];exact h
def MF:AS:=
 (Ad (A0 (AN 2 J1 (AB (AN 2 Di (AB (aV 2) (AB (AY Ap (aV 0) (aC (.int 0))) AL))) (AB (AN 2 Di (AB (AY Ap (aV 1) (aC (.int 0))) (AB (AY Ap (aV 0) (aC (.int 0))) AL))) AL))) (A2 3))
   (Av (Ea Ci (AB (GQ (DD (fB (AB (V5 (aV 0) (V8 (aC (.int 1))) V7) (AB (V5 (aV 1) (V8 (aC (.int 1))) V7) AL))) 2 [3] (MX 2 (Aj (A2 0) (Aj (A2 1) CZ))) E3 (AN 2 Hh (AB (aV 0) (AB (AN 2 Fh (AB (aV 2) (AB (AN 2 Di (AB (aV 1) (AB (aV 0) AL))) AL))) AL))))) AL))))
def DL:AF:=A5 4 MF
theorem IY {f:C4->PV} (hf:f=cor\/f=corL) {a b:C4} {B M:Nat} {m:Rat} (ha:GO B a) (hb:GO B b) (hm:Bd M m) (h:a.1<b.1) (hB:M+6*B+10<=3990) {Q:PV->Prop} (q:Q (iY (inter a b m))):DL [f a,f b,fr m] Q:=by
 simp only [iY,inter] at q
 have s:=Bd.share ha hb hm h
 have key:CS (MX 2 (Aj (A2 0) (Aj (A2 1) CZ))) E3 (AN 2 Hh (AB (aV 0) (AB (AN 2 Fh (AB (aV 2) (AB (AN 2 Di (AB (aV 1) (AB (aV 0) AL))) AL))) AL))) [none,none,some (.val (fr ((m-a.1)/(b.1-a.1))))] (λxs=>Q (.tup xs))
  ([(a.2.1,b.2.1),(a.2.2.1,b.2.2.1),(a.2.2.2,b.2.2.2)].map λp:Rat×Rat=>PV.tup [fr p.1,fr p.2]) [] :=by
  refine Dj (λp:Rat×Rat=>PV.tup [fr p.1,fr p.2]) fr (λp=>p.1+(m-a.1)/(b.1-a.1)*(p.2-p.1)) (λp=>Bd B p.1/\Bd B p.2) (λp hp R hR=> ?_) _ [] (jq ⟨ha.x,hb.x⟩ ⟨ha.y,hb.y⟩ ⟨ha.z,hb.z⟩) q
  have bl:=hp.1
  have bh:=hp.2
  exact ⟨rfl,rfl,DY (bh.mono (by omega)) (bl.mono (by omega)) ⟨rfl,MQ (s.mono (by omega)) ((bh.sub bl).mono (by omega)) ⟨rfl,OM (bl.mono (by omega)) ((s.mul (bh.sub bl)).mono (by omega)) hR⟩⟩⟩
 have m1:=hm.mono (n:=4000) (by omega)
 have a1:=ha.m.mono (n:=4000) (by omega)
 have b1:=hb.m.mono (n:=4000) (by omega)
 rcases hf with rfl|rfl
 ·exact ⟨rfl,DY m1 a1 ⟨rfl,DY b1 a1 ⟨rfl,J3 (Na h) ((hm.sub ha.m).mono (by omega)) ((hb.m.sub ha.m).mono (by omega)) (F2 (F2 ⟨lz,key⟩))⟩⟩⟩
 ·exact ⟨rfl,DY m1 a1 ⟨rfl,DY b1 a1 ⟨rfl,J3 (Na h) ((hm.sub ha.m).mono (by omega)) ((hb.m.sub ha.m).mono (by omega)) (Ey (Ey ⟨lz,key⟩))⟩⟩⟩
def PN:AS:=
 (Ad (Gd (aY (AB (aC (.int 1)) (AB (Ea FU (AB (aV 0) AL)) AL))) (A2 2) (Bn (Ef (A1 (AN 2 Aw (AB (AY Ap (AY Ap (aV 0) (aV 2)) (aC (.int 0))) (AB (aV 1) AL))))) (Av (AN 3 DL (AB (AY Ap (aV 0) (AY Fn (aV 2) (aC (.int 1)))) (AB (AY Ap (aV 0) (aV 2)) (AB (aV 1) AL))))) BJ))
   (Av (aC .non)))
def Vx:AS:=
 (Ad (Bn (A1 (AN 2 Aw (AB (aV 1) (AB (AY Ap (AY Ap (aV 0) (aC (.int 0))) (aC (.int 0))) AL)))) (Av (aC .non)) BJ)
   PN)
def FR:AF:=A5 3 Vx
theorem VX {cs:List C4} (h:GM cs) {k:Nat} {a b:C4} (ea:cs[k]? =some a) (eb:cs[k+1]? =some b):a.1<b.1:=by
 have h1:=(List.getElem?_eq_some_iff.mp ea)
 have h2:=(List.getElem?_eq_some_iff.mp eb)
 obtain ⟨l1,rfl⟩:=h1
 obtain ⟨l2,rfl⟩:=h2
 exact List.pairwise_iff_getElem.mp h k (k+1) l1 l2 (by omega)
theorem IX {cs:List C4} {v:PV} {B M:Nat} {m:Rat} (hv:CQ cs v) (hc:∀c∈cs,GO B c) (hr:GM cs) (h0:cs≠ []) (hl:cs.length<=1000) (hm:Bd M m) (hB:M+6*B+10<=3990) {Q:PV->Prop} (q:Q (NW (spotC cs m))):FR [v,fr m] Q:=by
 obtain ⟨f,hf,hv⟩:=hv
 have m1:=hm.mono (n:=4000) (by omega)
 cases cs with
 | nil=>exact absurd rfl h0
 | cons a r=>
   have ba:=hc a (by simp)
   have a1:=ba.m.mono (n:=4000) (by omega)
   simp only [spotC] at q
   have few:r.length+1<=1000:=hl
   have ph:∀(c:C4) (P:PV->Prop),P (fr c.1)->Qt (f c) λys=>aA (IJ ys 0) P:=λc P hP=>by rcases hf with rfl|rfl <;> exact hP
   rcases hv with rfl|rfl
   all_goals
    refine Fo (k:=0) (c:=a) rfl rfl (ph a _ ⟨rfl,Bf m1 a1 ?_⟩)
    refine Eb (b:=decide (m<a.1)) (λz=> ?_) (λz=> ?_)
    ·rw [if_pos (of_decide_eq_true z)] at q
     exact q
    ·rw [if_neg (of_decide_eq_false z)] at q
     have DI:∀f:C4->PV,((((a::r).map f).length:Nat):Int)=r.length+1:=λf=>by simp
     refine ⟨⟨by decide,by decide,by rw [DI];omega,by rw [DI];omega⟩, ?_⟩
     rw [DI,show ((r.length:Int)+1-1).toNat=r.length by omega]
     refine Io (λrr τ=>∃(k:Nat) (z2:Option AV) (c:C4) (ds:List C4),rr=rng ((k:Int)+1) ds.length/\(a::r)[k]? =some c/\(a::r).drop (k+1)=ds/\spotG c ds m=spotG a r m/\τ= [some (.val _),some (.val (fr m)),z2]) ?_ ?_ _ _ ⟨0,none,a,r,rfl,rfl,rfl,rfl,rfl⟩
     ·rintro τ ⟨k,z2,c,ds,YY,ek,ed,es,rfl⟩
      have:ds= [] :=by
       cases ds with
       | nil=>rfl
       | cons d ds=>rw [List.length_cons,JE] at YY;cases YY
      subst this
      rw [<-es] at q
      exact q
     ·rintro x rr τ R hR ⟨k,z2,c,ds,YY,ek,ed,es,rfl⟩
      cases ds with
      | nil=>cases YY
      | cons d ds=>
        rw [List.length_cons,JE] at YY
        cases YY
        have ed':(a::r)[k+1]? =some d:=by
         have:=congrArg (λl=>l[0]?) ed
         simpa [List.getElem?_drop] using this
        have bd:=hc d (List.mem_of_getElem? ed')
        have bc:=hc c (List.mem_of_getElem? ek)
        refine Fo (k:=k+1) (by omega) ed' (ph d _ ⟨rfl,Bf (bd.m.mono (by omega)) m1 ?_⟩)
        refine Eb (b:= !decide (d.1<m)) (λz=> ?_) (λz=> ?_)
        ·have z':¬d.1<m:=by simpa using z
         rw [<-es] at q
         simp only [spotG,if_neg z',NW] at q
         exact Fo (k:=k) (by omega) ek (Fo (k:=k+1) (by omega) ed' ⟨rfl,IY hf bc bd hm (VX hr ek ed') hB q⟩)
        ·have z':d.1<m:=by simpa using z
         refine hR _ ⟨k+1,_,d,ds, ?_,ed', ?_, ?_,rfl⟩
         ·rw [show (((k+1:Nat):Int)+1)=(k:Int)+1+1 by omega]
         ·have:=congrArg List.tail ed
          simpa [List.tail_drop] using this
         ·rw [<-es];simp only [spotG,if_pos z']
theorem NU {m:Rat}:∀{a:C4} {r:List C4},GM (a::r)->(∀l,(a::r).getLast?=some l->l.1<m)->spotG a r m=none
 | a, [],_,_=>rfl
 | a,b::r,hr,h=>by
   have bM:GM (b::r):=(List.pairwise_cons.mp hr).2
   have hb:b.1<m:=by
    cases r with
    | nil=>exact h b rfl
    | cons c r=>
      obtain ⟨l,hl⟩:∃l,(c::r).getLast?=some l:=⟨_,List.getLast?_eq_some_getLast (by simp)⟩
      have h1:l.1<m:=h l (by simpa [List.getLast?_cons_cons] using hl)
      have h2:b.1<l.1:=(List.pairwise_cons.mp bM).1 l (List.mem_of_getLast? hl)
      grind
   simp only [spotG,if_pos hb]
   exact NU bM λl hl=>h l (by simpa [List.getLast?_cons_cons] using hl)
theorem Rk {a b:C4} (h:a.1<b.1):inter a b a.1=a.2:=by
 have s:(a.1-a.1)/(b.1-a.1)=0:=by grind
 simp only [inter,s]
 obtain ⟨m,x,y,z⟩:=a
 show (x+0*(b.2.1-x),y+0*(b.2.2.1-y),z+0*(b.2.2.2-z))=(x,y,z)
 rw [show x+0*(b.2.1-x)=x by grind,show y+0*(b.2.2.1-y)=y by grind,show z+0*(b.2.2.2-z)=z by grind]
theorem Mo {a b:C4} (h:a.1<b.1):inter a b b.1=b.2:=by
 have s:(b.1-a.1)/(b.1-a.1)=1:=by grind
 simp only [inter,s]
 obtain ⟨m,x,y,z⟩:=b
 show (a.2.1+1*(x-a.2.1),a.2.2.1+1*(y-a.2.2.1),a.2.2.2+1*(z-a.2.2.2))=(x,y,z)
 rw [show a.2.1+1*(x-a.2.1)=x by grind,show a.2.2.1+1*(y-a.2.2.1)=y by grind,show a.2.2.2+1*(z-a.2.2.2)=z by grind]
theorem SZ {a:C4} {r:List C4} {m:Rat} (h:m<a.1):spotC (a::r) m=none:=by simp only [spotC,if_pos h]
theorem Qj {a:C4} {r:List C4} {m:Rat} (hr:GM (a::r)) (h:∀l,(a::r).getLast?=some l->l.1<m):spotC (a::r) m=none:=by
 simp only [spotC]
 split
 ·rfl
 ·exact NU hr h
def IT:AS:=
 (Ad (A0 (GQ (DD (OP (BG (AB (aC (.int 1)) (AB (aC (.int 2)) (AB (aC (.int 3)) AL))))) 1 [4,3,2] (A2 0) E3 (AN 2 Bi (AB (aV 1) (AB (AN 2 CA (AB (AY Ap (aV 2) (aV 0)) (AB (AY Ap (aV 3) (aV 0)) AL))) AL))))) (A2 5))
   (Av (Ea Ci (AB (GQ (DD (S8 (AB (aC (.int 3)) AL)) 1 [2,5] (A2 0) E3 (AN 2 BK (AB (AY Ap (aV 1) (AY BV (aV 0) (aC (.int 1)))) (AB (AY Ap (aV 2) (aV 0)) AL))))) AL))))
def MC:AS:=
 (Ad (A0 (AN 2 EA (AB (AN 2 CA (AB (aV 1) (AB (AY Ap (aV 2) (aC (.int 0))) AL))) (AB (AN 2 CA (AB (AY Ap (aV 3) (aC (.int 0))) (AB (AY Ap (aV 2) (aC (.int 0))) AL))) AL))) (A2 4))
   IT)
def MD:AS:=
 (Ad (Gd (fB (AB (aV 0) (AB (V5 (aV 0) (V8 (aC (.int 1))) V7) AL))) (MX 2 (Aj (A2 2) (Aj (A2 3) CZ))) (Bn (Ef (A1 (AN 2 Aw (AB (AY Ap (aV 3) (aC (.int 0))) (AB (aV 1) AL))))) MC BJ))
   (Av (aC .non)))
def Qw:AS:=
 (Ad (Bn (Pb (A1 (AN 2 Aw (AB (aV 1) (AB (AY Ap (AY Ap (aV 0) (aC (.int 0))) (aC (.int 0))) AL)))) (A1 (AN 2 Aw (AB (AY Ap (AY Ap (aV 0) (Sk KE (aC (.int 1)))) (aC (.int 0))) (AB (aV 1) AL))))) (Av (aC .non)) BJ)
   MD)
def Dv:AF:=A5 6 Qw
theorem MO {cs:List C4} {B M:Nat} {m:Rat} (hc:∀c∈cs,GO B c) (hr:GM cs) (h0:cs≠ []) (hl:cs.length<=1000) (hm:Bd M m) (hB:M+6*B+10<=3990) {Q:PV->Prop} (q:Q (NW (spotC cs m))):Dv [A8 cs,fr m] Q:=by
 have m1:=hm.mono (n:=4000) (by omega)
 cases cs with
 | nil=>exact absurd rfl h0
 | cons a r=>
   have ba:=hc a (by simp)
   have a1:=ba.m.mono (n:=4000) (by omega)
   obtain ⟨l,el⟩:∃l,(a::r).getLast?=some l:=⟨_,List.getLast?_eq_some_getLast (by simp)⟩
   have bl:=hc l (List.mem_of_getLast? el)
   refine Fo (f:=cor) (k:=0) (c:=a) rfl rfl ⟨rfl,Bf m1 a1 ?_⟩
   refine Eb (b:=decide (m<a.1)) (λz=> ?_) (λz=> ?_)
   ·rw [SZ (of_decide_eq_true z)] at q
    exact q
   refine Ip (f:=cor) el ⟨rfl,Bf (bl.m.mono (by omega)) m1 ?_⟩
   refine Eb (b:=decide (l.1<m)) (λz2=> ?_) (λz2=> ?_)
   ·rw [Qj hr (λl' e'=>by rw [el] at e';cases e';exact of_decide_eq_true z2)] at q
    exact q
   simp only [spotC,if_neg (of_decide_eq_false z)] at q
   have few:r.length+1<=1000:=hl
   refine Vl (cs:=a::r) (i:=1) (k:=1) rfl (by simp) ?_
   refine Io (λrr τ=>∃(c:C4) (ds:List C4) (z2 z3 z4 z5:Option AV),rr=D7 ((c::ds).map cor) (ds.map cor)/\GM (c::ds)/\(∀d∈c::ds,GO B d)/\spotG c ds m=spotG a r m/\τ= [some (.val (A8 (a::r))),some (.val (fr m)),z2,z3,z4,z5]) ?_ ?_ _ _ ⟨a,r,none,none,none,none,rfl,hr,hc,rfl,rfl⟩
   ·rintro τ ⟨c,ds,z2,z3,z4,z5,YY,nA,hb,es,rfl⟩
    have:ds= [] :=by cases ds with | nil=>rfl|cons d ds=>cases YY
    subst this
    rw [<-es] at q
    exact q
   ·rintro x rr τ R hR ⟨c,ds,z2,z3,z4,z5,YY,nA,hb,es,rfl⟩
    cases ds with
    | nil=>cases YY
    | cons d ds=>
      cases YY
      have bc:=hb c (by simp)
      have bd:=hb d (by simp)
      have Lj:=(List.pairwise_cons.mp nA).1 d (by simp)
      refine ⟨rfl,rfl,Bf (bd.m.mono (by omega)) m1 ?_⟩
      refine Eb (b:= !decide (d.1<m)) (λz=> ?_) (λz=> ?_)
      ·have z':¬d.1<m:=by simpa using z
       rw [<-es] at q
       simp only [spotG,if_neg z',NW,iY,inter] at q
       have s:=Bd.share bc bd hm Lj
       refine ⟨rfl,CJ m1 (bc.m.mono (by omega)) ⟨rfl,CJ (bd.m.mono (by omega)) (bc.m.mono (by omega)) ⟨rfl,LM (Na Lj) ((hm.sub bc.m).mono (by omega)) ((bd.m.sub bc.m).mono (by omega)) ?_⟩⟩⟩
       refine ⟨lz,lz, ?_⟩
       refine ⟨rfl,CJ (bd.x.mono (by omega)) (bc.x.mono (by omega)) ⟨rfl,CP (s.mono (by omega)) ((bd.x.sub bc.x).mono (by omega)) ?_⟩⟩
       refine ⟨rfl,CJ (bd.y.mono (by omega)) (bc.y.mono (by omega)) ⟨rfl,CP (s.mono (by omega)) ((bd.y.sub bc.y).mono (by omega)) ?_⟩⟩
       refine ⟨rfl,CJ (bd.z.mono (by omega)) (bc.z.mono (by omega)) ⟨rfl,CP (s.mono (by omega)) ((bd.z.sub bc.z).mono (by omega)) ?_⟩⟩
       refine ⟨⟨by decide,by decide⟩,lz, ?_⟩
       refine ⟨rfl,Cn (bc.x.mono (by omega)) ((s.mul (bd.x.sub bc.x)).mono (by omega)) ?_⟩
       refine ⟨rfl,Cn (bc.y.mono (by omega)) ((s.mul (bd.y.sub bc.y)).mono (by omega)) ?_⟩
       exact ⟨rfl,Cn (bc.z.mono (by omega)) ((s.mul (bd.z.sub bc.z)).mono (by omega)) q⟩
      ·have z':d.1<m:=by simpa using z
       exact hR _ ⟨d,ds,_,_,_,_,rfl,(List.pairwise_cons.mp nA).2,λe he=>hb e (by simp [he]),by rw [<-es];simp only [spotG,if_pos z'],rfl⟩
theorem e5.t3 {t:T3} (h:E2 1900 t):e5 (iY t):=(Sh.tup (jq (Sh.fr h.x) (Sh.fr h.y) (Sh.fr h.z))).go (by decide) lz
def sp (cs:List C4) (m:Rat):C4:=(m,(spotC cs m).getD (0,0,0))
def OU (f t:Rat) (c:C4):Bool:=decide (f<c.1)&&decide (c.1<t)
theorem NV {m:Rat}:∀{a:C4} {r:List C4} {l:C4},r≠ [] ->(a::r).getLast?=some l->m<=l.1->∃t,spotG a r m=some t
 | a, [],l,h,_,_=>absurd rfl h
 | a,b::r,l,_,e,hm=>by
   simp only [spotG]
   split
   ·rename_i h
    cases r with
    | nil=>
      have:b=l:=by simpa using e
      subst this;grind
    | cons c r=>exact NV (l:=l) (by simp) (by simpa [List.getLast?_cons_cons] using e) hm
   ·exact ⟨_,rfl⟩
theorem NT {a:C4} {r:List C4} {l:C4} {m:Rat} (h2:r≠ []) (e:(a::r).getLast?=some l) (h0:a.1<=m) (h1:m<=l.1):∃t,spotC (a::r) m=some t:=by
 simp only [spotC]
 rw [if_neg (by grind)]
 exact NV h2 e h1
theorem Wb {a b l:C4} {r:List C4} (e:(a::b::r).getLast?=some l):(b::r).getLast?=some l:=by
 simpa [List.getLast?_cons_cons] using e
theorem Tj {a b f t xa xb:Rat} (h1:a<b) (h2:f<b):(xa+(f-a)/(b-a)*(xb-xa))+(t-f)/(b-f)*(xb-(xa+(f-a)/(b-a)*(xb-xa)))=xa+(t-a)/(b-a)*(xb-xa):=by
 have n1:b-a≠0:=by grind
 have n2:b-f≠0:=by grind
 grind
theorem Rl {a b:C4} {f t:Rat} (h1:a.1<b.1) (h2:f<b.1):inter (f,inter a b f) b t=inter a b t:=by
 simp only [inter]
 rw [Tj h1 h2,Tj h1 h2,Tj h1 h2]
def mx (b a:Rat):Rat:=if b<a then a else b
def mn (e l:Rat):Rat:=if e<l then e else l
def L6:AS:=
 (Av (iO (A1 (AN 2 Aw (AB (aV 0) (AB (aV 1) AL)))) (aV 1) (aV 0)))
def CW:AF:=A5 2 L6
theorem IW {a b:Rat} (ha:Bd 4000 a) (hb:Bd 4000 b) {Q:PV->Prop} (q:Q (fr (mx a b))):CW [fr a,fr b] Q:=by
 refine ⟨rfl,Bf ha hb ?_⟩
 refine Eb (b:=decide (a<b)) (λz=> ?_) (λz=> ?_)
 ·rw [mx,if_pos (of_decide_eq_true z)] at q;exact q
 ·rw [mx,if_neg (of_decide_eq_false z)] at q;exact q
def XZ:AS:=
 (Av (iO (A1 (AN 2 Aw (AB (aV 1) (AB (aV 0) AL)))) (aV 1) (aV 0)))
def EM:AF:=A5 2 XZ
theorem RF {a b:Rat} (ha:Bd 4000 a) (hb:Bd 4000 b) {Q:PV->Prop} (q:Q (fr (mn a b))):EM [fr a,fr b] Q:=by
 refine ⟨rfl,Bf hb ha ?_⟩
 refine Eb (b:=decide (b<a)) (λz=> ?_) (λz=> ?_)
 ·have z':=of_decide_eq_true z
  rw [show mn a b=b by unfold mn;split <;> grind] at q;exact q
 ·have z':=of_decide_eq_false z
  rw [show mn a b=a by unfold mn;split <;> grind] at q;exact q
theorem Fl {α:Type} {g:AG} {tt:AT} {te:AE} {τ0:BB} {Q:List PV->Prop} (f k:α->PV) (p:α->Bool) (P:α->Prop)
 (hs:∀a,P a->∀(R:PV->Prop) (N:Prop),(p a=true->R (k a))->(p a=false->N)->g (f a) τ0 λτ1=>tt τ1 λok=>if ok=true then te τ1 R else N):
 ∀(xs:List α) (acc:List PV),(∀a∈xs,P a)->Q (acc++(xs.filter p).map k)->CS g tt te τ0 Q (xs.map f) acc
 | [],acc,_,h=>(by simpa using h:Q acc)
 | a::xs,acc,hp,h=>by
   refine hs a (hp a (by simp)) (λy=>CS g tt te τ0 Q (xs.map f) (acc ++ [y])) _ (λz=> ?_) (λz=> ?_)
   ·exact Fl f k p P hs xs _ (λb hb=>hp b (by simp [hb])) (by simpa [List.filter_cons,z] using h)
   ·exact Fl f k p P hs xs _ (λb hb=>hp b (by simp [hb])) (by simpa [List.filter_cons,z] using h)
theorem both {f t:Rat} {c:C4} {tt:(Bool->Prop)->Prop} {A:Prop} {N:Prop} (h1:OU f t c=true->A) (h2:OU f t c=false->N):
 if decide (f<c.1)=true then (if decide (c.1<t)=true then A else N) else N:=by
 unfold OU at h1 h2
 refine Eb (λz=>Eb (λz2=>h1 (by rw [z,z2];rfl)) (λz2=>h2 (by rw [z,z2];rfl))) (λz=>h2 (by rw [z];rfl))
def IU:AS:=
 (Av (GQ (DD (OP (aV 0)) 1 [1,2] (A2 0) (Ko (A1 (AN 2 Aw (AB (aV 1) (AB (AY Ap (aV 0) (aC (.int 0))) AL)))) (A1 (AN 2 Aw (AB (AY Ap (aV 0) (aC (.int 0))) (AB (aV 2) AL))))) (Ea Ci (AB (aV 0) AL)))))
def Bl:AF:=A5 3 IU
theorem Dw {cs:List C4} {v:PV} {B:Nat} {f t:Rat} (hv:CQ cs v) (hl:cs.length<=1000) (hc:∀c∈cs,GO B c) (hB:B<=4000) (hf:Bd 4000 f) (ht:Bd 4000 t) {Q:PV->Prop} (q:Q (.lst ((cs.filter (OU f t)).map cor))):Bl [v,fr f,fr t] Q:=by
 obtain ⟨g,hg,hv⟩:=hv
 have few:(cs.map g).length<sizeLine:=by rw [List.length_map];exact Nat.lt_of_le_of_lt hl (by decide)
 have key:∀(c:C4),GO B c->∀(R:PV->Prop) (N:Prop),(OU f t c=true->R (cor c))->(OU f t c=false->N)->
  (A2 0) (g c) [none,some (.val (fr f)),some (.val (fr t))] λτ1=>(Ko (A1 (AN 2 Aw (AB (aV 1) (AB (AY Ap (aV 0) (aC (.int 0))) AL)))) (A1 (AN 2 Aw (AB (AY Ap (aV 0) (aC (.int 0))) (AB (aV 2) AL))))) τ1 λok=>if ok=true then (Ea Ci (AB (aV 0) AL)) τ1 R else N:=by
  intro c bc R N h1 h2
  have bm:=bc.m.mono hB
  rcases hg with rfl|rfl
  all_goals
   refine ⟨rfl,Bf hf bm ?_⟩
   refine Eb (b:=decide (f<c.1)) (λz=> ?_) (λz=>h2 (by unfold OU;rw [z];rfl))
   refine ⟨rfl,Bf bm ht ?_⟩
   exact Eb (b:=decide (c.1<t)) (λz2=>h1 (by unfold OU;rw [z,z2];rfl)) (λz2=>h2 (by unfold OU;rw [z,z2];rfl))
 rcases hv with rfl|rfl
 ·exact ⟨few,Fl g cor (OU f t) (GO B) key cs [] hc q⟩
 ·exact ⟨few,Fl g cor (OU f t) (GO B) key cs [] hc q⟩
theorem Bd.mx {n:Nat} {a b:Rat} (ha:Bd n a) (hb:Bd n b):Bd n (mx a b):=by unfold PL.mx;split <;> assumption
theorem Bd.mn {n:Nat} {a b:Rat} (ha:Bd n a) (hb:Bd n b):Bd n (mn a b):=by unfold PL.mn;split <;> assumption
end PL
end
section
namespace PL
open PySem L2 PyProof.Rows
section
variable {a b:AS} {ta tb:AE} {tt tu:AT} {g:AG} {gs:Sm} {nx bk ct:BB->Prop} {rt:PV->Prop} {τ:BB} {Q:PV->Prop} {QB:Bool->Prop} {QL:List PV->Prop} {QT:BB->Prop} {r:AA} {ai:AI} {F:AF} {n i j:Nat} {x y z:PV} {xs ys:List PV}
theorem kN {f:II} (e:Qs τ i=some (.val x)) (h:ta τ λy=>f x y λz=>nx (τ.set i (some (.val z)))):S5 i f ta ⟨nx,rt,bk,ct⟩ τ:=by unfold S5;rw [e];exact h
theorem kW (e:Qs τ i=some (.own xs)) (h:QL xs):MV i τ QL:=by unfold MV;rw [e];exact h
theorem t7 (e:Qs τ i=some (.val x)) (h:Q x):aV i τ Q:=by unfold aV;rw [e];exact h
def p9 (x:PV) (i:Int):Option PV:=match x with | .tup xs=>IJ xs i | .lst xs=>IJ xs i|_=>none
theorem nV {i:Int} (e:p9 x i=some z) (h:Q z):Ap x (.int i) Q:=by
 cases x <;> first | (cases e;done)|(show aA (IJ _ i) Q;rw [show IJ _ i=some z from e];exact h)
theorem gx {a:C4} {cs:List C4} (h:Q (cor a)):Ap (A8 (a::cs)) (.int 0) Q:=Fo (k:=0) (c:=a) rfl rfl h
theorem gz {l:C4} {cs:List C4} (el:cs.getLast?=some l) (h:Q (cor l)):Ap (A8 cs) (.int (-1)) Q:=Ip el h
theorem kO {a b:Rat} (h:Q (.bl (decide (a=b)))):LR (fr a) (fr b) Q:=⟨⟨VM 29 _,VM 29 _⟩,by rw [YE];exact h⟩
theorem kU {a b:Rat} (h:Q (.bl (!decide (a=b)))):ao (fr a) (fr b) Q:=⟨⟨VM 29 _,VM 29 _⟩,by rw [YE];exact h⟩
theorem g6 {cs:List C4} (h:Q (.int cs.length)):FU [A8 cs] Q:=by
 show Q (.int (cs.map cor).length);rw [List.length_map];exact h
theorem kT {T:String} {k:Kd} (ht:Ya T) (e:kdOf x=some k) (h:Q (.bl (Pt k T))):RW [x, .ty T] Q:=by
 refine ⟨ht, ?_⟩;rw [e];exact h
theorem d8 {g:List Bool->Bool} {bs:List Bool} (e:Ii xs=some bs) (h:Q (.bl (g bs))):YI g [.lst xs] Q:=by
 show (match Ii xs with | some bs=>Q (.bl (g bs))|none=>False);rw [e];exact h
theorem kQ {c:Bool} {A B:Prop} (e:c=true) (h:A):if c=true then A else B:=by rw [if_pos e];exact h
theorem kP {c:Bool} {A B:Prop} (e:c=false) (h:B):if c=true then A else B:=by rw [if_neg (by rw [e];exact Bool.false_ne_true)];exact h
theorem kR {p:Prop} [Decidable p] {A B:Prop} (h1:p->A) (h2:¬p->B):if decide p=true then A else B:=by
 by_cases h:p
 ·rw [if_pos (decide_eq_true h)];exact h1 h
 ·rw [if_neg (by simp [h])];exact h2 h
theorem kS {p:Prop} [Decidable p] {A B:Prop} (h1:¬p->A) (h2:p->B):if (!decide p)=true then A else B:=by
 by_cases h:p
 ·rw [if_neg (by simp [h])];exact h2 h
 ·rw [if_pos (by simp [h])];exact h1 h
end
end PL
namespace PL
open PySem L2 PyProof.Rows
theorem iP:Bd 1 (0:Rat):=⟨by decide,by decide⟩
theorem lM:Bd 1 (1:Rat):=⟨by decide,by decide⟩
end PL
namespace PL
open PySem L2 PyProof.Rows
section
variable {g:AG} {b:AS} {nx bk ct:BB->Prop} {rt:PV->Prop}
theorem Pj (P:Nat->BB->Prop) {lo:Int} {n:Nat} (hd:∀τ,P n τ->nx τ)
 (hs:∀i,i<n->∀τ (R:BB->Prop),(∀τ,P (i+1) τ->R τ)->P i τ->g (.int (lo+i)) τ λτ1=>b ⟨R,rt,nx,R⟩ τ1) {τ:BB} (h0:P 0 τ):D8 g b ⟨nx,rt,bk,ct⟩ (rng lo n) τ:=by
 refine Io (λr τ=>∃i,i<=n/\r=rng (lo+i) (n-i)/\P i τ) ?_ ?_ _ _ ⟨0,Nat.zero_le _,by simp,h0⟩
 ·rintro τ ⟨i,hi,hr,hp⟩
  have:n-i=0:=by
   cases e:n-i with
   | zero=>rfl
   | succ k=>rw [e,JE] at hr;cases hr
  have:i=n:=by omega
  subst this
  exact hd τ hp
 ·rintro x r τ R hR ⟨i,hi,hr,hp⟩
  cases e:n-i with
  | zero=>rw [e] at hr;cases hr
  | succ k=>
    rw [e,JE] at hr
    cases hr
    exact hs i (by omega) τ R (λτ2 h2=>hR τ2 ⟨i+1,by omega,by rw [show n-(i+1)=k by omega,show lo+((i+1:Nat):Int)=lo+i+1 by omega],h2⟩) hp
theorem Eg {α:Type} (f:α->PV) (P:List α->List α->BB->Prop) {cs:List α} (hd:∀τ,P cs [] τ->nx τ)
 (hs:∀us c vs,us++c::vs=cs->∀τ (R:BB->Prop),(∀τ,P (us ++ [c]) vs τ->R τ)->P us (c::vs) τ->g (f c) τ λτ1=>b ⟨R,rt,nx,R⟩ τ1) {τ:BB} (h0:P [] cs τ):D8 g b ⟨nx,rt,bk,ct⟩ (cs.map f) τ:=by
 refine Io (λr τ=>∃us vs,us++vs=cs/\r=vs.map f/\P us vs τ) ?_ ?_ _ _ ⟨[],cs,rfl,rfl,h0⟩
 ·rintro τ ⟨us,vs,e,hr,hp⟩
  cases vs with
  | nil=>rw [List.append_nil] at e;subst e;exact hd τ hp
  | cons v vs=>cases hr
 ·rintro x r τ R hR ⟨us,vs,e,hr,hp⟩
  cases vs with
  | nil=>cases hr
  | cons c vs=>
    cases hr
    exact hs us c vs e τ R (λτ2 h2=>hR τ2 ⟨us ++ [c],vs,by simpa using e,rfl,h2⟩) hp
theorem lE {c:AT} (P:Nat->BB->Prop)
 (hs:∀n τ (R:BB->Prop),(∀τ,P n τ->R τ)->P (n+1) τ->c (frz τ) λk=>if k=true then b ⟨R,rt,nx,R⟩ τ else nx τ) (sY:∀τ,¬P 0 τ) {n:Nat} {τ:BB} (h0:P n τ):J8 c b ⟨nx,rt,bk,ct⟩ τ:=
 ⟨n,Ue P sY (λn τ R hR hp=>hs n τ R hR hp) n τ h0⟩
end
section
variable {g:AG} {tt:AT} {te:AE} {τ0:BB} {Q:List PV->Prop}
end
end PL
namespace PL
section
variable {p:Prop} [Decidable p] {A B:Prop}
end
end PL
end
section
namespace PL
open PySem PySem.Spec PyProof.Rows L2
section
variable {K:PySem.W.Frag} {T M:Addr->Prop} {H:Hp}
inductive KR (K:PySem.W.Frag):List Value->List PV->Prop where
 | nil:KR K [] []
 | cons {u:Value} {x:PV} {us:List Value} {xs:List PV} (h:∃V,RelV V u/\∀T M H,CB K T M H V x) (t:KR K us xs):KR K (u::us) (x::xs)
theorem KR.length:∀{us:List Value} {xs:List PV},KR K us xs->us.length=xs.length
 | _,_, .nil=>rfl
 | _,_, .cons _ t=>by simp [t.length]
end
def aR (K:PySem.W.Frag) (d:Addr):List (Str×PV)->Prop
 | [] =>True
 | p::r=>(∃(u:Value) (V:V),PySem.W.nsIn K d p.1=some (some u)/\RelV V u/\∀T M H,CB K T M H V p.2)/\aR K d r
theorem aR.get {K:PySem.W.Frag} {d:Addr}:∀{tb:List (Str×PV)},aR K d tb->∀s v,tb.lookup s=some v->∃(u:Value) (V:V),PySem.W.nsIn K d s=some (some u)/\RelV V u/\∀T M H,CB K T M H V v
 | [],_,s,v,e=>by cases e
 | (a,b)::r,h,s,v,e=>by
   rw [List.lookup_cons] at e
   split at e
   ·rename_i hb
    cases e
    have:s=a:=eq_of_beq hb
    subst this
    exact h.1
   ·exact aR.get h.2 s v e
section
variable {X:Cx}
def de (x:PV) (xs:List PV):Bool:=xs.any λy=>fG y x
def lN (neg:Bool):II:=λx y Q=>Qt y λys=>(EK 29 x=true/\Hu 29 ys=true)/\Q (.bl (if neg then !de x ys else de x ys))
def cY (K:PySem.W.Frag) (neg:Bool):R2:=λu v H Q=>∃(T M:Addr->Prop) (x y:PV) (ys:List PV),CB K T M H u x/\CB K T M H v y/\(y= .tup ys\/y= .lst ys)/\EK 29 x=true/\Hu 29 ys=true/\Q (.bl (if neg then !de x ys else de x ys)) H
theorem VO (xs:List PV) (x:PV):(Nj xs).any (λy=>PyData.eqv y (pd x))=de x xs:=by
 induction xs with
 | nil=>rfl
 | cons y ys ih=>simp only [Nj,List.any_cons,ih,de,fG]
theorem cF {k:Nat} (hr:Room k X.A):EB X (compareOp .NotIn) (cY X.K true):=by
 intro pins s σ H u v uu vv Q I ru rv h
 obtain ⟨T,M,x,y,ys,rx,ry,hy,kx,ky,q⟩:=h
 obtain ⟨as,ra⟩:=Dy I 29 rx kx ru
 obtain ⟨a1,a2,_⟩:=G4 29 x kx
 obtain ⟨b1,b2,_⟩:=I0 29 ys ky
 have hu:X.A.units+1+min (PyData.depthAll (Nj ys)) (pd x).depth<cLine:=by have:=hr.un;omega
 rcases hy with rfl|rfl
 ·obtain ⟨bs,rb⟩:=Dy I 30 ry (by simpa [EK] using ky) rv
  exact SeqAt.notIn_tuple_reads rb ra b1 a1 hu (by rw [VO];exact ⟨.bl _,H,I,rfl,q⟩)
 ·obtain ⟨bs,rb⟩:=Dy I 30 ry (by simpa [EK] using ky) rv
  exact SeqAt.notIn_list_reads rb ra b1 a1 hu (by rw [VO];exact ⟨.bl _,H,I,rfl,q⟩)
theorem cy {neg:Bool}:B6 X.K (cY X.K neg) (lN neg):=λT M H u v x y Q AQ va ru rv h k=>by
 obtain ⟨ys,hy,h1,q⟩:=Hw h
 exact ⟨T,M,x,y,ys,ru,rv,hy,h1.1,h1.2,k _ _ T H (.refl va.tp) (.bl _) q⟩
theorem hV {k:Nat} (hr:Room k X.A):EB X (compareOp .NotIn) (cY X.K true)/\B6 X.K (cY X.K true) (lN true):=⟨cF hr,cy⟩
end
end PL
end
section
namespace PL
open PySem L2 PyProof.Rows
class Wp (P:Prop) (P':outParam Prop):Prop where
 go:P'->P
class Nw (P:Prop) (C P':outParam Prop):Prop where
 go:C->P'->P
class pM (P:Prop) (P':outParam Prop):Prop where
 go:P'->P
class mM (P:Prop) (A B:outParam Prop):Prop where
 go:A->B->P
class dQ (τ:BB) (i:Nat) (x:outParam AV):Prop where
 e:Qs τ i=some x
instance u0 {v:AV} {r:BB}:dQ (some v::r) 0 v:=⟨rfl⟩
instance u3 {y:Option AV} {r:BB} {i:Nat} {v:AV} [h:dQ r i v] :dQ (y::r) (i+1) v:=⟨h.e⟩
class Xq (τ:BB) (i:Nat) (v:AV) (τ':outParam BB):Prop where
 e:τ.set i (some v)=τ'
instance t9 {y:Option AV} {r:BB} {v:AV}:Xq (y::r) 0 v (some v::r):=⟨rfl⟩
instance uA {y:Option AV} {r r':BB} {i:Nat} {v:AV} [h:Xq r i v r'] :Xq (y::r) (i+1) v (y::r'):=⟨by rw [List.set_cons_succ,h.e]⟩
class XO (τ:BB) (τ':outParam BB):Prop where
 e:frz τ=τ'
instance sT:XO [] [] :=⟨rfl⟩
instance (priority:=low) sX {z:Option AV} {r r':BB} [h:XO r r'] :XO (z::r) (aq z::r'):=⟨by rw [<-h.e];rfl⟩
instance sU {r r':BB} [h:XO r r'] :XO (none::r) (none::r'):=⟨by rw [<-h.e];rfl⟩
instance sW {x:PV} {r r':BB} [h:XO r r'] :XO (some (.val x)::r) (some (.val x)::r'):=⟨by rw [<-h.e];rfl⟩
instance sV {x:List PV} {r r':BB} [h:XO r r'] :XO (some (.own x)::r) (some (.val (.lst x))::r'):=⟨by rw [<-h.e];rfl⟩
class i0 (ix:List Nat) (τ:BB) (τ':outParam BB):Prop where
 e:(ix.map λi=>WA (Qs τ i))=τ'
instance ug {τ:BB}:i0 [] τ [] :=⟨rfl⟩
instance uh {τ r:BB} {i:Nat} {ix:List Nat} {x:PV} [h:dQ τ i (.val x)] [h2:i0 ix τ r] :i0 (i::ix) τ (some (.val x)::r):=⟨by rw [List.map_cons,h.e,h2.e];rfl⟩
class jF (n:Nat) (τ:outParam BB):Prop where
 e:List.replicate n none=τ
instance u4:jF 0 [] :=⟨rfl⟩
instance u5 {n:Nat} {τ:BB} [h:jF n τ] :jF (n+1) (none::τ):=⟨by rw [List.replicate_succ,h.e]⟩
class Xa (xs ys:BB) (zs:outParam BB):Prop where
 e:xs++ys=zs
instance ui {ys:BB}:Xa [] ys ys:=⟨rfl⟩
instance uj {x:Option AV} {xs ys zs:BB} [h:Xa xs ys zs] :Xa (x::xs) ys (x::zs):=⟨by rw [List.cons_append,h.e]⟩
class aJ (xs ys:List PV) (zs:outParam (List PV)):Prop where
 e:xs++ys=zs
instance sR {ys:List PV}:aJ [] ys ys:=⟨rfl⟩
instance sS {x:PV} {xs ys zs:List PV} [h:aJ xs ys zs] :aJ (x::xs) ys (x::zs):=⟨by rw [List.cons_append,h.e]⟩
class sP (xs:List PV) (n:outParam Nat):Prop where
 e:xs.length=n
class Ix (x:PV) (i:Int) (y:outParam PV):Prop where
 e:p9 x i=some y
class uc (xs:List PV) (n:Nat) (y:outParam PV):Prop where
 e:xs[n]? =some y
section
variable {a b:AS} {ta tb:AE} {tt tu:AT} {g:AG} {gs:Sm} {nx bk ct:BB->Prop} {rt:PV->Prop} {τ τ' τ2:BB} {Q:PV->Prop} {QB:Bool->Prop} {QL:List PV->Prop} {QT:BB->Prop} {r:AA} {ai:AI} {F:AF} {n i j:Nat} {x y z:PV} {xs ys zs:List PV}
instance lX {p0:PV} {q:List PV}:Ix (.tup (p0::q)) 0 p0:=⟨Cf (j:=0) rfl⟩
instance lU {p0:PV} {q:List PV}:Ix (.lst (p0::q)) 0 p0:=⟨Cf (j:=0) rfl⟩
instance lY {p0 p1:PV} {q:List PV}:Ix (.tup (p0::p1::q)) 1 p1:=⟨Cf (j:=1) rfl⟩
instance lV {p0 p1:PV} {q:List PV}:Ix (.lst (p0::p1::q)) 1 p1:=⟨Cf (j:=1) rfl⟩
instance lZ {p0 p1 p2:PV} {q:List PV}:Ix (.tup (p0::p1::p2::q)) 2 p2:=⟨Cf (j:=2) rfl⟩
instance lW {p0 p1 p2:PV} {q:List PV}:Ix (.lst (p0::p1::p2::q)) 2 p2:=⟨Cf (j:=2) rfl⟩
instance qE {q:Rat}:Ix (fr q) 0 (.int q.num):=⟨rfl⟩
instance qF {q:Rat}:Ix (fr q) 1 (.int q.den):=⟨rfl⟩
instance qA {c:C4}:Ix (cor c) 0 (fr c.1):=⟨rfl⟩
instance qB {c:C4}:Ix (cor c) 1 (fr c.2.1):=⟨rfl⟩
instance qC {c:C4}:Ix (cor c) 2 (fr c.2.2.1):=⟨rfl⟩
instance qD {c:C4}:Ix (cor c) 3 (fr c.2.2.2):=⟨rfl⟩
theorem mP {f:C4->PV} {c:C4} {cs:List C4}:IJ ((c::cs).map f) 0=some (f c):=Cf (j:=0) rfl
instance qG {c:C4} {cs:List C4}:Ix (A8 (c::cs)) 0 (cor c):=⟨mP⟩
instance q9:Wp (Ad a b ⟨nx,rt,bk,ct⟩ τ) (a ⟨b ⟨nx,rt,bk,ct⟩,rt,bk,ct⟩ τ):=⟨id⟩
instance qP:Wp (A0 ta g ⟨nx,rt,bk,ct⟩ τ) (ta τ λx=>g x τ nx):=⟨id⟩
instance q8 [h:XO τ τ'] :Wp (Av ta ⟨nx,rt,bk,ct⟩ τ) (ta τ' rt):=⟨λk=>by unfold Av;rw [h.e];exact k⟩
instance w_next:Wp (BJ ⟨nx,rt,bk,ct⟩ τ) (nx τ):=⟨id⟩
instance qa:Wp (Bn tt a b ⟨nx,rt,bk,ct⟩ τ) (tt τ λk=>if k=true then a ⟨nx,rt,bk,ct⟩ τ else b ⟨nx,rt,bk,ct⟩ τ):=⟨id⟩
def SQ (τ:BB) (i:Nat) (v:AV) (QT:BB->Prop):Prop:=QT (τ.set i (some v))
instance oo {v:AV} [h:Xq τ i v τ'] :Wp (SQ τ i v QT) (QT τ'):=⟨λk=>by unfold SQ;rw [h.e];exact k⟩
instance qq:Wp (LP r i ⟨nx,rt,bk,ct⟩ τ) (r τ λxs=>SQ τ i (.own xs) nx):=⟨id⟩
instance uK [h:Xq τ i (.val x) τ'] :Wp (A2 i x τ QT) (QT τ'):=⟨λk=>by unfold A2;rw [h.e];exact k⟩
instance qQ {f:II} [h:dQ τ i (.val x)] :Wp (S5 i f ta ⟨nx,rt,bk,ct⟩ τ) (ta τ λy=>f x y λz=>SQ τ i (.val z) nx):=⟨λk=>kN h.e k⟩
instance q0 [h:dQ τ i (.own xs)] :Wp (MV i τ QL) (QL xs):=⟨λk=>kW h.e k⟩
instance oS {f:eo}:Wp (Ee i f r ⟨nx,rt,bk,ct⟩ τ) (MV i τ λxs=>r τ λys=>f xs ys λzs=>SQ τ i (.own zs) nx):=⟨id⟩
instance qO:Wp (LW xs [y] QL) (xs.length<sizeLine/\QL (xs ++ [y])):=⟨id⟩
instance nw {k:Int}:Wp (Yl xs [.int k,y] QL) ((0<=k/\k<=(xs.length:Int)/\xs.length<sizeLine)/\QL (xs.take k.toNat++y::xs.drop k.toNat)):=⟨id⟩
instance qW:Wp (Gd ai g b ⟨nx,rt,bk,ct⟩ τ) (ai τ λxs=>D8 g b ⟨nx,rt,bk,ct⟩ xs τ):=⟨id⟩
instance oB:Wp (D8 g b ⟨nx,rt,bk,ct⟩ [] τ) (nx τ):=⟨id⟩
instance oC {q:List PV}:pM (D8 g b ⟨nx,rt,bk,ct⟩ (x::q) τ) (g x τ λτ1=>b ⟨D8 g b ⟨nx,rt,bk,ct⟩ q,rt,nx,D8 g b ⟨nx,rt,bk,ct⟩ q⟩ τ1):=⟨id⟩
instance oD:Wp (CZ [] τ QT) (QT τ):=⟨id⟩
instance lg {t:List PV}:Wp (Aj g gs (x::t) τ QT) (g x τ λτ'=>gs t τ' QT):=⟨id⟩
instance uL:Wp (MX n gs x τ QT) (Qt x λxs=>xs.length=n/\gs xs τ QT):=⟨id⟩
instance u8 [h:dQ τ i (.val x)] :Wp (aV i τ Q) (Q x):=⟨λk=>t7 h.e k⟩
instance u6:Wp (aC x τ Q) (Q x):=⟨id⟩
instance uU {f:II}:Wp (AY f ta tb τ Q) (ta τ λx=>tb τ λy=>f x y Q):=⟨id⟩
instance uX {f:PV->(PV->Prop)->Prop}:Wp (Sk f ta τ Q) (ta τ λx=>f x Q):=⟨id⟩
instance w_and:Wp (S4 ta tb τ Q) (ta τ λx=>cA x λc=>if c=true then tb τ Q else Q (.bl false)):=⟨id⟩
instance w_or:Wp (mN ta tb τ Q) (ta τ λx=>cA x λc=>if c=true then Q (.bl true) else tb τ Q):=⟨id⟩
instance rQ:Wp (A1 ta τ QB) (ta τ λx=>cA x QB):=⟨id⟩
instance oX:Wp (Ef tt τ QB) (tt τ λc=>QB (!c)):=⟨id⟩
instance nv:Wp (Ko tt tu τ QB) (tt τ λc=>if c=true then tu τ QB else QB false):=⟨id⟩
instance qz:Wp (Pb tt tu τ QB) (tt τ λc=>if c=true then QB true else tu τ QB):=⟨id⟩
instance uP:Wp (iO tt ta tb τ Q) (tt τ λc=>if c=true then ta τ Q else tb τ Q):=⟨id⟩
instance rS:Wp (E3 τ QB) (QB true):=⟨id⟩
instance w_bor [h:XO τ τ'] :Wp (RJ ta τ Q) (ta τ' λx=>XU x=true/\Q x):=⟨λk=>by unfold RJ;rw [h.e];exact k⟩
instance nz [h:XO τ τ'] :Wp (RK tt τ QB) (tt τ' QB):=⟨λk=>by unfold RK;rw [h.e];exact k⟩
instance qr:Wp (AL τ QL) (QL []):=⟨id⟩
instance oA:Wp (AB ta r τ QL) (ta τ λx=>r τ λxs=>QL (x::xs)):=⟨id⟩
def XS (xs:List PV) (Q:PV->Prop):Prop:=xs.length<=sizeLine/\Q (.tup xs)
instance rR:Wp (BG r τ Q) (r τ λxs=>XS xs Q):=⟨id⟩
instance qd:Wp (Dx r τ QL) (r τ λxs=>xs.length<=sizeLine/\QL xs):=⟨id⟩
instance uJ:Wp (GQ r τ Q) (r τ λxs=>Q (.lst xs)):=⟨id⟩
instance w_call:Wp (AN n F r τ Q) (r τ λxs=>xs.length=n/\F xs Q):=⟨id⟩
instance uH:Wp (Ea F r τ Q) (r τ λxs=>F xs Q):=⟨id⟩
instance oQ:Wp (Xv r τ QL) (r τ λxs=>U4 xs QL):=⟨id⟩
instance n9 {own:Nat} {ix:List Nat} {te:AE} {τ3 τ4:BB} [h1:jF own τ3] [h2:i0 ix τ τ4] [h3:Xa τ3 τ4 τ'] :Wp (DD ai own ix g tt te τ QL) (ai τ λxs=>xs.length<sizeLine/\CS g tt te τ' QL xs []):=⟨λk=>by unfold DD Ih;rw [h1.e,h2.e,h3.e];exact k⟩
instance n6 {te:AE} {acc:List PV}:Wp (CS g tt te τ QL [] acc) (QL acc):=⟨id⟩
instance n8 {te:AE} {acc q:List PV}:Wp (CS g tt te τ QL (x::q) acc) (g x τ λτ1=>tt τ1 λok=>if ok=true then te τ1 λy=>CS g tt te τ QL q (acc ++ [y]) else CS g tt te τ QL q acc):=⟨id⟩
instance uN:Wp (OP ta τ QL) (ta τ λx=>Qt x QL):=⟨id⟩
instance qX:Wp (S8 (AB ta AL) τ QL) (ta τ λx=>Z9 x λj=>(-(2^62)<=j/\j<2^62)/\QL (rng 0 j.toNat)):=⟨λh=>by have e:(λx=>Z9 x λj=>(-(2^62)<=j/\j<2^62)/\QL (rng 0 j.toNat))=(λx=>match [x] with | [.int j] =>(-(2^62)<=j/\j<2^62)/\QL (rng 0 j.toNat)|_=>False):=(funext λx=>by cases x <;> rfl);rw [e] at h;exact h⟩
instance qY:Wp (aY (AB ta (AB tb AL)) τ QL) (ta τ λx=>tb τ λy=>Wx x y λi j=>(-(2^62)<=i/\i<2^62/\ -(2^62)<=j/\j<2^62)/\QL (rng i (j-i).toNat)):=⟨λh=>by have e:(λx=>tb τ λy=>Wx x y λi j=>(-(2^62)<=i/\i<2^62/\ -(2^62)<=j/\j<2^62)/\QL (rng i (j-i).toNat))=(λx=>tb τ λy=>match [x,y] with | [.int i, .int j] =>(-(2^62)<=i/\i<2^62/\ -(2^62)<=j/\j<2^62)/\QL (rng i (j-i).toNat)|_=>False):=(funext λx=>congrArg (tb τ) (funext λy=>by cases x <;> cases y <;> rfl));rw [e] at h;exact h⟩
instance uO:Wp (fB (AB ta (AB tb AL)) τ QL) (ta τ λx=>tb τ λy=>Qt x λxs=>Qt y λys=>QL (D7 xs ys)):=⟨id⟩
instance q5:Wp (Pd i j (AB ta (AB tb AL)) ⟨nx,rt,bk,ct⟩ τ) (ta τ λx=>tb τ λy=>SQ τ i (.val x) λτ1=>SQ τ1 j (.val y) nx):=⟨id⟩
instance qy {R:Int->Prop} {k:Int}:Wp (Z9 (.int k) R) (R k):=⟨id⟩
instance oY {R:Int->Int->Prop} {k l:Int}:Wp (Wx (.int k) (.int l) R) (R k l):=⟨id⟩
instance qu {R:Bool->Prop} {c:Bool}:Wp (cA (.bl c) R) (R c):=⟨id⟩
instance om:Wp (Qt (.tup xs) QL) (QL xs):=⟨id⟩
instance oi:Wp (Qt (.lst xs) QL) (QL xs):=⟨id⟩
instance oh {q:Rat}:Wp (Qt (fr q) QL) (QL [.int q.num, .int q.den]):=⟨id⟩
instance og {c:C4}:Wp (Qt (cor c) QL) (QL [fr c.1,fr c.2.1,fr c.2.2.1,fr c.2.2.2]):=⟨id⟩
instance oj {cs:List C4}:Wp (Qt (A8 cs) QL) (QL (cs.map cor)):=⟨id⟩
instance u7 {f:Int->Int->PV} {k l:Int}:Wp (fI f (.int k) (.int l) Q) (Q (f k l)):=⟨id⟩
instance uG {C:Int->Int->Prop} {f:Int->Int->PV} {k l:Int}:Wp (jM C f (.int k) (.int l) Q) (C k l/\Q (f k l)):=⟨id⟩
instance ib:Wp (TR .non .non Q) (Q (.bl true)):=⟨id⟩
instance iq:Wp (RT .non .non Q) (Q (.bl false)):=⟨id⟩
instance ia {k:Int}:Wp (TR (.int k) .non Q) (Q (.bl false)):=⟨id⟩
instance ic:Wp (TR (.tup xs) .non Q) (Q (.bl false)):=⟨id⟩
instance ir:Wp (RT (.tup xs) .non Q) (Q (.bl true)):=⟨id⟩
instance uQ {k:Int} [h:Ix x k z] :Wp (Ap x (.int k) Q) (Q z):=⟨λq=>nV h.e q⟩
instance qo {k:Int}:Wp (KE (.int k) Q) (Q (.int (-k))):=⟨id⟩
instance w_not {c:Bool}:Wp (ap (.bl c) Q) (Q (.bl (!c))):=⟨id⟩
instance nr {k l:Int}:Wp (BV (.int k) (.int l) Q) (Q (.int (k+l))):=⟨id⟩
instance nu:Wp (BV (.lst xs) (.lst ys) Q) (xs.length+ys.length<=sizeLine/\Q (.lst (xs++ys))):=⟨id⟩
instance qU {k l:Int}:Wp (LR (.int k) (.int l) Q) (Q (.bl (decide (k=l)))):=⟨id⟩
instance qm {k l:Int}:Wp (ao (.int k) (.int l) Q) (Q (.bl (!decide (k=l)))):=⟨id⟩
instance qS {k l:Bool}:Wp (LR (.bl k) (.bl l) Q) (Q (.bl (decide (k=l)))):=⟨id⟩
instance qT {k l:Rat}:Wp (LR (fr k) (fr l) Q) (Q (.bl (decide (k=l)))):=⟨kO⟩
instance ql {k l:Rat}:Wp (ao (fr k) (fr l) Q) (Q (.bl (!decide (k=l)))):=⟨kU⟩
instance oP:Wp (FU [.tup xs] Q) (Q (.int xs.length)):=⟨id⟩
instance oO {ns:List Int}:Wp (FU [.scr ns] Q) (Q (.int ns.length)):=⟨id⟩
instance oN {cs:List C4}:Wp (FU [A8 cs] Q) (Q (.int cs.length)):=⟨g6⟩
instance (priority:=high) ig {α:Type} {f:α->PV} {cs:List α}:Wp (FU [.tup (cs.map f)] Q) (Q (.int cs.length)):=⟨λh=>by show Q (.int (cs.map f).length);rw [List.length_map];exact h⟩
instance (priority:=high) ie {α:Type} {f:α->PV} {cs:List α}:Wp (FU [.lst (cs.map f)] Q) (Q (.int cs.length)):=⟨λh=>by show Q (.int (cs.map f).length);rw [List.length_map];exact h⟩
instance uM {f:Int->Int->Int} {k l:Int}:Wp (iT f [.int k, .int l] Q) (Q (.int (f k l))):=⟨id⟩
instance oF {c:Bool}:Wp (YJ [.bl c] Q) (Q (.int (if c then 1 else 0))):=⟨id⟩
instance o6:Wp (Ci [.lst xs] Q) (Q (.tup xs)):=⟨id⟩
instance o7 {c:List C4}:Wp (Ci [A8 c] Q) (Q (A8 c)):=⟨id⟩
instance oR {cs:List C4}:Wp (U4 [A8 cs] QL) (QL (cs.map cor)):=⟨id⟩
instance rB {lo hi:Option Int}:Wp (U0 (.tup xs) lo hi Q) (Q (.tup (HJ xs lo hi))):=⟨F2⟩
instance uW {l h:AO}:Wp (V5 ta l h τ Q) (ta τ λx=>l τ λlo=>h τ λhi=>U0 x lo hi Q):=⟨id⟩
instance uS {R:Option Int->Prop}:Wp (V7 τ R) (R none):=⟨id⟩
instance uT {R:Option Int->Prop}:Wp (V8 ta τ R) (ta τ λx=>Z9 x λi=>R (some i)):=⟨id⟩
instance qc {A B:Prop}:Wp (if true=true then A else B) (A):=⟨λh=>by rw [if_pos rfl];exact h⟩
instance qb {A B:Prop}:Wp (if false=true then A else B) (B):=⟨λh=>by rw [if_neg Bool.false_ne_true];exact h⟩
instance oE {A B:Prop}:Wp (if (!true)=true then A else B) (B):=⟨λh=>h⟩
instance u9 {p A B:Prop} [Decidable p] :mM (if decide p=true then A else B) (p->A) (¬p->B):=⟨kR⟩
instance uI {p A B:Prop} [Decidable p] :mM (if (!decide p)=true then A else B) (¬p->A) (p->B):=⟨kS⟩
instance rK {A:Prop}:Wp (([] :List PV).length<=sizeLine/\A) (A):=⟨λh=>⟨lz,h⟩⟩
instance rE {A:Prop}:Wp (([] :List PV).length<sizeLine/\A) (A):=⟨λh=>⟨lz,h⟩⟩
instance oI {p0:PV} {A:Prop}:Wp ([p0].length=1/\A) (A):=⟨λh=>⟨rfl,h⟩⟩
instance rL {p0:PV} {A:Prop}:Wp ([p0].length<=sizeLine/\A) (A):=⟨λh=>⟨lz,h⟩⟩
instance oJ {p0 p1:PV} {A:Prop}:Wp ([p0,p1].length=2/\A) (A):=⟨λh=>⟨rfl,h⟩⟩
instance rM {p0 p1:PV} {A:Prop}:Wp ([p0,p1].length<=sizeLine/\A) (A):=⟨λh=>⟨lz,h⟩⟩
instance rG {p0 p1:PV} {A:Prop}:Wp ([p0,p1].length<sizeLine/\A) (A):=⟨λh=>⟨lz,h⟩⟩
instance oK {p0 p1 p2:PV} {A:Prop}:Wp ([p0,p1,p2].length=3/\A) (A):=⟨λh=>⟨rfl,h⟩⟩
instance rN {p0 p1 p2:PV} {A:Prop}:Wp ([p0,p1,p2].length<=sizeLine/\A) (A):=⟨λh=>⟨lz,h⟩⟩
instance rH {p0 p1 p2:PV} {A:Prop}:Wp ([p0,p1,p2].length<sizeLine/\A) (A):=⟨λh=>⟨lz,h⟩⟩
instance oM {p0 p1 p2 p3:PV} {A:Prop}:Wp ([p0,p1,p2,p3].length=4/\A) (A):=⟨λh=>⟨rfl,h⟩⟩
instance rJ {p0 p1 p2 p3:PV} {A:Prop}:Wp ([p0,p1,p2,p3].length<sizeLine/\A) (A):=⟨λh=>⟨lz,h⟩⟩
instance rO {p0 p1 p2 p3 p4:PV} {A:Prop}:Wp ([p0,p1,p2,p3,p4].length<=sizeLine/\A) (A):=⟨λh=>⟨lz,h⟩⟩
instance qe {p0:PV}:Wp (XS [p0] Q) (Q (.tup [p0])):=⟨λh=>⟨lz,h⟩⟩
instance qf {p0 p1:PV}:Wp (XS [p0,p1] Q) (Q (.tup [p0,p1])):=⟨λh=>⟨lz,h⟩⟩
instance qg {p0 p1 p2:PV}:Wp (XS [p0,p1,p2] Q) (Q (.tup [p0,p1,p2])):=⟨λh=>⟨lz,h⟩⟩
instance qh {p0 p1 p2 p3:PV}:Wp (XS [p0,p1,p2,p3] Q) (Q (.tup [p0,p1,p2,p3])):=⟨λh=>⟨lz,h⟩⟩
instance (priority:=high+10) oT:Wp (XS [.int 0, .int 1] Q) (Q (fr 0)):=⟨λh=>⟨lz,h⟩⟩
instance (priority:=high+10) oU:Wp (XS [.int 1, .int 1] Q) (Q (fr 1)):=⟨λh=>⟨lz,h⟩⟩
instance (priority:=high) oV {k:Int}:Wp (XS [.int k, .int 1] Q) (Q (fr (k:Rat))):=⟨λh=>⟨lz,Qp h⟩⟩
instance (priority:=high) rP {k:Rat} {p q r:Rat}:Wp (BV (.tup [fr k]) (.tup [fr p,fr q,fr r]) Q) (Q (cor (k,p,q,r))):=⟨λh=>⟨lz,h⟩⟩
theorem fH:PV.tup [.int 1, .int 2] =fr (1/2):=by unfold fr;rw [show ((1:Rat)/2).num=1 by decide +kernel,show ((1:Rat)/2).den=2 by decide +kernel];rfl
instance (priority:=high) ii:Wp (XS [.int 1, .int 2] Q) (Q (fr (1/2))):=⟨λh=>⟨lz,by rw [fH];exact h⟩⟩
theorem fJ:PV.tup [.int 1, .int 3] =fr (1/3):=by unfold fr;rw [show ((1:Rat)/3).num=1 by decide +kernel,show ((1:Rat)/3).den=3 by decide +kernel];rfl
instance (priority:=high) il:Wp (XS [.int 1, .int 3] Q) (Q (fr (1/3))):=⟨λh=>⟨lz,by rw [fJ];exact h⟩⟩
theorem fK:PV.tup [.int 3, .int 2] =fr (3/2):=by unfold fr;rw [show ((3:Rat)/2).num=3 by decide +kernel,show ((3:Rat)/2).den=2 by decide +kernel];rfl
instance (priority:=high) im:Wp (XS [.int 3, .int 2] Q) (Q (fr (3/2))):=⟨λh=>⟨lz,by rw [fK];exact h⟩⟩
theorem fL:PV.tup [.int 3, .int 4] =fr (3/4):=by unfold fr;rw [show ((3:Rat)/4).num=3 by decide +kernel,show ((3:Rat)/4).den=4 by decide +kernel];rfl
instance (priority:=high) ip:Wp (XS [.int 3, .int 4] Q) (Q (fr (3/4))):=⟨λh=>⟨lz,by rw [fL];exact h⟩⟩
instance qj {q:Rat} {A:Prop}:Wp (XU (fr q)=true/\A) (A):=⟨λh=>⟨rfl,h⟩⟩
instance qk {k:Int} {A:Prop}:Wp (XU (.int k)=true/\A) (A):=⟨λh=>⟨rfl,h⟩⟩
instance qi {k:C4} {A:Prop}:Wp (XU (cor k)=true/\A) (A):=⟨λh=>⟨rfl,h⟩⟩
class Zp (xs ys:List PV) (zs:outParam (List PV)):Prop where
 e:D7 xs ys=zs
instance uY:Zp [] [] [] :=⟨rfl⟩
instance uZ [h:Zp xs ys zs] :Zp (x::xs) (y::ys) (.tup [x,y] :: zs):=⟨by rw [<-h.e];rfl⟩
instance pA [h:Zp xs ys zs] :Wp (D8 g b ⟨nx,rt,bk,ct⟩ (D7 xs ys) τ) (D8 g b ⟨nx,rt,bk,ct⟩ zs τ):=⟨λk=>by rw [h.e];exact k⟩
instance o8 {te:AE} {acc:List PV} [h:Zp xs ys zs] :Wp (CS g tt te τ QL (D7 xs ys) acc) (CS g tt te τ QL zs acc):=⟨λk=>by rw [h.e];exact k⟩
instance rT {A:Prop} [h:Zp xs ys zs] :Wp ((D7 xs ys).length<sizeLine/\A) (zs.length<sizeLine/\A):=⟨λk=>by rw [h.e];exact k⟩
instance (priority:=high) n5 {te:AE} {acc q zs:List PV} [h:aJ acc [y] zs] :Wp (CS g tt te τ QL q (acc ++ [y])) (CS g tt te τ QL q zs):=⟨λk=>by rw [h.e];exact k⟩
instance ly {m:Int}:Nw (BH [.tape, .int m] Q) (0<m/\m<4611686018427387904) (∀r,0<=r->r<m->Q (.int r)):=⟨λc h=>Cg c.1 c.2 h⟩
instance l5 {ns:List Int} {k:Int}:Nw (MP [.scr ns, .int k] Q) (0<=k/\k<=1000) (Q .tape):=⟨λc h=>⟨c,h⟩⟩
instance iw {a b:Rat}:Nw (Hh [fr a,fr b] Q) (Bd 4000 a/\Bd 4000 b) (Q (fr (a+b))):=⟨λc h=>OM c.1 c.2 h⟩
instance iG {a b:Rat}:Nw (Di [fr a,fr b] Q) (Bd 4000 a/\Bd 4000 b) (Q (fr (a-b))):=⟨λc h=>DY c.1 c.2 h⟩
instance iH {a b:Rat}:Nw (Fh [fr a,fr b] Q) (Bd 4000 a/\Bd 4000 b) (Q (fr (a*b))):=⟨λc h=>MQ c.1 c.2 h⟩
instance aE {a b:Rat}:Nw (BK [fr a,fr b] Q) (Bd 4000 a/\Bd 4000 b) (Q (fr (a+b))):=⟨λc h=>Cn c.1 c.2 h⟩
instance aD {a b:Rat}:Nw (CA [fr a,fr b] Q) (Bd 4000 a/\Bd 4000 b) (Q (fr (a-b))):=⟨λc h=>CJ c.1 c.2 h⟩
instance Vv {a b:Rat}:Nw (Bi [fr a,fr b] Q) (Bd 4000 a/\Bd 4000 b) (Q (fr (a*b))):=⟨λc h=>CP c.1 c.2 h⟩
instance Vu {a b:Rat}:Nw (CW [fr a,fr b] Q) (Bd 4000 a/\Bd 4000 b) (Q (fr (mx a b))):=⟨λc h=>IW c.1 c.2 h⟩
instance eJ {a b:Rat}:Nw (EM [fr a,fr b] Q) (Bd 4000 a/\Bd 4000 b) (Q (fr (mn a b))):=⟨λc h=>RF c.1 c.2 h⟩
instance eI {a b:Rat}:Nw (Aw [fr a,fr b] Q) (Bd 4000 a/\Bd 4000 b) (Q (.bl (decide (a<b)))):=⟨λc h=>Bf c.1 c.2 h⟩
instance iu {a b:Rat}:Nw (J1 [fr a,fr b] Q) (b≠0/\Bd 4000 a/\Bd 4000 b) (Q (fr (a/b))):=⟨λc h=>J3 c.1 c.2.1 c.2.2 h⟩
instance XW:Nw (An [.tape] Q) (True) (∀a,Bd 8 a->Q (fr a)):=⟨λ_ h=>A6 λa m=>h a (m.bd (by decide) (by decide))⟩
instance uV {lo:Int} {A:Prop}:Wp ((rng lo n).length<sizeLine/\A) (n<16777216/\A):=⟨λk=>⟨by rw [UJ];exact k.1,k.2⟩⟩
instance uR {α:Type} {f:α->PV} {cs:List α} {A:Prop}:Wp ((cs.map f).length<sizeLine/\A) (cs.length<16777216/\A):=⟨λk=>⟨by rw [List.length_map];exact k.1,k.2⟩⟩
instance (priority:=high) lD {α:Type} {k:α} [Decidable (k=k)] {A B:Prop}:Wp (if (!decide (k=k))=true then A else B) B:=⟨λh=>by rw [if_neg (by simp)];exact h⟩
instance l0 {cs:List C4} {k:Int}:Nw (U0 (A8 cs) none (some k) Q) (0<=k/\k<=cs.length) (Q (A8 (cs.take k.toNat))):=⟨λc h=>ka (k:=k.toNat) (by omega) (by omega) h⟩
instance iy {cs:List C4} {k:Int}:Nw (U0 (A8 cs) (some k) none Q) (0<=k/\k<=cs.length) (Q (A8 (cs.drop k.toNat))):=⟨λc h=>Vl (k:=k.toNat) (by omega) (by omega) h⟩
instance lw {cs ds:List C4}:Nw (BV (A8 cs) (A8 ds) Q) (cs.length+ds.length<=10000) (Q (A8 (cs++ds))):=⟨λc h=>RM c h⟩
instance lu {cs:List C4} {c:C4}:Nw (BV (A8 cs) (.tup [cor c]) Q) (cs.length<=9000) (Q (A8 (cs ++ [c]))):=⟨λk h=>RM (ds:= [c]) (by simp;omega) h⟩
theorem di {α:Type} {f:α->PV} {cs:List α} {k:Int} {R:PV->Prop} (c:0<=k/\k<cs.length) (h:∀c,cs[k.toNat]? =some c->c∈cs->R (f c)):aA (IJ (cs.map f) k) R:=by
 have hk:k.toNat<cs.length:=by omega
 have e:IJ (cs.map f) ((k.toNat:Nat):Int)=some (f cs[k.toNat]):=Cf (by rw [List.getElem?_map,List.getElem?_eq_getElem hk] <;> rfl)
 rw [show k=((k.toNat:Nat):Int) by omega,e]
 exact h _ (List.getElem?_eq_getElem hk) (List.getElem_mem hk)
instance pC {cs:List C4} {k:Int}:Nw (Ap (A8 cs) (.int k) Q) (0<=k/\k<cs.length) (∀c,cs[k.toNat]? =some c->c∈cs->Q (cor c)):=⟨λc h=>di c h⟩
instance pB {α:Type} {f:α->PV} {cs:List α} {k:Int}:Nw (Ap (.lst (cs.map f)) (.int k) Q) (0<=k/\k<cs.length) (∀c,cs[k.toNat]? =some c->c∈cs->Q (f c)):=⟨λc h=>di c h⟩
instance oz {c:C4}:Wp (U0 (cor c) (some 1) none Q) (Q (.tup [fr c.2.1,fr c.2.2.1,fr c.2.2.2])):=⟨λh=>F2 h⟩
class Lk (tb:List (Str×PV)) (s:Str) (v:outParam PV):Prop where
 e:tb.lookup s=some v
end
end PL
end
section
namespace L2
open PySem PySem.Spec PyProof.Rows
abbrev Xl (h:Heap) (T:Addr) (a b c:Value):Prop:=h.get? T=some {cls:= .type "tuple",data:= .seq #[a,b,c] }
structure uf (z TI TO i j k l m n:Addr):Prop where
 TIz:TI≠z
 TOz:TO≠z
 iz:i≠z
 jz:j≠z
 kz:k≠z
 TITO:TI≠TO
 TIi:TI≠i
 TIj:TI≠j
 TIk:TI≠k
 TOi:TO≠i
 TOj:TO≠j
 TOk:TO≠k
 ij:i≠j
 ik:i≠k
 jk:j≠k
 lo:∀x∈ [l,m,n],x≠z/\x≠TI/\x≠TO/\x≠i/\x≠j/\x≠k
structure Z3 (b c d:Bool) (z TI TO i j k l m n:Addr) (t:Nat) (f:Value) (h:Heap):Prop where
 zip:IsZip h z TI TO f
 its:Xl h TI (.ref i) (.ref j) (.ref k)
 own:∃x y w,Xl h TO x y w
 one:Nu b h i l t
 two:Nu c h j m t
 tre:Nu d h k n t
theorem Z3.mv {b c d:Bool} {z TI TO i j k l m n:Addr} {t:Nat} {f:Value} {h h':Heap} (Z:Z3 b c d z TI TO i j k l m n t f h) (e:∀p∈ [z,TI,TO,i,j,k],∀o,h.get? p=some o->h'.get? p=some o):Z3 b c d z TI TO i j k l m n t f h':=by
 obtain ⟨a1,a2,⟨x,y,w,a3⟩,a4,a5,a6⟩:=Z
 exact ⟨e z (by simp) _ a1,e TI (by simp) _ a2,⟨x,y,w,e TO (by simp) _ a3⟩,a4.mv (e i (by simp)),a5.mv (e j (by simp)),a6.mv (e k (by simp))⟩
section
variable {prog:Program} {w:World} {A:Around} {E:Value->Shared->Prop} {s:Shared}
variable {b c d:Bool} {z TI TO i j k l m n:Addr} {t:Nat} {xs ys ws:Array Value}
end
abbrev y1 (b:Bool) (h:Heap) (l:Addr):Heap:=h.push (Wa b l)
abbrev y2 (b c:Bool) (h:Heap) (l m:Addr):Heap:=(y1 b h l).push (Wa c m)
abbrev y3 (b c d:Bool) (h:Heap) (l m n:Addr):Heap:=(y2 b c h l m).push (Wa d n)
abbrev y4 (b c d:Bool) (h:Heap) (l m n:Addr):Heap:=(y3 b c d h l m n).push {cls:= .type "tuple",data:= .seq #[.ref h.objs.size, .ref (y1 b h l).objs.size, .ref (y2 b c h l m).objs.size] }
abbrev y5 (b c d:Bool) (h:Heap) (l m n:Addr):Heap:=(y4 b c d h l m n).push {cls:= .type "tuple",data:= .seq #[.none, .none, .none] }
section
variable {prog:Program} {w:World} {A:Around} {E:Value->Shared->Prop} {s:Shared} {b c d:Bool} {l m n:Addr} {xs ys ws:Array Value}
end
section
variable {X:Cx}
end
end L2
end
section
namespace PL
open PySem PySem.Spec PyProof.Rows L2
section
variable {X:Cx}
end
end PL
end
section
namespace L2
open PySem PySem.Spec PyProof.Rows
theorem R3:Manifest.owners.lookup (String.ofList ['d','e','s','r','e','v','e','r'].reverse)=some Manifest.sig_reversed:=by kernel_rfl
theorem F3:Slot "reversed" "__next__" "reversed.__next__" :=
 .of (owner:="reversed") (n:="__next__") (by rw [typeLookup_type,builtinLookup_eq_fast];kernel_rfl) (by decide +kernel) (by decide +kernel) (by decide +kernel)
   (by first | exact .inl (by decide +kernel)|exact .inr (by decide +kernel)) (by rw [isSubtype_type];kernel_rfl)
theorem N1:entryFor table "reversed.__next__" =some Builtin.«reversed.__next__»:=entryFor_of_tree (by kernel_rfl)
theorem Ma (a:Value):argsOk "reversed.__next__" ⟨[a], []⟩:=by
 unfold argsOk;rw [signature?_of (id:="reversed.__next__") (n:= ['_','_','t','x','e','n','_','_']) (o:= ['d','e','s','r','e','v','e','r']) (by kernel_rfl) R3];kernel_rfl
theorem Ja:Slot "reversed" "__iter__" "reversed.__iter__" :=
 .of (owner:="reversed") (n:="__iter__") (by rw [typeLookup_type,builtinLookup_eq_fast];kernel_rfl) (by decide +kernel) (by decide +kernel) (by decide +kernel)
   (by first | exact .inl (by decide +kernel)|exact .inr (by decide +kernel)) (by rw [isSubtype_type];kernel_rfl)
theorem MZ (a:Value):argsOk "reversed.__iter__" ⟨[a], []⟩:=by
 unfold argsOk;rw [signature?_of (id:="reversed.__iter__") (n:= ['_','_','r','e','t','i','_','_']) (o:= ['d','e','s','r','e','v','e','r']) (by kernel_rfl) R3];kernel_rfl
theorem N0:entryFor table "reversed.__iter__" =some Builtin.«dict_keyiterator.__iter__»:=
 entryFor_alias (id':="dict_keyiterator.__iter__") (by kernel_rfl) (by first | rfl|decide +kernel|(unfold String.splitOn;simp +decide [String.splitOnAux])) (by decide +kernel) (by kernel_rfl)
theorem XF:typeLookup (.type "tuple") "__reversed__" =pure none:=by rw [typeLookup_type,builtinLookup_eq_fast];kernel_rfl
theorem Qn:isSubtype (.type "tuple") (.type "dict")=pure false:=by rw [isSubtype_type];kernel_rfl
def aB (m:Addr) (i:Int):Obj:={cls:= .type "reversed",data:= .fields #[.ref m,rawInt i] }
def Hj (h:Heap) (q m:Addr) (i:Int):Prop:=h.get? q=some (aB m i)
section
variable {prog:Program} {w:World} {A:Around} {E:Value->Shared->Prop} {s:Shared}
theorem Hj.typeIs {q m:Addr} {i:Int} (x:Hj s.heap q m i):s.TypeIs (.ref q) "reversed" :=⟨_,x,rfl⟩
end
theorem ZL (l:Addr) (items:Array Value) (Ri:(items.size:Int)<2^63):Meets (Builtin.«reversed.__new__» ⟨[.type "reversed", .ref l], []⟩) (λ_ R s=>IsTup s.heap l items/\R (.ok (.ret (.ref s.heap.objs.size))) {s with heap:=s.heap.push (aB l ((items.size:Int)-1)),toks:=s.toks+1+1}):=
 .of_wp λprog w A R s h=>by
   obtain ⟨hl,h⟩:=h
   unfold Builtin.«reversed.__new__»
   refine wpAny_bind (wpAny_of_eq (newClass_reversed _) ?_)
   try dsimp only
   refine wpAny_bind (wpAny_of_eq (a:=()) (by first | rfl|kernel_rfl) ?_)
   refine wpAny_bind (wpAny_of_eq (a:=()) (by first | rfl|kernel_rfl) ?_)
   try dsimp only
   refine wpAny_bind (wpAny_specialOf hl.typeIs XF ?_)
   try dsimp only
   refine wpAny_bind ?_
   wp_delta
   refine wpAny_bind (wpAny_isInstance (T:="tuple") (b:=false) hl.typeIs Qn ?_)
   rw [if_neg (by decide)]
   refine wpAny_bind (wpAny_specialOf hl.typeIs PyProof.Rows.slot_tuple_getitem.lookup ?_)
   dsimp only
   rw [if_pos (by decide +kernel)]
   refine wpAny_pure ?_
   rw [if_neg (by decide)]
   refine wpAny_bind (len_tuple hl Ri ?_)
   refine wpAny_bind (wpAny_of_eq (a:=some (items.size:Int)) rfl ?_)
   dsimp only
   unfold Builtin.SmallTypes.newRecord
   refine wpAny_bind (wpAny_newObj_type (wpAny_pure ?_))
   exact ⟨_,rfl,h⟩
theorem ck:Slot "reversed" "__init__" "object.__init__" :=
 .of (owner:="object") (n:="__init__") (by rw [typeLookup_type,builtinLookup_eq_fast];kernel_rfl) (by decide +kernel) (by decide +kernel) (by decide +kernel)
   (by first | exact .inl (by decide +kernel)|exact .inr (by decide +kernel)) (by rw [isSubtype_type];kernel_rfl)
theorem WE:TypeCalled "reversed" "reversed.__new__" "object.__init__" :=
 ⟨by decide +kernel,by decide +kernel,⟨_,_,F.mro_reversed⟩,F.made_reversed,by decide +kernel,by rw [isSubtype_type];kernel_rfl,ck⟩
section
variable {prog:Program} {w:World} {A:Around} {E:Value->Shared->Prop} {s:Shared}
theorem af {l:Addr} {items:Array Value} {Q:Value->Shared->Prop} (hl:IsTup s.heap l items) (Ri:(items.size:Int)<2^63)
 (h:Q (.ref s.heap.objs.size) {s with heap:=s.heap.push (aB l ((items.size:Int)-1)),toks:=s.toks+1+1}):wpAny (model prog w) A (call (.type "reversed") [.ref l]) Q E s:=by
 refine callType_new WE (by decide) (F.typeCall_reversed_1 _) (F.newCall_reversed_1 _) (λobj=>F.args_object_init_2 obj _) F.entry_reversed_new (ZL l items Ri) ⟨hl, ?_⟩
 exact ⟨⟨_,Heap.get?_push_size _ rfl,rfl⟩,h⟩
theorem bQ {q m:Addr} {i:Int} {Q:Value->Shared->Prop} (hq:Hj s.heap q m i) (h:Q (.ref q) s):wpAny (model prog w) A (pyIter (.ref q)) Q E s:=by
 refine wpAny_pyIter_slot hq.typeIs Ja (wpAny_call_entry Ja hq.typeIs N0 ?_ (MZ _))
 show wpAny _ _ (ret (.ref q)) _ _ s
 exact wpAny_pure ⟨_,rfl,"reversed",_,hq.typeIs,F3.lookup,h⟩
theorem bY {q m:Addr} {k:Nat} {xs:Array Value} {x:Value} {Q:Value->Shared->Prop} (hq:Hj s.heap q m ((xs.size:Int)-1-k)) (hl:IsTup s.heap m xs) (Ri:(xs.size:Int)<2^63) (hk:k<xs.size) (hx:xs[xs.size-1-k]? =some x)
 (hQ:∀h' tk,Hj h' q m ((xs.size:Int)-1-(k+1:Nat))->Heap.SameBut q s.heap h'->Q x {s with heap:=h',toks:=tk}):wpAny (model prog w) A (Builtin.SmallTypes.nextOf (.ref q)) Q E s:=by
 unfold Builtin.SmallTypes.nextOf
 refine wpAny_bind (wpAny_callSpecial?_slot (name:=Str.ofString "__next__") hq.typeIs F3 (wpAny_call_entry F3 hq.typeIs N1 ?_ (Ma _)))
 unfold Builtin.«reversed.__next__»
 refine wpAny_bind (wpAny_of_eq (a:=(Value.ref q, [])) rfl ?_)
 try dsimp only
 refine wpAny_bind (wpAny_field hq rfl (x:= .ref m) rfl ?_)
 refine wpAny_bind (wpAny_field hq rfl (x:=rawInt ((xs.size:Int)-1-k)) rfl ?_)
 show wpAny _ _ (if ((xs.size:Int)-1-k)<0 then _ else _) _ _ s
 rw [if_neg (by omega)]
 refine wpAny_bind (wpAny_specialOf hl.typeIs PyProof.Rows.slot_tuple_getitem.lookup ?_)
 rw [if_neg (by decide)]
 refine wpAny_bind (wpAny_mkInt ?_)
 have jh:seqIndex? ((xs.size:Int)-1-k) xs.size=some (xs.size-1-k):=by
  unfold seqIndex?
  have e0:¬((xs.size:Int)-1-k<0):=by omega
  have e1:(0:Int)<=(xs.size:Int)-1-k:=by omega
  have e2:(xs.size:Int)-1-k<xs.size:=by omega
  simp only [if_neg e0,e1,e2,decide_true,Bool.and_true,if_true]
  congr 1
  omega
 refine wpAny_bind (wpAny_attempt (getItem_tuple hl (by omega) (by omega) jh hx ?_))
 refine wpAny_bind (wpAny_field (s:={s with toks:=s.toks+1}) hq rfl (x:=rawInt ((xs.size:Int)-1-k)) rfl ?_)
 refine wpAny_bind (wpAny_setField (s:={s with toks:=s.toks+1}) hq rfl (by simp) (wpAny_pure ⟨x,rfl,wpAny_pure (hQ _ _ ?_ (Heap.SameBut.update ..))⟩))
 unfold Hj
 rw [Heap.get?_update_self _ hq (Obj.isFreed_of_fields (Obj.data_mapFields rfl _))]
 rw [show (xs.size:Int)-1-(k+1:Nat)=(xs.size:Int)-1-k-1 by omega]
 rfl
end
structure ZR (z TI TO i j l m:Addr) (n:Nat) (k:Nat) (f:Value) (h:Heap):Prop where
 zip:IsZip h z TI TO f
 its:IsPair h TI (.ref i) (.ref j)
 own:∃x y,IsPair h TO x y
 one:Nu false h i l k
 two:Hj h j m ((n:Int)-1-k)
theorem ZR.mv {z TI TO i j l m:Addr} {n k:Nat} {f:Value} {h h':Heap} (Z:ZR z TI TO i j l m n k f h) (e:∀p∈ [z,TI,TO,i,j],∀o,h.get? p=some o->h'.get? p=some o):ZR z TI TO i j l m n k f h':=by
 obtain ⟨a1,a2,⟨x,y,a3⟩,a4,a5⟩:=Z
 exact ⟨e z (by simp) _ a1,e TI (by simp) _ a2,⟨x,y,e TO (by simp) _ a3⟩,a4.mv (e i (by simp)),e j (by simp) _ a5⟩
section
variable {prog:Program} {w:World} {A:Around} {E:Value->Shared->Prop} {s:Shared}
variable {z TI TO i j l m:Addr} {k:Nat} {xs ys:Array Value}
theorem iJ {x y:Value} {Q:Value->Shared->Prop} (D:ZipApart z TI TO i j l m) (Z:ZR z TI TO i j l m ys.size k .none s.heap) (hl:Lg false s.heap l xs) (hm:IsTup s.heap m ys) (Ri:(ys.size:Int)<2^63) (hx:xs[k]? =some x) (hk:k<ys.size) (hy:ys[ys.size-1-k]? =some y)
 (hQ:∀h' tk,IsZip h' z TI TO (rawInt s.heap.objs.size)->IsPair h' TI (.ref i) (.ref j)->IsPair h' TO x y->Nu false h' i l (k+1)->Hj h' j m ((ys.size:Int)-1-(k+1:Nat))->IsPair h' s.heap.objs.size x y->
   (∀p o,p≠z->p≠TO->p≠i->p≠j->s.heap.get? p=some o->h'.get? p=some o)->Q (.ref s.heap.objs.size) {s with heap:=h',toks:=tk}):
 wpAny (model prog w) A (Builtin.«zip.__next__» ⟨[.ref z], []⟩) (λfin s'=>∃v,fin= .done (.ret v)/\Q v s') E s:=by
 obtain ⟨zz,zi,⟨x0,y0,zo⟩,z1,z2⟩:=Z
 show wpAny _ _ (field (.ref z) 2 >>= _) _ _ _
 refine wpAny_bind (wpAny_field zz rfl (x:= .bool false) rfl ?_)
 show wpAny _ _ (field (.ref z) 3 >>= _) _ _ _
 refine wpAny_bind (wpAny_field zz rfl (x:= .ref TI) rfl (wpAny_bind (wpAny_seqItems zi rfl ?_)))
 refine wpAny_bind (m:=Builtin.SmallTypes.ownedTupleIsFree (.ref z)) ?_
 unfold Builtin.SmallTypes.ownedTupleIsFree
 refine wpAny_bind (wpAny_field zz rfl (x:= .none) rfl (wpAny_pure ?_))
 simp only [if_true]
 refine wpAny_bind (wpAny_rule (wpAny_bind (wpAny_field zz rfl (x:= .ref TO) rfl (wpAny_bind (wpAny_setField_rec zz (by simp) λg1 e1 b1=> ?_)))))
 have e1:IsZip g1 z TI TO .ellipsis:=e1
 refine wpAny_bind ?_
 simp only [List.zipIdx_cons,List.zipIdx_nil,List.forIn_cons,List.forIn_nil]
 refine wpAny_bind (wpAny_bind (wpAny_onRaise ?_))
 refine wpAny_bind (m:=Builtin.SmallTypes.nextOf (.ref i)) (Im (z1.mv λo=>b1.extBut _ o D.i1z) (hl.mv λo=>b1.extBut _ o D.l1z) hx λg2 e2 b2=>wpAny_pure ?_)
 have o2:IsPair g2 TO x0 y0:=b2.extBut _ _ D.TOi1 (b1.extBut _ _ D.TOz zo)
 refine wpAny_bind (wpAny_seqItems o2 rfl (wpAny_bind (wpAny_updateSeq_pair o2 λg3 o3 b3=>wpAny_bind (wpAny_letGo (wpAny_pure ?_)))))
 have o3:IsPair g3 TO x y0:=o3
 refine wpAny_bind (wpAny_bind (wpAny_onRaise ?_))
 have fU:∀h h':Heap,(∀o,h.get? m=some o->h'.get? m=some o)->IsTup h m ys->IsTup h' m ys:=λh h' e x=>(show Lg false h m ys from x).mv e
 have tQ:IsTup g3 m ys:=fU _ _ (λo=>b3.extBut _ o D.l2TO) (fU _ _ (λo=>b2.extBut _ o D.l2i1) (fU _ _ (λo=>b1.extBut _ o D.l2z) hm))
 have z23:Hj g3 j m ((ys.size:Int)-1-k):=b3.extBut _ _ D.TOi2.symm (b2.extBut _ _ D.i12.symm (b1.extBut _ _ D.i2z z2))
 refine wpAny_bind (m:=Builtin.SmallTypes.nextOf (.ref j)) (bY z23 tQ Ri hk hy λg4 tk e4 b4=>wpAny_pure ?_)
 have o4:IsPair g4 TO x y0:=b4.extBut _ _ D.TOi2 o3
 refine wpAny_bind (wpAny_seqItems o4 rfl (wpAny_bind (wpAny_updateSeq_pair o4 λg5 o5 b5=>wpAny_bind (wpAny_letGo (wpAny_pure (wpAny_pure ?_))))))
 have o5:IsPair g5 TO x y:=o5
 refine wpAny_bind (wpAny_seqItems o5 rfl (wpAny_bind (wpAny_newTuple ?_)))
 have sz:g5.objs.size=s.heap.objs.size:=by rw [b5.1,b4.1,b3.1,b2.1,b1.1]
 have k5:IsZip g5 z TI TO .ellipsis:=b5.extBut _ _ D.TOz.symm (b4.extBut _ _ D.i2z.symm (b3.extBut _ _ D.TOz.symm (b2.extBut _ _ D.i1z.symm e1)))
 have all5:∀p o,p≠z->p≠TO->p≠i->p≠j->s.heap.get? p=some o->g5.get? p=some o:=λp o q1 q2 q3 q4 e=>
  b5.extBut _ _ q2 (b4.extBut _ _ q4 (b3.extBut _ _ q2 (b2.extBut _ _ q3 (b1.extBut _ _ q1 e))))
 have one5:Nu false g5 i l (k+1):=((e2.mv λo=>b3.extBut _ o D.TOi1.symm).mv λo=>b4.extBut _ o D.i12).mv λo=>b5.extBut _ o D.TOi1.symm
 have two5:Hj g5 j m ((ys.size:Int)-1-(k+1:Nat)):=b5.extBut _ _ D.TOi2.symm e4
 have zlt:z<g5.objs.size:=Heap.lt_size k5
 refine wpAny_bind (m:=Builtin.SmallTypes.ownedTupleHandOut (.ref z) (.ref g5.objs.size)) ?_
 unfold Builtin.SmallTypes.ownedTupleHandOut
 have k6:IsZip (g5.push {cls:= .type "tuple",data:= .seq #[x,y] }) z TI TO .ellipsis:=Heap.get?_push_of_some _ k5
 refine wpAny_bind (wpAny_setField_rec k6 (by simp) λg7 k7 b7=> ?_)
 have k7:IsZip g7 z TI TO (rawInt g5.objs.size):=k7
 refine wpAny_setField_rec k7 (by simp) λg8 k8 b8=> ?_
 have k8:IsZip g8 z TI TO (rawInt g5.objs.size):=k8
 have up:∀p o,p≠z->g5.get? p=some o->g8.get? p=some o:=λp o q e=>b8.extBut _ _ q (b7.extBut _ _ q (Heap.get?_push_of_some _ e))
 have new8:IsPair g8 g5.objs.size x y:=b8.extBut _ _ (Nat.ne_of_gt zlt) (b7.extBut _ _ (Nat.ne_of_gt zlt) (Heap.get?_push_size _ rfl))
 rw [sz] at k8 new8
 refine wpAny_pure ⟨_,rfl, ?_⟩
 show Q (.ref g5.objs.size) _
 rw [sz]
 exact hQ g8 tk k8 (up _ _ D.TIz (all5 _ _ D.TIz D.TITO D.TIi1 D.TIi2 zi)) (up _ _ D.TOz o5) (one5.mv λo=>up _ o D.i1z) (up _ _ D.i2z two5) new8 λp o q1 q2 q3 q4 e=>up p o q1 (all5 p o q1 q2 q3 q4 e)
theorem lG {n:Nat} {Q:Fin->Shared->Prop} (hh:A.handled=none) (D:ZipApart z TI TO i j l m) (Z:ZR z TI TO i j l m n k .none s.heap) (hl:Lg false s.heap l xs) (hx:xs[k]? =none)
 (hE:∀h' e,(∀p o,p≠z->p≠TO->p≠i->p≠j->s.heap.get? p=some o->h'.get? p=some o)->(∃o,h'.get? e=some o/\o.cls= .type "StopIteration")->E (.ref e) {s with heap:=h'}):
 wpAny (model prog w) A (Builtin.«zip.__next__» ⟨[.ref z], []⟩) Q E s:=by
 obtain ⟨zz,zi,⟨x0,y0,zo⟩,z1,z2⟩:=Z
 show wpAny _ _ (field (.ref z) 2 >>= _) _ _ _
 refine wpAny_bind (wpAny_field zz rfl (x:= .bool false) rfl ?_)
 show wpAny _ _ (field (.ref z) 3 >>= _) _ _ _
 refine wpAny_bind (wpAny_field zz rfl (x:= .ref TI) rfl (wpAny_bind (wpAny_seqItems zi rfl ?_)))
 refine wpAny_bind (m:=Builtin.SmallTypes.ownedTupleIsFree (.ref z)) ?_
 unfold Builtin.SmallTypes.ownedTupleIsFree
 refine wpAny_bind (wpAny_field zz rfl (x:= .none) rfl (wpAny_pure ?_))
 simp only [if_true]
 refine wpAny_bind (wpAny_rule (wpAny_bind (wpAny_field zz rfl (x:= .ref TO) rfl (wpAny_bind (wpAny_setField_rec zz (by simp) λg1 e1 b1=> ?_)))))
 have e1:IsZip g1 z TI TO .ellipsis:=e1
 refine wpAny_bind ?_
 simp only [List.zipIdx_cons,List.zipIdx_nil,List.forIn_cons,List.forIn_nil]
 refine wpAny_bind (wpAny_bind (wpAny_onRaise ?_))
 refine wpAny_bind (m:=Builtin.SmallTypes.nextOf (.ref i)) (KD hh (z1.mv λo=>b1.extBut _ o D.i1z) (hl.mv λo=>b1.extBut _ o D.l1z) hx λg2 e b2 he=> ?_)
 obtain ⟨oe,ge,ce⟩:=he
 have k2:IsZip g2 z TI TO .ellipsis:=b2 _ _ D.i1z.symm e1
 have ez:e≠z:=λq=>by subst q;rw [k2] at ge;cases ge;simp at ce
 refine wpAny_setField_rec k2 (by simp) λg3 _ b3=>hE g3 e (λp o q1 _ q3 _ q=>b3.extBut _ _ q1 (b2 _ _ q3 (b1.extBut _ _ q1 q))) ⟨oe,b3.extBut _ _ ez ge,ce⟩
end
theorem dP {n l m:Nat} (h1:l<n) (h2:m<n):ZipApart (n+4) (n+2) (n+3) (n+1) n l m where
 TIz:=(by omega:(n+2:Nat)≠n+4)
 TOz:=(by omega:(n+3:Nat)≠n+4)
 i1z:=(by omega:(n+1:Nat)≠n+4)
 i2z:=(by omega:(n:Nat)≠n+4)
 TITO:=(by omega:(n+2:Nat)≠n+3)
 TIi1:=(by omega:(n+2:Nat)≠n+1)
 TIi2:=(by omega:(n+2:Nat)≠n)
 TOi1:=(by omega:(n+3:Nat)≠n+1)
 TOi2:=(by omega:(n+3:Nat)≠n)
 i12:=(by omega:(n+1:Nat)≠n)
 l1z:=(by omega:(l:Nat)≠n+4)
 l1TO:=(by omega:(l:Nat)≠n+3)
 l1i1:=(by omega:(l:Nat)≠n+1)
 l1i2:=(by omega:(l:Nat)≠n)
 l2z:=(by omega:(m:Nat)≠n+4)
 l2TO:=(by omega:(m:Nat)≠n+3)
 l2i1:=(by omega:(m:Nat)≠n+1)
 l2i2:=(by omega:(m:Nat)≠n)
abbrev rA (h:Heap) (l:Addr):Heap:=h.push (Wa false l)
abbrev rC (h:Heap) (l r:Addr):Heap:=(rA h l).push {cls:= .type "tuple",data:= .seq #[.ref h.objs.size, .ref r] }
abbrev rD (h:Heap) (l r:Addr):Heap:=(rC h l r).push {cls:= .type "tuple",data:= .seq #[.none, .none] }
abbrev rF (h:Heap) (l r:Addr):Heap:=(rD h l r).push {cls:= .type "zip",data:= .fields #[.none, .bool false, .bool false, .ref (rA h l).objs.size, .ref (rC h l r).objs.size] }
theorem Yf {prog:Program} {w:World} {A:Around} {E:Value->Shared->Prop} {h:Heap} {g:Array GenState} {d:Drawn} {tk:Nat} {os:OsState} {q m:Addr} {i:Int} {Q:Value->Shared->Prop} (hq:Hj h q m i)
 (k:Q (.ref q) ⟨h,g,d,tk,os⟩):wpAny (model prog w) A (pyIter (.ref q)) Q E ⟨h,g,d,tk,os⟩:=bQ (s:=⟨h,g,d,tk,os⟩) hq k
theorem Uf (l r m:Addr) (i:Int) (xs:Array Value):Meets (Builtin.«zip.__new__» ⟨[.type "zip", .ref l, .ref r], []⟩) (λ_ R s=>Lg false s.heap l xs/\Hj s.heap r m i/\R (.ok (.ret (.ref (rD s.heap l r).objs.size))) {s with heap:=rF s.heap l r}):=
 .of_wp λprog w A R s h=>by
   obtain ⟨hp,g,d,tk,os⟩:=s
   obtain ⟨hl,hm,h⟩:=h
   have nC:=sub_zip
   have my:Lg false hp l xs:=hl
   have m6:Hj (hp.push (Wa false l)) r m i:=Heap.get?_push_of_some _ hm
   wp_walk using Tk my,Yf m6
   exact ⟨_,rfl,h⟩
section
variable {prog:Program} {w:World} {A:Around} {E:Value->Shared->Prop} {s:Shared} {l m r:Addr} {xs:Array Value} {n:Nat}
theorem dL (hl:Lg false s.heap l xs) (hr:Hj s.heap r m ((n:Int)-1)) {Q:Value->Shared->Prop}
 (h:∀h',ZR (s.heap.objs.size+3) (s.heap.objs.size+1) (s.heap.objs.size+2) s.heap.objs.size r l m n 0 .none h'->(∀p o,s.heap.get? p=some o->h'.get? p=some o)->Q (.ref (s.heap.objs.size+3)) {s with heap:=h'}):
 wpAny (model prog w) A (call (.type "zip") [.ref l, .ref r]) Q E s:=by
 refine callType_new F.called_zip (by decide) (F.typeCall_zip_2 _ _) (F.newCall_zip_2 _ _) (λobj=>F.args_object_init_3 obj _ _) F.entry_zip_new (Uf l r m _ xs) ⟨hl,hr, ?_⟩
 have n1:(rA s.heap l).objs.size=s.heap.objs.size+1:=Heap.size_push ..
 have n3:(rC s.heap l r).objs.size=s.heap.objs.size+2:=by rw [Heap.size_push,n1]
 have n4:(rD s.heap l r).objs.size=s.heap.objs.size+3:=by rw [Heap.size_push,n3]
 have up:∀(g:Heap) (x:Obj) (p:Addr) (o:Obj),g.get? p=some o->(g.push x).get? p=some o:=λg x p o e=>Heap.get?_push_of_some _ e
 have p5:(rF s.heap l r).get? (rD s.heap l r).objs.size=some _:=Heap.get?_push_size _ rfl
 have p4:(rF s.heap l r).get? (rC s.heap l r).objs.size=some _:=up _ _ _ _ (Heap.get?_push_size _ rfl)
 have p3:(rF s.heap l r).get? (rA s.heap l).objs.size=some _:=up _ _ _ _ (up _ _ _ _ (Heap.get?_push_size _ rfl))
 have p1:(rF s.heap l r).get? s.heap.objs.size=some (Wa false l):=up _ _ _ _ (up _ _ _ _ (up _ _ _ _ (Heap.get?_push_size _ rfl)))
 have all:∀p o,s.heap.get? p=some o->(rF s.heap l r).get? p=some o:=λp o e=>up _ _ _ _ (up _ _ _ _ (up _ _ _ _ (up _ _ _ _ e)))
 rw [n1,n3,n4] at p5
 rw [n1] at p3
 rw [n3] at p4
 show _/\_
 rw [n4]
 exact ⟨⟨_,p5,rfl⟩,h _ ⟨p5,p3,⟨_,_,p4⟩,Ye p1,by rw [show (n:Int)-1-(0:Nat)=(n:Int)-1 by omega];exact all _ _ hr⟩ all⟩
end
def mF (K:PySem.W.Frag) (l m:Addr) (n:Nat):It:=
 ⟨λi H=>∃xs ys x y,Sq K false H l xs/\Sq K false H m ys/\ys.length=n/\xs[i]? =some x/\i<n/\ys[n-1-i]? =some y,
  λi H v H'=>∃T x y,v= .ref T/\H T=none/\H'=upd H T (.tup [x,y])/\(∀xs,Sq K false H l xs->xs[i]? =some x)/\∀ys,Sq K false H m ys->ys[n-1-i]? =some y,
  λi H=>∃xs,Sq K false H l xs/\xs.length<=i⟩
theorem XJ {P:Program} {w:World} {K:PySem.W.Frag} {es:List Expr} {x1:Nat} {pos:Pos} {z TI TO i j l m:Addr} {n:Nat} (D:ZipApart z TI TO i j l m):
 J7 P w K (.Tuple es x1 pos) (mF K l m n) [z,TI,TO,i,j] z (λk h=>ZR z TI TO i j l m n k .none h) where
 mem:=by simp
 obj:=λk h Z p hp=>by
  have FF:p=z\/p=TI\/p=TO\/p=i\/p=j:=by simpa using hp
  rcases FF with e|e|e|e|e
  ·subst e;exact ⟨_,Z.zip,λv q=>nomatch q⟩
  ·subst e;exact ⟨_,Z.its,λv q=>nomatch q⟩
  ·subst e;obtain ⟨x,y,q⟩:=Z.own;exact ⟨_,q,λv q=>nomatch q⟩
  ·subst e;exact Z.one.obj
  ·subst e;exact ⟨_,Z.two,λv q=>nomatch q⟩
 keep:=λk h h' Z e=>Z.mv e
 item:=by
  intro X hP hw hK hc k pins s σ H E I hf Z hg
  subst hP hw hK
  obtain ⟨xs,ys,x,y,hl,hm,hn,hx,hk,hy⟩:=hg
  obtain ⟨us,ru,su,_⟩:=I.sq hl
  obtain ⟨vs,rv,sv,hz⟩:=I.sq hm
  obtain ⟨u,hu,rx⟩:=ru.get hx
  obtain ⟨v,hv,ry⟩:=rv.get hy
  have vn:vs.toArray.size=n:=by rw [List.size_toArray,<-rv.length];exact hn
  have hT:s.TypeIs (.ref z) "zip" :=⟨_,Z.zip,rfl⟩
  rw [<-vn] at Z
  unfold pyNext
  refine wpAny_bind (wpAny_attempt (wpAny_callSpecial?_slot (name:=Str.ofString "__next__") hT F.slot_zip_next (wpAny_call_entry F.slot_zip_next hT F.entry_zip_next
   (iJ D Z su sv (by rw [vn,<-hn];exact Int.lt_of_le_of_lt (Int.ofNat_le.mpr hz) (by decide)) (x:=u) (y:=v) (by simpa using hu) (by rw [vn];exact hk) (by rw [vn];simpa using hv) λh1 tk a1 a2 a3 a4 a5 a6 a7=>wpAny_pure ?_) (F.args_zip_next_1 _))))
  refine ⟨_,rfl,wpAny_letOwnedTupleGo_zip (s:={s with heap:=h1,toks:=tk}) a1 λh2 c1 c2=> ?_⟩
  have nT:∀p∈ [z,TI,TO,i,j],p<s.heap.objs.size:=λp hp=>by
   have FF:p=z\/p=TI\/p=TO\/p=i\/p=j:=by simpa using hp
   rcases FF with e|e|e|e|e
   ·subst e;exact Heap.lt_size Z.zip
   ·subst e;exact Heap.lt_size Z.its
   ·subst e;obtain ⟨x,y,q⟩:=Z.own;exact Heap.lt_size q
   ·subst e;obtain ⟨o,q,_⟩:=Z.one.obj;exact Heap.lt_size q
   ·subst e;exact Heap.lt_size Z.two
  have c2':∀p o,p≠z->h1.get? p=some o->h2.get? p=some o:=λp o q e=>c2.extBut _ _ q e
  have kp:∀p o,p ∉ [z,TI,TO,i,j] ->s.heap.get? p=some o->h2.get? p=some o:=λp o hp e=>by
   have FF:p≠z/\p≠TI/\p≠TO/\p≠i/\p≠j:=by simpa using hp
   exact c2' p o FF.1 (a7 p o FF.1 FF.2.2.1 FF.2.2.2.1 FF.2.2.2.2 e)
  have nI:s.heap.objs.size≠z:=Nat.ne_of_gt (nT z (by simp))
  have I2:Inv X pins σ (upd H s.heap.objs.size (.tup [x,y])) {s with heap:=h2,toks:=tk}:=I.turnedN hf nT kp (Nat.le_refl _)
   ⟨(by show 2<=sizeLine;decide), [u,v], .cons rx (.cons ry .nil),⟨_,c2' _ _ nI a6,rfl,_,rfl⟩⟩
  have Tf:H s.heap.objs.size=none:=I.fresh
  refine ⟨.ref s.heap.objs.size,upd H s.heap.objs.size (.tup [x,y]),I2,rfl,⟨_,x,y,rfl,Tf,rfl,λxs' h'=> ?_,λys' h'=> ?_⟩, ?_,λp hp=> ?_⟩
  ·rw [I.sq_inj h' hl];exact hx
  ·rw [I.sq_inj h' hm];exact hy
  ·rw [vn] at a5
   exact ⟨c1,c2' _ _ D.TIz a2,⟨_,_,c2' _ _ D.TOz a3⟩,a4.mv λo=>c2' _ o D.i1z,c2' _ _ D.i2z a5⟩
  ·rw [Ag (Nat.ne_of_lt (nT p hp))]
   exact (hf p hp).1
 done:=by
  intro X hP hw hK hc k pins s σ H E I hf Z hg
  subst hP hw hK
  obtain ⟨xs,hl,he⟩:=hg
  obtain ⟨us,ru,su,_⟩:=I.sq hl
  have e1:=ru.length
  have hT:s.TypeIs (.ref z) "zip" :=⟨_,Z.zip,rfl⟩
  unfold pyNext
  refine wpAny_bind (wpAny_attempt (wpAny_callSpecial?_slot (name:=Str.ofString "__next__") hT F.slot_zip_next (wpAny_call_entry F.slot_zip_next hT F.entry_zip_next
   (lG (I.ok.hd hc) D Z su (by simp;omega) λh1 e hk he=> ?_) (F.args_zip_next_1 _))))
  obtain ⟨o,ho,fQ⟩:=he
  refine wpAny_bind (wpAny_isInstance (T:="StopIteration") (b:=true) ⟨o,ho,fQ⟩ isSubtype_stop (wpAny_pure ⟨rfl, ?_⟩))
  exact I.turnedL (t':=s.toks) hf λp o hp e=>by
   have FF:p≠z/\p≠TI/\p≠TO/\p≠i/\p≠j:=by simpa using hp
   exact hk p o FF.1 FF.2.2.1 FF.2.2.2.1 FF.2.2.2.2 e
 self:=λ_ _ _ _ _ Z h=>wpAny_pyIter_zip Z.zip h
section
variable {X:Cx}
theorem cO {e f:Expr} {te tf:TE} {p p2 pos pos2 tpos:Pos} {es:List Expr} {x1:Nat} (hg:Gl X "zip") (hm:X.mg "zip" =none) (fT:Gl X "reversed") (fV:X.mg "reversed" =none) (he:PE X e te) (hf:PE X f tf)
 (hs:starEach [e, .Call (.Name "reversed" p2) [f] [] pos2] X.env= [(false,eval e X.env),(false,eval (.Call (.Name "reversed" p2) [f] [] pos2) X.env)] :=by rfl) (Qr:starEach [f] X.env= [(false,eval f X.env)] :=by rfl):
 PI X (.Tuple es x1 tpos) (.Call (.Name "zip" p) [e, .Call (.Name "reversed" p2) [f] [] pos2] [] pos) (λσ H R=>te σ H λu H1=>tf σ H1 λv H2=>∃l m ys,u= .ref l/\v= .ref m/\(∃xs,Sq X.K false H2 l xs)/\Sq X.K false H2 m ys/\R (mF X.K l m ys.length) H2):=by
 intro pins s σ H R I h
 refine Call_ (Gi I hg hm boot_zip (PyProof.Rows.callWith_type1 ?_ (by rw [hs];rfl) rfl))
 rw [hs]
 show wpAny _ _ (spliced ((false,eval e X.env) :: [(false,eval (.Call (.Name "reversed" p2) [f] [] pos2) X.env)])) _ _ s
 refine Calls.spliced_cons (BS (he pins s σ H _ I h) λv s1 ⟨x,H1,I1,r1,q1⟩=> ?_)
 refine Calls.spliced_cons ?_
 refine Call_ (Gi I1 fT fV boot_reversed (PyProof.Rows.callWith_type1 ?_ (by rw [Qr];rfl) rfl))
 rw [Qr]
 show wpAny _ _ (spliced ((false,eval f X.env) :: [])) _ _ s1
 refine Calls.spliced_cons (BS (hf pins s1 σ H1 _ I1 q1) λv2 s2 ⟨x2,H2,I2,r2,q2⟩=>Calls.spliced_nil ?_)
 obtain ⟨l,m,ys,rfl,rfl,⟨xs,hl⟩,fU,q⟩:=q2
 cases r1
 cases r2
 obtain ⟨us,ru,su,_⟩:=I2.sq hl
 obtain ⟨vs,rv,sv,hz⟩:=I2.sq fU
 have vn:vs.toArray.size=ys.length:=by rw [List.size_toArray,<-rv.length]
 have llt:l<s2.heap.objs.size:=by obtain ⟨o,e,_⟩:=su;exact Heap.lt_size e
 have mlt:m<s2.heap.objs.size:=by obtain ⟨o,e,_⟩:=sv;exact Heap.lt_size e
 refine af sv (by rw [vn];exact Int.lt_of_le_of_lt (Int.ofNat_le.mpr hz) (by decide)) (Calls.spliced_nil ?_)
 have up:∀b o,s2.heap.get? b=some o->(s2.heap.push (aB m ((vs.toArray.size:Int)-1))).get? b=some o:=λb o e=>Heap.get?_push_of_some _ e
 have szp:(s2.heap.push (aB m ((vs.toArray.size:Int)-1))).objs.size=s2.heap.objs.size+1:=Heap.size_push ..
 have su':Lg false (s2.heap.push (aB m ((vs.toArray.size:Int)-1))) l us.toArray:=su.mv λo e=>up _ o e
 have hR:Hj (s2.heap.push (aB m ((vs.toArray.size:Int)-1))) s2.heap.objs.size m ((ys.length:Int)-1):=by
  rw [<-vn];exact Heap.get?_push_size _ rfl
 refine dL (s:={s2 with heap:=s2.heap.push (aB m ((vs.toArray.size:Int)-1)),toks:=s2.toks+1+1}) su' hR λh1 Z kp=>wpAny_pyIter_zip Z.zip ?_
 have I3:Inv X pins σ H2 {s2 with heap:=h1,toks:=s2.toks+1+1}:=I2.kept (t':=s2.toks+1+1) λb ob q=>kp b ob (up b ob q)
 have Z':ZR (s2.heap.objs.size+4) (s2.heap.objs.size+2) (s2.heap.objs.size+3) (s2.heap.objs.size+1) s2.heap.objs.size l m ys.length 0 .none h1:=by
  have Z2:=Z
  rw [show ({s2 with heap:=s2.heap.push (aB m ((vs.toArray.size:Int)-1)),toks:=s2.toks+1+1}:Shared).heap.objs.size=s2.heap.objs.size+1 from szp] at Z2
  exact Z2
 refine ⟨_,_,_,_,H2, ?_,I3,XJ (dP llt mlt),Z',λp hp=> ?_,q⟩
 ·exact congrArg Value.ref (by show (s2.heap.push (aB m ((vs.toArray.size:Int)-1))).objs.size+3=_;rw [szp])
 have FF:s2.heap.objs.size<=p:=by
  have fZ:p=s2.heap.objs.size+4\/p=s2.heap.objs.size+2\/p=s2.heap.objs.size+3\/p=s2.heap.objs.size+1\/p=s2.heap.objs.size:=by simpa using hp
  rcases fZ with e|e|e|e|e <;> (rw [e];first | exact Nat.le_refl _|exact Nat.le_add_right _ _)
 exact I2.fpOk FF (I2.hok.fresh FF)
end
end L2
end
section
namespace PL
open PySem PySem.Spec PyProof.Rows L2
theorem Sj {xs ys:List PV} {i:Nat} {u:PV} (h:(D7 xs ys)[i]? =some u):∃x y,xs[i]? =some x/\ys[i]? =some y/\u= .tup [x,y] :=by
 unfold D7 at h
 rw [List.getElem?_zipWith] at h
 cases hx:xs[i]? with
 | none=>rw [hx] at h;simp at h
 | some x=>
   cases hy:ys[i]? with
   | none=>rw [hx,hy] at h;simp at h
   | some y=>rw [hx,hy] at h;simp at h;exact ⟨x,y,rfl,rfl,h.symm⟩
theorem WZ {K:PySem.W.Frag} {T M:Addr->Prop} {H:Hp} {l m:Addr} {xs ys:List PV} {n:Nat} (va:GP T M H) (e1:xs.length=ys.length) (en:ys.length=n)
 (r:CB K T M H (.ref l) (.tup xs)) (r2:CB K T M H (.ref m) (.tup ys)):S0 K M (mF K l m n) (D7 xs ys.reverse) T H:=by
 obtain ⟨_,vs,e,hq,rs⟩:=Cj r
 cases e
 obtain ⟨_,ws,e,Ps,rs2⟩:=Cj r2
 cases e
 have wl:=rs2.length
 have rg:∀i b,ys.reverse[i]? =some b->i<n/\ys[n-1-i]? =some b:=λi b h=>by
  have hi:i<ys.reverse.length:=(List.getElem?_eq_some_iff.mp h).1
  rw [List.length_reverse] at hi
  rw [List.getElem?_reverse hi,en] at h
  exact ⟨by omega,h⟩
 refine ⟨λi w h=> ?_,λi w v H' h yl=> ?_,λi h=>⟨vs,hq, ?_⟩⟩
 ·obtain ⟨a,b,ha,hb,_⟩:=Sj h
  obtain ⟨hi,hb⟩:=rg i b hb
  obtain ⟨u1,h1,_⟩:=rs.get ha
  obtain ⟨u2,h2,_⟩:=rs2.get hb
  exact ⟨vs,ws,u1,u2,hq,Ps,by omega,h1,hi,h2⟩
 ·obtain ⟨a,b,ha,hb,rfl⟩:=Sj h
  obtain ⟨hi,hb⟩:=rg i b hb
  obtain ⟨p,u1,u2,rfl,hn,rfl,h1,h2⟩:=yl
  obtain ⟨a',jO,ra⟩:=rs.get' (h1 vs hq)
  obtain ⟨b',jP,rb⟩:=rs2.get' (h2 ws Ps)
  rw [ha] at jO;cases jO
  rw [hb] at jP;cases jP
  have st:=DM.lay (o:= .tup [u1,u2]) va.tp hn
  exact ⟨st, .tup (.inl Ah) (.cons (ra.stp st va) (.cons (rb.stp st va) .nil))⟩
 ·have:(D7 xs ys.reverse).length=xs.length:=by unfold D7;rw [List.length_zipWith,List.length_reverse];omega
  rw [this] at h
  rw [rs.length]
  exact h
section
variable {X:Cx}
def fC (ta tb:AE):AI:=λτ Q=>ta τ λx=>tb τ λy=>match x,y with | .tup xs, .tup ys=>xs.length=ys.length/\Q (D7 xs ys.reverse)|_,_=>False
theorem kZ {e f:Expr} {ta tb:AE} {p p2 pos pos2 tpos:Pos} {es:List Expr} {x1:Nat} (hg:Gl X "zip") (hm:X.mg "zip" =none) (fT:Gl X "reversed") (fV:X.mg "reversed" =none) (ha:SE X e ta) (hb:SE X f tb)
 (hs:starEach [e, .Call (.Name "reversed" p2) [f] [] pos2] X.env= [(false,eval e X.env),(false,eval (.Call (.Name "reversed" p2) [f] [] pos2) X.env)] :=by rfl) (Qr:starEach [f] X.env= [(false,eval f X.env)] :=by rfl):
 SI X (.Tuple es x1 tpos) (.Call (.Name "zip" p) [e, .Call (.Name "reversed" p2) [f] [] pos2] [] pos) true (fC ta tb):=by
 obtain ⟨t,pa,s⟩:=ha
 obtain ⟨t',pb,s'⟩:=hb
 refine ⟨_,cO hg hm fT fV pa pb hs Qr,λB T σ τ H R AQ sr h k=>s B T σ τ H _ _ sr h λu x T1 H1 s1 r1 h1=>s' B T1 σ τ H1 _ _ (sr.stp s1) h1 λv y T2 H2 s2 r2 h2=> ?_⟩
 split at h2 <;> first | exact h2.elim|skip
 obtain ⟨e1,h2⟩:=h2
 have r1':=r1.stp s2 (sr.stp s1).va
 obtain ⟨l,us,rfl,hq,rs⟩:=Cj r1'
 obtain ⟨m,ws,rfl,Ps,rs2⟩:=Cj r2
 exact ⟨l,m,ws,rfl,rfl,⟨us,hq⟩,Ps,k _ _ T2 H2 (s1.trans s2) (λM2 T3 H3 mv va _=>WZ va e1 (by rw [rs2.length]) (r1'.mv mv) (r2.mv mv)) h2⟩
end
end PL
end
section
namespace L2
open PySem PySem.Spec PyProof.Rows
section
variable {X:Cx}
def isStr:Kd->Bool | .str=>true|_=>false
def ZB (K:PySem.W.Frag):List V->Hp->VK->Prop:=λxs H Q=>∃x k,xs= [x, .ty "str"] /\pK K x H k/\Q (.bl (isStr k)) H
theorem WC:B4 X (.builtin "isinstance") (ZB X.K):=by
 intro pins s σ H xs us Q I r h
 obtain ⟨x,k,rfl,hk,q⟩:=h
 cases r with
 | cons rx rr=>
 cases rr with
 | cons rt rr=>
 cases rr
 cases rt
 have yes:Q (.bl true) H->EP X pins σ Q (.bool true) s:=λz=>⟨.bl true,H,I,rfl,z⟩
 have no:Q (.bl false) H->EP X pins σ Q (.bool false) {s with toks:=s.toks+1}:=λz=>⟨.bl false,H,I.tok _,rfl,z⟩
 cases k with
 | int=>
   obtain ⟨i,rfl⟩:=hk
   obtain ⟨t,rfl⟩:=rx
   exact IsiPair.int_str (no q)
 | bl=>
   obtain ⟨i,rfl⟩:=hk
   cases rx
   exact IsiPair.bool_str (no q)
 | non=>
   have e:x= .non:=hk
   subst e
   cases rx
   exact IsiPair.NoneType_str (no q)
 | str=>
   obtain ⟨i,rfl⟩:=hk
   obtain ⟨t,rfl⟩:=rx
   exact IsiPair.str_str (yes q)
 | lst=>
   obtain ⟨a,ys,rfl,hq⟩:=hk
   cases rx
   obtain ⟨its,r',pl,hz⟩:=I.list hq
   exact IsiPair.isList_str pl.isList (λ_ _ e=>e) (no q)
 | tup=>
   obtain ⟨a,ys,rfl,hq⟩:=hk
   cases rx
   obtain ⟨its,r',pl,hz⟩:=I.tuple hq
   have pl':s.heap.IsTuple a its.toArray:=pl
   exact IsiPair.isTuple_str pl' (λ_ _ e=>e) (no q)
end
end L2
namespace PL
open PySem PySem.Spec PyProof.Rows L2
section
variable {X:Cx}
def qH (x:PV) (Q:PV->Prop):Prop:=match kdOf x with | some k=>Q (.bl (isStr k))|none=>False
def Mi:AF:=λxs Q=>match xs with | [x, .ty T] =>T="str" /\qH x Q|_=>False
theorem QW:B4 X (.builtin "isinstance") (ZB X.K)/\FS X.K (ZB X.K) Mi:=by
 refine ⟨WC,λT M H us xs Q AQ va r h k=> ?_⟩
 unfold Mi at h
 split at h <;> first | exact h.elim|skip
 rename_i x ty
 obtain ⟨ht,h⟩:=h
 subst ht
 unfold qH at h
 cases r with
 | cons r t=>
   cases t with
   | cons r2 t=>
     cases t;cases r2
     cases r with
     | non=>exact ⟨_, .non,rfl,rfl,k _ _ T H (.refl va.tp) (.bl _) h⟩
     | bl b=>exact ⟨_, .bl,rfl,⟨_,rfl⟩,k _ _ T H (.refl va.tp) (.bl _) h⟩
     | int b=>exact ⟨_, .int,rfl,⟨_,rfl⟩,k _ _ T H (.refl va.tp) (.bl _) h⟩
     | str b=>exact ⟨_, .str,rfl,⟨_,rfl⟩,k _ _ T H (.refl va.tp) (.bl _) h⟩
     | ty b=>exact h.elim
     | tup hq _=>exact ⟨_, .tup,rfl,⟨_,_,rfl,hq.sq⟩,k _ _ T H (.refl va.tp) (.bl _) h⟩
     | lst hq _ _ _=>exact ⟨_, .lst,rfl,⟨_,_,rfl, .inl (.inl hq)⟩,k _ _ T H (.refl va.tp) (.bl _) h⟩
     | tape _=>exact h.elim
     | scr _=>exact h.elim
     | dct _ _ _=>exact h.elim
end
end PL
end
section
namespace L2
open PySem PySem.Spec PyProof.Rows
def Fq (h:Heap):Heap:=(h.push {cls:= .type "dict",data:= .dict #[] }).push {cls:= .type "cell",data:= .cell none}
theorem N9 {h:Heap} {b:Addr} {o:Obj} (e:h.get? b=some o):(Fq h).get? b=some o:=Heap.get?_push_of_some _ (Heap.get?_push_of_some _ e)
theorem UD {h:Heap}:(Fq h).Ns h.objs.size (λ_=>none):=(Heap.Ns.new h (.type "dict")).keeps λb o e=>Heap.get?_push_of_some _ e
theorem QF {h:Heap}:(Fq h).IsCell (h.objs.size+1) none:=by
 have e:(h.push {cls:= .type "dict",data:= .dict #[] }).objs.size=h.objs.size+1:=Heap.size_push ..
 rw [<-e]
 exact ⟨_,Heap.get?_push_size _ rfl,rfl⟩
theorem Yo {M:Model} {A:Around} {E:Value->Shared->Prop} {s:Shared} {scope:Scope} {y0:Str} {globals:Addr} {cl:List (Str×Addr)} {qual:Str} {env:Env} {Q:Env->Shared->Prop}
 (cf:∀n acc,cellsFrom n scope.names acc=(y0,n)::acc) (pc:∀h,pushCells h scope.names=h.push {cls:= .type "cell",data:= .cell none})
 (hQ:Q (newEnv scope s.heap.objs.size globals ((y0,s.heap.objs.size+1)::cl) qual none .none (some env) builtinsNs) {s with heap:=Fq s.heap}):
 wpAny M A (newFunctionEnv scope globals cl [] qual none .none (some env)) Q E s:=by
 simp only [newFunctionEnv,Option.isSome_some,if_true]
 refine wpAny_bind (wpAny_alloc ?_)
 refine wpAny_bind (wpAny_layCells _ (λname kind cells=>by cases tM:kind==NameKind.cell <;> simp [tM]) _ _ _ _ ?_)
 rw [cf,pc]
 rw [show ({s with heap:=s.heap.push {cls:= .type "dict",data:= .dict #[] }}:Shared).heap.objs.size=s.heap.objs.size+1 from Heap.size_push ..]
 rw [List.forIn_nil]
 exact wpAny_bind (wpAny_pure (wpAny_pure hQ))
def Hl (X:Cx) (sc:Scope) (N:List Str) (y0:Str) (cl:List (Str×Addr)) (C:Addr) (s:Shared) (H:Hp) (ex:List Addr) (pn:List (Addr×Obj)):Cx:=
 {blk X sc N ((y0,C+1)::cl) C s H ex pn with fn:=λx=>x==y0}
section
variable {X:Cx} {pins:List (Addr×Obj)} {σ:St} {H:Hp} {s:Shared} {fp:List Addr} {sc:Scope} {N:List Str} {cl:List (Str×Addr)} {y0:Str}
theorem dm {C:Addr} {y:Str} {c:Addr} (e:((y0,C+1)::cl).lookup y=some c):(y=y0/\c=C+1)\/cl.lookup y=some c:=by
 rw [List.lookup_cons] at e
 cases hb:y==y0 with
 | true=>rw [hb] at e;cases e;exact .inl ⟨beq_iff_eq.mp hb,rfl⟩
 | false=>rw [hb] at e;exact .inr e
theorem ae (I:Inv X pins σ H s) (hf:∀b∈fp,Db X pins H b) (Dk:∀b∈fp,b<s.heap.objs.size) (hk:sc.kind= .function)
 (h1:∀y c,cl.lookup y=some c->X.env.cells.lookup y=some c) (h2:∀y,(sc.names.lookup y=some .cell\/sc.names.lookup y=some .free)->∃c,((y0,s.heap.objs.size+1)::cl).lookup y=some c):
 (Hl X sc N y0 cl s.heap.objs.size s H fp (X.pn++pins)).Ok where
 mod:=I.ok.mod
 kind:=hk
 glob:=I.ok.glob
 blt:=I.ok.blt
 above:=Nat.le_refl _
 inj:=λx y c a b=>by
  have lo:∀y c,cl.lookup y=some c->c<s.heap.objs.size:=λy c e=>I.szLt (h1 y c e)
  rcases dm a with ⟨e1,e2⟩|a'
  ·rcases dm b with ⟨e3,e4⟩|b'
   ·rw [e1,e3]
   ·rw [e2] at b'
    exact absurd (lo _ _ b') (Nat.not_lt.mpr (Nat.le_succ _))
  ·rcases dm b with ⟨e3,e4⟩|b'
   ·rw [e4] at a'
    exact absurd (lo _ _ a') (Nat.not_lt.mpr (Nat.le_succ _))
   ·exact I.ok.inj x y c (h1 x c a') (h1 y c b')
 has:=λx hx=>h2 x hx
 cab:=λx c z e=>by
  have z:(x==y0)=true:=z
  rcases dm e with ⟨_,rfl⟩|e
  ·exact Nat.le_succ _
  ·have e':((y0,s.heap.objs.size+1)::cl).lookup x=some c:= ‹_›
   rw [List.lookup_cons,z] at e'
   cases e'
   exact Nat.le_succ _
 hd:=I.ok.hd
 frames:=I.ok.frames
 stk:= .inl rfl
 exf:=λb hb=>⟨Nat.ne_of_lt (Dk b hb),λx c e=>by
  rcases dm e with ⟨_,rfl⟩|e
  ·exact Nat.ne_of_gt (Nat.lt_succ_of_lt (Dk b hb))
  ·exact (hf b hb).2.2.2.2.1 x c (h1 x c e)⟩
 bs:=I.bs
 bsz:=Nat.le_trans I.ok.bsz I.sz
 noex:=λb o e hb=>by
  rcases (hf b hb).2.2.2.1 with z|z
  ·exact I.ok.noex b o e z
  ·exact absurd (Nat.lt_of_lt_of_le (Heap.lt_size (I.ok.bs b o e).1) z) (Nat.lt_irrefl _)
 exfs:=λb hb=>I.notStk (hf b hb).2.1 (hf b hb).2.2.1
 funs:=I.stack
 frf:=I.stkFree
theorem aa {own:Nat} {ix:List Nat} {h':Heap} {m:Str->Option Value} {t':Nat} (I:Inv X pins σ H s) (hf:∀b∈fp,Db X pins H b) (Dk:∀b∈fp,b<s.heap.objs.size) (hk:sc.kind= .function)
 (h1:∀y c,cl.lookup y=some c->X.env.cells.lookup y=some c) (h2:∀y,(sc.names.lookup y=some .cell\/sc.names.lookup y=some .free)->∃c,((y0,s.heap.objs.size+1)::cl).lookup y=some c) (F:ON X sc own ix N) (far:∀(j i:Nat) (x:Str),ix[j]? =some i->N[own+j]? =some x->x≠y0)
 (hn:h'.Ns s.heap.objs.size m) (fQ:h'.IsCell (s.heap.objs.size+1) none) (k:∀b o,s.heap.get? b=some o->h'.get? b=some o):
 Inv (Hl X sc N y0 cl s.heap.objs.size s H fp (X.pn++pins)) [] (Bo own ix σ) H {s with heap:=h',toks:=t'} where
 ok:=ae I hf Dk hk h1 h2
 os:=rfl
 bare:=I.bare
 base:=Un.kept k
 loc:=by
  refine ⟨m,hn,λi x v e1 e2 e3=> ?_⟩
  obtain ⟨WU,io,ei,es⟩:=ES e2
  obtain ⟨y,ny,ey,oy,sy⟩:=F.out _ _ ei
  have exy:x=y:=by
   have e1':N[i]? =some x:=e1
   have ny':=ny
   rw [show own+(i-own)=i by omega,e1'] at ny'
   exact Option.some.inj ny'
  subst exy
  have ne:=far _ _ _ ei ny
  obtain ⟨m0,tT,mw⟩:=I.loc
  obtain ⟨u,r,l⟩:=mw io x v ey es (.inr (.inl oy))
  refine ⟨u,r, ?_⟩
  rcases l with ⟨z,_⟩|⟨_,c,ec,z⟩
  ·have z':X.env.scope.names.lookup x=some .local:=z
   rw [oy] at z'
   cases z'
  ·obtain ⟨c',ec'⟩:=h2 x (.inl sy)
   have ec2:cl.lookup x=some c':=by
    rcases dm ec' with ⟨e,_⟩|e
    ·exact absurd e ne
    ·exact e
   have:=h1 x c' ec2
   rw [ec] at this
   cases this
   obtain ⟨o,ho,hd⟩:=z
   exact .inr ⟨.inl sy,c,ec',o,k c o ho,hd⟩
 cell:=λx c e=>by
  rcases dm e with ⟨_,rfl⟩|e
  ·exact ⟨none,fQ⟩
  ·obtain ⟨v,o,ho,hd⟩:=I.cell x c (h1 x c e)
   exact ⟨v,o,k c o ho,hd⟩
 free:=I.hok.fresh (Nat.le_refl _)
 freeC:=λx c e=>by
  rcases dm e with ⟨_,rfl⟩|e
  ·exact I.hok.fresh (Nat.le_succ _)
  ·exact I.freeC x c (h1 x c e)
 pin:=λp hp=>by
  have FF:p∈X.pn++pins:=by simpa [Hl,blk] using hp
  obtain ⟨a,b,c,d,e⟩:=I.pin p FF
  exact ⟨k _ _ a,b,Nat.ne_of_lt (Heap.lt_size a),I.notStk c d,e⟩
 hok:=I.hok.kept k
 len:=by rw [KB];exact F.len.symm
theorem Xz {own:Nat} {ix:List Nat} {σ':St} {H':Hp} {s':Shared} {pins':List (Addr×Obj)} (I:Inv X pins σ H s) (hf:∀b∈fp,Db X pins H b) (Dk:∀b∈fp,b<s.heap.objs.size)
 (B:Inv (Hl X sc N y0 cl s.heap.objs.size s H fp (X.pn++pins)) pins' σ' H' s'):Inv X pins σ H' s':=
 I.call' (ch:=fp) B.os B.base B.hok B.bare λb hb=>⟨(hf b hb).2.2.2.1,(hf b hb).2.1,(hf b hb).2.2.2.2.1,(hf b hb).2.2.2.2.2⟩
end
section
variable {X:Cx} {tg elt iter:Expr} {ifs:List Expr} {scope:Scope} {pos:Pos} {wi:TI} {own:Nat} {ix:List Nat} {N:List Str} {y0:Str} {g:TG} {tt:TT} {te:TE}
structure Lf (X:Cx) (tg elt:Expr) (ifs:List Expr) (scope:Scope) (own:Nat) (ix:List Nat) (N:List Str) (y0:Str) (g:TG) (tt:TT) (te:TE):Prop where
 kind:scope.kind= .function
 cells:∀y∈scope.names,y.2= .cell->y.1=y0
 cf:∀n acc,cellsFrom n scope.names acc=(y0,n)::acc
 pc:∀h,pushCells h scope.names=h.push {cls:= .type "cell",data:= .cell none}
 far:∀(j i:Nat) (x:Str),ix[j]? =some i->N[own+j]? =some x->x≠y0
 names:∀y∈scope.names,y.2= .local->scope.names.lookup y.1=some .local
 frees:∀y∈scope.names,y.2= .free->X.env.scope.names.lookup y.1=some .cell
 ins:ON X (relabel scope X.env) own ix N
 keep:Gb own g
 tgt:∀cl C s H ex pn,PG (Hl X (relabel scope X.env) N y0 cl C s H ex pn) tg g
 tst:∀cl C s H ex pn,Ui (Hl X (relabel scope X.env) N y0 cl C s H ex pn) ifs tt
 val:∀cl C s H ex pn,PE (Hl X (relabel scope X.env) N y0 cl C s H ex pn) elt te
theorem JD {env:Env} {y:Str} {k:NameKind} (VB:∀y∈scope.names,y.2= .cell->y.1=y0) (h:(y,k)∈(relabel scope env).names) (hk:k= .cell\/k= .free):(y,NameKind.free)∈scope.names\/y=y0:=by
 obtain ⟨⟨n,k'⟩,hm,e⟩:=List.mem_map.mp (show (y,k)∈scope.names.map _ from h)
 dsimp only at e
 split at e
 ·rename_i hc
  cases e
  have:k'= .free:=by
   cases k' <;> simp_all
  subst this
  exact .inl hm
 ·cases e
  rcases hk with z|z
  ·subst z
   exact .inr (VB _ hm rfl)
  ·subst z
   exact .inl hm
theorem TJ {pins:List (Addr×Obj)} {σ:St} {H:Hp} {s:Shared} {fp:List Addr} {cl:List (Str×Addr)} {it:Addr} {tn:Nat->Heap->Prop} {J:It} {D:Addr} {R:Result->Shared->Prop} {Qh:Hp->Prop} {W:Nat->Nat->Hp->Prop}
 (hc:X.calm=true) (O:Lf X tg elt ifs scope own ix N y0 g tt te) (T:J7 X.prog X.w X.K tg J fp it tn) (I:Inv X pins σ H s) (hf:∀b∈fp,Db X pins H b) (Dk:∀b∈fp,b<s.heap.objs.size)
 (hW:Hm J D (Bo own ix σ) g tt te Qh W)
 (hR:∀σ' H' s',Inv (Hl X (relabel scope X.env) N y0 cl s.heap.objs.size s H fp (X.pn++pins)) [] σ' H' s'->Qh H'->R (.ok .next) s')
 (n:Nat) (s0:Shared) (h0:∃i H',Inv (Hl X (relabel scope X.env) N y0 cl s.heap.objs.size s H fp (X.pn++pins)) [] (Bo own ix σ) H' s0/\tn i s0.heap/\(∀b∈fp,H' b=none)/\W i n H'):
 codeAny (model X.prog X.w) X.A (.compLoop (.ListComp elt [⟨tg,iter,ifs,0⟩] scope pos) 0 (.ref it) (.ref D) (E4 X.env (relabel scope X.env) ((y0,s.heap.objs.size+1)::cl) s.heap.objs.size)) R s0:=by
 refine codeAny_loop rfl (λn s'=>∃i H',Inv (Hl X (relabel scope X.env) N y0 cl s.heap.objs.size s H fp (X.pn++pins)) [] (Bo own ix σ) H' s'/\tn i s'.heap/\(∀b∈fp,H' b=none)/\W i n H') (λn s1 h1=> ?_) n h0
 obtain ⟨i,H1,B1,st1,fr1,w1⟩:=h1
 generalize hY:Hl X (relabel scope X.env) N y0 cl s.heap.objs.size s H fp (X.pn++pins)=Y at *
 have eA:Y.A=X.A:=by rw [<-hY];rfl
 have eP:Y.prog=X.prog:=by rw [<-hY];rfl
 have eW:Y.w=X.w:=by rw [<-hY];rfl
 have eK:Y.K=X.K:=by rw [<-hY];rfl
 have eE:E4 X.env (relabel scope X.env) ((y0,s.heap.objs.size+1)::cl) s.heap.objs.size=Y.env:=by rw [<-hY];rfl
 have eX:Y.xe=λ_ _=>False:=by rw [<-hY];rfl
 have eC:Y.calm=true:=by rw [<-hY];exact hc
 have hg:PG Y tg g:=by rw [<-hY];exact O.tgt _ _ _ _ _ _
 have ht:Ui Y ifs tt:=by rw [<-hY];exact O.tst _ _ _ _ _ _
 have hv:PE Y elt te:=by rw [<-hY];exact O.val _ _ _ _ _ _
 have stat:∀{H':Hp},(∀b∈fp,H' b=none)->∀b∈fp,Db Y [] H' b:=λ{H'} hn b hb=>by
  obtain ⟨_,a1,a2,a3,a4,a5⟩:=hf b hb
  refine ⟨hn b hb, ?_, ?_, ?_, ?_, ?_⟩
  ·rw [<-hY];exact Nat.ne_of_lt (Dk b hb)
  ·rw [<-hY];exact I.notStk a1 a2
  ·rw [<-hY];exact .inl hb
  ·intro x c e
   exact (B1.ok.exf b (by rw [<-hY];exact hb)).2 x c e
  ·intro p hp
   have:p∈X.pn++pins:=by rw [<-hY] at hp;simpa [Hl,blk] using hp
   exact a5 p this
 rw [eE,<-eA,<-eP,<-eW]
 show wpAny _ _ ((compTurn (.ListComp elt [⟨tg,iter,ifs,0⟩] scope pos) 0 (.ref it) (.ref D) Y.env).onRaise (λx=>do noteFrame x Y.env;theTreesLotGoes x)) _ _ s1
 refine wpAny_noted ?_
 rw [compTurn_list]
 have ff:∀{α:Type} {t:Sem α} {Q:α->Shared->Prop} {E:Value->Shared->Prop} {s:Shared},wpAny (model Y.prog Y.w) Y.A t Q Y.xe s->wpAny (model Y.prog Y.w) Y.A t Q E s:=λh=>wpAny_mono h (λ_ _ q=>q) λ_ _ z=>by rw [eX] at z;exact z.elim
 refine wpAny_bind (wpAny_standAt (wpAny_bind ?_))
 rcases hW i n H1 w1 with ⟨stop,qn⟩|⟨go,step⟩
 ·have zd:=λE=>T.done Y eP eW eK eC i [] s1 _ H1 E B1 (stat fr1) st1 stop
  rw [<-eP,<-eW] at zd
  refine BS (zd _) λr s4 ⟨hr,I4⟩=> ?_
  subst hr
  exact wpAny_pure (hR _ _ _ I4 qn)
 ·have zi:=λE=>T.item Y eP eW eK eC i [] s1 _ H1 E B1 (stat fr1) st1 go
  rw [<-eP,<-eW] at zi
  refine BS (zi _) λr s4 ⟨u,hr,h4⟩=> ?_
  subst hr
  refine wpAny_bind (BS h4 λ_ s5 ⟨x,H5,I5,r5,y5,st5,fr5⟩=> ?_)
  have I5':=I5.pinned (stat fr5) (T.obj _ _ st5)
  refine wpAny_bind (BS (ff (hg _ s5 _ H5 x u _ I5' r5 (O.keep _ _ _ _ (step x H5 y5)))) λ_ s6 ⟨σ6,H6,I6,q6,l6,k6⟩=> ?_)
  refine wpAny_bind (BS (ff (ht _ s6 σ6 H6 _ I6 q6)) λok s7 ⟨H7,I7,q7⟩=> ?_)
  have back:∀{H8:Hp} {s8:Shared} {m':Nat},Inv Y ([] ++ E8 fp s5.heap) σ6 H8 s8->m'<n->W (i+1) m' H8->
   ∃m,m<n/\∃i H',Inv Y [] (Bo own ix σ) H' s8/\tn i s8.heap/\(∀b∈fp,H' b=none)/\W i m H':=λ{H8 s8 m'} I8 hm w8=>by
   refine ⟨m',hm,i+1,H8,I8.unpinned.weak l6.symm (λj v hj=> ?_),T.keep _ _ _ st5 λb hb o e=>(I8.pin (b,o) (List.mem_append_right _ (List.mem_append_right _ (Bt hb e)))).1,λb hb=> ?_,w8⟩
   ·rw [k6 j (ES hj).1]
    exact hj
   ·obtain ⟨o,e,d⟩:=T.obj _ _ st5 b hb
    exact (I8.pin (b,o) (List.mem_append_right _ (List.mem_append_right _ (Bt hb e)))).2.1
  cases ok with
  | false=>
    obtain ⟨m',hm,w8⟩:=q7
    exact wpAny_pure ⟨rfl,back I7 hm w8⟩
  | true=>
    refine wpAny_bind (wpAny_bind (BS (ff (hv _ s7 σ6 H7 _ I7 q7)) λyv s8 ⟨y,H8,I8,r8,ys,hD,hz,m',hm,w8⟩=> ?_))
    refine wpAny_bind (BS (ff (G3 _ s8 σ6 H8 (.ref D) [y] (.ref D) [yv] (λ_ H9=>H9=upd H8 D (.lst (ys ++ [y]))) I8 rfl (.cons r8 .nil) ⟨D,ys,y,rfl,rfl,hD,hz,rfl⟩)) λ_ s9 ⟨_,H9,I9,_,e9⟩=> ?_)
    subst e9
    exact wpAny_pure (wpAny_pure ⟨rfl,back I9 hm w8⟩)
theorem WI {pins:List (Addr×Obj)} {σ:St} {H:Hp} {s:Shared} {use:Option (Value->Sem Unit)} {Q:Value->Shared->Prop} {it:Addr} {fp:List Addr} {cl:List (Str×Addr)} {tn:Nat->Heap->Prop} {J:It} {Qd:Addr->Hp->Prop}
 (hc:X.calm=true) (O:Lf X tg elt ifs scope own ix N y0 g tt te) (T:J7 X.prog X.w X.K tg J fp it tn) (I:Inv X pins σ H s) (hf:∀b∈fp,Db X pins H b) (st:tn 0 s.heap)
 (h1:∀y c,cl.lookup y=some c->X.env.cells.lookup y=some c) (h2:∀y,(y,NameKind.free)∈scope.names->∃c,cl.lookup y=some c)
 (hq:∀D,H D=none->∃W:Nat->Nat->Hp->Prop,(∃m,W 0 m (upd H D (.lst [])))/\Hm J D (Bo own ix σ) g tt te (Qd D) W)
 (hR:∀D C H' s',(∃m,s'.heap.Ns C m)->Inv X pins σ H' s'->(∀σ2 s2,Inv X pins σ2 H' s2->∀h',Heap.SameBut C s2.heap h'->Inv X pins σ2 H' {s2 with heap:=h'})->C≠X.env.locals->(∀x c,X.env.cells.lookup x=some c->C≠c)->Qd D H'->
   compPost (model X.prog X.w) X.A X.xe use Q (.ref D) C (.ok .next) s'):
 wpAny (model X.prog X.w) X.A (newList []) (λacc s₃=>wpAny (model X.prog X.w) X.A (newFunctionEnv scope X.env.globals cl [] X.env.qual none .none (some X.env)) (λcenv s₄=>
  codeAny (model X.prog X.w) X.A (.compStart (.ListComp elt [⟨tg,iter,ifs,0⟩] scope pos) 0 (.ref it) acc {cenv with scope:=relabel scope X.env}) (compPost (model X.prog X.w) X.A X.xe use Q acc cenv.locals) s₄) X.xe s₃) X.xe s:=by
 refine wpAny_newObj_type ?_ (by simp [sizeOk])
 have I3:Inv X pins σ (upd H s.heap.objs.size (.lst [])) {s with heap:=s.heap.push {cls:= .type "list",data:= .seq ([] :List Value).toArray}}:=I.lnew (t':=s.toks) .nil (Nat.zero_le _)
 have Tf:=I.fresh
 obtain ⟨W,⟨m0,w0⟩,hW⟩:=hq _ Tf
 have YX:∀b∈fp,b<s.heap.objs.size:=λb hb=>by
  obtain ⟨o,e,_⟩:=T.obj _ _ st b hb
  exact Heap.lt_size e
 have U7:∀b∈fp,Db X pins (upd H s.heap.objs.size (.lst [])) b:=λb hb=>by
  obtain ⟨a0,ar⟩:=hf b hb
  exact ⟨by rw [Ag (Nat.ne_of_lt (YX b hb))];exact a0,ar⟩
 generalize jd:({s with heap:=s.heap.push {cls:= .type "list",data:= .seq ([] :List Value).toArray}}:Shared)=s3 at I3
 have st3:tn 0 s3.heap:=T.keep _ _ _ st λb hb o e=>by rw [<-jd];exact Heap.get?_push_of_some _ e
 have Dk:∀b∈fp,b<s3.heap.objs.size:=λb hb=>by
  obtain ⟨o,e,_⟩:=T.obj _ _ st3 b hb
  exact Heap.lt_size e
 refine Yo O.cf O.pc ?_
 have kp:∀b o,s3.heap.get? b=some o->(Fq s3.heap).get? b=some o:=λb o e=>N9 e
 have db:=UD (h:=s3.heap)
 have fQ:=QF (h:=s3.heap)
 have jW:∀y,((relabel scope X.env).names.lookup y=some .cell\/(relabel scope X.env).names.lookup y=some .free)->∃c,((y0,s3.heap.objs.size+1)::cl).lookup y=some c:=λy hy=>by
  have go:(y,NameKind.free)∈scope.names\/y=y0:=by
   rcases hy with z|z
   ·exact JD O.cells (Gk z) (.inl rfl)
   ·exact JD O.cells (Gk z) (.inr rfl)
  rw [List.lookup_cons]
  cases hb:y==y0 with
  | true=>exact ⟨_,rfl⟩
  | false=>
    rcases go with z|z
    ·exact h2 y z
    ·rw [z] at hb;simp at hb
 have B:=aa (N:=N) (t':=s3.toks) I3 U7 Dk (sc:=relabel scope X.env) O.kind h1 jW O.ins O.far db fQ kp
 have st4:tn 0 (Fq s3.heap):=T.keep _ _ _ st3 λb hb o e=>kp b o e
 have loop:∀s4:Shared,s4={s3 with heap:=Fq s3.heap}->
  codeAny (model X.prog X.w) X.A (.compLoop (.ListComp elt [⟨tg,iter,ifs,0⟩] scope pos) 0 (.ref it) (.ref s.heap.objs.size) (E4 X.env (relabel scope X.env) ((y0,s3.heap.objs.size+1)::cl) s3.heap.objs.size)) (compPost (model X.prog X.w) X.A X.xe use Q (.ref s.heap.objs.size) s3.heap.objs.size) s4:=by
  rintro s4 rfl
  refine TJ (cl:=cl) (Qh:=Qd s.heap.objs.size) hc O T I3 U7 Dk hW (λσ' H' s' B' q'=> ?_) m0 _ ⟨0,_,B,st4,λb hb=>(U7 b hb).1,w0⟩
  refine hR _ _ H' s' (let ⟨m,hm,_⟩:=B'.loc;⟨m,hm⟩) (Xz (own:=own) (ix:=ix) I3 U7 Dk B') (λσ2 s2 I2 h' hs=>Mb I3 rfl I2 B'.free hs) (Nat.ne_of_gt I3.lt) (λx c e=>Nat.ne_of_gt (I3.szLt e)) q'
 exact codeAny_compStart_list (loop _ rfl) (T.self _ 0 _ _ _ st4 (loop _ rfl))
theorem Y0 (hc:X.calm=true) (hi:PI X tg iter wi) (O:Lf X tg elt ifs scope own ix N y0 g tt te) (hs:∀x,foldedSetIterable iter X.env x=pure x:=by intro _;rfl):
 PE X (.ListComp elt [⟨tg,iter,ifs,0⟩] scope pos) (Vs wi own ix g tt te):=by
 intro pins s σ H Q I h
 obtain ⟨cl,Mn,h1,h2⟩:=Fk (env:=X.env) (scope:=scope) λy hy e=>I.ok.has y.1 (.inl (O.frees y hy e))
 rw [eval_ListComp]
 refine wpAny_comprehension_free (use:=none) rfl hs Mn O.kind O.names (BS (hi pins s σ H _ I h) λv s1 hv=>BS hv λitv s2 bO=> ?_)
 obtain ⟨it,fp,tn,J,H2,rfl,I2,T,st2,f2,q⟩:=bO
 exact WI (Qd:=λD H'=>Q (.ref D) H') hc O T I2 f2 st2 h1 h2 q λD C H' s' hn I' gone nl nc q'=>by
  obtain ⟨m,hm⟩:=hn
  exact ⟨m,hm,λh' hs=>⟨.ref D,H',gone σ s' I' h' hs,rfl,q'⟩⟩
end
end L2
end
section
namespace PL
open PySem PySem.Spec PyProof.Rows L2
section
variable {X:Cx} {ta:AE} {pos:Pos}
structure Xd (X:Cx) (tg elt:Expr) (ifs:List Expr) (scope:Scope) (own:Nat) (ix:List Nat) (N:List Str) (y0:Str) (g:AG) (t:AT) (te:AE):Prop where
 ex:∃g' t' te',Lf X tg elt ifs scope own ix N y0 g' t' te'/\Ic X.K g' g/\LO X.K t' t/\Fj X.K te' te
theorem ZX {tg elt iter:Expr} {ifs:List Expr} {scope:Scope} {own:Nat} {ix:List Nat} {N:List Str} {y0:Str} {g:AG} {t:AT} {s:Bool} {ai:AI} (hc:X.calm=true) (hi:SI X tg iter s ai) (O:Xd X tg elt ifs scope own ix N y0 g t ta) (hs:∀x,foldedSetIterable iter X.env x=pure x:=by intro _;rfl):
 SF X (.ListComp elt [⟨tg,iter,ifs,0⟩] scope pos) (DD ai own ix g t ta):=by
 obtain ⟨wi,pi,si⟩:=hi
 obtain ⟨g',t',te',O,sg,st,se⟩:=O.ex
 exact ⟨_,Y0 hc pi O hs,NP si sg st se⟩
theorem ak {tg elt:Expr} {ifs:List Expr} {scope:Scope} {own:Nat} {ix:List Nat} {N:List Str} (y0:Str) {g:AG} {t:AT} {te:AE} (h1:scope.kind= .function) (h2:(scope.names.all λy=> !decide (y.2= .cell)||decide (y.1=y0))=true)
 (cf:∀n acc,cellsFrom n scope.names acc=(y0,n)::acc) (pc:∀h,pushCells h scope.names=h.push {cls:= .type "cell",data:= .cell none})
 (h3:(scope.names.all λy=> !decide (y.2= .local)||decide (scope.names.lookup y.1=some .local))=true)
 (h4:(scope.names.all λy=> !decide (y.2= .free)||decide (X.env.scope.names.lookup y.1=some .cell))=true) (h5:N.length=own+ix.length) (h6:Mh X (relabel scope X.env) own ix N=true)
 (h7:((N.drop own).all λx=> !decide (x=y0))=true)
 (tgt:∀cl C s H ex pn,SK own (Hl X (relabel scope X.env) N y0 cl C s H ex pn) tg g)
 (tst:∀cl C s H ex pn,dR (Hl X (relabel scope X.env) N y0 cl C s H ex pn) ifs t)
 (val:∀cl C s H ex pn,SE (Hl X (relabel scope X.env) N y0 cl C s H ex pn) elt te):Xd X tg elt ifs scope own ix N y0 g t te:=by
 refine ⟨fM X.K own g,iZ X.K t,iQ X.K te,⟨h1,λy hy e=> ?_,cf,pc,λj i x hj hx=> ?_,λy hy e=> ?_,λy hy e=> ?_,RV h5 h6,Iv,λcl C s H ex pn=>(tgt cl C s H ex pn).of,λcl C s H ex pn=>(tst cl C s H ex pn).of,λcl C s H ex pn=>(val cl C s H ex pn).of⟩,Ly,Lz,Qc⟩
 ·have:=List.all_eq_true.mp h2 y hy
  simpa [e] using this
 ·have hm:x∈N.drop own:=List.mem_of_getElem? (i:=j) (by rw [List.getElem?_drop];exact hx)
  have:=List.all_eq_true.mp h7 x hm
  simpa using this
 ·have:=List.all_eq_true.mp h3 y hy
  simpa [e] using this
 ·have:=List.all_eq_true.mp h4 y hy
  simpa [e] using this
end
end PL
end
section
namespace L2
open PySem PySem.Spec PyProof.Rows
section
variable {X:Cx}
end
end L2
namespace PL
open PySem PySem.Spec PyProof.Rows L2
section
variable {X:Cx}
end
end PL
end
section
namespace PL
open PySem L2 PyProof.Rows
class Xp (Ts:List String):Prop where
 q:Ts.any (Pt .tup)=true/\Ts.any (Pt .lst)=true/\Ts.any (Pt .int)=false/\Ts.any (Pt .bl)=false/\Ts.any (Pt .non)=false/\Ts.any (Pt .str)=false
instance:Xp ["tuple","list"] :=⟨by decide⟩
instance:Xp ["list","tuple"] :=⟨by decide⟩
section
variable {Ts:List String} [h:Xp Ts] {Q:PV->Prop} {xs:List PV}
end
end PL
end
section
namespace L2
open PySem PySem.Spec PyProof.Rows
section
variable {κ:Type} [DecidableEq κ]
def EZ (kvs:List (κ×V)) (k:κ):Option V:=(kvs.find? λkv=>decide (kv.1=k)).map (·.2)
def Go (kvs:List (κ×V)) (k:κ) (v:V):List (κ×V):=
 if (kvs.any λkv=>decide (kv.1=k))=true then kvs.map (λkv=>if kv.1=k then (kv.1,v) else kv) else kvs ++ [(k,v)]
def dW (kvs:List (κ×V)) (k:κ):List (κ×V):=kvs.filter λkv=>decide (kv.1≠k)
theorem Jh {p:κ×V} {r:List (κ×V)} {k:κ} (e:p.1=k):EZ (p::r) k=some p.2:=by simp [EZ,List.find?_cons,e]
theorem Jg {p:κ×V} {r:List (κ×V)} {k:κ} (e:¬p.1=k):EZ (p::r) k=EZ r k:=by simp [EZ,List.find?_cons,e]
theorem Nh (k:κ):∀kvs:List (κ×V),(kvs.any λkv=>decide (kv.1=k))=(EZ kvs k).isSome
 | [] =>rfl
 | p::r=>by
   rw [List.any_cons]
   by_cases e:p.1=k
   ·simp only [Jh e,decide_eq_true e,Bool.true_or,Option.isSome_some]
   ·rw [Jg e,decide_eq_false e,Bool.false_or];exact Nh k r
theorem Rq (kvs:List (κ×V)) (k:κ) (v:V):(Go kvs k v).length<=kvs.length+1:=by
 unfold Go
 split
 ·rw [List.length_map];omega
 ·rw [List.length_append,List.length_cons,List.length_nil];omega
theorem Ia.isSome_eq {o:Option V} {u:Option Value} (r:Ia o u):o.isSome=u.isSome:=by
 cases o with
 | none=>cases u with
   | none=>rfl
   | some _=>exact (show False from r).elim
 | some _=>cases u with
   | none=>exact (show False from r).elim
   | some _=>rfl
theorem Ia.getD {o:Option V} {u:Option Value} {d:V} {d':Value} (r:Ia o u) (rd:RelV d d'):RelV (o.getD d) (u.getD d'):=by
 cases o with
 | none=>cases u with
   | none=>exact rd
   | some _=>exact (show False from r).elim
 | some _=>cases u with
   | none=>exact (show False from r).elim
   | some _=>exact r
theorem KV.val {kvs:List (κ×V)} {vs:List (κ×Value)} (r:KV kvs vs) (k:κ):Ia (EZ kvs k) (valueAt vs k):=by
 unfold KV at r
 induction r with
 | nil=>exact True.intro
 | @cons p q ps qs h t ih=>
   obtain ⟨h1,h2⟩:=h
   by_cases e:p.1=k
   ·have e':q.1=k:=h1.symm.trans e
    have b:valueAt (q::qs) k=some q.2:=by simp [valueAt,List.find?_cons,e']
    rw [Jh e,b];exact h2
   ·have e':¬q.1=k:=λz=>e (h1.trans z)
    have b:valueAt (q::qs) k=valueAt qs k:=by simp [valueAt,List.find?_cons,e']
    rw [Jg e,b];exact ih
theorem KV.any {kvs:List (κ×V)} {vs:List (κ×Value)} (r:KV kvs vs) (k:κ):(kvs.any λkv=>decide (kv.1=k))=vs.any λkv=>decide (kv.1=k):=by
 unfold KV at r
 induction r with
 | nil=>rfl
 | cons h t ih=>rw [List.any_cons,List.any_cons,ih,h.1]
theorem KV.repl {kvs:List (κ×V)} {vs:List (κ×Value)} (r:KV kvs vs) (k:κ) {y:V} {u:Value} (ry:RelV y u):
 KV (kvs.map λkv=>if kv.1=k then (kv.1,y) else kv) (vs.map λkv=>if kv.1=k then (kv.1,u) else kv):=by
 unfold KV at r ⊢
 induction r with
 | nil=>exact .nil
 | @cons p q ps qs h t ih=>
   rw [List.map_cons,List.map_cons]
   refine .cons ?_ ih
   obtain ⟨h1,h2⟩:=h
   by_cases e:p.1=k
   ·rw [if_pos e,if_pos (h1.symm.trans e)];exact ⟨h1,ry⟩
   ·rw [if_neg e,if_neg (λz=>e (h1.trans z))];exact ⟨h1,h2⟩
theorem KV.put {kvs:List (κ×V)} {vs:List (κ×Value)} (r:KV kvs vs) (k:κ) {y:V} {u:Value} (ry:RelV y u):KV (Go kvs k y) (stored vs k u):=by
 unfold Go stored
 rw [r.any k]
 by_cases e:(vs.any λkv=>decide (kv.1=k))=true
 ·rw [if_pos e,if_pos e];exact r.repl k ry
 ·rw [if_neg e,if_neg e];exact Paired.snoc r ⟨rfl,ry⟩
theorem KV.drop {kvs:List (κ×V)} {vs:List (κ×Value)} (r:KV kvs vs) (k:κ):KV (dW kvs k) (without vs k):=by
 unfold KV at r ⊢
 unfold dW without
 induction r with
 | nil=>exact .nil
 | @cons p q ps qs h t ih=>
   obtain ⟨h1,h2⟩:=h
   rw [List.filter_cons,List.filter_cons]
   by_cases e:p.1=k
   ·have a:¬decide (p.1≠k)=true:=by simp [e]
    have b:¬decide (q.1≠k)=true:=by simp [h1.symm.trans e]
    rw [if_neg a,if_neg b];exact ih
   ·have e':¬q.1=k:=λz=>e (h1.trans z)
    have a:decide (p.1≠k)=true:=by simp [e]
    have b:decide (q.1≠k)=true:=by simp [e']
    rw [if_pos a,if_pos b];exact .cons ⟨h1,h2⟩ ih
theorem KV.keys {kvs:List (κ×V)} {vs:List (κ×Value)} (r:KV kvs vs):kvs.map (·.1)=vs.map (·.1):=by
 unfold KV at r
 induction r with
 | nil=>rfl
 | cons h t ih=>rw [List.map_cons,List.map_cons,ih,h.1]
theorem KV.length {kvs:List (κ×V)} {vs:List (κ×Value)} (r:KV kvs vs):kvs.length=vs.length:=Paired.length r
end
abbrev KT (H:Hp):List (List FE×V)->List (List FE×Addr×Value)->Prop:=Paired λp q=>p.1=q.1/\H q.2.1=some (.tup (p.1.map kV))/\RelV p.2 q.2.2
theorem KT.val {H:Hp} {kvs:List (List FE×V)} {xs:List (List FE×Addr×Value)} (r:KT H kvs xs) (k:List FE):Ia (EZ kvs k) ((atKey xs k).map (·.2)):=by
 induction r with
 | nil=>exact True.intro
 | @cons p q ps qs h t ih=>
   obtain ⟨h1,_,h2⟩:=h
   by_cases e:p.1=k
   ·have e':q.1=k:=h1.symm.trans e
    have b:atKey (q::qs) k=some q.2:=by simp [atKey,List.find?_cons,e']
    rw [Jh e,b];exact h2
   ·have e':¬q.1=k:=λz=>e (h1.trans z)
    have b:atKey (q::qs) k=atKey qs k:=by simp [atKey,List.find?_cons,e']
    rw [Jg e,b];exact ih
theorem KT.repl {H:Hp} {kvs:List (List FE×V)} {xs:List (List FE×Addr×Value)} (r:KT H kvs xs) (k:List FE) {y:V} {u:Value} (ry:RelV y u):
 KT H (kvs.map λkv=>if kv.1=k then (kv.1,y) else kv) (xs.map (putAt k u)):=by
 induction r with
 | nil=>exact .nil
 | @cons p q ps qs h t ih=>
   rw [List.map_cons,List.map_cons]
   refine .cons ?_ ih
   obtain ⟨h1,h2,h3⟩:=h
   unfold putAt
   by_cases e:p.1=k
   ·rw [if_pos e,if_pos (h1.symm.trans e)];exact ⟨h1,h2,ry⟩
   ·rw [if_neg e,if_neg (λz=>e (h1.trans z))];exact ⟨h1,h2,h3⟩
theorem KT.put {H:Hp} {kvs:List (List FE×V)} {xs:List (List FE×Addr×Value)} (r:KT H kvs xs) (k:List FE) {b:Addr} {y:V} {u:Value} (hb:H b=some (.tup (k.map kV))) (ry:RelV y u):
 KT H (Go kvs k y) (storedH xs k b u):=by
 have e:(kvs.any λkv=>decide (kv.1=k))=(atKey xs k).isSome:=by
  rw [Nh,(r.val k).isSome_eq,Option.isSome_map]
 unfold Go storedH
 rw [e]
 by_cases q:(atKey xs k).isSome=true
 ·rw [if_pos q,if_pos q];exact r.repl k ry
 ·rw [if_neg q,if_neg q];exact Paired.snoc r ⟨rfl,hb,ry⟩
theorem KT.keeps {H H':Hp} {kvs:List (List FE×V)} {xs:List (List FE×Addr×Value)} (r:KT H kvs xs) (ht:∀b ys,H b=some (.tup ys)->H' b=some (.tup ys)):KT H' kvs xs:=
 Paired.mapP r λ_ _ z=>⟨z.1,ht _ _ z.2.1,z.2.2⟩
section
variable {P:Program} {w:World} {H:Hp} {h:Heap} {a:Addr}
end
def aM (H:Hp) (a:Addr) (y:V) (r:Option V):Prop:=
 (∃kvs k,Rd H a (.dK kvs)/\y=kV k/\r=EZ kvs k)\/∃kvs k b,Rd H a (.dT kvs)/\y= .ref b/\H b=some (.tup (k.map kV))/\r=EZ kvs k
def aN (H:Hp) (a:Addr) (y v:V) (H':Hp):Prop:=
 (∃kvs k,H a=some (.dK kvs)/\y=kV k/\kvs.length<sizeLine/\H'=upd H a (.dK (Go kvs k v)))\/
 ∃kvs k b,H a=some (.dT kvs)/\y= .ref b/\H b=some (.tup (k.map kV))/\kvs.length<sizeLine/\H'=upd H a (.dT (Go kvs k v))
theorem aM.k {H:Hp} {a:Addr} {kvs:List (FE×V)} {k:FE} (e:H a=some (.dK kvs)):aM H a (kV k) (EZ kvs k):= .inl ⟨kvs,k, .inl e,rfl,rfl⟩
theorem aM.t {H:Hp} {a b:Addr} {kvs:List (List FE×V)} {k:List FE} (e:H a=some (.dT kvs)) (eb:H b=some (.tup (k.map kV))):aM H a (.ref b) (EZ kvs k):= .inr ⟨kvs,k,b, .inl e,rfl,eb,rfl⟩
theorem aN.k {H:Hp} {a:Addr} {kvs:List (FE×V)} {k:FE} {v:V} (e:H a=some (.dK kvs)) (hl:kvs.length<sizeLine):aN H a (kV k) v (upd H a (.dK (Go kvs k v))):= .inl ⟨kvs,k,e,rfl,hl,rfl⟩
theorem aN.t {H:Hp} {a b:Addr} {kvs:List (List FE×V)} {k:List FE} {v:V} (e:H a=some (.dT kvs)) (eb:H b=some (.tup (k.map kV))) (hl:kvs.length<sizeLine):
 aN H a (.ref b) v (upd H a (.dT (Go kvs k v))):= .inr ⟨kvs,k,b,e,rfl,eb,hl,rfl⟩
section
variable {X:Cx} {pins:List (Addr×Obj)} {σ:St} {H:Hp} {s:Shared} {a:Addr} {y v:V} {u r:Value} {o:Option V} {A:Around} {E:Value->Shared->Prop}
theorem Inv.big (I:Inv X pins σ H s):sysModules<s.heap.objs.size:=by
 have h:mainGlobals<s.heap.objs.size:=(I.mod.glob.keeps I.bk).lt
 exact Nat.lt_trans (by decide) h
theorem am {h':Heap} {t':Nat} {ob:HO} (I:Inv X pins σ H s) (mu:jD (H a)) (hs:Heap.SameBut a s.heap h') (he:∃q,h'.get? a=some q) (new:Cp X.prog X.w (upd H a ob) h' a ob):
 Inv X pins σ (upd H a ob) {s with heap:=h',toks:=t'}:=
 I.write (x:=a) (e:=a) mu (.inl rfl) (λb q hb z=>(hs.2 b hb).trans z) he new
end
section
variable {X:Cx} {pins:List (Addr×Obj)} {σ:St} {H:Hp} {s:Shared} {a:Addr} {kvs:List (FE×V)} {k:FE} {u:Value} {A:Around} {E:Value->Shared->Prop}
end
def eY (i:Expr):Prop:=∀ov iv,subscripted i false ov iv=operate [ov,iv] (getItem ov iv)
theorem c8 {prog:Program} {w:World} {A:Around} {E:Value->Shared->Prop} {s:Shared} {env:Env} {value slice:Expr} {pos:Pos} {T id:String} {Q:Value->Shared->Prop}
 (hl:typeLookup (.type T) "__getitem__" =pure (some (.builtin id))) (hs:eY slice)
 (h:wpAny (model prog w) A (eval value env) (λo s₁=>wpAny (model prog w) A (eval slice env) (λi s₂=>s₂.TypeIs o T/\wpAny (model prog w) A (getItem o i) Q E s₂) E s₁) E s):
 wpAny (model prog w) A (eval (.Subscript value slice pos) env) Q E s:=by
 refine Subscript_ (wpAny_mono h (λo s₁ h₁=>wpAny_mono h₁ (λi s₂ h₂=> ?_) λ_ _ x=>x) λ_ _ x=>x)
 obtain ⟨hT,h₂⟩:=h₂
 unfold subscriptTail
 refine wpAny_bind ?_
 rw [getitemInPython_of_ne hT.not_modules]
 refine wpAny_bind (wpAny_specialOf hT hl ?_)
 have fin:wpAny (model prog w) A (subscripted slice false o i) (λr s₃=>wpAny (model prog w) A (letTemporaryGo value o r >>= λ_=>pure r) Q E s₃) E s₂:=by
  rw [hs o i]
  exact wpAny_operating (wpAny_mono h₂ (λr s₃ h₃=>wpAny_bind (wpAny_letTemporaryGo (wpAny_pure h₃))) λ_ _ x=>x)
 first
  | exact wpAny_pure (wpAny_bind fin)
  | exact wpAny_bind (wpAny_pure (wpAny_bind fin))
  | exact wpAny_bind fin
section
variable {X:Cx} {o i e value:Expr} {pos pos' tpos:Pos} {td ty tv:TE}
end
section
variable {X:Cx} {pos:Pos}
end
structure M1 (X:Cx) (o:Expr) (m:Str) (apos:Pos) (e:Expr) (cpos:Pos):Prop where
 base:attributeBase o m X.env (eval o X.env)=eval o X.env
 few:((backTo cpos (starEach [e] X.env)).all (λx=> !x.1)&&(backToKw cpos (keywordEach [] X.env)).all (λx=>x.1.isSome)
  && decide (([e] :List Expr).length+([] :List Keyword).length+(if ([] :List Keyword).isEmpty then 0 else 1)<30))=true
 line:(apos.endLine==cpos.line)=true
 trees:backTo cpos (starEach [e] X.env)= [(false,eval e X.env)]
structure M2 (X:Cx) (o:Expr) (m:Str) (apos:Pos) (e f:Expr) (cpos:Pos):Prop where
 base:attributeBase o m X.env (eval o X.env)=eval o X.env
 few:((backTo cpos (starEach [e,f] X.env)).all (λx=> !x.1)&&(backToKw cpos (keywordEach [] X.env)).all (λx=>x.1.isSome)
  && decide (([e,f] :List Expr).length+([] :List Keyword).length+(if ([] :List Keyword).isEmpty then 0 else 1)<30))=true
 line:(apos.endLine==cpos.line)=true
 trees:backTo cpos (starEach [e,f] X.env)= [(false,eval e X.env),(false,eval f X.env)]
section
variable {X:Cx} {pins:List (Addr×Obj)} {σ:St} {H:Hp} {s:Shared} {a:Addr} {y d:V} {u r:Value} {o:Option V} {A:Around} {E:Value->Shared->Prop}
end
section
variable {X:Cx} {o e f:Expr} {apos cpos:Pos} {td ty tx:TE}
end
section
variable {X:Cx} {pins:List (Addr×Obj)} {σ:St} {H:Hp} {s:Shared} {a:Addr} {kvs:List (FE×V)} {A:Around} {E:Value->Shared->Prop}
end
section
variable {X:Cx} {pins:List (Addr×Obj)} {σ:St} {H:Hp} {s:Shared} {a:Addr} {y:V} {u:Value} {A:Around} {E:Value->Shared->Prop}
end
end L2
end
section
namespace L2
open PySem PySem.Spec PyProof.Rows
abbrev KN (K:PySem.W.Frag) (H:Hp):List (FK×V)->List (FK×Addr×Value)->Prop:=Paired λp q=>p.1=q.1/\Fi K H q.2.1 p.1/\RelV p.2 q.2.2
theorem KN.val {K:PySem.W.Frag} {H:Hp} {kvs:List (FK×V)} {xs:List (FK×Addr×Value)} (r:KN K H kvs xs) (k:FK):Ia (EZ kvs k) ((atKey xs k).map (·.2)):=by
 induction r with
 | nil=>exact True.intro
 | @cons p q ps qs h t ih=>
   obtain ⟨h1,_,h2⟩:=h
   by_cases e:p.1=k
   ·have e':q.1=k:=h1.symm.trans e
    have b:atKey (q::qs) k=some q.2:=by simp [atKey,List.find?_cons,e']
    rw [Jh e,b];exact h2
   ·have e':¬q.1=k:=λz=>e (h1.trans z)
    have b:atKey (q::qs) k=atKey qs k:=by simp [atKey,List.find?_cons,e']
    rw [Jg e,b];exact ih
theorem KN.repl {K:PySem.W.Frag} {H:Hp} {kvs:List (FK×V)} {xs:List (FK×Addr×Value)} (r:KN K H kvs xs) (k:FK) {y:V} {u:Value} (ry:RelV y u):
 KN K H (kvs.map λkv=>if kv.1=k then (kv.1,y) else kv) (xs.map (putAt k u)):=by
 induction r with
 | nil=>exact .nil
 | @cons p q ps qs h t ih=>
   rw [List.map_cons,List.map_cons]
   refine .cons ?_ ih
   obtain ⟨h1,h2,h3⟩:=h
   unfold putAt
   by_cases e:p.1=k
   ·rw [if_pos e,if_pos (h1.symm.trans e)];exact ⟨h1,h2,ry⟩
   ·rw [if_neg e,if_neg (λz=>e (h1.trans z))];exact ⟨h1,h2,h3⟩
theorem KN.put {K:PySem.W.Frag} {H:Hp} {kvs:List (FK×V)} {xs:List (FK×Addr×Value)} (r:KN K H kvs xs) (k:FK) {b:Addr} {y:V} {u:Value} (hb:Fi K H b k) (ry:RelV y u):
 KN K H (Go kvs k y) (storedH xs k b u):=by
 have e:(kvs.any λkv=>decide (kv.1=k))=(atKey xs k).isSome:=by
  rw [Nh,(r.val k).isSome_eq,Option.isSome_map]
 unfold Go storedH
 rw [e]
 by_cases q:(atKey xs k).isSome=true
 ·rw [if_pos q,if_pos q];exact r.repl k ry
 ·rw [if_neg q,if_neg q];exact Paired.snoc r ⟨rfl,hb,ry⟩
theorem KN.keeps {K:PySem.W.Frag} {H H':Hp} {kvs:List (FK×V)} {xs:List (FK×Addr×Value)} (r:KN K H kvs xs) (ht:∀b ys,H b=some (.tup ys)->H' b=some (.tup ys)):KN K H' kvs xs:=
 Paired.mapP r λ_ _ z=>⟨z.1,z.2.1.stay ht,z.2.2⟩
section
variable {P:Program} {w:World} {H:Hp} {h:Heap} {a:Addr} {K:PySem.W.Frag}
theorem Iw {k:FK} (ok:LN P w H h) (kin:K.In h) (e:Fi K H a k):(fkKind P w).is h k a:=by
 obtain ⟨b,h1,h2⟩:=e
 obtain ⟨_,its,r,o,g1,g2,n,g3⟩:=(show Cp P w H h a (.tup [.ref b, .int k.2]) from ok a _ h1)
 cases r with
 | cons r1 r=>
 cases r with
 | cons r2 r=>
 cases r
 cases r1
 obtain ⟨u,rfl⟩:=r2
 have two:∀{us:List Value},Ar [.int k.1.1, .int k.1.2] us->ItemsAre (intKind P w) [k.1.1,k.1.2] us:=λhv=>by
  cases hv with
  | cons q1 hv=>
  cases hv with
  | cons q2 hv=>
  cases hv
  obtain ⟨u1,rfl⟩:=q1
  obtain ⟨u2,rfl⟩:=q2
  exact .cons (by simp [intKind,Value.isInt]) (.cons (by simp [intKind,Value.isInt]) .nil)
 refine ⟨o,_,n,b,u,g1,g2,g3,by simp, ?_⟩
 rcases h2 with h2|⟨ob,its2,n2,l1,l2,l3,l4⟩
 ·obtain ⟨_,its2,r2,o2,f1,f2,n2,f3⟩:=(show Cp P w H h b (.tup [.int k.1.1, .int k.1.2]) from ok b _ h2)
  exact ⟨o2,its2.toArray,n2,f1,f2,f3,by simpa using two r2⟩
 ·exact ⟨ob,its2,n2,kin b ob l1,l2,l3,two l4⟩
theorem OZ {kvs:List (FK×V)} (ok:LN P w H h) (kin:K.In h) (e:H a=some (.dN K kvs)):kvs.length<=sizeLine/\(a==sysModules)=false/\∃xs,KN K H kvs xs/\h.DictOfH (fkKind P w) a xs:=by
 obtain ⟨z,y,xs,r,o,es,ep,h1,h2,h3,h4,h5⟩:=(show Cp P w H h a (.dN K kvs) from ok a _ e)
 refine ⟨z,y,xs,r,o,es,ep,h1,h2,h3,h4,λx hx=> ?_,h5⟩
 have all:∀{l:List (FK×V)} {m:List (FK×Addr×Value)},KN K H l m->∀x∈m,(fkKind P w).is h x.1 x.2.1:=by
  intro l m q
  induction q with
  | nil=>intro x hx;exact nomatch hx
  | @cons p q ps qs hq t ih=>
    intro x hx
    rcases List.mem_cons.mp hx with e|hx
    ·subst e
     exact Iw ok kin (by rw [<-hq.1];exact hq.2.1)
    ·exact ih x hx
 exact all r x hx
end
section
variable {X:Cx} {pins:List (Addr×Obj)} {σ:St} {H:Hp} {s:Shared} {a b:Addr} {v d:V} {r:Value} {kvs:List (FK×V)} {k:FK} {A:Around} {E:Value->Shared->Prop}
theorem Wi {Q:Value->Shared->Prop} (hu:A.units+2<cLine) (I:Inv X pins σ H s) (e:H a=some (.dN X.K kvs)) (hb:Fi X.K H b k) (l:EZ kvs k=some v) (h:∀w' s',Inv X pins σ H s'->RelV v w'->Q w' s'):
 wpAny (model X.prog X.w) A (getItem (.ref a) (.ref b)) Q E s:=by
 obtain ⟨z,hd,xs,rel,dd⟩:=OZ I.hok I.kIn e
 obtain ⟨w',hw,rw'⟩:=Ia.some_of (v:=v) (o:=(atKey xs k).map (·.2)) (by rw [<-l];exact rel.val k)
 obtain ⟨p,hp,jc⟩:=Option.map_eq_some_iff.mp hw
 refine wpAny_getItem_heap (Cy hu) (Iw I.hok I.kIn hb) dd hp ?_
 rw [jc]
 exact h w' _ (I.tok _) rw'
theorem nP {Q:Value->Shared->Prop} (hu:A.units+2<cLine) (I:Inv X pins σ H s) (e:H a=some (.dN X.K kvs)) (hb:Fi X.K H b k) (h:∀s',Inv X pins σ H s'->Q (.bool (EZ kvs k).isSome) s'):
 wpAny (model X.prog X.w) A (compareOp .In (.ref b) (.ref a)) Q E s:=by
 obtain ⟨z,hd,xs,rel,dd⟩:=OZ I.hok I.kIn e
 refine wpAny_in_heap (Cy hu) (Iw I.hok I.kIn hb) hd dd ?_
 have q:=(rel.val k).isSome_eq
 rw [Option.isSome_map] at q
 rw [<-q]
 exact h _ (I.tok _)
theorem Wj {Q:Unit->Shared->Prop} (hu:A.units+2<cLine) (I:Inv X pins σ H s) (e:H a=some (.dN X.K kvs)) (hb:Fi X.K H b k) (hl:kvs.length<sizeLine) (rv:RelV v r) (h:∀s',Inv X pins σ (upd H a (.dN X.K (Go kvs k v))) s'->Q () s'):
 wpAny (model X.prog X.w) A (setItem (.ref a) (.ref b) r) Q E s:=by
 obtain ⟨z,hd,xs,rel,dd⟩:=OZ I.hok I.kIn e
 have hz:xs.length<=sizeLine:=by rw [<-Paired.length rel];exact z
 have hl:(Go kvs k v).length<=sizeLine:=by have:=Rq kvs k v;omega
 refine wpAny_setItem_heap (hsz:=hz) (Cy hu) (Iw I.hok I.kIn hb) dd λh' dd' hs=>h _ ?_
 obtain ⟨q,es,ep,hq,h2,h3,h4,_,h5⟩:=dd'
 refine am I (by rw [e];exact True.intro) hs ⟨q,hq⟩ ⟨hl,hd,_,(rel.put k hb rv).keeps λc ys ec=> ?_,q,es,ep,hq,h2,h3,h4,h5⟩
 rw [Ag (jt ec e (λz=>nomatch z))]
 exact ec
theorem gH {Q:Value->Shared->Prop} (hu:A.units+2<cLine) (I:Inv X pins σ H s) (e:H a=some (.dN X.K kvs)) (hb:Fi X.K H b k) (rd:RelV d r) (h:∀w' s',Inv X pins σ H s'->RelV ((EZ kvs k).getD d) w'->Q w' s'):
 wpAny (model X.prog X.w) A (call (.builtin "dict.get") [.ref a, .ref b,r]) Q E s:=by
 obtain ⟨z,hd,xs,rel,dd⟩:=OZ I.hok I.kIn e
 refine call_meetsIn PySem.F.slot_dict_get dd.typeIs PySem.F.entry_dict_get (PySem.F.args_dict_get_3 _ _ _) (meetsH_dict_get_default (fkKind X.prog X.w) a b hd r) ⟨Cy hu,k,xs,Iw I.hok I.kIn hb,dd,h _ _ (I.tok _) ?_⟩
 exact (rel.val k).getD rd
end
def eG (K:PySem.W.Frag):TE:=λ_ H Q=>∀p,H p=none->Q (.ref p) (upd H p (.dN K []))
def kr (K:PySem.W.Frag) (td ty:TE):TE:=λσ H Q=>td σ H λx H1=>ty σ H1 λy H2=>∃a b kvs k v,x= .ref a/\y= .ref b/\H2 a=some (.dN K kvs)/\Fi K H2 b k/\EZ kvs k=some v/\Q v H2
def ku (K:PySem.W.Frag) (ty td:TE):TE:=λσ H Q=>ty σ H λy H1=>td σ H1 λx H2=>∃a b kvs k,x= .ref a/\y= .ref b/\H2 a=some (.dN K kvs)/\Fi K H2 b k/\Q (.bl (EZ kvs k).isSome) H2
def ZM (K:PySem.W.Frag) (td ty tv:TE):TS:=λD σ H=>tv σ H λv H1=>td σ H1 λx H2=>ty σ H2 λy H3=>∃a b kvs k,x= .ref a/\y= .ref b/\H3 a=some (.dN K kvs)/\Fi K H3 b k/\kvs.length<sizeLine/\D.nx σ (upd H3 a (.dN K (Go kvs k v)))
def UZ (K:PySem.W.Frag) (td ty tx:TE):TE:=λσ H Q=>td σ H λx H1=>∃a kvs,x= .ref a/\H1 a=some (.dN K kvs)/\ty σ H1 λy H2=>tx σ H2 λz H3=>∃b kvs k,y= .ref b/\H3 a=some (.dN K kvs)/\Fi K H3 b k/\Q ((EZ kvs k).getD z) H3
section
variable {X:Cx} {o i e f value:Expr} {pos pos' apos cpos:Pos} {td ty tv tx:TE}
theorem YB {P:Program} {w:World} {H:Hp} {K:PySem.W.Frag} (h:Heap) (hb:sysModules<h.objs.size):Cp P w H (h.push {cls:= .type "dict",data:= .dict #[] }) h.objs.size (.dN K []):=
 ⟨Nat.zero_le _,beq_eq_false_iff_ne.mpr (Ne.symm (Nat.ne_of_lt hb)), [], .nil,_, #[],0,Heap.get?_push_size _ rfl,⟨rfl,rfl,rfl⟩,rfl,rfl,List.nodup_nil⟩
theorem cM:PE X (.Dict [] [] pos) (eG X.K):=λpins s σ H Q I h=>
 wpAny_Dict_empty ⟨.ref s.heap.objs.size,_,I.laid (a:=s.heap.objs.size) (o:= .dN X.K []) (t':=s.toks) (λ_ _ q=>Heap.get?_push_of_some _ q) (Nat.le_refl _) (YB s.heap I.big),rfl,h _ (I.hok.fresh (Nat.le_refl _))⟩
theorem dU {pins:List (Addr×Obj)} {σ:St} {H:Hp} {s:Shared} {a:Addr} {kvs:List (FK×V)} (I:Inv X pins σ H s) (e:H a=some (.dN X.K kvs)):
 s.TypeIs (.ref a) "dict" /\(∀b,Value.ref a= .ref b->∃ob,s.heap.get? b=some ob/\ob.dict=none):=by
 obtain ⟨_,hd,xs,_,dd⟩:=OZ I.hok I.kIn e
 refine ⟨dd.typeIs,λb q=> ?_⟩
 cases q
 obtain ⟨ob,_,_,h1,h2,_⟩:=dd
 exact ⟨ob,h1,h2.2.1⟩
theorem cK (hu:X.A.units+2<cLine) (ho:PE X o td) (hi:PE X i ty) (hs:eY i):PE X (.Subscript o i pos) (kr X.K td ty):=by
 intro pins s σ H Q I h
 refine c8 PySem.F.slot_dict_getitem.lookup hs (BS (ho pins s σ H _ I h) λu s1 ⟨x,H1,I1,rx,q1⟩=>BS (hi pins s1 σ H1 _ I1 q1) λiv s2 ⟨y,H2,I2,ry,a,b,kvs,k,v,ex,ey,e,hb,l,q2⟩=> ?_)
 subst ex ey
 obtain rfl:u=Value.ref a:=rx
 obtain rfl:iv=Value.ref b:=ry
 exact ⟨(dU I2 e).1,Wi hu I2 e hb l λw' s3 I3 rw'=>⟨v,H2,I3,rw',q2⟩⟩
theorem gW (hu:X.A.units+2<cLine) (hi:PE X i ty) (ho:PE X o td):PC X .In i o (ku X.K ty td):=by
 intro pins s σ H Q I h
 refine BS (hi pins s σ H _ I h) λiv s1 ⟨y,H1,I1,ry,q1⟩=>BS (ho pins s1 σ H1 _ I1 q1) λu s2 ⟨x,H2,I2,rx,a,b,kvs,k,ex,ey,e,hb,q2⟩=> ?_
 subst ex ey
 obtain rfl:u=Value.ref a:=rx
 obtain rfl:iv=Value.ref b:=ry
 exact nP hu I2 e hb λs3 I3=>⟨.bl _,H2,I3,rfl,q2⟩
theorem VS (hu:X.A.units+2<cLine) (ho:PE X o td) (hi:PE X i ty) (hv:PE X value tv) (hs:swapsWith value (some (.Subscript o i pos')) pos.line X.env=pure false):
 PS X (.Assign [.Subscript o i pos'] value pos) (ZM X.K td ty tv):=by
 intro pins s σ H D I h
 refine wpAny_Assign_Subscript (BS (hv pins s σ H _ I h) λr s1 ⟨v,H1,I1,rv,q1⟩=>BS (ho pins s1 σ H1 _ I1 q1) λu s2 ⟨x,H2,I2,rx,q2⟩=>BS (hi pins s2 σ H2 _ I2 q2) λiv s3 ⟨y,H3,I3,ry,a,b,kvs,k,ex,ey,e,hb,hl,q3⟩=> ?_) hs
 subst ex ey
 obtain rfl:u=Value.ref a:=rx
 obtain rfl:iv=Value.ref b:=ry
 exact Wj hu I3 e hb hl rv λs4 I4=>⟨σ,_,I4,q3⟩
theorem R4 (hu:X.A.units+2<cLine) (ho:PE X o td) (he:PE X e ty) (hf:PE X f tx) (m:M2 X o "get" apos e f cpos):PE X (.Call (.Attribute o "get" apos) [e,f] [] cpos) (UZ X.K td ty tx):=by
 intro pins s σ H Q I h
 refine wpAny_Call_method m.base m.few m.line PySem.F.plainAttrs_dict PySem.F.slot_dict_get PySem.F.type_dict_get (BS (ho pins s σ H _ I h) λu s1 ⟨x,H1,I1,rx,a,kvs0,ex,e0,q1⟩=> ?_)
 subst ex
 obtain rfl:u=Value.ref a:=rx
 obtain ⟨t1,t2⟩:=dU I1 e0
 refine ⟨t1,t2, ?_⟩
 rw [m.trees]
 refine Calls.callWith_builtin rfl (Calls.evalArgs_plain (Calls.spliced_cons (BS (he pins s1 σ H1 _ I1 q1) λiv s2 ⟨y,H2,I2,ry,q2⟩=>
  Calls.spliced_cons (BS (hf pins s2 σ H2 _ I2 q2) λfv s3 ⟨z,H3,I3,rz,b,kvs,k,ey,e,hb,q3⟩=>Calls.spliced_nil ?_))))
 subst ey
 obtain rfl:iv=Value.ref b:=ry
 exact gH hu I3 e hb rz λw' s4 I4 rw'=>⟨_,H3,I4,rw',q3⟩
end
end L2
end
section
namespace PySem
open Sem (wp)
def J5 (h:Heap) (d:Addr) (es:Array DictEntry) (ep:Nat):Prop:=∃o,h.get? d=some o/\o.ExactDict/\o.data= .dict es ep
section
variable {prog:Program} {w:World} {A:Around} {E:Value->Shared->Prop} {s:Shared} {d it:Addr} {es:Array DictEntry} {ep i:Nat}
theorem J5.typeIs (x:J5 s.heap d es ep):s.TypeIs (.ref d) "dict" :=let ⟨o,ho,hc,_⟩:=x;⟨o,ho,hc.1⟩
theorem J5.at {h h':Heap} (x:J5 h d es ep) (e:∀o,h.get? d=some o->h'.get? d=some o):J5 h' d es ep:=let ⟨o,ho,r⟩:=x;⟨o,e _ ho,r⟩
theorem ZF {Q:Value->Shared->Prop} (hd:(d==sysModules)=false) (hm:J5 s.heap d es ep)
 (hQ:Q (.ref s.heap.objs.size) {s with heap:=s.heap.push {cls:= .type "dict_keyiterator",data:= .fields #[.ref d, .int 0 0, .int es.size 0, .int ep 0] }}):wpAny (model prog w) A (pyIter (.ref d)) Q E s:=by
 have hT:=hm.typeIs
 obtain ⟨o,ho,hc,jS⟩:=hm
 refine wpAny_pyIter_slot hT F.slot_dict_iter (wpAny_call_entry F.slot_dict_iter hT F.entry_dict_iter ?_ (F.args_dict_iter_1 _))
 unfold Builtin.«dict.__iter__»
 refine wpAny_bind ?_
 unfold Builtin.Dict.dictSlotNone
 refine wpAny_bind (wpAny_notOrdered_dict hT (wpAny_pure ?_))
 show wpAny _ _ (Builtin.Dict.showsAll d >>= _) _ _ s
 unfold Builtin.Dict.showsAll
 rw [if_neg (by rw [hd];exact Bool.false_ne_true)]
 refine wpAny_bind (wpAny_pure (wpAny_bind (wpAny_dictEntries ho jS (wpAny_bind (wpAny_dictEpoch ho jS ?_)))))
 exact wpAny_bind (wpAny_newObj_type (wpAny_pure ⟨_,rfl,"dict_keyiterator",_,⟨_,Heap.get?_push_size _ rfl,rfl⟩,F.slot_dict_keyiterator_next.lookup,by simpa [rawInt] using hQ⟩))
theorem ZG {Q:Option Value->Shared->Prop} (hit:s.heap.IsKeyIter it d i es.size ep) (hm:J5 s.heap d es ep) (Dk:i<es.size)
 (hQ:∀h',h'.IsKeyIter it d (i+1) es.size ep->Heap.SameBut it s.heap h'->Q (some es[i].key) {s with heap:=h'}):wpAny (model prog w) A (pyNext (.ref it)) Q E s:=by
 have hT:=hit.typeIs
 obtain ⟨o,ho,hc,hd⟩:=hit
 obtain ⟨od,jb,Lj,jT⟩:=hm
 unfold pyNext
 refine wpAny_bind (wpAny_attempt (wpAny_callSpecial?_slot (name:=Str.ofString "__next__") hT F.slot_dict_keyiterator_next (wpAny_call_entry F.slot_dict_keyiterator_next hT F.entry_dict_keyiterator_next ?_ (F.args_dict_keyiterator_next_1 _))))
 refine wpAny_bind (wpAny_pure (wpAny_bind (wpAny_bind ?_)))
 refine wpAny_bind (wpAny_typeNameOfWhole_keyiter hT (wpAny_pure (wpAny_bind (wpAny_fieldsOf ho hd ?_))))
 simp only [show Builtin.Dict_items.ownsTuple "dict_keyiterator" =false by decide,Bool.false_eq_true,if_false]
 show wpAny _ _ (if (Value.ref d==Value.none)=true then _ else _) _ _ s
 rw [if_neg (show ¬((Value.ref d==Value.none)=true) from Bool.false_ne_true)]
 refine wpAny_bind (wpAny_pure (wpAny_bind (wpAny_dictEntries jb jT ?_)))
 rw [if_neg (by simp)]
 refine wpAny_bind (wpAny_pure (wpAny_bind (wpAny_dictEpoch jb jT ?_)))
 rw [if_neg (by simp)]
 refine wpAny_pure ?_
 simp only [show ¬((i:Int)<0) from by omega,if_false,Int.toNat_natCast,Array.getElem?_eq_getElem Dk]
 refine wpAny_bind ?_
 refine wpAny_bind (wpAny_typeNameOfWhole_keyiter hT (wpAny_pure (wpAny_bind (wpAny_isOneOf_keyiter hT ?_))))
 show wpAny _ _ (setField (.ref it) 1 (rawInt ((i:Int)+1)) >>= _) _ _ s
 refine wpAny_bind (wpAny_setField ho hd (by simp) ?_)
 have bK:(s.heap.update it (Obj.mapFields (·.setIfInBounds 1 (rawInt ((i:Int)+1))))).IsKeyIter it d (i+1) es.size ep:=
  ⟨_,Heap.get?_update_self _ ho (Obj.isFreed_of_fields (Obj.data_mapFields hd _)),(Obj.cls_mapFields ..).trans hc,by rw [Obj.data_mapFields hd];simp [rawInt]⟩
 refine wpAny_bind (wpAny_holding (wpAny_bind (wpAny_isOneOf_keyiter (s:={s with heap:=s.heap.update it (Obj.mapFields (·.setIfInBounds 1 (rawInt ((i:Int)+1))))}) bK.typeIs ?_)))
 show wpAny _ _ (pure es[i].key) _ _ _
 exact wpAny_pure (wpAny_pure ⟨_,rfl,wpAny_pure (hQ _ bK (Heap.SameBut.update ..))⟩)
theorem cZ {Q:Option Value->Shared->Prop} (hh:A.handled=none) (hit:s.heap.IsKeyIter it d es.size es.size ep) (hm:J5 s.heap d es ep)
 (hQ:∀h',Heap.ExtBut it s.heap h'->Q none {s with heap:=h'}):wpAny (model prog w) A (pyNext (.ref it)) Q E s:=by
 have hT:=hit.typeIs
 obtain ⟨o,ho,hc,hd⟩:=hit
 obtain ⟨od,jb,Lj,jT⟩:=hm
 unfold pyNext
 refine wpAny_bind (wpAny_attempt (wpAny_callSpecial?_slot (name:=Str.ofString "__next__") hT F.slot_dict_keyiterator_next (wpAny_call_entry F.slot_dict_keyiterator_next hT F.entry_dict_keyiterator_next ?_ (F.args_dict_keyiterator_next_1 _))))
 refine wpAny_bind (wpAny_pure (wpAny_bind (wpAny_bind ?_)))
 refine wpAny_bind (wpAny_typeNameOfWhole_keyiter hT (wpAny_pure (wpAny_bind (wpAny_fieldsOf ho hd ?_))))
 simp only [show Builtin.Dict_items.ownsTuple "dict_keyiterator" =false by decide,Bool.false_eq_true,if_false]
 show wpAny _ _ (if (Value.ref d==Value.none)=true then _ else _) _ _ s
 rw [if_neg (show ¬((Value.ref d==Value.none)=true) from Bool.false_ne_true)]
 refine wpAny_bind (wpAny_pure (wpAny_bind (wpAny_dictEntries jb jT ?_)))
 rw [if_neg (by simp)]
 refine wpAny_bind (wpAny_pure (wpAny_bind (wpAny_dictEpoch jb jT ?_)))
 rw [if_neg (by simp)]
 refine wpAny_pure ?_
 simp only [show ¬((es.size:Int)<0) from by omega,if_false,Int.toNat_natCast,Array.getElem?_eq_none (Nat.le_refl es.size)]
 refine wpAny_bind ?_
 refine wpAny_bind (wpAny_typeNameOfWhole_keyiter hT (wpAny_pure ?_))
 show wpAny _ _ (setField (.ref it) 0 .none >>= _) _ _ s
 refine wpAny_bind (wpAny_setField ho hd (by simp) ?_)
 show wpAny _ _ (newExc (.type "StopIteration") [] >>= _) _ _ _
 refine wpAny_bind ?_
 simp only [newExc,newTuple]
 refine wpAny_bind (wpAny_newObj_type ?_ (by size_fits))
 refine wpAny_bind (m:=firstArgMember _ _) (wpAny_of_eq (a:=Value.none) (by first | rfl|(simp only [firstArgMember];rfl)) (wpAny_newObj_type ?_ (by size_fits)))
 simp only [raiseNew]
 refine wpAny_bind (wpAny_handled ?_)
 rw [show A.in1.handled=none from hh]
 refine wpAny_bind (wpAny_pure (wpAny_throw ?_))
 refine wpAny_bind (wpAny_isInstance (T:="StopIteration") (b:=true) ⟨_,Heap.get?_push_size _ rfl,rfl⟩ isSubtype_stop ?_)
 exact wpAny_pure (hQ _ (((Heap.SameBut.update ..).extBut.push _).push _))
theorem XM (hh:A.handled=none) (VA:d≠it):
 Walks prog w A it [it,d] [it] es.size (λi v=>∃e,es[i]? =some e/\v=e.key) (λi h=>h.IsKeyIter it d i es.size ep/\J5 h d es ep) where
 sub:=λb hb=>by simp at hb;simp [hb]
 frame:=λ_ _ _ st hk=>⟨st.1.at λo e=>hk it (by simp) o e,st.2.at λo e=>hk d (by simp) o e⟩
 item:=λi s Q E hi st hQ=>ZG st.1 st.2 hi λh' bK bN=>
  hQ _ h' s.toks ⟨es[i],by simp [hi],rfl⟩ ⟨bK,st.2.at λo e=>bN.extBut d o VA e⟩ λb o hb e=>bN.extBut b o (λh=>hb (by simp [h])) e
 done:=λs Q E st hQ=>cZ hh st.1 st.2 λh' tF=>hQ h' s.toks λb o hb e=>tF b o (λh=>hb (by simp [h])) e
 self:=λ_ _ _ _ st hQ=>wpAny_pyIter_keyiter st.1 hQ
end
theorem ZE {prog:Program} {w:World} {A:Around} {E:Value->Shared->Prop} {s:Shared} {d:Addr} {es:Array DictEntry} {ep:Nat} {Q:Bool->Shared->Prop} (hm:J5 s.heap d es ep) (h:Q false s):wpAny (model prog w) A (Builtin.List.listLengthHint (.ref d)) Q E s:=by
 have hT:=hm.typeIs
 unfold Builtin.List.listLengthHint
 refine wpAny_bind (wpAny_specialOf hT F.slot_dict_len.lookup ?_)
 have hs:splitId "dict.__len__" =some ("dict","__len__"):=by decide +kernel
 simp only [hs]
 refine wpAny_bind (wpAny_isInstance hT (by rw [isSubtype_type];kernel_rfl:isSubtype (.type "dict") (.type "dict")=pure true) ?_)
 simp only [Bool.not_true,Bool.false_eq_true,if_false]
 rw [if_pos (by decide +kernel)]
 refine wpAny_bind (wpAny_typeOf hT ?_)
 exact wpAny_pure h
section
variable {prog:Program} {w:World} {A:Around} {s:Shared} {R:Result->Shared->Prop} {d:Addr} {es:Array DictEntry} {ep:Nat}
theorem UI (hh:A.handled=none) (S:Addr) (res:Value) (c₀:Nat) (hd:(d==sysModules)=false) (hm:J5 s.heap d es ep) (hn:es.size<=sizeLine) (VA:d≠S)
 (hS:s.heap.get? S=some {cls:= .type "list",data:= .seq #[] c₀})
 (hR:∀h' tk acc' c',(∀b o,b≠S->s.heap.get? b=some o->h'.get? b=some o)->h'.get? S=some {cls:= .type "list",dict:=none,data:= .seq acc' c',slots:= #[] }->ItemsOf (λi v=>∃e,es[i]? =some e/\v=e.key) acc' es.size->R (.ok (.ret res)) {s with heap:=h',toks:=tk}):
 wpAny (model prog w) A.in1 (Builtin.List.listExtendWith (.ref S) (.ref d) res)
  (λfin s'=>match fin with | .done f=>R (.ok f) s' | .again c'=>c'.quiet=true/\codeAny (model prog w) A c' R s') (λe s'=>R (.error e) s') s:=by
 have hT:=hm.typeIs
 unfold Builtin.List.listExtendWith
 refine wpAny_bind (wpAny_typeOf hT ?_)
 have h1:Builtin.List.listSameRef (.ref S) (.ref d)=false:=by simp [Builtin.List.listSameRef,Ne.symm VA]
 have h2:(Value.type "dict" == Value.type "list")=false:=by decide
 have h3:(Value.type "dict" == Value.type "tuple")=false:=by decide
 simp only [h1,h2,h3,Bool.or_false,Bool.false_eq_true,if_false]
 refine wpAny_bind (ZF hd hm ?_)
 have Dk:d<s.heap.objs.size:=let ⟨o,ho,_⟩:=hm;Heap.lt_size ho
 have tO:S<s.heap.objs.size:=Heap.lt_size hS
 have fV:J5 (s.heap.push {cls:= .type "dict_keyiterator",data:= .fields #[.ref d, .int 0 0, .int es.size 0, .int ep 0] }) d es ep:=hm.at λo e=>Heap.get?_push_of_some _ e
 refine wpAny_bind (wpAny_holding (ZE (s:={s with heap:=s.heap.push {cls:= .type "dict_keyiterator",data:= .fields #[.ref d, .int 0 0, .int es.size 0, .int ep 0] }}) fV ?_))
 generalize mq:({cls:= .type "dict_keyiterator",data:= .fields #[.ref d, .int 0 0, .int es.size 0, .int ep 0] }:Obj)=io at fV ⊢
 have pU:(s.heap.push io).get? S=some {cls:= .type "list",data:= .seq #[] c₀}:=Heap.get?_push_of_some _ hS
 have sn:(s.heap.push io).get? s.heap.objs.size=some io:=Heap.get?_push_size _ (by rw [<-mq];rfl)
 have pT:S≠s.heap.objs.size:=Nat.ne_of_lt tO
 rw [if_pos (by decide +kernel)]
 refine wpAny_bind (wpAny_rule (wpAny_bind ?_))
 show wpAny _ A.in1 (updateSeq S (·.push .none) >>= λ_=>updateSeq S (·.pop)) _ _ _
 refine wpAny_bind (wpAny_updateSeq (s:={s with heap:=s.heap.push io}) pU rfl ?_)
 have hS₂:=Heap.get?_update_self (Obj.mapSeq (·.push Value.none)) pU rfl
 refine wpAny_updateSeq (hz:=by seq_fits) hS₂ rfl ?_
 have hS₃:=Heap.get?_update_self (Obj.mapSeq (·.pop)) hS₂ rfl
 have oth:∀b o,b≠S->(s.heap.push io).get? b=some o->(((s.heap.push io).update S (Obj.mapSeq (·.push Value.none))).update S (Obj.mapSeq (·.pop))).get? b=some o:=
  λb o hb e=>(Heap.get?_update_other _ _ (Ne.symm hb)).trans ((Heap.get?_update_other _ _ (Ne.symm hb)).trans e)
 have W:=(XM (prog:=prog) (w:=w) (A:=A.in1) (d:=d) (it:=s.heap.objs.size) (es:=es) (ep:=ep) hh (Nat.ne_of_lt Dk)).toS
 refine wpAny_pure ⟨plainId_quiet F.plain_extend_loop _,codeAny_extend_loopS W hn S ?_ res es.size 0 _ _ _ rfl (Nat.zero_le _) ⟨⟨io,oth _ _ (Ne.symm pT) sn,by rw [<-mq],by rw [<-mq];rfl⟩,fV.at λo e=>oth _ _ VA e⟩ hS₃ (ItemsOf.nil _) λs' acc' c' tR mY bH=> ?_⟩
 ·intro bJ
  simp only [List.mem_cons,List.not_mem_nil,or_false] at bJ
  rcases bJ with e|e
  ·exact pT e
  ·exact VA e.symm
 ·obtain ⟨k1,k2,k3,k4,k5⟩:=tR
  have e:s'={s with heap:=s'.heap,toks:=s'.toks}:=by
   obtain ⟨a1,a2,a3,a4,a5⟩:=s'
   simp only at k2 k3 k4
   subst k2;subst k3;subst k4
   rfl
  rw [e]
  refine hR s'.heap s'.toks acc' c' (λb o hb eb=>k1 b o ?_ (oth b o hb (Heap.get?_push_of_some _ eb))) mY bH
  intro bJ
  simp only [List.mem_cons,List.not_mem_nil,or_false] at bJ
  rcases bJ with e|e
  ·exact hb e
  ·exact Nat.ne_of_lt (Heap.lt_size eb) e
end
section
variable {prog:Program} {w:World} {A:Around} {E:Value->Shared->Prop} {s:Shared} {d:Addr} {es:Array DictEntry} {ep:Nat}
theorem Nx {Q:Value->Shared->Prop} (hh:A.handled=none) (hd:(d==sysModules)=false) (hm:J5 s.heap d es ep) (hn:es.size<=sizeLine)
 (hQ:∀h' tk c',(∀b o,s.heap.get? b=some o->h'.get? b=some o)->h'.get? s.heap.objs.size=some {cls:= .type "list",dict:=none,data:= .seq (es.map (·.key)) c',slots:= #[] }->Q (.ref s.heap.objs.size) {s with heap:=h',toks:=tk}):
 wpAny (model prog w) A (call (.type "list") [.ref d]) Q E s:=by
 have Dk:d<s.heap.objs.size:=let ⟨o,ho,_⟩:=hm;Heap.lt_size ho
 refine callType_codes (Q₁:=λobj s₁=>obj= .ref s.heap.objs.size/\s₁={s with heap:=s.heap.push {cls:= .type "list",data:= .seq #[] }}) F.called_list (F.typeCall_list_1 _) F.entry_list_init (code_list_new _ ⟨rfl,rfl⟩) λobj s₁ h₁=> ?_
 obtain ⟨rfl,rfl⟩:=h₁
 have hS:(s.heap.push {cls:= .type "list",data:= .seq #[] }).get? s.heap.objs.size=some {cls:= .type "list",data:= .seq #[] }:=Heap.get?_push_size _ rfl
 refine ⟨⟨_,hS,rfl⟩,F.args_list_init_2 _ _, ?_⟩
 show wpAny _ A.in1.in1 (do let old <-Builtin.List.listItems (.ref s.heap.objs.size);Builtin.List.listUpdate (.ref s.heap.objs.size) (λ_=> #[]);letGo old.toList.reverse;Builtin.List.listExtendWith (.ref s.heap.objs.size) (.ref d) .none) _ _ _
 refine wpAny_bind ?_
 unfold Builtin.List.listItems
 refine wpAny_bind (wpAny_seqItems hS rfl (wpAny_pure ?_))
 refine wpAny_bind (wpAny_updateSeq hS rfl ?_)
 have hS₂:=Heap.get?_update_self (Obj.mapSeq (λ_=>(#[] :Array Value))) hS rfl
 refine wpAny_bind (wpAny_letGo ?_)
 have oth:∀b o,s.heap.get? b=some o->((s.heap.push {cls:= .type "list",data:= .seq #[] }).update s.heap.objs.size (Obj.mapSeq (λ_=>(#[] :Array Value)))).get? b=some o:=λb o e=>by
  have hb:b≠s.heap.objs.size:=λz=>Nat.lt_irrefl _ (z ▸ Heap.lt_size e)
  exact (Heap.get?_update_other _ _ (Ne.symm hb)).trans (Heap.get?_push_of_some _ e)
 refine UI (s:={s with heap:=(s.heap.push {cls:= .type "list",data:= .seq #[] }).update s.heap.objs.size (Obj.mapSeq (λ_=>(#[] :Array Value)))}) (d:=d) (es:=es) (ep:=ep) (A:=A.in1) hh s.heap.objs.size .none _ hd (hm.at λo e=>oth d o e) hn (Nat.ne_of_lt Dk) hS₂ ?_
 intro h' tk acc' c' kp mY bH
 refine ⟨rfl,hQ h' tk c' (λb o e=>kp b o (λz=>Nat.lt_irrefl _ (z ▸ Heap.lt_size e)) (oth b o e)) ?_⟩
 have ea:acc'=es.map (·.key):=by
  obtain ⟨h1,h2⟩:=bH
  refine Array.ext (by simp [h1]) λi hi hj=> ?_
  obtain ⟨e,e1,e2⟩:=h2 i _ (by simp [hi] :acc'[i]? =some acc'[i])
  have tH:i<es.size:=by simpa using hj
  rw [Array.getElem?_eq_getElem tH] at e1
  cases e1
  rw [e2];simp
 rw [<-ea];exact mY
end
end PySem
end
section
namespace L2
open PySem PySem.Spec PyProof.Rows
section
variable {X:Cx}
def gm (K:PySem.W.Frag):List V->Hp->VK->Prop:=λxs H Q=>∃p kvs,xs= [.ref p] /\H p=some (.dN K kvs)/\∀l cs,H l=none->Paired (λ(q:FK×V) (c:Addr)=>Fi K H c q.1) kvs cs->Q (.ref l) (upd H l (.lst (cs.map V.ref)))
theorem TB {k:Nat} (hr:Room k X.A):B4 X (.type "list") (gm X.K):=by
 intro pins s σ H xs us Q I r h
 obtain ⟨p,kvs,rfl,hp,q⟩:=h
 obtain ⟨u,rfl,rx⟩:=vals1 r
 cases rx
 obtain ⟨z,hd,ys,rel,o,es,ep,h1,h2,h3,h4,h5,h6⟩:=OZ I.hok I.kIn hp
 have hl:ys.length=kvs.length:=(Paired.length rel).symm
 have pZ:es.size=ys.length:=by rw [<-Array.length_toList,h4,List.length_map]
 refine Nx (es:=es) (ep:=ep) hr.hd hd ⟨o,h1,h2,h3⟩ (by rw [pZ,hl];exact z) λh' tk c' kp e=> ?_
 have ek:es.map (·.key)=((ys.map (·.2.1)).map Value.ref).toArray:=by
  apply Array.ext'
  rw [Array.toList_map,h4]
  simp [entryOfKey]
 rw [ek] at e
 have hv:∀l:List Addr,Ar (l.map V.ref) (l.map Value.ref):=λl=>by
  induction l with
  | nil=>exact .nil
  | cons a l ih=>exact .cons rfl ih
 refine ⟨.ref s.heap.objs.size,_,I.laid (t':=tk) kp (Nat.le_refl _) (show Cp X.prog X.w _ h' _ (.lst ((ys.map (·.2.1)).map V.ref)) from ⟨by simp only [List.length_map];rw [hl];exact z,_,c',hv _,e⟩),rfl,q _ _ (I.hok.fresh (Nat.le_refl _)) ?_⟩
 clear q e ek h4 h6 h5 pZ hl z hp
 induction rel with
 | nil=>exact .nil
 | cons h t ih=>exact .cons h.2.1 ih
end
end L2
namespace PL
open PySem PySem.Spec PyProof.Rows L2
def Tl (k:FK):PV:= .tup [.tup [.int k.1.1, .int k.1.2], .int k.2]
def BI (kvs:List (FK×Int)) (k:FK):Option Int:=(kvs.find? λp=>decide (p.1=k)).map (·.2)
theorem Ud (kvs:List (FK×Int)) (k:FK):EZ (Bu kvs) k=(BI kvs k).map V.int:=by
 induction kvs with
 | nil=>rfl
 | cons p r ih=>
   by_cases e:p.1=k
   ·simp [BI,Bu,EZ,e]
   ·simpa [BI,Bu,EZ,e] using ih
section
variable {K:PySem.W.Frag} {T M:Addr->Prop} {H:Hp}
theorem L0 {v:V} {t d:Int} (r:CB K T M H v (.tup [.int t, .int d])):∃b,v= .ref b/\Xu K H b t d:=by
 obtain ⟨a,vs,rfl,hq,rs⟩:=Zk r
 cases rs with
 | cons r1 rs=>
 cases rs with
 | cons r2 rs=>
 cases rs;cases r1;cases r2
 refine ⟨a,rfl, ?_⟩
 rcases hq with h|⟨o,its,n,h1,h2,h3,_,h4⟩
 ·exact .inl h
 ·exact .inr ⟨o,its,n,h1,h2,h3,h4⟩
theorem ZI {b:Addr} {t d:Int} (h:Xu K H b t d):CB K T M H (.ref b) (.tup [.int t, .int d]):=by
 refine .tup (vs:= [.int t, .int d]) ?_ (.cons (.int _) (.cons (.int _) .nil))
 rcases h with h|⟨o,its,n,h1,h2,h3,h4⟩
 ·exact .inl h
 ·refine .inr ⟨o,its,n,h1,h2,h3, ?_,h4⟩
  have:=h4.length
  simp only [List.length_cons,List.length_nil,Array.length_toList] at this
  rw [<-this]
  exact Nat.le_of_ble_eq_true rfl
theorem ZH {c:Addr} {k:FK} (h:Fi K H c k):CB K T M H (.ref c) (Tl k):=by
 obtain ⟨b,h1,h2⟩:=h
 exact .tup (.inl h1) (.cons (ZI h2) (.cons (.int _) .nil))
end
section
variable {X:Cx} {a b d:Expr} {pos p1:Pos} {ta tb td:AE}
def M3 (x y:PV) (R:FK->Prop):Prop:=match x,y with | .tup [.int t, .int e], .int s=>R ((t,e),s)|_,_=>False
theorem R0 {x y:PV} {R:FK->Prop} (h:M3 x y R):∃t e s,x= .tup [.int t, .int e] /\y= .int s/\R ((t,e),s):=by
 unfold M3 at h
 split at h
 ·exact ⟨_,_,_,rfl,rfl,h⟩
 ·exact h.elim
def iW (m:PV) (R:List (FK×Int)->Prop):Prop:=match m with | .dct kvs=>R kvs|_=>False
theorem Yt {m:PV} {R:List (FK×Int)->Prop} (h:iW m R):∃kvs,m= .dct kvs/\R kvs:=by
 cases m <;> first | exact ⟨_,rfl,h⟩|exact h.elim
def aW (ta tb td:AE):AE:=λτ Q=>ta τ λx=>tb τ λy=>td τ λm=>iW m λkvs=>M3 x y λk=>Q (.bl (BI kvs k).isSome)
def Xw (td ta tb:AE):AE:=λτ Q=>td τ λm=>ta τ λx=>tb τ λy=>iW m λkvs=>M3 x y λk=>match BI kvs k with | some i=>Q (.int i)|none=>False
theorem Ro {K:PySem.W.Frag} {B:Ch} {T:Addr->Prop} {H:Hp} {σ:L2.St} {τ:BB} {q:Addr} {vs:List V} (sr:SR K B T H σ τ) (hq:H q=none):DM T H T (upd H q (.tup vs))/\¬T q:=by
 refine ⟨DM.lay sr.tp hq,λz=> ?_⟩
 obtain ⟨o,e,_⟩:=(sr.tp q z).mut
 rw [hq] at e;cases e
theorem c3 {t1 t2 t3:TE} (s1:Fj X.K t1 ta) (s2:Fj X.K t2 tb) (s3:Fj X.K t3 td):Fj X.K (ku X.K (dD (Nd t1 (Nd t2 dA))) t3) (aW ta tb td):=by
 intro B T σ τ H Q AQ sr h k
 refine s1 B T σ τ H _ _ sr h λv x T1 H1 st1 r1 h1=> ?_
 have sr1:=sr.stp st1
 refine s2 B T1 σ τ H1 _ _ sr1 h1 λw y T2 H2 st2 r2 h2=> ?_
 have sr2:=sr1.stp st2
 refine ⟨Nat.le_of_ble_eq_true rfl,λq hq=> ?_⟩
 obtain ⟨st3,nt⟩:=Ro (vs:= [v,w]) sr2 hq
 have sr3:=sr2.stp st3
 refine s3 B T2 σ τ _ _ _ sr3 h2 λu m T4 H4 st4 r4 h4=> ?_
 obtain ⟨kvs,rfl,h5⟩:=Yt h4
 obtain ⟨t,e,s,rfl,rfl,h6⟩:=R0 h5
 have rv:=((r1.stp st2 sr1.va).stp st3 sr2.va).stp st4 sr3.va
 obtain ⟨c,rfl,tn⟩:=L0 rv
 cases r2
 cases r4 with
 | dct hh _ _=>
   refine ⟨_,q,_,((t,e),s),rfl,rfl,hh,⟨c,st4.keep _ _ nt Ah,tn⟩, ?_⟩
   rw [Ud,Option.isSome_map]
   exact k _ _ T4 H4 (((st1.trans st2).trans st3).trans st4) (.bl _) h6
theorem hX {x1:Nat} {k:Nat} (hr:Room k X.A) (ha:SE X a ta) (hb:SE X b tb) (hd:SE X d td) (hm:behindInMarks .In d=false:=by rfl) (e1:starEach (a :: [b]) X.env=(false,eval a X.env)::starEach [b] X.env:=by rfl) (e2:starEach [b] X.env=(false,eval b X.env)::starEach [] X.env:=by rfl):RG X (.Compare (.Tuple [a,b] x1 p1) [.In] [d] pos) (A1 (aW ta tb td)):=by
 obtain ⟨t1,q1,s1⟩:=ha
 obtain ⟨t2,q2,s2⟩:=hb
 obtain ⟨t3,q3,s3⟩:=hd
 exact ⟨_,gf (gW (by have:=hr.un;omega) (M5 (CC q1 (CC q2 E7 e2) e1)) q3) hm,Qg (c3 s1 s2 s3)⟩
theorem cn {x1:Nat} {k:Nat} (hr:Room k X.A) (hd:SE X d td) (ha:SE X a ta) (hb:SE X b tb) (hs:eY (.Tuple [a,b] x1 p1)) (e1:starEach (a :: [b]) X.env=(false,eval a X.env)::starEach [b] X.env:=by rfl) (e2:starEach [b] X.env=(false,eval b X.env)::starEach [] X.env:=by rfl):SE X (.Subscript d (.Tuple [a,b] x1 p1) pos) (Xw td ta tb):=by
 obtain ⟨t1,q1,s1⟩:=ha
 obtain ⟨t2,q2,s2⟩:=hb
 obtain ⟨t3,q3,s3⟩:=hd
 refine ⟨_,cK (by have:=hr.un;omega) q3 (M5 (CC q1 (CC q2 E7 e2) e1)) hs,λB T σ τ H Q AQ sr h k=> ?_⟩
 refine s3 B T σ τ H _ _ sr h λu m T0 H0 st0 r0 h0=> ?_
 have sr0:=sr.stp st0
 refine s1 B T0 σ τ H0 _ _ sr0 h0 λv x T1 H1 st1 r1 h1=> ?_
 have sr1:=sr0.stp st1
 refine s2 B T1 σ τ H1 _ _ sr1 h1 λw y T2 H2 st2 r2 h2=> ?_
 have sr2:=sr1.stp st2
 refine ⟨Nat.le_of_ble_eq_true rfl,λq hq=> ?_⟩
 obtain ⟨st3,nt⟩:=Ro (vs:= [v,w]) sr2 hq
 obtain ⟨kvs,rfl,h5⟩:=Yt h2
 obtain ⟨t,e,s,rfl,rfl,h6⟩:=R0 h5
 have rv:=(r1.stp st2 sr1.va).stp st3 sr2.va
 have r3:=((r0.stp st1 sr0.va).stp st2 sr1.va).stp st3 sr2.va
 obtain ⟨c,rfl,tn⟩:=L0 rv
 cases r2
 cases ev:BI kvs ((t,e),s) with
 | none=>rw [ev] at h6;exact h6.elim
 | some i=>
   rw [ev] at h6
   cases r3 with
   | dct hh _ _=>
     exact ⟨_,q,_,((t,e),s), .int i,rfl,rfl,hh,⟨c,Ah,tn⟩,by rw [Ud,ev];rfl,k _ _ T2 _ (((st0.trans st1).trans st2).trans st3) (.int _) h6⟩
def S6 (r:AA):AA:=λτ Q=>r τ λxs=>match xs with | [.dct kvs] =>Q (kvs.map λp=>Tl p.1)|_=>False
theorem ZY {x:Str} {p pos:Pos} {e:Expr} {es:List Expr} {r:AA} {k:Nat} (hr:Room k X.A) (hg:Gl X x) (hm:X.mg x=none) (hv:bootBuiltins x=some (.type "list")) (ha:SA X (e::es) r)
 (hn:x≠"__name__" :=by decide) (hdb:(x==("__debug__" :Str))=false:=by decide) (he:starEach (e::es) X.env=(false,eval e X.env)::starEach es X.env:=by rfl) (hpl:(backTo pos (starEach es X.env)).any (·.1)=false:=by rfl):
 SF X (.Call (.Name x p) (e::es) [] pos) (S6 r):=by
 obtain ⟨t,pa,s⟩:=ha
 refine ⟨_,G6 (TB hr) hg hm hv pa hn hdb he hpl,λB T σ τ H Q AQ sr h k=>s B T σ τ H _ _ sr h λvs xs T1 H1 s1 r1 h1=> ?_⟩
 have sr1:=sr.stp s1
 split at h1 <;> first | exact h1.elim|skip
 rename_i kvs
 cases r1 with
 | cons r t=>
   cases t
   cases r with
   | dct hh nt nm=>
     refine ⟨_,_,rfl,hh,λl cs hl pr=> ?_⟩
     have rr:Az X.K T1 (mt B σ τ) H1 (cs.map V.ref) (kvs.map λp=>Tl p.1):=by
      clear h1 hh
      induction kvs generalizing cs with
      | nil=>cases pr;exact .nil
      | cons q r ih=>
        cases pr with
        | cons h t=>exact .cons (ZH h) (ih _ t)
     obtain ⟨l2,sr2,nt2,r2⟩:=Px sr1 hl rr
     exact k l _ _ T1 _ (s1.trans l2) sr2 (s1.none hl) Ah nt2 r2 h1
end
end PL
end
section
namespace PL
open PySem PySem.Spec PyProof.Rows L2
def OB (m:List (FK×Int)) (k:FK) (v:Int):List (FK×Int):=if (m.any λp=>decide (p.1=k)) then m.map λp=>if p.1=k then (p.1,v) else p else m ++ [(k,v)]
def bump (m:List (FK×Int)) (k:FK) (d:Int):List (FK×Int):=OB m k ((BI m k).getD 0+d)
theorem Y9 (m:List (FK×Int)) (k:FK) (v:Int):Go (Bu m) k (.int v)=Bu (OB m k v):=by
 unfold Go OB
 have e:((Bu m).any λkv=>decide (kv.1=k))=(m.any λp=>decide (p.1=k)):=by
  unfold Bu;rw [List.any_map];rfl
 rw [e]
 split
 ·unfold Bu
  rw [List.map_map,List.map_map]
  apply List.map_congr_left
  intro p _
  by_cases h:p.1=k <;> simp [h]
 ·simp [Bu]
theorem JC (m:List (FK×Int)) (k:FK) (v:Int):(OB m k v).length<=m.length+1:=by
 unfold OB;split <;> simp
theorem YL (m:List (FK×Int)) (k:FK):(EZ (Bu m) k).getD (.int 0)= .int ((BI m k).getD 0):=by
 rw [Ud];cases BI m k <;> rfl
def Uz:PV->Option (Option (Int×Int))
 | .non=>some none
 | .tup [.int t, .int d] =>some (some (t,d))
 | _=>none
def R8 (x:PV):Option ((Int×Int)×Int×Option (Int×Int)):=
 match x with
 | .tup [.tup [.int t, .int d], .int h,e] =>(Uz e).map λe=>((t,d),h,e)
 | .lst [.tup [.int t, .int d], .int h,e] =>(Uz e).map λe=>((t,d),h,e)
 | _=>none
def F5 (m:List (FK×Int)) (b:Int×Int) (h:Int) (e:Option (Int×Int)):List (FK×Int):=
 match e with
 | none=>bump m (b,1-h) 1
 | some e=>bump (bump m (b,1-h) 1) (e,0) (-1)
def FC:List PV->List (FK×Int)->Option (List (FK×Int))
 | [],m=>some m
 | x::r,m=>match R8 x with | some (b,h,e)=>FC r (F5 m b h e)|none=>none
def ZC:R2:=λx y H Q=>y= .non/\Q (.bl (!decide (x= .non))) H
def UW (K:PySem.W.Frag):TS:=
 XE (Sd (dD (Nd (Fb 2) (Nd (dC (Oe λi j=> .int (i-j)) (tC (.int 1)) (Fb 3)) dA))) (Cq 5))
  (XE (ZM K (Fb 1) (Fb 5) (dC (Oe λi j=> .int (i+j)) (UZ K (Fb 1) (Fb 5) (tC (.int 0))) (tC (.int 1))))
    (kq (Zv (dC ZC (Fb 4) (tC .non)))
      (XE (Sd (dD (Nd (Fb 4) (Nd (tC (.int 0)) dA))) (Cq 6))
        (ZM K (Fb 1) (Fb 6) (dC (Oe λi j=> .int (i-j)) (UZ K (Fb 1) (Fb 6) (tC (.int 0))) (tC (.int 1))))) eH))
def hZ (K:PySem.W.Frag):TS:=
 XE (Sd (eG K) (Cq 1)) (XE (ko (jl K (Fb 0)) (WK K 3 (Ei (Cq 2) (Ei (Cq 3) (Ei (Cq 4) RX)))) (UW K)) (Zu (Fb 1)))
section
variable {K:PySem.W.Frag} {T M:Addr->Prop} {H H':Hp}
theorem GP.ext (va:GP T M H) (ex:∀b o,H b=some o->H' b=some o):Mv K T M H T M H':=⟨va,λb o _ _ e=>ex b o e,λ_ t=>t,λ_ _ t=>t,λ_ _ m=>m⟩
theorem gt {v:V} {x:PV} {b:Int×Int} {h:Int} {e:Option (Int×Int)} (r:CB K T M H v x) (hr:R8 x=some (b,h,e)):
 ∃a vb ve,v= .ref a/\(J6 K H a [vb, .int h,ve] \/GC K H a [vb, .int h,ve])/\CB K T M H vb (.tup [.int b.1, .int b.2])/\((e=none/\ve= .non)\/∃t d,e=some (t,d)/\CB K T M H ve (.tup [.int t, .int d])):=by
 have fin:∀{ve:V} {ep:PV},CB K T M H ve ep->Uz ep=some e->((e=none/\ve= .non)\/∃t d,e=some (t,d)/\CB K T M H ve (.tup [.int t, .int d])):=by
  intro ve ep re he
  unfold Uz at he
  split at he
  ·cases he;cases re;exact .inl ⟨rfl,rfl⟩
  ·cases he;exact .inr ⟨_,_,rfl,re⟩
  ·cases he
 unfold R8 at hr
 split at hr
 ·rename_i t d h' ep
  obtain ⟨e2,he,e3⟩:=Option.map_eq_some_iff.mp hr
  cases e3
  obtain ⟨a,vs,rfl,hq,rs⟩:=Cj r
  cases rs with
  | cons r1 rs=>
  cases rs with
  | cons r2 rs=>
  cases rs with
  | cons r3 rs=>
  cases rs;cases r2
  exact ⟨a,_,_,rfl, .inl hq,r1,fin r3 he⟩
 ·rename_i t d h' ep
  obtain ⟨e2,he,e3⟩:=Option.map_eq_some_iff.mp hr
  cases e3
  obtain ⟨a,vs,rfl,hq,_,_,rs⟩:=DS r
  cases rs with
  | cons r1 rs=>
  cases rs with
  | cons r2 rs=>
  cases rs with
  | cons r3 rs=>
  cases rs;cases r2
  exact ⟨a,_,_,rfl, .inr (.inl (.inl hq)),r1,fin r3 he⟩
 ·cases hr
theorem UY {D:MN} {p:Addr} {z0 z2 z3 z4 z5 z6:Option V} {H0:Hp} {m:List (FK×Int)} {v:V} {b:Int×Int} {h:Int} {e:Option (Int×Int)} {x:PV} (va:GP T M H) (ex:∀b o,H b=some o->H0 b=some o) (np:H p=none) (hp:H0 p=some (.dN K (Bu m))) (hl:m.length+2<sizeLine)
 (r:CB K T M H0 v x) (hr:R8 x=some (b,h,e))
 (nx:∀z2 z3 z4 z5 z6 H2,(∀b o,H b=some o->H2 b=some o)->H2 p=some (.dN K (Bu (F5 m b h e)))->D.nx [z0,some (.ref p),z2,z3,z4,z5,z6] H2):
 WK K 3 (Ei (Cq 2) (Ei (Cq 3) (Ei (Cq 4) RX))) v [z0,some (.ref p),z2,z3,z4,z5,z6] H0 λσ2 H2=>UW K D σ2 H2:=by
 obtain ⟨a,vb,ve,rfl,hq,rb,re⟩:=gt r hr
 refine ⟨a,_,rfl,hq,rfl,_,_,rfl,_,_,rfl,_,_,rfl,rfl, ?_⟩
 have va0:GP T M H:=va
 refine ⟨vb,rfl,_,rfl,_,_,rfl,rfl,Nat.le_of_ble_eq_true rfl,λq p6=> ?_⟩
 have ex1:∀b o,H0 b=some o->upd H0 q (.tup [vb, .int (1-h)]) b=some o:=λb o e=>by rw [Ag (Ao e p6)];exact e
 have iV:upd H0 q (.tup [vb, .int (1-h)]) p=some (.dN K (Bu m)):=ex1 _ _ hp
 have qp:q≠p:=λz=>by subst z;rw [p6] at hp;cases hp
 obtain ⟨c,rfl,tn⟩:=L0 rb
 have tn1:Xu K (upd H0 q (.tup [.ref c, .int (1-h)])) c b.1 b.2:=tn.elim (λz=> .inl (ex1 _ _ z)) .inr
 have kn:Fi K (upd H0 q (.tup [.ref c, .int (1-h)])) q (b,1-h):=⟨c,Ah,tn1⟩
 refine ⟨_,rfl,p,_,rfl,iV,_,rfl,q,_,(b,1-h),rfl,iV,kn,_,_,YL m (b,1-h),rfl,_,rfl,_,rfl,p,q,_,(b,1-h),rfl,rfl,iV,kn,by rw [Bu,List.length_map];omega, ?_⟩
 rw [Y9]
 have e1:Bu (OB m (b,1-h) ((BI m (b,1-h)).getD 0+1))=Bu (bump m (b,1-h) 1):=rfl
 rw [e1]
 have hb:∀o,H0 p=some o->True:=λ_ _=>trivial
 have ext2:∀(X:HO) b o,H b=some o->upd (upd H0 q (.tup [.ref c, .int (1-h)])) p X b=some o:=λX b o e=>by
  rw [Ag (Ao e np)];exact ex1 _ _ (ex _ _ e)
 have bl:(bump m (b,1-h) 1).length<=m.length+1:=JC _ _ _
 rcases re with ⟨rfl,rfl⟩|⟨t,d,rfl,re⟩
 ·refine ⟨_,rfl,rfl,false,rfl, ?_⟩
  exact nx _ _ _ _ _ _ (ext2 _) Ah
 ·obtain ⟨c2,rfl,tn2⟩:=L0 re
  refine ⟨_,rfl,rfl,true,rfl, ?_⟩
  refine ⟨_,rfl,Nat.le_of_ble_eq_true rfl,λq2 Ps=> ?_⟩
  have q2p:p≠q2:=λz=>by subst z;rw [Ah] at Ps;cases Ps
  have ex3:∀(a:Addr) o,upd (upd H0 q (.tup [.ref c, .int (1-h)])) p (.dN K (Bu (bump m (b,1-h) 1))) a=some o->upd (upd (upd H0 q (.tup [.ref c, .int (1-h)])) p (.dN K (Bu (bump m (b,1-h) 1)))) q2 (.tup [.ref c2, .int 0]) a=some o:=λa o e=>by rw [Ag (Ao e Ps)];exact e
  have jc:=ex3 p _ Ah
  have tn3:Xu K (upd (upd (upd H0 q (.tup [.ref c, .int (1-h)])) p (.dN K (Bu (bump m (b,1-h) 1)))) q2 (.tup [.ref c2, .int 0])) c2 t d:=tn2.elim (λz=> .inl (ex3 _ _ (by
   rw [Ag (λy=>by subst y;rw [hp] at z;cases z)]
   exact ex1 _ _ z))) .inr
  have kn2:Fi K (upd (upd (upd H0 q (.tup [.ref c, .int (1-h)])) p (.dN K (Bu (bump m (b,1-h) 1)))) q2 (.tup [.ref c2, .int 0])) q2 ((t,d),0):=⟨c2,Ah,tn3⟩
  refine ⟨_,rfl,p,_,rfl,jc,_,rfl,q2,_,((t,d),0),rfl,jc,kn2,_,_,YL _ ((t,d),0),rfl,_,rfl,_,rfl,p,q2,_,((t,d),0),rfl,rfl,jc,kn2,by rw [Bu,List.length_map];omega, ?_⟩
  rw [Y9]
  refine nx _ _ _ _ _ _ (λa o e=> ?_) Ah
  rw [Ag (Ao e np)]
  exact ex3 _ _ (ext2 _ _ _ e)
theorem K8 {m:List (FK×Int)} {b:Int×Int} {h:Int} {e:Option (Int×Int)}:(F5 m b h e).length<=m.length+2:=by
 unfold F5
 cases e with
 | none=>have:=JC m (b,1-h) ((BI m (b,1-h)).getD 0+1);unfold bump;simp only;omega
 | some e=>
   have h1:=JC m (b,1-h) ((BI m (b,1-h)).getD 0+1)
   have h2:=JC (bump m (b,1-h) 1) (e,0) ((BI (bump m (b,1-h) 1) (e,0)).getD 0 + -1)
   unfold bump at *
   simp only
   omega
theorem VW:∀{vs:List V} {ys:List PV},Az K T M H vs ys->∀{i:Nat} {x:V},vs[i]? =some x->∃y,ys[i]? =some y/\CB K T M H x y
 | _,_, .nil,i,x,ev=>by simp at ev
 | _,_, .cons h t,0,x,ev=>by simp at ev;subst ev;exact ⟨_,rfl,h⟩
 | _,_, .cons h t,i+1,x,ev=>by simpa using VW t (i:=i) (by simpa using ev)
theorem NZ {D:MN} {J:It} {v0:V} {p:Addr} {ys:List PV} {mfin:List (FK×Int)} {H1:Hp} (va:GP T M H) (np:H p=none)
 (go:∀H',(∀b o,H b=some o->H' b=some o)->∃vs,Az K T M H' vs ys/\(∀i,i<ys.length->J.go i H')/\(∀i,ys.length<=i->J.stop i H')/\∀i x H2,J.yld i H' x H2->H2=H'/\vs[i]? =some x)
 (e1:∀b o,H b=some o->H1 b=some o) (hp:H1 p=some (.dN K (Bu []))) (hl:2*ys.length+2<sizeLine) (hs:FC ys [] =some mfin)
 (fin:∀z2 z3 z4 z5 z6 H',(∀b o,H b=some o->H' b=some o)->H' p=some (.dN K (Bu mfin))->D.nx [some v0,some (.ref p),z2,z3,z4,z5,z6] H'):
 ∃W:Nat->Nat->L2.St->Hp->Prop,(∃m,W 0 m [some v0,some (.ref p),none,none,none,none,none] H1)/\∀i m σ H,W i m σ H->
  (J.stop i H/\D.nx σ H)\/(J.go i H/\∃N:L2.St->Hp->Prop,(∀σ' H',N σ' H'->∃m',m'<m/\W (i+1) m' σ' H')/\∀x H',J.yld i H x H'->WK K 3 (Ei (Cq 2) (Ei (Cq 3) (Ei (Cq 4) RX))) x σ H' λσ2 H2=>UW K {D with nx:=N,ct:=N,bk:=D.nx} σ2 H2):=by
 let W:Nat->Nat->L2.St->Hp->Prop:=λi m σ H'=>i+m=ys.length/\∃z2 z3 z4 z5 z6 mm,σ= [some v0,some (.ref p),z2,z3,z4,z5,z6] /\(∀b o,H b=some o->H' b=some o)/\H' p=some (.dN K (Bu mm))/\FC (ys.drop i) mm=some mfin/\mm.length<=2*i
 refine ⟨W,⟨ys.length,Nat.zero_add _,_,_,_,_,_, [],rfl,e1,hp,hs,Nat.zero_le _⟩, ?_⟩
 rintro i m σ H' ⟨hi,z2,z3,z4,z5,z6,mm,rfl,ex,FF,Ti,uv⟩
 obtain ⟨vs,rs,g1,g2,g3⟩:=go H' ex
 cases m with
 | zero=>
   left
   refine ⟨g2 i (by omega),fin _ _ _ _ _ _ ex ?_⟩
   rw [List.drop_eq_nil_of_le (by omega)] at Ti
   cases Ti
   exact FF
 | succ m=>
   right
   refine ⟨g1 i (by omega),λσ' H'=>W (i+1) m σ' H',λσ' H' h=>⟨m,by omega,h⟩,λx H2 yl=> ?_⟩
   obtain ⟨rfl,ev⟩:=g3 i x H2 yl
   have hy:ys[i]? =some ys[i] :=List.getElem?_eq_getElem (by omega)
   obtain ⟨y,ey,ry⟩:=VW rs ev
   rw [List.drop_eq_getElem_cons (by omega:i<ys.length)] at Ti
   have ey2:ys[i] =y:=by rw [hy] at ey;exact Option.some.inj ey
   rw [ey2] at Ti
   unfold FC at Ti
   split at Ti
   ·rename_i b h e er
    refine UY (H:=H) (m:=mm) (b:=b) (h:=h) (e:=e) (x:=y) va ex np FF (by omega) ry er λz2 z3 z4 z5 z6 H3 ex3 tY=>⟨by omega,z2,z3,z4,z5,z6,_,rfl,ex3,tY,Ti, ?_⟩
    ·have:=K8 (m:=mm) (b:=b) (h:=h) (e:=e);omega
   ·cases Ti
theorem UX {D:MN} {v0:V} {x:PV} {ys:List PV} {mfin:List (FK×Int)} (va:GP T M H) (r:CB K T M H v0 x) (hx:x= .tup ys\/x= .lst ys) (hl:2*ys.length+2<sizeLine) (hs:FC ys [] =some mfin)
 (fin:∀p H',(∀b o,H b=some o->H' b=some o)->H p=none->H' p=some (.dN K (Bu mfin))->D.rt (.ref p) H'):hZ K D [some v0,none,none,none,none,none,none] H:=by
 intro p hp
 have e1:∀b o,H b=some o->upd H p (.dN K []) b=some o:=λb o e=>by rw [Ag (Ao e hp)];exact e
 have last:∀z2 z3 z4 z5 z6 H',(∀b o,H b=some o->H' b=some o)->H' p=some (.dN K (Bu mfin))->(Zu (Fb 1)) D [some v0,some (.ref p),z2,z3,z4,z5,z6] H':=λz2 z3 z4 z5 z6 H' ex h=>⟨_,rfl,fin p H' ex hp h⟩
 rcases hx with rfl|rfl
 ·obtain ⟨a,vs,rfl,hq,rs⟩:=Cj (r.mv (va.ext e1))
  refine ⟨_,rfl,a,rfl, .inr ⟨⟨vs,hq⟩, ?_⟩⟩
  refine NZ (D:={D with nx:=(Zu (Fb 1)) D}) va hp (λH' ex=> ?_) e1 Ah hl hs last
  obtain ⟨a',vs',e,Pr,rs'⟩:=Cj (r.mv (va.ext ex))
  cases e
  refine ⟨vs',rs',λi hi=>⟨vs',vs'[i]'(by rw [rs'.length];exact hi),Pr,List.getElem?_eq_getElem _⟩,λi hi=>⟨vs',Pr,by rw [rs'.length];exact hi⟩,λi x H2 yl=>⟨yl.1,yl.2 vs' Pr⟩⟩
 ·obtain ⟨a,vs,rfl,hq,_,_,rs⟩:=DS (r.mv (va.ext e1))
  refine ⟨_,rfl,a,rfl, .inl ⟨⟨vs, .inl (.inl hq)⟩, ?_⟩⟩
  refine NZ (D:={D with nx:=(Zu (Fb 1)) D}) va hp (λH' ex=> ?_) e1 Ah hl hs last
  obtain ⟨a',vs',e,Pr,_,_,rs'⟩:=DS (r.mv (va.ext ex))
  cases e
  refine ⟨vs',rs',λi hi=>⟨vs',vs'[i]'(by rw [rs'.length];exact hi), .inl (.inl Pr),List.getElem?_eq_getElem _⟩,λi hi=>⟨vs', .inl (.inl Pr),by rw [rs'.length];exact hi⟩,λi x H2 yl=>⟨yl.1,yl.2 vs' (.inl (.inl Pr))⟩⟩
end
def G0:AF:=λxs Q=>match xs with | [x] =>Qt x λys=>2*ys.length+2<sizeLine/\∃m,FC ys [] =some m/\Q (.dct m)|_=>False
theorem Sy {xs:List PV} {Q:PV->Prop} (h:G0 xs Q):∃x ys m,xs= [x] /\(x= .tup ys\/x= .lst ys)/\2*ys.length+2<sizeLine/\FC ys [] =some m/\Q (.dct m):=by
 unfold G0 at h
 split at h
 ·obtain ⟨ys,hx,hz,m,hm,q⟩:=Hw h
  exact ⟨_,ys,m,rfl,hx,hz,hm,q⟩
 ·exact h.elim
section
variable {K:PySem.W.Frag} {T M:Addr->Prop} {H H':Hp}
theorem cj {k:Nat} {A:Around} (hr:Room k A):A.units+2<cLine:=by have:=hr.un;omega
theorem c7 (va:GP T M H) (ex:∀b o,H b=some o->H' b=some o):DM T H T H' where
 keep:=λb u _ e=>ex b u e
 sub:=λ_ t=>t
 new:=λ_ t=> .inl t
 tp:=λa t=>let ⟨d,x,e,q⟩:=va.tp a t;⟨d,x,ex _ _ e,q⟩
theorem ca {p:Addr} {m:List (FK×Int)} (va:GP T M H) (np:H p=none) (hp:H' p=some (.dN K (Bu m))):CB K T M H' (.ref p) (.dct m):=by
 refine .dct hp (λz=> ?_) (λz=> ?_)
 ·obtain ⟨o,e,_⟩:=(va.tp p z).mut
  rw [np] at e;cases e
 ·obtain ⟨o,e,_⟩:=va.mu p z
  rw [np] at e;cases e
end
end PL
end
section
namespace L2
open PySem PySem.Spec PyProof.Rows
section
variable {X:Cx} {a b:Expr} {rest:List Expr} {pos:Pos} {ta tb:TE}
end
end L2
namespace PL
open PySem PySem.Spec PyProof.Rows L2
section
variable {X:Cx} {a b:Expr} {rest:List Expr} {pos:Pos} {ta tb:AE}
end
end PL
end
section
namespace L2
open PySem PySem.Spec PyProof.Rows
section
variable {elt tg iter tg2 iter2:Expr} {ifs ifs2:List Expr} {scope:Scope} {pos:Pos} {it acc:Value} {env:Env}
theorem XH:compTurn (.ListComp elt [⟨tg,iter,ifs,0⟩,⟨tg2,iter2,ifs2,0⟩] scope pos) 0 it acc env=(do
 standAt iter.pos
 match <-pyNext it with
 | none=>pure (.done .next)
 | some v=>
   letOwnedTupleGo tg it v
   assign tg env v
   let mut ok:=true
   for c in ifs do
    if ok then ok <-isTrue c env (eval c env)
   if ok then
    let x <-eval iter2 env
    standAt iter2.pos
    let x <-foldedSetIterable iter2 env x
    let _ <-runOwn (.compStart (.ListComp elt [⟨tg,iter,ifs,0⟩,⟨tg2,iter2,ifs2,0⟩] scope pos) 1 (<-holding [x] (pyIter x)) acc env) env
   again (.compLoop (.ListComp elt [⟨tg,iter,ifs,0⟩,⟨tg2,iter2,ifs2,0⟩] scope pos) 0 it acc env)):=by rfl
theorem XI:compTurn (.ListComp elt [⟨tg,iter,ifs,0⟩,⟨tg2,iter2,ifs2,0⟩] scope pos) 1 it acc env=(do
 standAt iter2.pos
 match <-pyNext it with
 | none=>pure (.done .next)
 | some v=>
   letOwnedTupleGo tg2 it v
   assign tg2 env v
   let mut ok:=true
   for c in ifs2 do
    if ok then ok <-isTrue c env (eval c env)
   if ok then
    (do let _ <-call (.builtin "list.append") [acc,<-eval elt env])
   again (.compLoop (.ListComp elt [⟨tg,iter,ifs,0⟩,⟨tg2,iter2,ifs2,0⟩] scope pos) 1 it acc env)):=by rfl
variable {prog:Program} {w:World} {A:Around} {R:Result->Shared->Prop} {s:Shared}
theorem UT
 (h0:codeAny (model prog w) A (.compLoop (.ListComp elt [⟨tg,iter,ifs,0⟩,⟨tg2,iter2,ifs2,0⟩] scope pos) 1 it acc env) R s)
 (h:wpAny (model prog w) A (pyIter it) (λit' s'=>codeAny (model prog w) A (.compLoop (.ListComp elt [⟨tg,iter,ifs,0⟩,⟨tg2,iter2,ifs2,0⟩] scope pos) 1 it' acc env) R s')
   (notedBy (model prog w) A env λx s'=>R (.error x) s') s):
 codeAny (model prog w) A (.compStart (.ListComp elt [⟨tg,iter,ifs,0⟩,⟨tg2,iter2,ifs2,0⟩] scope pos) 1 it acc env) R s:=by
 refine codeAny_of_tree ?_
 show wpAny _ _ ((compStart (.ListComp elt [⟨tg,iter,ifs,0⟩,⟨tg2,iter2,ifs2,0⟩] scope pos) 1 it acc env).onRaise (λx=>do noteFrame x env;standAt theWindowsPlace)) _ _ s
 refine wpAny_notedAt ?_
 unfold compStart
 show wpAny _ _ (ask >>= _) _ _ s
 refine wpAny_bind (wpAny_askSetting (wpAny_ite ?_))
 split
 ·first
   | exact wpAny_bind (wpAny_pure (wpAny_pure (And.intro rfl h0)))
   | exact wpAny_pure (And.intro rfl h0)
 ·first
   | exact wpAny_bind (wpAny_rule (wpAny_bind (wpAny_standAt (wpAny_bind (wpAny_mono h (λit' s' h'=>wpAny_pure (And.intro rfl h')) λ_ _ x=>x)))))
   | (refine wpAny_bind (wpAny_rule ?_);show wpAny _ _ (standAt iter2.pos >>= _) _ _ s;exact wpAny_bind (wpAny_standAt (wpAny_bind (wpAny_mono h (λit' s' h'=>wpAny_pure (And.intro rfl h')) λ_ _ x=>x))))
end
def LQ (own:Nat) (σ:St):St:=List.replicate own none++σ.drop own
theorem KC {own:Nat} {σ:St} {j:Nat} {v:V} (h:(LQ own σ)[j]? =some (some v)):own<=j/\σ[j]? =some (some v):=by
 unfold LQ at h
 by_cases hj:j<own
 ·rw [List.getElem?_append_left (by simpa using hj),List.getElem?_replicate,if_pos hj] at h
  cases h
 ·have WU:own<=j:=by omega
  rw [List.getElem?_append_right (by simpa using WU),List.length_replicate,List.getElem?_drop] at h
  rw [show own+(j-own)=j by omega] at h
  exact ⟨WU,h⟩
theorem RS {own:Nat} {σ:St} (h:own<=σ.length):(LQ own σ).length=σ.length:=by simp [LQ];omega
def Pe (J:It) (D:Addr) (σ0:St) (g:TG) (tt:TT) (wi2:TI) (own2:Nat) (g2:TG) (tt2:TT) (te:TE) (Q:Hp->Prop) (W:Nat->Nat->Hp->Prop):Prop:=
 ∀i m H,W i m H->(J.stop i H/\Q H)\/(J.go i H/\∀x H',J.yld i H x H'->g x σ0 H' λσ2 H2=>tt σ2 H2 λok H3=>
  if ok=true then wi2 σ2 H3 λJ2 H4=>∃W2:Nat->Nat->Hp->Prop,(∃m2,W2 0 m2 H4)/\Hm J2 D (LQ own2 σ2) g2 tt2 te (λH5=>∃m',m'<m/\W (i+1) m' H5) W2 else ∃m',m'<m/\W (i+1) m' H3)
def Zt (wi:TI) (own:Nat) (ix:List Nat) (g:TG) (tt:TT) (wi2:TI) (own2:Nat) (g2:TG) (tt2:TT) (te:TE):TE:=λσ H Q=>wi σ H λJ H1=>∀D,H1 D=none->
 ∃W:Nat->Nat->Hp->Prop,(∃m,W 0 m (upd H1 D (.lst [])))/\Pe J D (Bo own ix σ) g tt wi2 own2 g2 tt2 te (Q (.ref D)) W
section
variable {X:Cx} {tg elt iter tg2 iter2:Expr} {ifs ifs2:List Expr} {scope:Scope} {pos:Pos} {wi wi2:TI} {own own2:Nat} {ix:List Nat} {N:List Str} {g g2:TG} {tt tt2:TT} {te:TE}
structure Le (X:Cx) (tg elt:Expr) (ifs:List Expr) (tg2 iter2:Expr) (ifs2:List Expr) (scope:Scope) (own:Nat) (ix:List Nat) (N:List Str) (g:TG) (tt:TT) (wi2:TI) (own2:Nat) (g2:TG) (tt2:TT) (te:TE):Prop where
 kind:scope.kind= .function
 nocell:∀y∈scope.names,y.2≠ .cell
 names:∀y∈scope.names,y.2= .local->scope.names.lookup y.1=some .local
 frees:∀y∈scope.names,y.2= .free->X.env.scope.names.lookup y.1=some .cell
 ins:ON X (relabel scope X.env) own ix N
 keep:Gb own g
 keep2:Gb own2 g2
 le2:own2<=own
 tgt:∀cl C s H ex pn,PG (blk X (relabel scope X.env) N cl C s H ex pn) tg g
 tst:∀cl C s H ex pn,Ui (blk X (relabel scope X.env) N cl C s H ex pn) ifs tt
 itr2:∀cl C s H ex pn,PI (blk X (relabel scope X.env) N cl C s H ex pn) tg2 iter2 wi2
 set2:∀cl C s H ex pn x,foldedSetIterable iter2 (blk X (relabel scope X.env) N cl C s H ex pn).env x=pure x
 tgt2:∀cl C s H ex pn,PG (blk X (relabel scope X.env) N cl C s H ex pn) tg2 g2
 tst2:∀cl C s H ex pn,Ui (blk X (relabel scope X.env) N cl C s H ex pn) ifs2 tt2
 val:∀cl C s H ex pn,PE (blk X (relabel scope X.env) N cl C s H ex pn) elt te
theorem ah {Y:Cx} {c0:Comprehension} {pins:List (Addr×Obj)} {σ0:St} {fp:List Addr} {it:Addr} {tn:Nat->Heap->Prop} {J:It} {D:Addr} {R:Result->Shared->Prop} {Qh:Hp->Prop} {W:Nat->Nat->Hp->Prop}
 (tq:∀it acc,compTurn (.ListComp elt [c0,⟨tg2,iter2,ifs2,0⟩] scope pos) 1 it acc Y.env=(do
   standAt iter2.pos
   match <-pyNext it with
   | none=>pure (.done .next)
   | some v=>
     letOwnedTupleGo tg2 it v
     assign tg2 Y.env v
     let mut ok:=true
     for c in ifs2 do
      if ok then ok <-isTrue c Y.env (eval c Y.env)
     if ok then
      (do let _ <-call (.builtin "list.append") [acc,<-eval elt Y.env])
     again (.compLoop (.ListComp elt [c0,⟨tg2,iter2,ifs2,0⟩] scope pos) 1 it acc Y.env)))
 (eX:Y.xe=λ_ _=>False) (eC:Y.calm=true) (hg:PG Y tg2 g2) (hk:Gb own2 g2) (ht:Ui Y ifs2 tt2) (hv:PE Y elt te) (T:J7 Y.prog Y.w Y.K tg2 J fp it tn)
 (sZ:∀j v,σ0[j]? =some (some v)->own2<=j) (stat:∀{H':Hp},(∀b∈fp,H' b=none)->∀b∈fp,Db Y pins H' b)
 (hW:Hm J D σ0 g2 tt2 te Qh W) (hR:∀H' s',Inv Y pins σ0 H' s'->Qh H'->R (.ok .next) s')
 (n:Nat) (s0:Shared) (h0:∃i H',Inv Y pins σ0 H' s0/\tn i s0.heap/\(∀b∈fp,H' b=none)/\W i n H'):
 codeAny (model Y.prog Y.w) Y.A (.compLoop (.ListComp elt [c0,⟨tg2,iter2,ifs2,0⟩] scope pos) 1 (.ref it) (.ref D) Y.env) R s0:=by
 refine codeAny_loop rfl (λn s'=>∃i H',Inv Y pins σ0 H' s'/\tn i s'.heap/\(∀b∈fp,H' b=none)/\W i n H') (λn s1 h1=> ?_) n h0
 obtain ⟨i,H1,B1,st1,fr1,w1⟩:=h1
 show wpAny _ _ ((compTurn (.ListComp elt [c0,⟨tg2,iter2,ifs2,0⟩] scope pos) 1 (.ref it) (.ref D) Y.env).onRaise (λx=>do noteFrame x Y.env;theTreesLotGoes x)) _ _ s1
 refine wpAny_noted ?_
 rw [tq]
 have ff:∀{α:Type} {t:Sem α} {Q:α->Shared->Prop} {E:Value->Shared->Prop} {s:Shared},wpAny (model Y.prog Y.w) Y.A t Q Y.xe s->wpAny (model Y.prog Y.w) Y.A t Q E s:=λh=>wpAny_mono h (λ_ _ q=>q) λ_ _ z=>by rw [eX] at z;exact z.elim
 refine wpAny_bind (wpAny_standAt (wpAny_bind ?_))
 rcases hW i n H1 w1 with ⟨stop,qn⟩|⟨go,step⟩
 ·refine BS (T.done Y rfl rfl rfl eC i pins s1 _ H1 _ B1 (stat fr1) st1 stop) λr s4 ⟨hr,I4⟩=> ?_
  subst hr
  exact wpAny_pure (hR _ _ I4 qn)
 ·refine BS (T.item Y rfl rfl rfl eC i pins s1 _ H1 _ B1 (stat fr1) st1 go) λr s4 ⟨u,hr,h4⟩=> ?_
  subst hr
  refine wpAny_bind (BS h4 λ_ s5 ⟨x,H5,I5,r5,y5,st5,fr5⟩=> ?_)
  have I5':=I5.pinned (stat fr5) (T.obj _ _ st5)
  refine wpAny_bind (BS (ff (hg _ s5 _ H5 x u _ I5' r5 (hk _ _ _ _ (step x H5 y5)))) λ_ s6 ⟨σ6,H6,I6,q6,l6,k6⟩=> ?_)
  refine wpAny_bind (BS (ff (ht _ s6 σ6 H6 _ I6 q6)) λok s7 ⟨H7,I7,q7⟩=> ?_)
  have back:∀{H8:Hp} {s8:Shared} {m':Nat},Inv Y (pins++E8 fp s5.heap) σ6 H8 s8->m'<n->W (i+1) m' H8->
   ∃m,m<n/\∃i H',Inv Y pins σ0 H' s8/\tn i s8.heap/\(∀b∈fp,H' b=none)/\W i m H':=λ{H8 s8 m'} I8 hm w8=>by
   refine ⟨m',hm,i+1,H8,I8.unpinned.weak l6.symm (λj v hj=> ?_),T.keep _ _ _ st5 λb hb o e=>(I8.pin (b,o) (List.mem_append_right _ (List.mem_append_right _ (Bt hb e)))).1,λb hb=> ?_,w8⟩
   ·rw [k6 j (sZ j v hj)]
    exact hj
   ·obtain ⟨o,e,d⟩:=T.obj _ _ st5 b hb
    exact (I8.pin (b,o) (List.mem_append_right _ (List.mem_append_right _ (Bt hb e)))).2.1
  cases ok with
  | false=>
    obtain ⟨m',hm,w8⟩:=q7
    exact wpAny_pure ⟨rfl,back I7 hm w8⟩
  | true=>
    refine wpAny_bind (wpAny_bind (BS (ff (hv _ s7 σ6 H7 _ I7 q7)) λyv s8 ⟨y,H8,I8,r8,ys,hD,hz,m',hm,w8⟩=> ?_))
    refine wpAny_bind (BS (ff (G3 _ s8 σ6 H8 (.ref D) [y] (.ref D) [yv] (λ_ H9=>H9=upd H8 D (.lst (ys ++ [y]))) I8 rfl (.cons r8 .nil) ⟨D,ys,y,rfl,rfl,hD,hz,rfl⟩)) λ_ s9 ⟨_,H9,I9,_,e9⟩=> ?_)
    subst e9
    exact wpAny_pure (wpAny_pure ⟨rfl,back I9 hm w8⟩)
theorem TH {pins:List (Addr×Obj)} {σ:St} {H:Hp} {s:Shared} {fp:List Addr} {cl:List (Str×Addr)} {it:Addr} {tn:Nat->Heap->Prop} {J:It} {D:Addr} {R:Result->Shared->Prop} {Qh:Hp->Prop} {W:Nat->Nat->Hp->Prop}
 (hc:X.calm=true) (O:Le X tg elt ifs tg2 iter2 ifs2 scope own ix N g tt wi2 own2 g2 tt2 te) (T:J7 X.prog X.w X.K tg J fp it tn) (I:Inv X pins σ H s) (hf:∀b∈fp,Db X pins H b) (Dk:∀b∈fp,b<s.heap.objs.size)
 (hW:Pe J D (Bo own ix σ) g tt wi2 own2 g2 tt2 te Qh W)
 (hR:∀σ' H' s',Inv (blk X (relabel scope X.env) N cl s.heap.objs.size s H fp (X.pn++pins)) [] σ' H' s'->Qh H'->R (.ok .next) s')
 (n:Nat) (s0:Shared) (h0:∃i H',Inv (blk X (relabel scope X.env) N cl s.heap.objs.size s H fp (X.pn++pins)) [] (Bo own ix σ) H' s0/\tn i s0.heap/\(∀b∈fp,H' b=none)/\W i n H'):
 codeAny (model X.prog X.w) X.A (.compLoop (.ListComp elt [⟨tg,iter,ifs,0⟩,⟨tg2,iter2,ifs2,0⟩] scope pos) 0 (.ref it) (.ref D) (E4 X.env (relabel scope X.env) cl s.heap.objs.size)) R s0:=by
 refine codeAny_loop rfl (λn s'=>∃i H',Inv (blk X (relabel scope X.env) N cl s.heap.objs.size s H fp (X.pn++pins)) [] (Bo own ix σ) H' s'/\tn i s'.heap/\(∀b∈fp,H' b=none)/\W i n H') (λn s1 h1=> ?_) n h0
 obtain ⟨i,H1,B1,st1,fr1,w1⟩:=h1
 have lenS:own2<=(Bo own ix σ).length:=by rw [KB];exact Nat.le_trans O.le2 (Nat.le_add_right _ _)
 generalize hY:blk X (relabel scope X.env) N cl s.heap.objs.size s H fp (X.pn++pins)=Y at *
 have eA:Y.A=X.A:=by rw [<-hY];rfl
 have eP:Y.prog=X.prog:=by rw [<-hY];rfl
 have eW:Y.w=X.w:=by rw [<-hY];rfl
 have eK:Y.K=X.K:=by rw [<-hY];rfl
 have eE:E4 X.env (relabel scope X.env) cl s.heap.objs.size=Y.env:=by rw [<-hY];rfl
 have eX:Y.xe=λ_ _=>False:=by rw [<-hY];rfl
 have eC:Y.calm=true:=by rw [<-hY];exact hc
 have hg:PG Y tg g:=by rw [<-hY];exact O.tgt _ _ _ _ _ _
 have ht:Ui Y ifs tt:=by rw [<-hY];exact O.tst _ _ _ _ _ _
 have mj:PI Y tg2 iter2 wi2:=by rw [<-hY];exact O.itr2 _ _ _ _ _ _
 have Qr:∀x,foldedSetIterable iter2 Y.env x=pure x:=by rw [<-hY];exact O.set2 _ _ _ _ _ _
 have fT:PG Y tg2 g2:=by rw [<-hY];exact O.tgt2 _ _ _ _ _ _
 have nE:Ui Y ifs2 tt2:=by rw [<-hY];exact O.tst2 _ _ _ _ _ _
 have hv:PE Y elt te:=by rw [<-hY];exact O.val _ _ _ _ _ _
 have stat:∀{H':Hp},(∀b∈fp,H' b=none)->∀b∈fp,Db Y [] H' b:=λ{H'} hn b hb=>by
  obtain ⟨_,a1,a2,a3,a4,a5⟩:=hf b hb
  refine ⟨hn b hb, ?_, ?_, ?_, ?_, ?_⟩
  ·rw [<-hY];exact Nat.ne_of_lt (Dk b hb)
  ·rw [<-hY];exact I.notStk a1 a2
  ·rw [<-hY];exact .inl hb
  ·intro x c e
   exact (B1.ok.exf b (by rw [<-hY];exact hb)).2 x c e
  ·intro p hp
   have:p∈X.pn++pins:=by rw [<-hY] at hp;simpa [blk] using hp
   exact a5 p this
 rw [eE,<-eA,<-eP,<-eW]
 show wpAny _ _ ((compTurn (.ListComp elt [⟨tg,iter,ifs,0⟩,⟨tg2,iter2,ifs2,0⟩] scope pos) 0 (.ref it) (.ref D) Y.env).onRaise (λx=>do noteFrame x Y.env;theTreesLotGoes x)) _ _ s1
 refine wpAny_noted ?_
 rw [XH]
 have ff:∀{α:Type} {t:Sem α} {Q:α->Shared->Prop} {E:Value->Shared->Prop} {s:Shared},wpAny (model Y.prog Y.w) Y.A t Q Y.xe s->wpAny (model Y.prog Y.w) Y.A t Q E s:=λh=>wpAny_mono h (λ_ _ q=>q) λ_ _ z=>by rw [eX] at z;exact z.elim
 refine wpAny_bind (wpAny_standAt (wpAny_bind ?_))
 rcases hW i n H1 w1 with ⟨stop,qn⟩|⟨go,step⟩
 ·have zd:=λE=>T.done Y eP eW eK eC i [] s1 _ H1 E B1 (stat fr1) st1 stop
  rw [<-eP,<-eW] at zd
  refine BS (zd _) λr s4 ⟨hr,I4⟩=> ?_
  subst hr
  exact wpAny_pure (hR _ _ _ I4 qn)
 ·have zi:=λE=>T.item Y eP eW eK eC i [] s1 _ H1 E B1 (stat fr1) st1 go
  rw [<-eP,<-eW] at zi
  refine BS (zi _) λr s4 ⟨u,hr,h4⟩=> ?_
  subst hr
  refine wpAny_bind (BS h4 λ_ s5 ⟨x,H5,I5,r5,y5,st5,fr5⟩=> ?_)
  have I5':=I5.pinned (stat fr5) (T.obj _ _ st5)
  refine wpAny_bind (BS (ff (hg _ s5 _ H5 x u _ I5' r5 (O.keep _ _ _ _ (step x H5 y5)))) λ_ s6 ⟨σ6,H6,I6,q6,l6,k6⟩=> ?_)
  refine wpAny_bind (BS (ff (ht _ s6 σ6 H6 _ I6 q6)) λok s7 ⟨H7,I7,q7⟩=> ?_)
  have back:∀{σ8:St} {H8:Hp} {s8:Shared} {m':Nat},Inv Y ([] ++ E8 fp s5.heap) σ8 H8 s8->σ8.length=σ6.length->(∀j v,own<=j->σ6[j]? =some (some v)->σ8[j]? =some (some v))->m'<n->W (i+1) m' H8->
   ∃m,m<n/\∃i H',Inv Y [] (Bo own ix σ) H' s8/\tn i s8.heap/\(∀b∈fp,H' b=none)/\W i m H':=λ{σ8 H8 s8 m'} I8 hl tj hm w8=>by
   refine ⟨m',hm,i+1,H8,I8.unpinned.weak (hl.trans l6).symm (λj v hj=> ?_),T.keep _ _ _ st5 λb hb o e=>(I8.pin (b,o) (List.mem_append_right _ (List.mem_append_right _ (Bt hb e)))).1,λb hb=> ?_,w8⟩
   ·have pw:=(ES hj).1
    exact tj j v pw (by rw [k6 j pw];exact hj)
   ·obtain ⟨o,e,d⟩:=T.obj _ _ st5 b hb
    exact (I8.pin (b,o) (List.mem_append_right _ (List.mem_append_right _ (Bt hb e)))).2.1
  cases ok with
  | false=>
    obtain ⟨m',hm,w8⟩:=q7
    exact wpAny_pure ⟨rfl,back I7 rfl (λ_ _ _ z=>z) hm w8⟩
  | true=>
    rw [if_pos rfl] at q7
    refine wpAny_bind (BS (ff (mj _ s7 σ6 H7 _ I7 q7)) λv2 s8 bO=> ?_)
    refine wpAny_bind (wpAny_standAt (wpAny_bind (wpAny_of_eq (Qr v2) (wpAny_bind (wpAny_holding (BS (ff bO) λitv s9 t0=> ?_))))))
    obtain ⟨it2,fp2,tn2,J2,H9,rfl,I9,T2,st9,f9,W2,⟨m2,w2⟩,sw⟩:=t0
    have I9':Inv Y ([] ++ E8 fp s5.heap) (LQ own2 σ6) H9 s9:=I9.weak (RS (by rw [l6];exact lenS)) (λj v hj=>(KC hj).2)
    have loop:codeAny (model Y.prog Y.w) Y.A (.compLoop (.ListComp elt [⟨tg,iter,ifs,0⟩,⟨tg2,iter2,ifs2,0⟩] scope pos) 1 (.ref it2) (.ref D) Y.env) (λr s'=>match r with | .ok f=>∃m,m<n/\∃i H',Inv Y [] (Bo own ix σ) H' s'/\tn i s'.heap/\(∀b∈fp,H' b=none)/\W i m H' | .error e=>cameBackBy (model Y.prog Y.w) Y.A Y.env (notedBy (model Y.prog Y.w) Y.A Y.env λx s'=>R (.error x) s') e s') s9:=by
     refine ah (own2:=own2) (pins:= [] ++ E8 fp s5.heap) (λ_ _=>XI) eX eC fT O.keep2 nE hv T2 (λj v hj=>(KC hj).1) (λhn b hb=>⟨hn b hb,(f9 b hb).2⟩) sw (λH' s' I' q'=> ?_) m2 s9 ⟨0,H9,I9',st9,λb hb=>(f9 b hb).1,w2⟩
     obtain ⟨m',hm,w8⟩:=q'
     refine back I' (RS (by rw [l6];exact lenS)) (λj v hj e=> ?_) hm w8
     have sf:own2<=j:=Nat.le_trans O.le2 hj
     unfold LQ
     rw [List.getElem?_append_right (by simpa using sf),List.length_replicate,List.getElem?_drop,show own2+(j-own2)=j by omega]
     exact e
    refine wpAny_bind (wpAny_runOwn (h:=none) (UT ?_ ?_))
    ·exact codeAny_mono loop (λr s' h'=>by
      cases r with
      | ok f=>exact wpAny_pure ⟨rfl,h'⟩
      | error e=>exact h')
    ·exact T2.self _ 0 _ _ _ st9 (codeAny_mono loop (λr s' h'=>by
      cases r with
      | ok f=>exact wpAny_pure ⟨rfl,h'⟩
      | error e=>exact h'))
theorem WH {pins:List (Addr×Obj)} {σ:St} {H:Hp} {s:Shared} {use:Option (Value->Sem Unit)} {Q:Value->Shared->Prop} {it:Addr} {fp:List Addr} {cl:List (Str×Addr)} {tn:Nat->Heap->Prop} {J:It} {Qd:Addr->Hp->Prop}
 (hc:X.calm=true) (O:Le X tg elt ifs tg2 iter2 ifs2 scope own ix N g tt wi2 own2 g2 tt2 te) (T:J7 X.prog X.w X.K tg J fp it tn) (I:Inv X pins σ H s) (hf:∀b∈fp,Db X pins H b) (st:tn 0 s.heap)
 (h1:∀y c,cl.lookup y=some c->X.env.cells.lookup y=some c) (h2:∀y,(y,NameKind.free)∈scope.names->∃c,cl.lookup y=some c)
 (hq:∀D,H D=none->∃W:Nat->Nat->Hp->Prop,(∃m,W 0 m (upd H D (.lst [])))/\Pe J D (Bo own ix σ) g tt wi2 own2 g2 tt2 te (Qd D) W)
 (hR:∀D C H' s',(∃m,s'.heap.Ns C m)->Inv X pins σ H' s'->(∀σ2 s2,Inv X pins σ2 H' s2->∀h',Heap.SameBut C s2.heap h'->Inv X pins σ2 H' {s2 with heap:=h'})->C≠X.env.locals->(∀x c,X.env.cells.lookup x=some c->C≠c)->Qd D H'->
   compPost (model X.prog X.w) X.A X.xe use Q (.ref D) C (.ok .next) s'):
 wpAny (model X.prog X.w) X.A (newList []) (λacc s₃=>wpAny (model X.prog X.w) X.A (newFunctionEnv scope X.env.globals cl [] X.env.qual none .none (some X.env)) (λcenv s₄=>
  codeAny (model X.prog X.w) X.A (.compStart (.ListComp elt [⟨tg,iter,ifs,0⟩,⟨tg2,iter2,ifs2,0⟩] scope pos) 0 (.ref it) acc {cenv with scope:=relabel scope X.env}) (compPost (model X.prog X.w) X.A X.xe use Q acc cenv.locals) s₄) X.xe s₃) X.xe s:=by
 refine wpAny_newObj_type ?_ (by simp [sizeOk])
 have I3:Inv X pins σ (upd H s.heap.objs.size (.lst [])) {s with heap:=s.heap.push {cls:= .type "list",data:= .seq ([] :List Value).toArray}}:=I.lnew (t':=s.toks) .nil (Nat.zero_le _)
 have Tf:=I.fresh
 obtain ⟨W,⟨m0,w0⟩,hW⟩:=hq _ Tf
 have YX:∀b∈fp,b<s.heap.objs.size:=λb hb=>by
  obtain ⟨o,e,_⟩:=T.obj _ _ st b hb
  exact Heap.lt_size e
 have U7:∀b∈fp,Db X pins (upd H s.heap.objs.size (.lst [])) b:=λb hb=>by
  obtain ⟨a0,ar⟩:=hf b hb
  exact ⟨by rw [Ag (Nat.ne_of_lt (YX b hb))];exact a0,ar⟩
 generalize jd:({s with heap:=s.heap.push {cls:= .type "list",data:= .seq ([] :List Value).toArray}}:Shared)=s3 at I3
 have st3:tn 0 s3.heap:=T.keep _ _ _ st λb hb o e=>by rw [<-jd];exact Heap.get?_push_of_some _ e
 have Dk:∀b∈fp,b<s3.heap.objs.size:=λb hb=>by
  obtain ⟨o,e,_⟩:=T.obj _ _ st3 b hb
  exact Heap.lt_size e
 refine wpAny_newFunctionEnv O.nocell (by intro y hy;simp at hy) (λh₁ db nB=> ?_) O.kind
 have kp:∀b o,s3.heap.get? b=some o->h₁.get? b=some o:=λb o e=>nB.extBut b o (Nat.ne_of_lt (Heap.lt_size e)) (Heap.get?_push_of_some _ e)
 have jW:∀y,((relabel scope X.env).names.lookup y=some .cell\/(relabel scope X.env).names.lookup y=some .free)->∃c,cl.lookup y=some c:=λy hy=>by
  rcases hy with z|z
  ·exact h2 y (Em O.nocell (Gk z) (.inl rfl))
  ·exact h2 y (Em O.nocell (Gk z) (.inr rfl))
 have B:=X0 (N:=N) (t':=s3.toks+([] :List (Str×Value)).length) I3 U7 Dk (sc:=relabel scope X.env) O.kind h1 jW O.ins db kp
 have st4:tn 0 h₁:=T.keep _ _ _ st3 λb hb o e=>kp b o e
 have loop:∀s4:Shared,s4={s3 with heap:=h₁,toks:=s3.toks+([] :List (Str×Value)).length}->
  codeAny (model X.prog X.w) X.A (.compLoop (.ListComp elt [⟨tg,iter,ifs,0⟩,⟨tg2,iter2,ifs2,0⟩] scope pos) 0 (.ref it) (.ref s.heap.objs.size) (E4 X.env (relabel scope X.env) cl s3.heap.objs.size)) (compPost (model X.prog X.w) X.A X.xe use Q (.ref s.heap.objs.size) s3.heap.objs.size) s4:=by
  rintro s4 rfl
  refine TH (cl:=cl) (Qh:=Qd s.heap.objs.size) hc O T I3 U7 Dk hW (λσ' H' s' B' q'=> ?_) m0 _ ⟨0,_,B,st4,λb hb=>(U7 b hb).1,w0⟩
  refine hR _ _ H' s' (let ⟨m,hm,_⟩:=B'.loc;⟨m,hm⟩) (Up (own:=own) (ix:=ix) I3 U7 Dk B') (λσ2 s2 I2 h' hs=>Mb I3 rfl I2 B'.free hs) (Nat.ne_of_gt I3.lt) (λx c e=>Nat.ne_of_gt (I3.szLt e)) q'
 exact codeAny_compStart_list (loop _ rfl) (T.self _ 0 _ _ _ st4 (loop _ rfl))
theorem Yz (hc:X.calm=true) (hi:PI X tg iter wi) (O:Le X tg elt ifs tg2 iter2 ifs2 scope own ix N g tt wi2 own2 g2 tt2 te) (hs:∀x,foldedSetIterable iter X.env x=pure x:=by intro _;rfl):
 PE X (.ListComp elt [⟨tg,iter,ifs,0⟩,⟨tg2,iter2,ifs2,0⟩] scope pos) (Zt wi own ix g tt wi2 own2 g2 tt2 te):=by
 intro pins s σ H Q I h
 obtain ⟨cl,Mn,h1,h2⟩:=Fk (env:=X.env) (scope:=scope) λy hy e=>I.ok.has y.1 (.inl (O.frees y hy e))
 rw [eval_ListComp]
 refine wpAny_comprehension_free (use:=none) rfl hs Mn O.kind O.names (BS (hi pins s σ H _ I h) λv s1 hv=>BS hv λitv s2 bO=> ?_)
 obtain ⟨it,fp,tn,J,H2,rfl,I2,T,st2,f2,q⟩:=bO
 exact WH (Qd:=λD H'=>Q (.ref D) H') hc O T I2 f2 st2 h1 h2 q λD C H' s' hn I' gone nl nc q'=>by
  obtain ⟨m,hm⟩:=hn
  exact ⟨m,hm,λh' hs=>⟨.ref D,H',gone σ s' I' h' hs,rfl,q'⟩⟩
end
end L2
end
section
namespace PL
open PySem PySem.Spec PyProof.Rows L2
def Me (own:Nat) (τ:BB):BB:=List.replicate own none++τ.drop own
def Ho (g:AG) (t:AT) (ai2:AI) (own2:Nat) (g2:AG) (t2:AT) (te:AE) (τ0:BB) (Q:List PV->Prop):List PV->List PV->Prop
 | [],acc=>Q acc
 | x::r,acc=>g x τ0 λτ1=>t τ1 λok=>if ok=true then ai2 τ1 λys=>acc.length+ys.length<sizeLine/\CS g2 t2 te (Me own2 τ1) (Ho g t ai2 own2 g2 t2 te τ0 Q r) ys acc else Ho g t ai2 own2 g2 t2 te τ0 Q r acc
def MU (ai:AI) (own:Nat) (ix:List Nat) (g:AG) (t:AT) (ai2:AI) (own2:Nat) (g2:AG) (t2:AT) (te:AE):AA:=λτ Q=>ai τ λxs=>Ho g t ai2 own2 g2 t2 te (Ih own ix τ) Q xs []
theorem SR.noOwn {K:PySem.W.Frag} {B:Ch} {T:Addr->Prop} {H:Hp} {σ:L2.St} {τ:BB} (s:SR K B T H σ τ) (VB:∀b,¬Cr σ τ b) {i:Nat} {xs:List PV}:τ[i]? ≠some (some (.own xs)):=λe=>by
 obtain ⟨p,vs,e2,_⟩:=s.own i xs e
 exact VB p ⟨i,xs,e,e2⟩
theorem SR.swap {K:PySem.W.Frag} {B:Ch} {T6 T7:Addr->Prop} {H6 H7:Hp} {σ σ0:L2.St} {τ τ0:BB} (s6:SR K B T6 H6 σ τ) (VB:∀b,¬Cr σ τ b) (s7:SR K B T7 H7 σ0 τ0) (mv:Mv K T6 (mt B σ τ) H6 T7 (mt B σ τ) H7):SR K B T7 H7 σ τ:=
 ⟨s6.len,λi x e=>let ⟨v,h,r⟩:=s6.val i x e;⟨v,h,r.mv mv⟩,λi xs e=>absurd e (s6.noOwn VB),λi j xs ys p e=>absurd e (s6.noOwn VB),s7.tp,s7.bm,s7.bt,s7.st⟩
theorem Il {own:Nat} {τ:BB} {j:Nat} {x:AV} (h:(Me own τ)[j]? =some (some x)):own<=j/\τ[j]? =some (some x):=by
 unfold Me at h
 by_cases hj:j<own
 ·rw [List.getElem?_append_left (by simpa using hj),List.getElem?_replicate,if_pos hj] at h
  cases h
 ·have WU:own<=j:=by omega
  rw [List.getElem?_append_right (by simpa using WU),List.length_replicate,List.getElem?_drop] at h
  rw [show own+(j-own)=j by omega] at h
  exact ⟨WU,h⟩
theorem SR.cut {K:PySem.W.Frag} {B:Ch} {T:Addr->Prop} {H:Hp} {σ:L2.St} {τ:BB} {own:Nat} (s:SR K B T H σ τ) (VB:∀b,¬Cr σ τ b):SR K B T H (LQ own σ) (Me own τ)/\∀b,¬Cr (LQ own σ) (Me own τ) b:=by
 have ja:∀b,¬Cr (LQ own σ) (Me own τ) b:=λb ⟨i,xs,e1,e2⟩=>VB b ⟨i,xs,(Il e1).2,(KC e2).2⟩
 refine ⟨⟨by simp [LQ,Me,s.len],λi x e=> ?_,λi xs e=>absurd (Il e).2 (s.noOwn VB),λi j xs ys p e=>absurd (Il e).2 (s.noOwn VB),s.tp,s.bm,s.bt,s.st⟩,ja⟩
 obtain ⟨WU,e2⟩:=Il e
 obtain ⟨v,hv,r⟩:=s.val i x e2
 refine ⟨v, ?_,r.mv (.anti s.va λa z=>z.elim .inl λz=>absurd z (ja a))⟩
 unfold LQ
 rw [List.getElem?_append_right (by simpa using WU),List.length_replicate,List.getElem?_drop,show own+(i-own)=i by omega]
 exact hv
structure Nv (D:Addr) (T:Addr->Prop) (H:Hp) (T':Addr->Prop) (H':Hp):Prop where
 keep:∀b o,¬T b->b≠D->H b=some o->H' b=some o
 sub:∀b,T b->T' b
 new:∀b,T' b->T b\/H b=none
 tp:∀b,H b≠none->H' b≠none
theorem Nv.refl {D:Addr} {T:Addr->Prop} {H:Hp}:Nv D T H T H:=⟨λ_ _ _ _ e=>e,λ_ e=>e,λ_ e=> .inl e,λ_ e=>e⟩
theorem DM.atD {D:Addr} {T T':Addr->Prop} {H H':Hp} (s:DM T H T' H'):Nv D T H T' H':=⟨λb o t _ e=>s.keep b o t e,s.sub,s.new,λb e=>s.some e⟩
theorem Nv.upd {D:Addr} {T:Addr->Prop} {H:Hp} {o:HO}:Nv D T H T (upd H D o):=⟨λb o' _ n e=>by rw [Ag n];exact e,λ_ e=>e,λ_ e=> .inl e,λb e=>by
 by_cases h:b=D
 ·subst h;rw [Ah];exact λz=>nomatch z
 ·rw [Ag h];exact e⟩
theorem Nv.trans {D:Addr} {T T1 T2:Addr->Prop} {H H1 H2:Hp} (a:Nv D T H T1 H1) (b:Nv D T1 H1 T2 H2):Nv D T H T2 H2 where
 keep:=λx o t n e=>b.keep x o (λz=>(a.new x z).elim t λz=>by rw [e] at z;cases z) n (a.keep x o t n e)
 sub:=λx t=>b.sub x (a.sub x t)
 new:=λx t=>(b.new x t).elim (λz=>a.new x z) λz=> .inr (by
  cases e:H x with
  | none=>rfl
  | some o=>exact absurd z (a.tp x (by rw [e];exact λz=>nomatch z)))
 tp:=λx e=>b.tp x (a.tp x e)
theorem XB {K:PySem.W.Frag} {s:Bool} {wi wi2:TI} {ai ai2:AI} {own own2:Nat} {ix:List Nat} {g g2:TG} {ag ag2:AG} {tt tt2:TT} {at' at2:AT} {te:TE} {ta:AE} (hi:V4 K s wi ai) (hg:Ic K g ag) (ht:LO K tt at') (mj:V4 K true wi2 ai2) (fT:Ic K g2 ag2) (nE:LO K tt2 at2) (he:Fj K te ta):
 Xr K (Zt wi own ix g tt wi2 own2 g2 tt2 te) (MU ai own ix ag at' ai2 own2 ag2 at2 ta):=by
 intro B T σ τ H Q AQ sr h k
 refine hi B T σ τ H _ _ sr h λJ xs T1 H1 s1 walk h1 D hD=> ?_
 have sr1:=sr.stp s1
 have nt1:¬T1 D:=λz=>by obtain ⟨o,e,_⟩:=(sr1.tp D z).mut;rw [hD] at e;cases e
 have lay:=DM.lay (o:= .lst []) sr1.tp hD
 refine ⟨λi m H2=>m=xs.length-i/\∃T2 vs acc,DM T1 H1 T2 H2/\H2 D=some (.lst vs)/\¬T2 D/\Az K T2 (λa=>mt B σ τ a\/a=D) H2 vs acc/\Ho ag at' ai2 own2 ag2 at2 ta (Ih own ix τ) AQ (xs.drop i) acc,
  ⟨_,rfl,T1, [], [],lay,Ah,nt1, .nil,h1⟩, ?_⟩
 rintro i m H2 ⟨rfl,T2,vs,acc,s2,bD,nt2,r2,h2⟩
 have srb:=sr1.blk (own:=own) (ix:=ix) s2 hD bD nt2
 have va2:GP T2 (λa=>mt B σ τ a\/a=D) H2:=⟨srb.tp,srb.bm⟩
 have w:=walk (λa=>mt B σ τ a\/a=D) T2 H2 ⟨sr1.va,λb o t _ e=>s2.keep b o t e,s2.sub,λb n t=>(s2.new b t).elim id λz=>absurd z n,λb n z=>z.elim id λz=>by subst z;exact absurd hD n⟩ va2 (.inr s2.keep)
 by_cases Dk:i<xs.length
 ·have Rj:xs[i]? =some xs[i] :=List.getElem?_eq_getElem Dk
  rw [List.drop_eq_getElem_cons Dk] at h2
  refine .inr ⟨w.go i _ Rj,λv H3 yl=> ?_⟩
  obtain ⟨s3,r3⟩:=w.yld i _ v H3 Rj yl
  have sr3:=srb.stp s3
  refine hg _ T2 _ _ H3 v _ _ _ sr3 (r3.mv (.anti ⟨sr3.tp,sr3.bm⟩ λa z=>z.elim id λ⟨_,_,z,_⟩=>absurd z FT)) h2 λσ4 τ4 sr4 o4 h4=> ?_
  have no4:∀b,¬Cr σ4 τ4 b:=λb z=>by obtain ⟨_,_,z,_⟩:=o4 b z;exact absurd z FT
  refine ht _ T2 σ4 τ4 H3 _ _ sr4 h4 λok T5 H5 s5 h5=> ?_
  have sr5:=sr4.stp s5
  have fP:=s3.keep D _ nt2 bD
  have bE:=s5.keep D _ nt2 fP
  have nt5:¬T5 D:=λz=>(s5.new D z).elim nt2 λn=>by rw [n] at fP;cases fP
  have r5:=(r2.stp s3 va2).stp s5 ⟨sr3.tp,sr3.bm⟩
  cases ok with
  | false=>
    rw [if_neg Bool.false_ne_true] at h5 ⊢
    exact ⟨_,by omega,rfl,T5,vs,acc,(s2.trans s3).trans s5,bE,nt5,r5,h5⟩
  | true=>
    rw [if_pos rfl] at h5 ⊢
    refine mj _ T5 σ4 τ4 H5 _ _ sr5 h5 λJ2 ys T6 H6 s6 walk2 h6=> ?_
    obtain ⟨hl,h6⟩:=h6
    have sr6:=sr5.stp s6
    have mV:=s6.keep D _ nt5 bE
    have nt6:¬T6 D:=λz=>(s6.new D z).elim nt5 λn=>by rw [n] at bE;cases bE
    have va6:GP T6 (λa=>mt B σ τ a\/a=D) H6:=⟨sr6.tp,sr6.bm⟩
    have r6:=r5.stp s6 ⟨sr5.tp,sr5.bm⟩
    have s06:=((s2.trans s3).trans s5).trans s6
    refine ⟨λi2 m2 H7=>m2=ys.length-i2/\∃T7 vs7 acc7,DM T1 H1 T7 H7/\Nv D T6 H6 T7 H7/\H7 D=some (.lst vs7)/\¬T7 D/\Az K T7 (λa=>mt B σ τ a\/a=D) H7 vs7 acc7/\acc7.length<=acc.length+i2/\
     CS ag2 at2 ta (Me own2 τ4) (Ho ag at' ai2 own2 ag2 at2 ta (Ih own ix τ) AQ (xs.drop (i+1))) (ys.drop i2) acc7,
     ⟨_,rfl,T6,vs,acc,s06, .refl,mV,nt6,r6,Nat.le_refl _,h6⟩, ?_⟩
    rintro i2 m2 H7 ⟨rfl,T7,vs7,acc7,s7,d7,mW,nt7,r7,uo,h7⟩
    have srb7:=sr1.blk (own:=own) (ix:=ix) s7 hD mW nt7
    have mEq:∀a,mt (B.blk σ τ D) σ4 τ4 a->mt B σ τ a\/a=D:=λa z=>z.elim id λz=>absurd z (no4 a)
    have mv7:Mv K T6 (mt (B.blk σ τ D) σ4 τ4) H6 T7 (mt (B.blk σ τ D) σ4 τ4) H7:=⟨sr6.va,λb o t m e=>d7.keep b o t (λz=>m (.inl (.inr z))) e,d7.sub,λb n t=>(d7.new b t).elim id λz=>absurd z n,λ_ _ z=>z⟩
    have mv7':Mv K T6 (mt (B.blk σ τ D) σ4 τ4) H6 T7 (λa=>mt B σ τ a\/a=D) H7:=⟨sr6.va,λb o t m e=>d7.keep b o t (λz=>m (.inl (.inr z))) e,d7.sub,λb n t=>(d7.new b t).elim id λz=>absurd z n,λ_ _ z=> .inl z⟩
    have sr7:=sr6.swap no4 srb7 mv7
    have va7:GP T7 (λa=>mt B σ τ a\/a=D) H7:=⟨srb7.tp,srb7.bm⟩
    obtain ⟨sc7,no7⟩:=sr7.cut (own:=own2) no4
    have w2:=walk2 (λa=>mt B σ τ a\/a=D) T7 H7 mv7' va7 (.inl rfl)
    by_cases jY:i2<ys.length
    ·have dZ:ys[i2]? =some ys[i2] :=List.getElem?_eq_getElem jY
     rw [List.drop_eq_getElem_cons jY] at h7
     refine .inr ⟨w2.go i2 _ dZ,λv8 H8 yl8=> ?_⟩
     obtain ⟨s8,r8⟩:=w2.yld i2 _ v8 H8 dZ yl8
     have sr8:=sc7.stp s8
     refine fT _ T7 _ _ H8 v8 _ _ _ sr8 (r8.mv (.anti ⟨sr8.tp,sr8.bm⟩ λa z=>z.elim id λz=>absurd z (no7 a))) h7 λσ9 τ9 sr9 o9 h9=> ?_
     refine nE _ T7 σ9 τ9 H8 _ _ sr9 h9 λok T10 i8 s10 lO=> ?_
     have sr10:=sr9.stp s10
     have mX:=s8.keep D _ nt7 mW
     have bC:=s10.keep D _ nt7 mX
     have nt10:¬T10 D:=λz=>(s10.new D z).elim nt7 λn=>by rw [n] at mX;cases mX
     have r10:=(r7.stp s8 va7).stp s10 ⟨sr8.tp,sr8.bm⟩
     cases ok with
     | false=>
       rw [if_neg Bool.false_ne_true] at lO ⊢
       exact ⟨_,by omega,rfl,T10,vs7,acc7,(s7.trans s8).trans s10,(d7.trans s8.atD).trans s10.atD,bC,nt10,r10,by omega,lO⟩
     | true=>
       rw [if_pos rfl] at lO ⊢
       refine he _ T10 σ9 τ9 i8 _ _ sr10 lO λvy y T11 iL s11 r11 sd=> ?_
       have sr11:=sr10.stp s11
       have mU:=s11.keep D _ nt10 bC
       have nt11:¬T11 D:=λz=>(s11.new D z).elim nt10 λn=>by rw [n] at bC;cases bC
       have va11:GP T11 (λa=>mt B σ τ a\/a=D) iL:=⟨sr11.tp,sr11.bm⟩
       have r12:=r10.stp s11 ⟨sr10.tp,sr10.bm⟩
       have s12:=((s7.trans s8).trans s10).trans s11
       have tp13:∀a,T11 a->EQ (upd iL D (.lst (vs7 ++ [vy]))) a:=λa t=>by
        obtain ⟨d,x,e,z⟩:=sr11.tp a t
        exact ⟨d,x,by rw [Ag (λw=>by subst w;exact nt11 t)];exact e,z⟩
       have mv13:Mv K T11 (λa=>mt B σ τ a\/a=D) iL T11 (λa=>mt B σ τ a\/a=D) (upd iL D (.lst (vs7 ++ [vy]))):=⟨va11,λb o _ m e=>by rw [Ag (λw=>m (.inr w))];exact e,λ_ t=>t,λ_ _ t=>t,λ_ _ z=>z⟩
       refine ⟨vs7,mU,by rw [r7.length];omega,_,(by omega:ys.length-(i2+1)<ys.length-i2),rfl,T11,vs7 ++ [vy],acc7 ++ [y],⟨λb o t e=> ?_,s12.sub,s12.new,tp13⟩,((((d7.trans s8.atD).trans s10.atD).trans s11.atD).trans .upd),Ah,nt11,(r12.append (.cons (r11.mv (.anti sr11.va λa z=> .inl z)) .nil)).mv mv13,by simp;omega,sd⟩
       rw [Ag (Ao e hD)]
       exact s12.keep b o t e
    ·rw [List.drop_eq_nil_of_le (as:=ys) (i:=i2) (by omega)] at h7
     exact .inl ⟨w2.stop i2 (by omega),_,(by omega:xs.length-(i+1)<xs.length-i),rfl,T7,vs7,acc7,s7,mW,nt7,r7,h7⟩
 ·rw [List.drop_eq_nil_of_le (by omega)] at h2
  refine .inl ⟨w.stop i (by omega), ?_⟩
  exact k D vs acc T2 H2 (s1.trans s2) (sr1.add s2 hD bD J4.lst nt2) (s1.none hD) bD nt2 (r2.mv (.anti va2 λa z=>by
   rcases z with (z|z)|z
   ·exact .inl (.inl z)
   ·exact .inr z
   ·exact .inl (.inr z))) h2
def nJ (K:PySem.W.Frag) (s:Bool) (a:AI):TI:=λσ H R=>∃(B:Ch) (T:Addr->Prop) (τ:BB) (AQ:List PV->Prop),SR K B T H σ τ/\a τ AQ/\
 ∀J xs T' H',DM T H T' H'->(∀M2 T2 H2,Mv K T' (mt B σ τ) H' T2 M2 H2->GP T2 M2 H2->(s=true\/Uh T' H' H2)->S0 K M2 J xs T2 H2)->AQ xs->R J H'
theorem cx {K:PySem.W.Frag} {s:Bool} {a:AI}:V4 K s (nJ K s a) a:=λB T σ τ H R AQ sr h k=>⟨B,T,τ,AQ,sr,h,k⟩
section
variable {X:Cx}
theorem SI.of {tg iter:Expr} {s:Bool} {a:AI} (h:SI X tg iter s a):PI X tg iter (nJ X.K s a):=by
 obtain ⟨t,p,si⟩:=h
 intro pins sh σ H R I hw
 obtain ⟨B,T,τ,AQ,sr,h,c⟩:=hw
 exact p pins sh σ H R I (si B T σ τ H R AQ sr h c)
structure Xc (X:Cx) (tg elt:Expr) (ifs:List Expr) (tg2 iter2:Expr) (ifs2:List Expr) (scope:Scope) (own:Nat) (ix:List Nat) (N:List Str) (g:AG) (t:AT) (ai2:AI) (own2:Nat) (g2:AG) (t2:AT) (te:AE):Prop where
 ex:∃g' t' wi2 g2' t2' te',Le X tg elt ifs tg2 iter2 ifs2 scope own ix N g' t' wi2 own2 g2' t2' te'/\Ic X.K g' g/\LO X.K t' t/\V4 X.K true wi2 ai2/\Ic X.K g2' g2/\LO X.K t2' t2/\Fj X.K te' te
theorem ZW {tg elt iter tg2 iter2:Expr} {ifs ifs2:List Expr} {scope:Scope} {pos:Pos} {own own2:Nat} {ix:List Nat} {N:List Str} {g g2:AG} {t t2:AT} {s:Bool} {ai ai2:AI} {ta:AE} (hc:X.calm=true) (hi:SI X tg iter s ai) (O:Xc X tg elt ifs tg2 iter2 ifs2 scope own ix N g t ai2 own2 g2 t2 ta) (hs:∀x,foldedSetIterable iter X.env x=pure x:=by intro _;rfl):
 SF X (.ListComp elt [⟨tg,iter,ifs,0⟩,⟨tg2,iter2,ifs2,0⟩] scope pos) (MU ai own ix g t ai2 own2 g2 t2 ta):=by
 obtain ⟨wi,pi,si⟩:=hi
 obtain ⟨g',t',wi2,g2',t2',te',O,sg,st,si2,sg2,st2,se⟩:=O.ex
 exact ⟨_,Yz hc pi O hs,XB si sg st si2 sg2 st2 se⟩
theorem aj {tg elt tg2 iter2:Expr} {ifs ifs2:List Expr} {scope:Scope} {own own2:Nat} {ix:List Nat} {N:List Str} {g g2:AG} {t t2:AT} {ai2:AI} {te:AE} (h1:scope.kind= .function) (h2:(scope.names.all λy=> !decide (y.2= .cell))=true) (h3:(scope.names.all λy=> !decide (y.2= .local)||decide (scope.names.lookup y.1=some .local))=true)
 (h4:(scope.names.all λy=> !decide (y.2= .free)||decide (X.env.scope.names.lookup y.1=some .cell))=true) (h5:N.length=own+ix.length) (h6:Mh X (relabel scope X.env) own ix N=true) (h7:own2<=own)
 (tgt:∀cl C s H ex pn,SK own (blk X (relabel scope X.env) N cl C s H ex pn) tg g)
 (tst:∀cl C s H ex pn,dR (blk X (relabel scope X.env) N cl C s H ex pn) ifs t)
 (itr2:∀cl C s H ex pn,SI (blk X (relabel scope X.env) N cl C s H ex pn) tg2 iter2 true ai2)
 (tgt2:∀cl C s H ex pn,SK own2 (blk X (relabel scope X.env) N cl C s H ex pn) tg2 g2)
 (tst2:∀cl C s H ex pn,dR (blk X (relabel scope X.env) N cl C s H ex pn) ifs2 t2)
 (val:∀cl C s H ex pn,SE (blk X (relabel scope X.env) N cl C s H ex pn) elt te)
 (Qr:∀cl C s H ex pn x,foldedSetIterable iter2 (blk X (relabel scope X.env) N cl C s H ex pn).env x=pure x:=by intro _ _ _ _ _ _ _;rfl):Xc X tg elt ifs tg2 iter2 ifs2 scope own ix N g t ai2 own2 g2 t2 te:=
 have O:=Ut (te:=iQ X.K te) h1 h2 h3 h4 h5 h6 (Iv (K:=X.K) (ag:=g)) (λcl C s H ex pn=>(tgt cl C s H ex pn).of) (λcl C s H ex pn=>(tst cl C s H ex pn).of) (λcl C s H ex pn=>(val cl C s H ex pn).of)
 ⟨fM X.K own g,iZ X.K t,nJ X.K true ai2,fM X.K own2 g2,iZ X.K t2,iQ X.K te,⟨O.kind,O.nocell,O.names,O.frees,O.ins,O.keep,Iv,h7,O.tgt,O.tst,λcl C s H ex pn=>(itr2 cl C s H ex pn).of,Qr,λcl C s H ex pn=>(tgt2 cl C s H ex pn).of,λcl C s H ex pn=>(tst2 cl C s H ex pn).of,O.val⟩,Ly,Lz,cx,Ly,Lz,Qc⟩
end
end PL
end
section
namespace PL
open PySem PySem.Spec PyProof.Rows L2
section
variable {X:Cx}
end
end PL
end
section
namespace PL
open PySem L2 PyProof.Rows
class aK (n:Nat) (τ:BB) (τ':outParam BB):Prop where
 e:Me n τ=τ'
instance pP {τ:BB}:aK 0 τ τ:=⟨rfl⟩
instance pQ {n:Nat} {x:Option AV} {r r':BB} [h:aK n r r'] :aK (n+1) (x::r) (none::r'):=⟨by rw [<-h.e];rfl⟩
section
variable {ai ai2:AI} {g g2:AG} {tt t2:AT} {te:AE} {τ τ':BB} {QL:List PV->Prop} {own own2:Nat} {ix:List Nat}
instance lc {τ3 τ4:BB} [h1:jF own τ3] [h2:i0 ix τ τ4] [h3:Xa τ3 τ4 τ'] :Wp (MU ai own ix g tt ai2 own2 g2 t2 te τ QL) (ai τ λxs=>Ho g tt ai2 own2 g2 t2 te τ' QL xs []):=⟨λk=>by unfold MU Ih;rw [h1.e,h2.e,h3.e];exact k⟩
instance qR {acc ys:List PV} [h:aK own2 τ τ'] :Wp (CS g2 t2 te (Me own2 τ) QL ys acc) (CS g2 t2 te τ' QL ys acc):=⟨λk=>by rw [h.e];exact k⟩
theorem RO (Pv:List PV->List PV->Prop) (hd:∀acc,Pv [] acc->QL acc)
 (hs:∀x r acc (R:List PV->Prop),(∀acc2,Pv r acc2->R acc2)->Pv (x::r) acc->g x τ λτ1=>tt τ1 λok=>if ok=true then ai2 τ1 λys=>acc.length+ys.length<sizeLine/\CS g2 t2 te (Me own2 τ1) R ys acc else R acc):
 ∀xs acc,Pv xs acc->Ho g tt ai2 own2 g2 t2 te τ QL xs acc
 | [],acc,h=>hd acc h
 | x::r,acc,h=>hs x r acc _ (λacc2 h2=>RO Pv hd hs r acc2 h2) h
theorem X7 {r:BB}:∀(ys acc:List PV),QL (acc++ys)->CS (A2 0) E3 (aV 0) (none::r) QL ys acc
 | [],acc,h=>by rw [List.append_nil] at h;exact h
 | y::ys,acc,h=>X7 ys (acc ++ [y]) (by rw [List.append_assoc];exact h)
end
end PL
end
section
namespace PL
open PySem PySem.Spec PyProof.Rows L2
section
variable {X:Cx} {a b c d e:Expr} {ta tb tc td:AE} {pos:Pos}
theorem Br (ha:SE X a ta) (h:starEach [a] X.env=(false,eval a X.env)::starEach [] X.env:=by rfl):SA X [a] (AB ta AL):=C1 ha FA h
theorem Aq (ha:SE X a ta) (hb:SE X b tb) (h:starEach [a,b] X.env=(false,eval a X.env)::starEach [b] X.env:=by rfl) (h2:starEach [b] X.env=(false,eval b X.env)::starEach [] X.env:=by rfl):SA X [a,b] (AB ta (AB tb AL)):=C1 ha (Br hb h2) h
theorem FG (ha:SE X a ta) (hb:SE X b tb) (hc:SE X c tc) (h:starEach [a,b,c] X.env=(false,eval a X.env)::starEach [b,c] X.env:=by rfl) (h2:starEach [b,c] X.env=(false,eval b X.env)::starEach [c] X.env:=by rfl) (h3:starEach [c] X.env=(false,eval c X.env)::starEach [] X.env:=by rfl):SA X [a,b,c] (AB ta (AB tb (AB tc AL))):=C1 ha (Aq hb hc h2 h3) h
theorem AW (ha:SE X a ta) (hb:SE X b tb) (hs:Pa b:=by exact λ_ _=>rfl):SE X (.Subscript a b pos) (AY Ap ta tb):=kX kb ha hb hs
theorem GS {op:CmpOp} {r:R2} {f:II} (ho:EB X (compareOp op) r/\B6 X.K r f) (ha:SE X a ta) (hb:SE X b tb) (hm:behindInMarks op b=false:=by exact DO _):RG X (.Compare a [op] [b] pos) (A1 (AY f ta tb)):=Zq ho ha hb hm
theorem DJ (i:Nat) {x:Str} {pos':Pos} (hN:X.N.Nodup) (he:SE X e ta) (hi:X.N[i]? =some x:=by rfl) (hx:Loc X.env.scope x:=by exact Or.inl rfl) (hs:swapsWith e (some (.Name x pos')) pos.line X.env=pure false:=by rfl) (hf:X.fn x=true\/X.env.scope.names.lookup x=some .local:=by first | exact .inl rfl|exact .inr rfl|assumption):
 SS X (.Assign [.Name x pos'] e pos) (A0 ta (A2 i)):=IC hN hi hx he hs hf
theorem HY (i:Nat) {x:Str} (hN:X.N.Nodup) (hi:X.N[i]? =some x:=by rfl) (hx:Loc X.env.scope x:=by exact Or.inl rfl) (hf:X.fn x=true\/X.env.scope.names.lookup x=some .local:=by first | exact .inl rfl|exact .inr rfl|assumption):SG X (.Name x pos) (A2 i):=QZ hN hi hx hf
theorem OF (i:Nat) {own:Nat} {x:Str} (hN:X.N.Nodup) (hi:X.N[i]? =some x:=by rfl) (hx:Loc X.env.scope x:=by exact Or.inl rfl) (hk:i<own:=by decide) (hf:X.fn x=true\/X.env.scope.names.lookup x=some .local:=by first | exact .inl rfl|exact .inr rfl|assumption):SK own X (.Name x pos) (A2 i):=Vk hN hi hx hk hf
end
theorem Bh {P:Program} {w:World} {K:PySem.W.Frag} {mg:Str->Option Value} {base:Heap} {k k':Nat} {x:Str} {ps:List Str} {sp:Sp} (H:Has P w K mg base k x ps sp) (h:k<=k':=by decide):Has P w K mg base k' x ps sp:=H.mono h
end PL
end
open PySem L2 PL PyProof.Rows
local macro_rules | `(tactic| decreasing_trivial_pre_omega)=> `(tactic| first | assumption|omega|((apply Bd.mono);(focus (repeat' (first | assumption|exact GO.m (by assumption)|exact GO.x (by assumption)|exact GO.y (by assumption)|exact GO.z (by assumption)|exact iP|exact lM|with_reducible apply Bd.add|with_reducible apply Bd.sub|with_reducible apply Bd.mul|with_reducible apply Bd.neg|with_reducible apply Bd.mx|with_reducible apply Bd.mn)));first | omega|decide)|decide|(simp only [List.length_map,List.length_append,List.length_cons,List.length_nil,List.length_take,List.length_drop,List.length_zip,List.length_reverse];omega)|(show _<=16777216;simp only [List.length_map,List.length_append,List.length_cons,List.length_nil,List.length_take,List.length_drop,List.length_zip,List.length_reverse];omega)|(show _<16777216;simp only [List.length_map,List.length_append,List.length_cons,List.length_nil,List.length_take,List.length_drop,List.length_zip,List.length_reverse];omega)|(refine And.intro ?_ ?_ <;> decreasing_trivial_pre_omega)|exact rfl)
local macro_rules | `(tactic| array_mem_dec)=> `(tactic| first
 | refine Wp.go ?_
 | ((refine Nw.go ?_ ?_);focus (first | exact True.intro|decreasing_trivial_pre_omega))
 | ((with_reducible apply And.intro);focus decreasing_trivial_pre_omega)
 | ((with_reducible apply s_ifdT);focus decide)
 | ((with_reducible apply s_ifdF);focus decide)
 | ((with_reducible apply s_ifnT);focus decide)
 | ((with_reducible apply s_ifnF);focus decide)
 | refine mM.go (λ_=> ?_) (λ_=> ?_)
 | ((with_reducible apply gz);focus assumption)
 | ((with_reducible apply d8);focus exact rfl)
 | ((with_reducible apply kT);(focus (first | exact .inl rfl|exact .inr (.inl rfl)|exact .inr (.inr (.inl rfl))|exact .inr (.inr (.inr rfl))));(focus exact rfl))
 | ((with_reducible apply kQ);focus exact rfl)
 | ((with_reducible apply kP);focus exact rfl)
 | intro _
 | with_reducible rfl)
local macro_rules | `(tactic| array_get_dec)=> `(tactic| first | array_mem_dec|refine pM.go ?_|fail)
local macro_rules | `(tactic| ac_rfl)=> `(tactic| repeat' array_mem_dec)
section
namespace PL
open PySem L2 PyProof.Rows
theorem D0.open {n B:Nat} {cs:List C4} (p:D0 n B cs):∃a r l,cs=a::r/\r≠ [] /\(a::r).getLast?=some l/\a.1<l.1:=by
 obtain ⟨two,few,bd,ris⟩:=p
 match cs,two,ris with
 | a::b0::r,_,ris=>exact ⟨a,b0::r,_,rfl,by simp,List.getLast?_eq_some_getLast (by simp),(List.pairwise_cons.mp ris).1 _ (List.mem_of_getLast? (Wb (List.getLast?_eq_some_getLast (by simp))))⟩
abbrev OL:AS:=
 (Av (iO (A1 (AY LR (aV 1) (aC (.int 2)))) (AY Ap (aV 0) (aC (.int 1))) (AY Ap (aV 0) (aC (.int 0)))))
def EJ:AF:=A5 2 OL
theorem SH {x0 x1:PV} {Q:PV->Prop} (h:OL ⟨λ_=>Q .non,Q,λ_=>False,λ_=>False⟩ [some (.val x0),some (.val x1)]):EJ [x0,x1] Q:=h
def eS (b:T3) (v:PV):Prop:=v=iY b\/v= .lst [fr b.1,fr b.2.1,fr b.2.2]
def i6 (cs:List C4) (b:T3) (v:PV):Prop:=∃p w,CQ cs p/\eS b w/\(v= .tup [p,w] \/v= .lst [p,w])
def aF (d:Rat×Rat) (v:PV):Prop:=v= .tup [fr d.1,fr d.2] \/v= .lst [fr d.1,fr d.2]
theorem qI {a:C4} {r:List C4} {v:PV} {R:PV->Prop} (hv:CQ (a::r) v) (h:∀x,(x=cor a\/x=corL a)->R x):Ap v (.int 0) R:=by
 obtain ⟨f,hf,hv⟩:=hv
 have hx:f a=cor a\/f a=corL a:=by rcases hf with rfl|rfl <;> simp
 rcases hv with rfl|rfl
 ·show aA (IJ (f a::r.map f) 0) R
  rw [show IJ (f a::r.map f) 0=some (f a) from Cf (j:=0) rfl]
  exact h _ hx
 ·show aA (IJ (f a::r.map f) 0) R
  rw [show IJ (f a::r.map f) 0=some (f a) from Cf (j:=0) rfl]
  exact h _ hx
theorem qJ {cs:List C4} {l:C4} {v:PV} {R:PV->Prop} (hv:CQ cs v) (el:cs.getLast?=some l) (h:∀x,(x=cor l\/x=corL l)->R x):Ap v (.int (-1)) R:=by
 obtain ⟨f,hf,hv⟩:=hv
 have hx:f l=cor l\/f l=corL l:=by rcases hf with rfl|rfl <;> simp
 rcases hv with rfl|rfl
 ·exact Ip el (h _ hx)
 ·exact Ip el (h _ hx)
theorem c0 {x:PV} {c:C4} {R:PV->Prop} (hx:x=cor c\/x=corL c) (h:R (fr c.1)):Ap x (.int 0) R:=by
 rcases hx with rfl|rfl <;> exact h
theorem f0 {cs:List C4} {b:T3} {v:PV} {R:PV->Prop} (hv:i6 cs b v) (h:∀p,CQ cs p->R p):Ap v (.int 0) R:=by
 obtain ⟨p,w,hp,hw,hv⟩:=hv
 rcases hv with rfl|rfl <;> exact h p hp
theorem f1 {cs:List C4} {b:T3} {v:PV} {R:PV->Prop} (hv:i6 cs b v) (h:∀w,eS b w->R w):Ap v (.int 1) R:=by
 obtain ⟨p,w,hp,hw,hv⟩:=hv
 rcases hv with rfl|rfl <;> exact h w hw
theorem b2 {b:T3} {w:PV} {R:PV->Prop} (hw:eS b w) (h:R (fr b.2.2)):Ap w (.int 2) R:=by
 rcases hw with rfl|rfl <;> exact h
theorem jp {k n:Nat} (h:k<=n) (hn:n<1000000):k<sizeLine:=Nat.lt_of_le_of_lt h (Nat.lt_of_lt_of_le hn (Nat.le_of_ble_eq_true rfl))
theorem c4 {w:PV} {x y:Rat} {k:Int} (h0:∀{R:PV->Prop},R (fr x)->Ap w (.int 0) R) (h1:∀{R:PV->Prop},R (fr y)->Ap w (.int 1) R) {Q:PV->Prop} (q:Q (fr (if k=2 then y else x))):EJ [w, .int k] Q:=by
 apply SH
 ac_rfl
 ·rename_i h
  rw [if_pos h] at q
  exact h1 q
 ·rename_i h
  rw [if_neg h] at q
  exact h0 q
theorem MY {d:Rat×Rat} {w:PV} {k:Int} (hw:aF d w) {Q:PV->Prop} (q:Q (fr (if k=2 then d.2 else d.1))):EJ [w, .int k] Q:=
 c4 (λh=>by rcases hw with rfl|rfl <;> exact h) (λh=>by rcases hw with rfl|rfl <;> exact h) q
def t5 (x y z:Rat):Bool:=decide (x-y<z)&&decide (-(x-y)<z)
def GV:AS:=
 (Ad (Bn (A1 (AY iS (aV 5) (aC (.int 3)))) (A0 (GQ (Dx (AB (AN 1 An (AB (aV 0) AL)) (AB (AN 1 An (AB (aV 0) AL)) (AB (AN 1 An (AB (aV 0) AL)) AL))))) (A2 3)) (Bn (A1 (AY iS (aV 5) (aC (.int 0)))) (A0 (AY BV (AY BV (V5 (aV 3) V7 (V8 (AY Fn (aV 5) (aC (.int 1))))) (GQ (Dx (AB (AN 1 An (AB (aV 0) AL)) AL)))) (V5 (aV 3) (V8 (aV 5)) V7)) (A2 3)) BJ))
   (Ee 4 LW (AB (BG (AB (aV 2) (AB (AY Ap (aV 3) (aC (.int 0))) (AB (AY Ap (aV 3) (aC (.int 1))) (AB (AY Ap (aV 3) (aC (.int 2))) AL))))) AL)))
def GU:AS:=
 (Ad (A0 (AN 2 BH (AB (aV 0) (AB (aC (.int 6)) AL))) (A2 5))
   GV)
def IM:AS:=
 (Ad (A0 (AN 2 BK (AB (aV 2) (AB (AN 1 B5 (AB (aV 0) AL)) AL))) (A2 2))
   GU)
def IR:AS:=
 (Ad (J8 (A1 (AY Z7 (Ea FU (AB (aV 4) AL)) (aV 1))) IM)
   (Av (Ea Ci (AB (aV 4) AL))))
def IQ:AS:=
 (Ad (LP (Dx (AB (BG (AB (aV 2) (AB (AY Ap (aV 3) (aC (.int 0))) (AB (AY Ap (aV 3) (aC (.int 1))) (AB (AY Ap (aV 3) (aC (.int 2))) AL))))) AL)) 4)
   IR)
def IP:AS:=
 (Ad (A0 (GQ (Dx (AB (AN 1 An (AB (aV 0) AL)) (AB (AN 1 An (AB (aV 0) AL)) (AB (AN 1 An (AB (aV 0) AL)) AL))))) (A2 3))
   IQ)
def Ed:AS:=
 (Ad (A0 (BG (AB (AN 2 BH (AB (aV 0) (AB (aC (.int 12)) AL))) (AB (aC (.int 1)) AL))) (A2 2))
   IP)
def IN:AS:=
 (Ad (Bn (A1 (AY LR (AN 2 BH (AB (aV 0) (AB (aC (.int 8)) AL))) (aC (.int 0)))) (A0 (AY Ap (GQ (Dx (AB (aC (.int 7)) (AB (aC (.int 8)) (AB (aC (.int 9)) (AB (aC (.int 12)) AL)))))) (AN 2 BH (AB (aV 0) (AB (aC (.int 4)) AL)))) (A2 1)) BJ)
   Ed)
def L9:AS:=
 (Ad (A0 (AY BV (aC (.int 2)) (AN 2 BH (AB (aV 0) (AB (aC (.int 4)) AL)))) (A2 1))
   IN)
def B0:AF:=A5 6 L9
theorem FV (many:Int) (z2 z3 z5:Option AV) (z4:Option AV) (h0:2<=many) (h1:many<=12) {Q:PV->Prop} (h:∀cs,MS 12 6 600 cs->Q (A8 cs)):
 Ed {nx:=λ_=>Q .non,rt:=Q,bk:=λ_=>False,ct:=λ_=>False} [some (.val .tape),some (.val (.int many)),z2,z3,z4,z5] :=by
 refine ⟨rfl,Cg (by decide) (by decide) λm m0 m1=>⟨lz, ?_⟩⟩
 refine ⟨rfl,A6 λx hx=>⟨rfl,A6 λy hy=>⟨rfl,A6 λz hz=>⟨lz, ?_⟩⟩⟩⟩
 refine ⟨lz,lz, ?_⟩
 refine ⟨(many-1).toNat+1,Ue (λn τ=>∃(cs:List C4) (c:C4) (z5:Option AV),n+(cs.length+1)=many.toNat+1/\1<=n/\(∀d∈cs ++ [c],MJ 6 (66+48*cs.length) d)/\(Mul 6 60 c.2.1/\Mul 6 60 c.2.2.1/\Mul 6 60 c.2.2.2)/\GM (cs ++ [c])/\
  τ= [some (.val .tape),some (.val (.int many)),some (.val (fr c.1)),some (.val (.lst [fr c.2.1,fr c.2.2.1,fr c.2.2.2])),some (.own ((cs ++ [c]).map cor)),z5]) ?_ ?_ _ _ ⟨[],((m:Rat),x,y,z),z5, ?_, ?_, ?_, ?_, ?_, ?_⟩⟩
 ·rintro τ ⟨cs,c,z5,_,hn,_⟩
  omega
 ·rintro n τ R hR ⟨cs,c,z5,hn,bB,hb,h8,hr,rfl⟩
  have DI:(((cs ++ [c]).map cor).length:Int)=(cs.length:Int)+1:=by simp
  refine Eb (b:=decide ((((cs ++ [c]).map cor).length:Int)<many)) (λz=> ?_) (λz=> ?_)
  ·have z':(((cs ++ [c]).map cor).length:Int)<many:=of_decide_eq_true z
   rw [DI] at z'
   have cb:=hb c (by simp)
   refine ⟨rfl,GA λs sb s0 sm=>⟨rfl,Cn ((cb.m.bd (n:=12) (by omega) (by decide)).mono (by omega)) (sb.mono (by omega)) ?_⟩⟩
   refine ⟨rfl,Cg (by decide) (by decide) λw w0 w1=> ?_⟩
   have fin:∀(D':GT) (x y z:Rat) (z5:Option AV),D'.nx=R->Mul 6 60 x->Mul 6 60 y->Mul 6 60 z->Ee 4 LW (AB (BG (AB (aV 2) (AB (AY Ap (aV 3) (aC (.int 0))) (AB (AY Ap (aV 3) (aC (.int 1))) (AB (AY Ap (aV 3) (aC (.int 2))) AL))))) AL)
    D' [some (.val .tape),some (.val (.int many)),some (.val (fr (c.1+s))),some (.val (.lst [fr x,fr y,fr z])),some (.own ((cs ++ [c]).map cor)),z5] :=by
    intro D' x y z z5 eD bx by' bz
    refine ⟨lz, ?_, ?_⟩
    ·show _<16777216;omega
    ·rw [eD]
     have mb:Mul 6 (66+48*(cs.length+1)) (c.1+s):=(cb.m.add sm).mono (by omega)
     refine hR _ ⟨cs ++ [c],(c.1+s,x,y,z),z5,by simp;omega,by omega, ?_,⟨bx,by',bz⟩,ZJ hr ?_, ?_⟩
     ·intro d hd
      rcases List.mem_append.mp hd with hd|hd
      ·exact (hb d hd).mono (by simp;omega)
      ·simp at hd;subst hd
       have e:(cs ++ [c]).length=cs.length+1:=by simp
       rw [e]
       exact ⟨mb,bx.mono (by omega),by'.mono (by omega),bz.mono (by omega)⟩
     ·show c.1<c.1+s;grind
     ·rw [List.map_append (l₁:=cs ++ [c])];rfl
   refine Eb (b:=decide (3<w)) (λ_=> ?_) (λz3=> ?_)
   ·exact ⟨rfl,A6 λx hx=>⟨rfl,A6 λy hy=>⟨rfl,A6 λz hz=>⟨lz,fin _ x y z _ rfl hx hy hz⟩⟩⟩⟩
   refine Eb (b:=decide (0<w)) (λz4=> ?_) (λz4=> ?_)
   ·have a3:¬3<w:=of_decide_eq_false z3
    have a4:0<w:=of_decide_eq_true z4
    have hw:w=1\/w=2\/w=3:=by omega
    rcases hw with rfl|rfl|rfl
    ·exact Ey ⟨rfl,A6 λp hp=>⟨lz,lz,Ey ⟨lz,fin _ p _ _ _ rfl hp h8.2.1 h8.2.2⟩⟩⟩
    ·exact Ey ⟨rfl,A6 λp hp=>⟨lz,lz,Ey ⟨lz,fin _ _ p _ _ rfl h8.1 hp h8.2.2⟩⟩⟩
    ·exact Ey ⟨rfl,A6 λp hp=>⟨lz,lz,Ey ⟨lz,fin _ _ _ p _ rfl h8.1 h8.2.1 hp⟩⟩⟩
   ·exact fin _ _ _ _ _ rfl h8.1 h8.2.1 h8.2.2
  ·have z':¬(((cs ++ [c]).map cor).length:Int)<many:=of_decide_eq_false z
   rw [DI] at z'
   refine h (cs ++ [c]) ⟨by simp;omega,by simp;omega,λd hd=>(hb d hd).mono (by omega),hr⟩
 ·simp;omega
 ·omega
 ·intro d hd
  simp at hd;subst hd
  exact ⟨.int (by decide) (by simp;omega),hx.mono (by decide),hy.mono (by decide),hz.mono (by decide)⟩
 ·exact ⟨hx,hy,hz⟩
 ·exact List.pairwise_singleton _ _
 ·simp only [cor,YG,List.nil_append,List.map_cons,List.map_nil]
  rfl
theorem KP {Q:PV->Prop} (h:∀cs,MS 12 6 600 cs->Q (A8 cs)):B0 [.tape] Q:=by
 refine ⟨rfl,Cg (by decide) (by decide) λa a0 a1=>⟨rfl,Cg (by decide) (by decide) λb b0 b1=> ?_⟩⟩
 refine Eb (b:=decide (b=0)) (λ_=> ?_) (λ_=> ?_)
 ·refine ⟨lz,rfl,Cg (by decide) (by decide) λc c0 c1=> ?_⟩
  have hc:c=0\/c=1\/c=2\/c=3:=by omega
  rcases hc with rfl|rfl|rfl|rfl
  ·exact FV 7 _ _ _ _ (by omega) (by omega) h
  ·exact FV 8 _ _ _ _ (by omega) (by omega) h
  ·exact FV 9 _ _ _ _ (by omega) (by omega) h
  ·exact FV 12 _ _ _ _ (by omega) (by omega) h
 ·exact FV (2+a) _ _ _ _ (by omega) (by omega) h
abbrev F8:AS:=
 (Av (Ea Ci (AB (GQ (DD (OP (aV 0)) 1 [1,2] (A2 0) E3 (AY BV (BG (AB (AN 2 BK (AB (AY Ap (aV 0) (aC (.int 0))) (AB (aV 1) AL))) AL)) (Ea Ci (AB (GQ (DD (S8 (AB (aC (.int 3)) AL)) 1 [0,2] (A2 0) E3 (AN 2 BK (AB (AY Ap (aV 1) (AY BV (aV 0) (aC (.int 1)))) (AB (AY Ap (aV 2) (aV 0)) AL))))) AL))))) AL)))
def BD:AF:=A5 3 F8
theorem JG {x0 x1 x2:PV} {Q:PV->Prop} (h:F8 ⟨λ_=>Q .non,Q,λ_=>False,λ_=>False⟩ [some (.val x0),some (.val x1),some (.val x2)]):BD [x0,x1,x2] Q:=h
abbrev IK:AS:=
 (Ad (A0 (GQ (Dx (AB (BG (AB (aC (.int 1)) (AB (aC (.int 1)) AL))) (AB (BG (AB (aC (.int 2)) (AB (aC (.int 1)) AL))) (AB (BG (AB (aC (.int 3)) (AB (aC (.int 2)) AL))) (AB (BG (AB (aC (.int 1)) (AB (aC (.int 3)) AL))) (AB (BG (AB (aC (.int 5)) (AB (aC (.int 1)) AL))) AL))))))) (A2 1))
   (Av (BG (AB (AY Ap (aV 1) (AN 2 BH (AB (aV 0) (AB (aC (.int 5)) AL)))) (AB (AY Ap (aV 1) (AN 2 BH (AB (aV 0) (AB (aC (.int 5)) AL)))) AL)))))
def DK:AF:=A5 2 IK
theorem M9 {x0:PV} {Q:PV->Prop} (h:IK ⟨λ_=>Q .non,Q,λ_=>False,λ_=>False⟩ [some (.val x0),none]):DK [x0] Q:=h
theorem bR {xs:List PV} {k:Int} {R:PV->Prop} (h0:0<=k) (h1:k<xs.length) (h:∀x∈xs,R x):Ap (.lst xs) (.int k) R:=by
 show aA (IJ xs k) R
 have hk:xs[k.toNat]? =some (xs[k.toNat]'(by omega)):=List.getElem?_eq_getElem (by omega)
 have e:=Cf hk
 rw [show ((k.toNat:Nat):Int)=k by omega] at e
 rw [e]
 exact h _ (List.getElem_mem _)
theorem KH {xs:List Rat} {k:Int} {R:PV->Prop} (h0:0<=k) (h1:k<xs.length) (h:∀x∈xs,R (fr x)):Ap (.lst (xs.map fr)) (.int k) R:=by
 refine bR h0 (by simpa using h1) λx hx=> ?_
 obtain ⟨y,hy,rfl⟩:=List.mem_map.mp hx
 exact h y hy
abbrev Ec (t:Rat) (o:T3) (c:C4):C4:=(c.1+t,c.2.1+o.1,c.2.2.1+o.2.1,c.2.2.2+o.2.2)
theorem EV {cs:List C4} {t:Rat} {o:T3} {v:PV} {B m:Nat} (hv:v= .lst [fr o.1,fr o.2.1,fr o.2.2]) (hl:cs.length<=100) (hc:∀c∈cs,GO B c) (bt:Bd m t) (bo:E2 m o) (hB:B<=4000) (hm:m<=4000) {Q:PV->Prop} (q:Q (A8 (cs.map (Ec t o)))):BD [A8 cs,fr t,v] Q:=by
 subst hv
 have bx:=bo.x
 have by':=bo.y
 have bz:=bo.z
 apply JG
 ac_rfl
 refine Dj cor cor (Ec t o) (GO B) (λc bc R hR=> ?_) cs [] hc ?_
 ·ac_rfl
  rw [show rng 0 (Int.toNat 3)= [.int 0, .int 1, .int 2] from rfl]
  repeat' array_get_dec
  rw [show (0:Int)+1=1 from rfl]
  repeat' array_get_dec
  rw [show (1:Int)+1=2 from rfl]
  repeat' array_get_dec
  rw [show (2:Int)+1=3 from rfl]
  repeat' array_get_dec
  exact hR
 ac_rfl
 exact q
instance qZ {ta tb:AE} {τ:BB} {QL:List PV->Prop}:Wp (fC ta tb τ QL) (ta τ λx=>tb τ λy=>match x,y with | .tup xs, .tup ys=>xs.length=ys.length/\QL (D7 xs ys.reverse)|_,_=>False):=⟨id⟩
section
variable {τ:BB}
instance lp {i:Nat} {ti ta:AE} {nx bk ct:BB->Prop} {rt:PV->Prop}:Wp (aX i ti ta ⟨nx,rt,bk,ct⟩ τ) (ta τ λy=>MV i τ λxs=>ti τ λk=>Z9 k λk=>cB (Rn xs.length k) λj=>SQ τ i (.own (xs.set j y)) nx):=⟨id⟩
instance ln {i:Nat} {xs:List PV} {P:List PV->Prop} [h:dQ τ i (.own xs)] :Wp (MV i τ P) (P xs):=⟨λk=>by unfold MV;rw [h.e];exact k⟩
end
instance ox {c:C4} {Q:PV->Prop}:Wp (U0 (cor c) none (some 1) Q) (Q (.tup [fr c.1])):=⟨λh=>F2 h⟩
abbrev Ji:AS:=
 (Ad (A0 (AN 1 B0 (AB (aV 0) AL)) (A2 6))
   (Av (AN 3 BD (AB (aV 6) (AB (AN 2 CA (AB (AY Ap (AY Ap (aV 1) (Sk KE (aC (.int 1)))) (aC (.int 0))) (AB (AY Ap (AY Ap (aV 6) (aC (.int 0))) (aC (.int 0))) AL))) (AB (GQ (Dx (AB (BG (AB (aC (.int 0)) (AB (aC (.int 1)) AL))) (AB (BG (AB (aC (.int 0)) (AB (aC (.int 1)) AL))) (AB (BG (AB (aC (.int 0)) (AB (aC (.int 1)) AL))) AL))))) AL))))))
abbrev HG:AS:=
 (Ad (A0 (BG (AB (AN 1 An (AB (aV 0) AL)) (AB (AN 1 An (AB (aV 0) AL)) (AB (AN 1 An (AB (aV 0) AL)) AL)))) (A2 8))
   (Av (AY BV (AY BV (V5 (aV 1) V7 (V8 (aV 7))) (BG (AB (AY BV (V5 (AY Ap (aV 1) (aV 7)) V7 (V8 (aC (.int 1)))) (aV 8)) AL))) (V5 (aV 1) (V8 (AY BV (aV 7) (aC (.int 1)))) V7))))
abbrev Jj:AS:=
 (Ad (A0 (AN 2 BH (AB (aV 0) (AB (Ea FU (AB (aV 1) AL)) AL))) (A2 7))
   HG)
abbrev Jk:AS:=
 (Ad (A0 (V5 (AY Ap (aV 1) (AN 2 BH (AB (aV 0) (AB (Ea FU (AB (aV 1) AL)) AL)))) (V8 (aC (.int 1))) V7) (A2 8))
   (Av (BG (AB (AY BV (BG (AB (AY Ap (AY Ap (aV 1) (aC (.int 0))) (aC (.int 0))) AL)) (aV 8)) (AB (AY BV (BG (AB (AN 2 BK (AB (AY Ap (AY Ap (aV 1) (Sk KE (aC (.int 1)))) (aC (.int 0))) (AB (AN 1 B5 (AB (aV 0) AL)) AL))) AL)) (aV 8)) AL)))))
abbrev IL:AS:=
 (Ad (Bn (A1 (AY LR (aV 3) (aC (.int 6)))) Jk BJ)
   (Av (AN 1 B0 (AB (aV 0) AL))))
abbrev Js:AS:=
 (Ad (Bn (A1 (AY LR (aV 3) (aC (.int 5)))) Jj BJ)
   IL)
abbrev Jr:AS:=
 (Ad (Bn (A1 (AY LR (aV 3) (aC (.int 4)))) Ji BJ)
   Js)
abbrev Jq:AS:=
 (Ad (Bn (A1 (AY LR (aV 3) (aC (.int 3)))) (Av (Ea Ci (AB (GQ (DD (fC (aV 1) (aV 1)) 2 [] (MX 2 (Aj (A2 0) (Aj (A2 1) CZ))) E3 (AY BV (BG (AB (AY Ap (aV 0) (aC (.int 0))) AL)) (V5 (aV 1) (V8 (aC (.int 1))) V7)))) AL))) BJ)
   Jr)
abbrev Jp:AS:=
 (Ad (Bn (A1 (AY LR (aV 3) (aC (.int 2)))) (Av (AN 3 BD (AB (aV 1) (AB (AY Ap (GQ (Dx (AB (AN 1 B5 (AB (aV 0) AL)) (AB (BG (AB (aC (.int 0)) (AB (aC (.int 1)) AL))) AL)))) (AN 2 BH (AB (aV 0) (AB (aC (.int 2)) AL)))) (AB (aV 4) AL))))) BJ)
   Jq)
abbrev FH:AS:=
 (Ad (Bn (A1 (AY Z7 (aV 3) (aC (.int 2)))) (Av (AN 3 BD (AB (aV 1) (AB (BG (AB (aC (.int 0)) (AB (aC (.int 1)) AL))) (AB (aV 4) AL))))) BJ)
   Jp)
abbrev Jo:AS:=
 (Ad (Bn (A1 (AY LR (aV 3) (aC (.int 0)))) (aX 4 (aV 5) (RJ (AN 2 Bi (AB (AY Ap (aV 4) (aV 5)) (AB (AY Ap (GQ (Dx (AB (BG (AB (aC (.int 1)) (AB (aC (.int 2)) AL))) (AB (BG (AB (Sk KE (aC (.int 1))) (AB (aC (.int 1)) AL))) (AB (BG (AB (Sk KE (aC (.int 1))) (AB (aC (.int 3)) AL))) AL))))) (AN 2 BH (AB (aV 0) (AB (aC (.int 3)) AL)))) AL))))) BJ)
   FH)
abbrev Jn:AS:=
 (Ad (aX 4 (aV 5) (AY Ap (aV 2) (Ea YJ (AB (AY LR (aV 5) (aC (.int 2))) AL))))
   Jo)
abbrev Jm:AS:=
 (Ad (A0 (AN 2 BH (AB (aV 0) (AB (aC (.int 3)) AL))) (A2 5))
   Jn)
abbrev Jl:AS:=
 (Ad (LP (Dx (AB (BG (AB (aC (.int 0)) (AB (aC (.int 1)) AL))) (AB (BG (AB (aC (.int 0)) (AB (aC (.int 1)) AL))) (AB (BG (AB (aC (.int 0)) (AB (aC (.int 1)) AL))) AL)))) 4)
   Jm)
abbrev HL:AS:=
 (Ad (A0 (AN 2 BH (AB (aV 0) (AB (aC (.int 9)) AL))) (A2 3))
   Jl)
def Cm:AF:=A5 9 HL
theorem LZ {x0 x1 x2:PV} {Q:PV->Prop} (h:HL ⟨λ_=>Q .non,Q,λ_=>False,λ_=>False⟩ [some (.val x0),some (.val x1),some (.val x2),none,none,none,none,none,none]):Cm [x0,x1,x2] Q:=h
theorem VY {cs ds:List C4} (h:GM cs) (e:ds.map (·.1)=cs.map (·.1)):GM ds:=by
 have h1:(cs.map (·.1)).Pairwise (· < ·):=List.pairwise_map.mpr h
 rw [<-e] at h1
 exact List.pairwise_map.mp h1
theorem dM (a b:List C4):D7 (a.map cor) (b.map cor)=(a.zip b).map λp:C4×C4=> .tup [cor p.1,cor p.2] :=by
 unfold D7
 rw [List.zipWith_map,List.zip,List.map_zipWith]
theorem Mul.negQ {D N:Nat} {a:Rat} (h:Mul D N a):Mul D N (-a):=by
 obtain ⟨h0,k,rfl,hk⟩:=h
 exact ⟨h0, -k,by rw [Rat.neg_divInt],by omega⟩
theorem Mul.subQ {D N M:Nat} {a b:Rat} (ha:Mul D N a) (hb:Mul D M b):Mul D (N+M) (a-b):=by
 rw [Rat.sub_eq_add_neg];exact ha.add (Mul.negQ hb)
theorem df {a b c:PV}:Rn [a,b,c].length 0=some 0:=by show Rn 3 0=_;decide
theorem dg {a b c:PV}:Rn [a,b,c].length 1=some 1:=by show Rn 3 1=_;decide
theorem dh {a b c:PV}:Rn [a,b,c].length 2=some 2:=by show Rn 3 2=_;decide
theorem lB:PV.tup [.int (-1), .int 3] =fr (-1/3):=by
 unfold fr
 rw [show (-1/3:Rat).num= -1 by decide +kernel,show (-1/3:Rat).den=3 by decide +kernel]
 rfl
abbrev L5:AS:=
 (Ad (Bn (A1 (AY LR (AN 2 BH (AB (aV 2) (AB (aC (.int 2)) AL))) (aC (.int 0)))) (Pd 4 5 (AB (aV 5) (AB (aV 4) AL))) BJ)
   (Av (BG (AB (aV 2) (AB (aV 4) (AB (aV 5) (AB (aV 3) AL)))))))
abbrev L4:AS:=
 (Ad (A0 (AN 3 Cm (AB (aV 2) (AB (aV 4) (AB (aV 3) AL)))) (A2 5))
   L5)
abbrev L3:AS:=
 (Ad (A0 (AN 1 B0 (AB (aV 2) AL)) (A2 4))
   L4)
abbrev L1:AS:=
 (Ad (A0 (AN 1 DK (AB (aV 2) AL)) (A2 3))
   L3)
abbrev Ka:AS:=
 (Ad (A0 (AN 2 MP (AB (aV 0) (AB (aV 1) AL))) (A2 2))
   L1)
def Dt:AF:=A5 6 Ka
theorem OC {x0 x1:PV} {Q:PV->Prop} (h:Ka ⟨λ_=>Q .non,Q,λ_=>False,λ_=>False⟩ [some (.val x0),some (.val x1),none,none,none,none]):Dt [x0,x1] Q:=h
abbrev Nq:AS:=
 (Ad (A0 (AN 2 EM (AB (AY Ap (AY Ap (aV 0) (Sk KE (aC (.int 1)))) (aC (.int 0))) (AB (AY Ap (AY Ap (aV 1) (Sk KE (aC (.int 1)))) (aC (.int 0))) AL))) (A2 3))
   (Av (iO (A1 (AN 2 Aw (AB (aV 2) (AB (aV 3) AL)))) (BG (AB (aV 2) (AB (aV 3) AL))) (aC .non))))
abbrev MG:AS:=
 (Ad (A0 (AN 2 CW (AB (AY Ap (AY Ap (aV 0) (aC (.int 0))) (aC (.int 0))) (AB (AY Ap (AY Ap (aV 1) (aC (.int 0))) (aC (.int 0))) AL))) (A2 2))
   Nq)
def DZ:AF:=A5 4 MG
theorem QO {x0 x1:PV} {Q:PV->Prop} (h:MG ⟨λ_=>Q .non,Q,λ_=>False,λ_=>False⟩ [some (.val x0),some (.val x1),none,none]):DZ [x0,x1] Q:=h
abbrev PM:AS:=
 (Ad (A0 (AN 2 FR (AB (aV 1) (AB (aV 3) AL))) (A2 5))
   (Av (GQ (DD (S8 (AB (aC (.int 3)) AL)) 1 [2,4,5] (A2 0) E3 (AN 2 J1 (AB (AN 2 Di (AB (AY Ap (aV 2) (aV 0)) (AB (AY Ap (aV 3) (aV 0)) AL))) (AB (AN 2 EJ (AB (aV 1) (AB (aV 0) AL))) AL)))))))
abbrev OK:AS:=
 (Ad (A0 (AN 2 FR (AB (aV 0) (AB (aV 3) AL))) (A2 4))
   PM)
def FO:AF:=A5 6 OK
theorem SD {x0 x1 x2 x3:PV} {Q:PV->Prop} (h:OK ⟨λ_=>Q .non,Q,λ_=>False,λ_=>False⟩ [some (.val x0),some (.val x1),some (.val x2),some (.val x3),none,none]):FO [x0,x1,x2,x3] Q:=h
def absR (r:Rat):Rat:=if r<0 then -r else r
theorem Bd.absR {n:Nat} {r:Rat} (h:Bd n r):Bd n (absR r):=by unfold PL.absR;split;exact h.neg;exact h
def E6 (p q:T3) (d:Rat×Rat):T3:=((p.1-q.1)/d.1,(p.2.1-q.2.1)/d.1,(p.2.2-q.2.2)/d.2)
def Mj (o:T3):Rat:=mx (mx (mx 0 (absR o.1)) (absR o.2.1)) (absR o.2.2)
def Zy (a l a2 l2:C4) (m:Rat):Prop:=(¬m<a.1/\¬m<a2.1)/\m<l.1/\m<l2.1
instance {a l a2 l2:C4} {m:Rat}:Decidable (Zy a l a2 l2 m):=by unfold Zy;infer_instance
theorem bq {cs ds:List C4} {v w u:PV} {d:Rat×Rat} {m:Rat} {p q':T3} (hv:CQ cs v) (hw:CQ ds w) (hu:aF d u) (hc:∀c∈cs,GO 150 c) (Te:∀c∈ds,GO 150 c) (hr:GM cs) (lS:GM ds) (h0:cs≠ []) (Z8:ds≠ []) (hl:cs.length<=100) (pp:ds.length<=100) (bm:Bd 200 m) (b1:Bd 100 d.1) (b2:Bd 100 d.2) (p1:d.1≠0) (p2:d.2≠0)
 (e1:spotC cs m=some p) (e2:spotC ds m=some q') {Q:PV->Prop} (q:Q (.lst [fr (E6 p q' d).1,fr (E6 p q' d).2.1,fr (E6 p q' d).2.2])):FO [v,w,u,fr m] Q:=by
 have t1:=E2.spotC bm hr hc p e1
 have t2:=E2.spotC bm lS Te q' e2
 have x1:=t1.x
 have x2:=t1.y
 have x3:=t1.z
 have y1:=t2.x
 have y2:=t2.y
 have y3:=t2.z
 have z1:=x1.sub y1
 have z2:=x2.sub y2
 have z3:=x3.sub y3
 apply SD
 ac_rfl
 refine IX hv hc hr h0 (by omega) bm (by decide) ?_
 rw [e1,show NW (some p)= .tup [fr p.1,fr p.2.1,fr p.2.2] from rfl]
 ac_rfl
 refine IX hw Te lS Z8 (by omega) bm (by decide) ?_
 rw [e2,show NW (some q')= .tup [fr q'.1,fr q'.2.1,fr q'.2.2] from rfl]
 ac_rfl
 rw [show rng 0 (Int.toNat 3)= [.int 0, .int 1, .int 2] from rfl]
 repeat' array_get_dec
 refine MY hu ?_
 rw [if_neg (by decide)]
 repeat' array_get_dec
 refine MY hu ?_
 rw [if_neg (by decide)]
 repeat' array_get_dec
 refine MY hu ?_
 rw [if_pos (by decide)]
 repeat' array_get_dec
 exact q
theorem Se {a l a2 l2:C4} {r r2:List C4} {v w:PV} (hv:CQ (a::r) v) (hw:CQ (a2::r2) w) (el:(a::r).getLast?=some l) (el2:(a2::r2).getLast?=some l2) (ba:Bd 3000 a.1) (bl:Bd 3000 l.1) (ba2:Bd 3000 a2.1) (bl2:Bd 3000 l2.1)
 {Q:PV->Prop} (q1:mx a.1 a2.1<mn l.1 l2.1->Q (.tup [fr (mx a.1 a2.1),fr (mn l.1 l2.1)])) (q2:¬mx a.1 a2.1<mn l.1 l2.1->Q .non):DZ [v,w] Q:=by
 apply QO
 ac_rfl
 refine qI hv λx hx=> ?_
 ac_rfl
 refine c0 hx ?_
 ac_rfl
 refine qI hw λx hx=> ?_
 ac_rfl
 refine c0 hx ?_
 ac_rfl
 refine qJ hv el λx hx=> ?_
 ac_rfl
 refine c0 hx ?_
 ac_rfl
 refine qJ hw el2 λx hx=> ?_
 ac_rfl
 refine c0 hx ?_
 ac_rfl
 ·exact q1 ‹_›
 ·exact q2 ‹_›
abbrev Jt:AS:=
 (Ad (A0 (AY Pi (AY BV (aV 2) (aV 3)) (aC (.int 2))) (A2 4))
   (Bn (A1 (AN 2 Aw (AB (AY Ap (aV 0) (aV 4)) (AB (aV 1) AL)))) (A0 (AY BV (aV 4) (aC (.int 1))) (A2 2)) (A0 (aV 4) (A2 3))))
abbrev Jv:AS:=
 (Ad (J8 (A1 (AY Z7 (aV 2) (aV 3))) Jt)
   (Av (aV 2)))
abbrev Ju:AS:=
 (Ad (A0 (Ea FU (AB (aV 0) AL)) (A2 3))
   Jv)
abbrev HM:AS:=
 (Ad (A0 (aC (.int 0)) (A2 2))
   Ju)
def Co:AF:=A5 5 HM
theorem La {x0 x1:PV} {Q:PV->Prop} (h:HM ⟨λ_=>Q .non,Q,λ_=>False,λ_=>False⟩ [some (.val x0),some (.val x1),none,none,none]):Co [x0,x1] Q:=h
abbrev Kh:AS:=
 (Ad (A0 (RJ (AN 2 Co (AB (aV 1) (AB (aV 2) AL)))) (A2 3))
   (Bn (RK (Pb (A1 (AY LR (aV 3) (Ea FU (AB (aV 1) AL)))) (A1 (AY ao (AY Ap (aV 1) (aV 3)) (aV 2))))) (Ee 1 Yl (AB (aV 3) (AB (aV 2) AL))) BJ))
abbrev RA:AS:=
 (Ad (Gd (OP (aV 0)) (A2 2) Kh)
   (Av (aV 1)))
abbrev Q9:AS:=
 (Ad (LP (Dx AL) 1)
   RA)
def FQ:AF:=A5 4 Q9
theorem UM {x0:PV} {Q:PV->Prop} (h:Q9 ⟨λ_=>Q .non,Q,λ_=>False,λ_=>False⟩ [some (.val x0),none,none,none]):FQ [x0] Q:=h
abbrev Qy:AS:=
 (Ad (S5 3 jL (Xw (aV 1) (aV 4) (aV 5)))
   (Ee 2 LW (AB (BG (AB (aV 4) (AB (aV 5) (AB (aV 3) AL)))) AL)))
abbrev Q1:AS:=
 (Ad (Gd (OP (AN 1 FQ (AB (GQ (DD (OP (GQ (S6 (AB (aV 1) AL)))) 2 [] (MX 2 (Aj (A2 0) (Aj (A2 1) CZ))) E3 (aV 0))) AL))) (A2 4) (Gd (OP (BG (AB (aC (.int 0)) (AB (aC (.int 1)) AL)))) (A2 5) (Bn (A1 (aW (aV 4) (aV 5) (aV 1))) Qy BJ)))
   (Av (aV 2)))
abbrev Q0:AS:=
 (Ad (A0 (aC (.int 0)) (A2 3))
   Q1)
abbrev Qz:AS:=
 (Ad (LP (Dx AL) 2)
   Q0)
abbrev Qx:AS:=
 (Ad (A0 (AN 1 G0 (AB (aV 0) AL)) (A2 1))
   Qz)
def GY:AF:=A5 6 Qx
theorem UK {x0:PV} {Q:PV->Prop} (h:Qx ⟨λ_=>Q .non,Q,λ_=>False,λ_=>False⟩ [some (.val x0),none,none,none,none,none]):GY [x0] Q:=h
abbrev O4:AS:=
 (Ad (Ee 2 LW (AB (BG (AB (AY Ap (aV 3) (aC (.int 0))) (AB (AY Ap (aV 3) (aC (.int 1))) (AB (aV 4) AL)))) AL))
   (A0 (aC .non) (A2 3)))
abbrev Ff:AS:=
 (Ad (Bn (A1 (AY RT (aV 3) (aC .non))) (Ee 2 LW (AB (BG (AB (AY Ap (aV 3) (aC (.int 0))) (AB (AY Ap (aV 3) (aC (.int 1))) (AB (aC .non) AL)))) AL)) BJ)
   (Av (Ea Ci (AB (aV 2) AL))))
abbrev O6:AS:=
 (Ad (Gd (OP (AN 1 GY (AB (aV 0) AL))) (MX 3 (Aj (A2 4) (Aj (A2 5) (Aj (A2 6) CZ)))) (Bn (Ko (A1 (AY TR (aV 3) (aC .non))) (A1 (AY iR (aV 6) (aV 1)))) (A0 (BG (AB (aV 4) (AB (AY Fn (aC (.int 1)) (aV 5)) AL))) (A2 3)) (Bn (Ko (A1 (AY RT (aV 3) (aC .non))) (A1 (AY Z7 (aV 6) (aV 1)))) O4 BJ)))
   Ff)
abbrev O5:AS:=
 (Ad (A0 (aC .non) (A2 3))
   O6)
abbrev OH:AS:=
 (Ad (LP (Dx AL) 2)
   O5)
def EH:AF:=A5 7 OH
theorem R9 {x0 x1:PV} {Q:PV->Prop} (h:OH ⟨λ_=>Q .non,Q,λ_=>False,λ_=>False⟩ [some (.val x0),some (.val x1),none,none,none,none,none]):EH [x0,x1] Q:=h
abbrev MH:AS:=
 (Av (AN 2 EH (AB (aV 0) (AB (aC (.int 1)) AL))))
def EO:AF:=A5 1 MH
theorem QP {x0:PV} {Q:PV->Prop} (h:MH ⟨λ_=>Q .non,Q,λ_=>False,λ_=>False⟩ [some (.val x0)]):EO [x0] Q:=h
def ins:List Rat->Rat->List Rat
 | [],x=> [x]
 | q::r,x=>if q<x then q::ins r x else if q=x then q::r else x::q::r
abbrev RI (qs:List Rat):Prop:=qs.Pairwise (· < ·)
theorem Pz {x y:Rat}:∀{qs:List Rat},y∈ins qs x↔y=x\/y∈qs
 | [] =>by simp [ins]
 | q::r=>by
   unfold ins
   split
   ·rw [List.mem_cons,Pz,List.mem_cons];grind
   ·split
    ·rename_i h;subst h;simp
    ·simp
theorem Vp {x:Rat}:∀{qs:List Rat},RI qs->RI (ins qs x)
 | [],_=>by simp [ins]
 | q::r,h=>by
   obtain ⟨h1,h2⟩:=List.pairwise_cons.mp h
   unfold ins
   split
   ·rename_i hq
    refine List.pairwise_cons.mpr ⟨λy hy=> ?_,Vp h2⟩
    rcases Pz.mp hy with rfl|hy
    ·exact hq
    ·exact h1 y hy
   ·split
    ·exact h
    ·refine List.pairwise_cons.mpr ⟨λy hy=> ?_,h⟩
     rcases List.mem_cons.mp hy with rfl|hy
     ·grind
     ·have:=h1 y hy;grind
theorem VD {x:Rat}:∀{qs:List Rat},(ins qs x).length<=qs.length+1
 | [] =>by simp [ins]
 | q::r=>by
   have:=VD (x:=x) (qs:=r)
   unfold ins
   split
   ·simp;omega
   ·split <;> simp
structure At (qs:List Rat) (x:Rat) (k:Nat):Prop where
 le:k<=qs.length
 lo:∀q∈qs.take k,q<x
 hi:∀q∈qs.drop k,¬q<x
theorem Xx:∀{qs:List Rat} {x:Rat} {k:Nat},RI qs->At qs x k->ins qs x=if qs[k]? =some x then qs else qs.take k++x::qs.drop k
 | [],x,k,_,h=>by
   have:=h.le
   simp at this
   subst this
   simp [ins]
 | q::r,x,0,_,h=>by
   have:=h.hi q (by simp)
   unfold ins
   rw [if_neg this]
   by_cases e:q=x
   ·rw [if_pos e,if_pos (by simp [e])]
   ·rw [if_neg e,if_neg (by simp [e])];rfl
 | q::r,x,k+1,hs,h=>by
   have hq:=h.lo q (by simp)
   have ih:=Xx (qs:=r) (x:=x) (k:=k) (List.pairwise_cons.mp hs).2 ⟨by have:=h.le;simp at this;exact this,λy hy=>h.lo y (by simp [hy]),λy hy=>h.hi y (by simpa using hy)⟩
   unfold ins
   rw [if_pos hq,ih]
   simp only [List.getElem?_cons_succ,List.take_succ_cons,List.drop_succ_cons]
   split <;> rfl
theorem Ql:∀{a b:List Rat},RI a->RI b->(∀x,x∈a↔x∈b)->a=b
 | [], [],_,_,_=>rfl
 | [],y::b,_,_,h=>by have:=(h y).mpr (by simp);simp at this
 | x::a, [],_,_,h=>by have:=(h x).mp (by simp);simp at this
 | x::a,y::b,ha,hb,h=>by
   obtain ⟨a1,a2⟩:=List.pairwise_cons.mp ha
   obtain ⟨b1,b2⟩:=List.pairwise_cons.mp hb
   have exy:x=y:=by
    rcases List.mem_cons.mp ((h x).mp (by simp)) with e|e
    ·exact e
    ·rcases List.mem_cons.mp ((h y).mpr (by simp)) with e2|e2
     ·exact e2.symm
     ·have:=b1 x e;have:=a1 y e2;grind
   subst exy
   congr 1
   refine Ql a2 b2 λz=>⟨λhz=> ?_,λhz=> ?_⟩
   ·rcases List.mem_cons.mp ((h z).mp (by simp [hz])) with e|e
    ·subst e;have:=a1 z hz;grind
    ·exact e
   ·rcases List.mem_cons.mp ((h z).mpr (by simp [hz])) with e|e
    ·subst e;have:=b1 z hz;grind
    ·exact e
def DP (xs:List Rat):List Rat:=xs.foldl ins []
theorem Lu:∀(xs qs:List Rat),RI qs->RI (xs.foldl ins qs)/\(∀y,y∈xs.foldl ins qs↔y∈xs\/y∈qs)/\(xs.foldl ins qs).length<=qs.length+xs.length
 | [],qs,h=>⟨h,by simp,by simp⟩
 | x::xs,qs,h=>by
   obtain ⟨h1,h2,h3⟩:=Lu xs (ins qs x) (Vp h)
   refine ⟨h1,λy=> ?_, ?_⟩
   ·rw [List.foldl_cons,h2,Pz,List.mem_cons];grind
   ·have:=VD (x:=x) (qs:=qs)
    rw [List.foldl_cons,List.length_cons];omega
theorem CI {xs:List Rat}:RI (DP xs):=(Lu xs [] .nil).1
theorem CH {xs:List Rat} {y:Rat}:y∈DP xs↔y∈xs:=by rw [DP,(Lu xs [] .nil).2.1];simp
theorem Gr {xs:List Rat}:(DP xs).length<=xs.length:=by have:=(Lu xs [] .nil).2.2;unfold DP;simpa using this
theorem ZK {a b:List Rat} (h:∀x,x∈a↔x∈b):DP a=DP b:=Ql CI CI λx=>by rw [CH,CH,h]
theorem Vt:∀{qs:List Rat} {m:Nat} {c x:Rat},RI qs->qs[m]? =some c->c<x->∀q∈qs.take (m+1),q<x
 | [],m,c,x,_,e,_=>by simp at e
 | a::r,0,c,x,_,e,h=>by simp at e;subst e;simp [h]
 | a::r,m+1,c,x,hs,e,h=>by
   obtain ⟨h1,h2⟩:=List.pairwise_cons.mp hs
   have e':r[m]? =some c:=by simpa using e
   intro q hq
   rw [List.take_succ_cons] at hq
   rcases List.mem_cons.mp hq with rfl|hq
   ·have:=h1 c (List.mem_of_getElem? e');grind
   ·exact Vt h2 e' h q hq
theorem Uy:∀{qs:List Rat} {m:Nat} {c x:Rat},RI qs->qs[m]? =some c->¬c<x->∀q∈qs.drop m,¬q<x
 | [],m,c,x,_,e,_=>by simp at e
 | a::r,0,c,x,hs,e,h=>by
   simp at e;subst e
   intro q hq
   rcases List.mem_cons.mp hq with rfl|hq
   ·exact h
   ·have:=(List.pairwise_cons.mp hs).1 q hq;grind
 | a::r,m+1,c,x,hs,e,h=>by
   intro q hq
   exact Uy (List.pairwise_cons.mp hs).2 (by simpa using e) h q (by simpa using hq)
theorem X8 {qs:List Rat} {x:Rat} {B M:Nat} (hs:RI qs) (hl:qs.length<=1000000) (hq:∀q∈qs,Bd B q) (hx:Bd M x) (hB:B<=4000) (hM:M<=4000) {Q:PV->Prop} (q:∀k:Nat,At qs x k->Q (.int k)):Co [.lst (qs.map fr),fr x] Q:=by
 apply La
 repeat' array_get_dec
 refine lE (λn τ=>∃(lo hi:Nat) (z:Option AV),hi-lo<n/\lo<=hi/\hi<=qs.length/\(∀q∈qs.take lo,q<x)/\(∀q∈qs.drop hi,¬q<x)/\τ= [some (.val (.lst (qs.map fr))),some (.val (fr x)),some (.val (.int lo)),some (.val (.int hi)),z]) ?_ ?_ (n:=qs.length+1) ⟨0,qs.length,none,by omega,by omega,by omega,by simp,by simp,rfl⟩
 ·rintro n τ R hR ⟨lo,hi,z,h1,h2,h3,h4,h5,rfl⟩
  have ef:frz [some (.val (.lst (qs.map fr))),some (.val (fr x)),some (.val (.int lo)),some (.val (.int hi)),z] = [some (.val (.lst (qs.map fr))),some (.val (fr x)),some (.val (.int lo)),some (.val (.int hi)),aq z] :=rfl
  rw [ef]
  repeat' array_get_dec
  ·rename_i Dk
   refine ⟨⟨by decide,by decide⟩, ?_⟩
   have em:((lo:Int)+hi).fdiv 2=((lo+hi)/2:Nat):=by rw [Int.fdiv_eq_ediv_of_nonneg _ (by decide)];omega
   rw [em]
   have m1:(lo+hi)/2<hi:=by omega
   have m2:lo<=(lo+hi)/2:=by omega
   generalize (lo+hi)/2=m at *
   repeat' array_get_dec
   rename_i c ec hc
   have ec':qs[m]? =some c:=ec
   have bc:=hq c hc
   repeat' array_get_dec
   ·rename_i mf
    refine hR _ ⟨m+1,hi,_,by omega,by omega,h3,Vt hs ec' mf,h5,rfl⟩
   ·rename_i mf
    refine hR _ ⟨lo,m,_,by omega,m2,by omega,h4,Uy hs ec' mf,rfl⟩
  ·rename_i Dk
   have e:lo=hi:=by omega
   subst e
   exact q lo ⟨by omega,h4,h5⟩
 ·rintro τ ⟨lo,hi,z,h,_⟩
  omega
theorem Of {v:PV} {xs:List Rat} {B:Nat} (hv:v= .lst (xs.map fr)\/v= .tup (xs.map fr)) (hl:xs.length<=1000) (hx:∀x∈xs,Bd B x) (hB:B<=4000) {Q:PV->Prop} (q:Q (.lst ((DP xs).map fr))):FQ [v] Q:=by
 apply UM
 have key:∀{z2 z3:Option AV},D8 (A2 2) Kh ⟨Av (aV 1) ⟨λ_=>Q .non,Q,λ_=>False,λ_=>False⟩,Q,λ_=>False,λ_=>False⟩ (xs.map fr) [some (.val v),some (.own []),z2,z3] :=by
  intro z2 z3
  refine Eg fr (λus vs τ=>∃z2 z3,τ= [some (.val v),some (.own ((DP us).map fr)),z2,z3]) ?_ ?_ ⟨_,_,rfl⟩
  ·rintro τ ⟨z2,z3,rfl⟩
   repeat' array_get_dec
   exact q
  ·rintro us c vs e τ R hR ⟨z2,z3,rfl⟩
   have ul:us.length<=1000:=by have:=congrArg List.length e;simp at this;omega
   have rl:=Gr (xs:=us)
   have bu:∀y∈DP us,Bd B y:=λy hy=>hx y (by rw [<-e];simp [CH.mp hy])
   have bc:Bd B c:=hx c (by rw [<-e];simp)
   have fin:∀(ws:List Rat) z2 z3,ws=ins (DP us) c->R [some (.val v),some (.own (ws.map fr)),z2,z3] :=λws z2 z3 h=>hR _ ⟨z2,z3,by rw [h,show DP (us ++ [c])=ins (DP us) c by unfold DP;rw [List.foldl_append];rfl]⟩
   repeat' array_get_dec
   refine X8 CI (by omega) bu bc hB hB λk hk=> ?_
   have kl:=hk.le
   have ei:=Xx CI hk
   repeat' array_get_dec
   ·rename_i h1
    have e1:(DP us)[k]? =none:=List.getElem?_eq_none (by omega)
    rw [e1,if_neg (by simp)] at ei
    have:=fin _ (some (.val (fr c))) (some (.val (.int k))) ei.symm
    rw [List.map_append,List.map_cons,List.map_take,List.map_drop] at this
    exact this
   ·rename_i h1 d e1 _ h2
    have e1':(DP us)[k]? =some d:=e1
    rw [e1',if_neg (by simpa using h2)] at ei
    have:=fin _ (some (.val (fr c))) (some (.val (.int k))) ei.symm
    rw [List.map_append,List.map_cons,List.map_take,List.map_drop] at this
    exact this
   ·rename_i h1 d e1 _ h2
    have e1':(DP us)[k]? =some d:=e1
    rw [e1',if_pos (by rw [h2])] at ei
    exact fin _ _ _ ei.symm
 rcases hv with rfl|rfl
 all_goals
  ac_rfl
  exact key
abbrev Pl:=Rat×Int
abbrev BL:=Rat×Int×Option Rat
def bp (s:BL):Pl:=(s.1,1-s.2.1)
def ep (s:BL):Option Pl:=s.2.2.map λe=>(e,0)
def Ek (p:Pl):FK:=((p.1.num,p.1.den),p.2)
theorem Pu {p q:Pl} (h:Ek p=Ek q):p=q:=by
 obtain ⟨a,i⟩:=p
 obtain ⟨b,j⟩:=q
 unfold Ek at h
 simp only [Prod.mk.injEq,Int.ofNat_inj] at h
 obtain ⟨⟨h1,h2⟩,h3⟩:=h
 have:a=b:=Rat.ext h1 h2
 rw [this,h3]
def jK:Option Rat->PV|none=> .non|some e=>fr e
def BZ (s:BL):PV:= .tup [fr s.1, .int s.2.1,jK s.2.2]
def kM (s:BL):PV:= .lst [fr s.1, .int s.2.1,jK s.2.2]
theorem gr {s:BL} {x:PV} (h:x=BZ s\/x=kM s):R8 x=some ((s.1.num,(s.1.den:Int)),s.2.1,s.2.2.map λe=>(e.num,(e.den:Int))):=by
 obtain ⟨b,i,e⟩:=s
 rcases h with rfl|rfl <;> cases e <;> rfl
theorem Z5 {m:List (FK×Int)} {k k':FK} {v:Int}:BI (OB m k v) k'=if k'=k then some v else BI m k':=by
 unfold OB
 by_cases hk:(m.any λp=>decide (p.1=k))=true
 ·rw [if_pos hk]
  induction m with
  | nil=>simp at hk
  | cons p r ih=>
    by_cases e:p.1=k
    ·by_cases e':k'=k
     ·subst e';simp [BI,e]
     ·have:¬k=k':=λz=>e' z.symm
      by_cases hr:(r.any λp=>decide (p.1=k))=true
      ·have:=ih hr
       simpa [BI,e,e',this, ‹¬k=k'›] using this
      ·have hm:r.map (λp=>if p.1=k then (p.1,v) else p)=r:=by
        conv=>rhs;rw [<-List.map_id r]
        apply List.map_congr_left
        intro q hq
        have:¬q.1=k:=λz=>hr (List.any_eq_true.mpr ⟨q,hq,by simpa using z⟩)
        rw [if_neg this];rfl
       simp only [List.map_cons,e,if_true,hm]
       simp [BI,e,e',this]
    ·have hr:(r.any λp=>decide (p.1=k))=true:=by simpa [e] using hk
     have:=ih hr
     by_cases e2:p.1=k'
     ·have:¬k'=k:=λz=>e (e2.trans z)
      simp [BI,e,e2,this]
     ·simpa [BI,e,e2] using this
 ·rw [if_neg hk]
  induction m with
  | nil=>
    by_cases e':k'=k
    ·subst e';simp [BI]
    ·have:¬k=k':=λz=>e' z.symm
     simp [BI,e',this]
  | cons p r ih=>
    have e:¬p.1=k:=λz=>hk (by simp [z])
    have hr:¬(r.any λp=>decide (p.1=k))=true:=λz=>hk (by simp only [List.any_cons,z,Bool.or_true])
    have:=ih hr
    by_cases e2:p.1=k'
    ·have:¬k'=k:=λz=>e (e2.trans z)
     simp [BI,e2,this]
    ·simpa [BI,e2] using this
theorem bS {m:List (FK×Int)} {k k':FK} {v:Int}:k'∈(OB m k v).map (·.1)↔k'=k\/k'∈m.map (·.1):=by
 unfold OB
 split
 ·rename_i hk
  obtain ⟨q,hq,e⟩:=List.any_eq_true.mp hk
  have e:q.1=k:=by simpa using e
  have:(m.map λp=>if p.1=k then (p.1,v) else p).map (·.1)=m.map (·.1):=by
   rw [List.map_map]
   apply List.map_congr_left
   intro p _
   by_cases z:p.1=k <;> simp [z]
  rw [this]
  refine ⟨.inr,λh=>h.elim (λz=> ?_) id⟩
  rw [z,<-e];exact List.mem_map.mpr ⟨q,hq,rfl⟩
 ·rw [List.map_append,List.mem_append]
  simp only [List.map_cons,List.map_nil,List.mem_singleton]
  exact Or.comm
theorem dJ {m:List (FK×Int)} {k:FK}:(BI m k).isSome=true↔k∈m.map (·.1):=by
 unfold BI
 rw [Option.isSome_map,List.find?_isSome,List.mem_map]
 constructor
 ·rintro ⟨p,hp,e⟩;exact ⟨p,hp,by simpa using e⟩
 ·rintro ⟨p,hp,e⟩;exact ⟨p,hp,by simpa using e⟩
def M4 (s:BL) (p:Pl):Int:=(if bp s=p then 1 else 0)-(if ep s=some p then 1 else 0)
def cnt (ss:List BL) (p:Pl):Int:=(ss.map λs=>M4 s p).sum
def Iu (ss:List BL) (p:Pl):Prop:=∃s∈ss,bp s=p\/ep s=some p
theorem KG {m:List (FK×Int)} {k k':FK} {d:Int}:(BI (bump m k d) k').getD 0=(BI m k').getD 0+if k'=k then d else 0:=by
 unfold bump
 rw [Z5]
 by_cases e:k'=k
 ·subst e;simp
 ·simp [e]
theorem Mp {m:List (FK×Int)} {k k':FK} {d:Int}:k'∈(bump m k d).map (·.1)↔k'=k\/k'∈m.map (·.1):=bS
inductive GB:List PV->List BL->Prop where
 | nil:GB [] []
 | cons {x:PV} {s:BL} {xs:List PV} {ss:List BL} (h:x=BZ s\/x=kM s) (t:GB xs ss):GB (x::xs) (s::ss)
theorem GB.length:∀{xs:List PV} {ss:List BL},GB xs ss->xs.length=ss.length
 | _,_, .nil=>rfl
 | _,_, .cons _ t=>by simp [t.length]
theorem W5 (ss:List BL):GB (ss.map BZ) ss:=by
 induction ss with
 | nil=>exact .nil
 | cons s ss ih=>exact .cons (.inl rfl) ih
theorem Sc {m:List (FK×Int)} {s:BL}:(∀p,(BI (F5 m (s.1.num,(s.1.den:Int)) s.2.1 (s.2.2.map λe=>(e.num,(e.den:Int)))) (Ek p)).getD 0=(BI m (Ek p)).getD 0+M4 s p)/\
 ∀k,k∈(F5 m (s.1.num,(s.1.den:Int)) s.2.1 (s.2.2.map λe=>(e.num,(e.den:Int)))).map (·.1)↔k∈m.map (·.1)\/∃p,(bp s=p\/ep s=some p)/\k=Ek p:=by
 obtain ⟨b,h,e⟩:=s
 have eb:∀p:Pl,(Ek p=((b.num,(b.den:Int)),1-h))↔bp (b,h,e)=p:=λp=>⟨λz=>(Pu (p:=p) (q:=(b,1-h)) z).symm,λz=>by rw [<-z];rfl⟩
 cases e with
 | none=>
   refine ⟨λp=> ?_,λk=> ?_⟩
   ·show (BI (bump m ((b.num,(b.den:Int)),1-h) 1) (Ek p)).getD 0=_
    rw [KG]
    simp only [eb,M4,ep]
    simp
   ·show k∈(bump m ((b.num,(b.den:Int)),1-h) 1).map (·.1)↔_
    rw [Mp]
    constructor
    ·rintro (z|z)
     ·exact .inr ⟨_, .inl rfl,z⟩
     ·exact .inl z
    ·rintro (z|⟨p,z|z,hk⟩)
     ·exact .inr z
     ·exact .inl (by rw [hk,<-z];rfl)
     ·cases z
 | some e=>
   have ee:∀p:Pl,(Ek p=((e.num,(e.den:Int)),0))↔ep (b,h,some e)=some p:=λp=>⟨λz=>by rw [<-Pu (p:=(e,0)) (q:=p) z.symm];rfl,λz=>by cases z;rfl⟩
   refine ⟨λp=> ?_,λk=> ?_⟩
   ·show (BI (bump (bump m ((b.num,(b.den:Int)),1-h) 1) ((e.num,(e.den:Int)),0) (-1)) (Ek p)).getD 0=_
    rw [KG,KG]
    simp only [eb,ee,M4]
    split <;> split <;> omega
   ·show k∈(bump (bump m ((b.num,(b.den:Int)),1-h) 1) ((e.num,(e.den:Int)),0) (-1)).map (·.1)↔_
    rw [Mp,Mp]
    constructor
    ·rintro (z|z|z)
     ·exact .inr ⟨(e,0), .inr rfl,z⟩
     ·exact .inr ⟨_, .inl rfl,z⟩
     ·exact .inl z
    ·rintro (z|⟨p,z|z,hk⟩)
     ·exact .inr (.inr z)
     ·exact .inr (.inl (by rw [hk,<-z];rfl))
     ·exact .inl (by rw [hk];exact (ee p).mpr z)
theorem Ov:∀{xs:List PV} {ss:List BL} (m0:List (FK×Int)),GB xs ss->∃m,FC xs m0=some m/\(∀p,(BI m (Ek p)).getD 0=(BI m0 (Ek p)).getD 0+cnt ss p)/\(∀k,k∈m.map (·.1)↔k∈m0.map (·.1)\/∃p,Iu ss p/\k=Ek p)/\m.length<=m0.length+2*ss.length
 | _,_,m0, .nil=>⟨m0,rfl,λp=>by simp [cnt],λk=>by simp [Iu],by simp⟩
 | x::xs,s::ss,m0, .cons h t=>by
   obtain ⟨m,h1,h2,h3,h4⟩:=Ov (F5 m0 (s.1.num,(s.1.den:Int)) s.2.1 (s.2.2.map λe=>(e.num,(e.den:Int)))) t
   obtain ⟨t1,t2⟩:=Sc (m:=m0) (s:=s)
   refine ⟨m, ?_,λp=> ?_,λk=> ?_, ?_⟩
   ·unfold FC
    rw [gr h]
    exact h1
   ·rw [h2,t1];simp [cnt];omega
   ·rw [h3,t2]
    constructor
    ·rintro ((z|⟨p,z,e⟩)|⟨p,⟨s',bN,z⟩,e⟩)
     ·exact .inl z
     ·exact .inr ⟨p,⟨s,by simp,z⟩,e⟩
     ·exact .inr ⟨p,⟨s',by simp [bN],z⟩,e⟩
    ·rintro (z|⟨p,⟨s',bN,z⟩,e⟩)
     ·exact .inl (.inl z)
     ·rcases List.mem_cons.mp bN with rfl|bN
      ·exact .inl (.inr ⟨p,z,e⟩)
      ·exact .inr ⟨p,⟨s',bN,z⟩,e⟩
   ·have:=K8 (m:=m0) (b:=(s.1.num,(s.1.den:Int))) (h:=s.2.1) (e:=s.2.2.map λe=>(e.num,(e.den:Int)))
    simp only [List.length_cons];omega
def Ni (x p:Pl):Bool:=decide (x.1<p.1)||(decide (x.1=p.1)&&decide (x.2<=p.2))
def BF (s:BL) (p:Pl):Bool:=(decide (s.1<p.1)||(decide (s.1=p.1)&&decide (0<s.2.1+p.2)))&&(match s.2.2 with | none=>true|some e=>decide (p.1<e))
structure CK (B:Nat) (s:BL):Prop where
 b:Bd B s.1
 h:s.2.1=0\/s.2.1=1
 e:∀e,s.2.2=some e->s.1<e/\Bd B e
def tm (s:BL) (p:Pl):Int:=(if Ni (bp s) p=true then 1 else 0)-(if (ep s).any (Ni · p)=true then 1 else 0)
theorem lC {B:Nat} {s:BL} {p:Pl} (ok:CK B s) (hp:0<=p.2):tm s p=if BF s p=true then 1 else 0:=by
 obtain ⟨b,h,e⟩:=s
 obtain ⟨q,i⟩:=p
 have hh:h=0\/h=1:=ok.h
 have hp:0<=i:=hp
 have e1:Ni (bp (b,h,e)) (q,i)=(decide (b<q)||(decide (b=q)&&decide (0<h+i))):=by
  unfold Ni bp
  congr 2
  exact decide_eq_decide.mpr (by show 1-h<=i↔0<h+i;omega)
 cases e with
 | none=>
   unfold tm BF
   rw [e1]
   simp [ep]
 | some e=>
   have Ob:b<e:=(ok.e e rfl).1
   have e2:(ep (b,h,some e)).any (Ni · (q,i))= !decide (q<e):=by
    show Ni (e,0) (q,i)=_
    unfold Ni
    by_cases z:q<e
    ·have z1:¬e<q:=by grind
     have z2:¬e=q:=by grind
     simp [z,z1,z2]
    ·by_cases z1:e<q
     ·simp [z,z1]
     ·have z2:e=q:=by grind
      simp [z2,hp]
   unfold tm BF
   rw [e1,e2]
   by_cases z:q<e
   ·simp [z]
   ·have z1:b<q:=by grind
    simp [z,z1]
def Hn (ss:List BL) (p:Pl):Nat:=(ss.filter (BF · p)).length
theorem Tg {B:Nat} {p:Pl} (hp:0<=p.2):∀{ss:List BL},(∀s∈ss,CK B s)->(Hn ss p:Int)=(ss.map λs=>tm s p).sum
 | [],_=>rfl
 | s::ss,h=>by
   have ih:=Tg hp (ss:=ss) λx hx=>h x (by simp [hx])
   have e:=lC (p:=p) (h s (by simp)) hp
   rw [List.map_cons,List.sum_cons,<-ih,e]
   unfold Hn
   rw [List.filter_cons]
   split
   ·simp;omega
   ·simp
def Ln (x p:Pl):Prop:=x.1<p.1\/(x.1=p.1/\x.2<p.2)
theorem KI {a b c:Pl} (h:Ln a b) (h2:Ln b c):Ln a c:=by
 unfold Ln at *
 rcases h with h|⟨h,h'⟩ <;> rcases h2 with h2|⟨h2,lP⟩
 ·left;grind
 ·left;grind
 ·left;grind
 ·right;exact ⟨by grind,by omega⟩
theorem Gj {x p:Pl}:Ni x p=true↔Ln x p\/x=p:=by
 obtain ⟨a,i⟩:=x
 obtain ⟨b,j⟩:=p
 unfold Ni Ln
 simp only [Bool.or_eq_true,Bool.and_eq_true,decide_eq_true_iff,Prod.mk.injEq]
 constructor
 ·rintro (h|⟨h,h2⟩)
  ·exact .inl (.inl h)
  ·by_cases e:i=j
   ·exact .inr ⟨h,e⟩
   ·exact .inl (.inr ⟨h,by omega⟩)
 ·rintro ((h|⟨h,h2⟩)|⟨h,h2⟩)
  ·exact .inl h
  ·exact .inr ⟨h,by omega⟩
  ·exact .inr ⟨h,by omega⟩
theorem Lo {p:Pl}:¬Ln p p:=by
 unfold Ln
 rintro (h|⟨_,h⟩)
 ·grind
 ·omega
def Rp (x:Pl):Option Pl->Bool|none=>false|some p=>Ni x p
def dE (s:BL) (o:Option Pl):Int:=(if Rp (bp s) o=true then 1 else 0)-(if (ep s).any (Rp · o)=true then 1 else 0)
def nN:Option Pl->Pl->Prop|none,_=>True|some q,p=>Ln q p
theorem Jc {x p:Pl} {o:Option Pl} (hx:Rp x o=true\/x=p\/Ln p x) (ho:nN o p):Ni x p=(Rp x o||decide (x=p))/\¬(Rp x o=true/\x=p):=by
 have h1:Rp x o=true->Ln x p:=λh=>by
  cases o with
  | none=>cases h
  | some q=>rcases Gj.mp h with h|h
            ·exact KI h ho
            ·rw [h];exact ho
 refine ⟨?_,λh=>by rw [h.2] at h1;exact Lo (h1 (h.2 ▸ h.1))⟩
 rw [Bool.eq_iff_iff,Bool.or_eq_true,decide_eq_true_iff,Gj]
 constructor
 ·rintro (h|h)
  ·rcases hx with z|z|z
   ·exact .inl z
   ·exact .inr z
   ·exact absurd (KI h z) Lo
  ·exact .inr h
 ·rintro (h|h)
  ·exact .inl (h1 h)
  ·exact .inr h
theorem YZ {A:Bool} {E:Prop} [Decidable E] (h:¬(A=true/\E)):(if (A||decide E)=true then (1:Int) else 0)=(if A=true then 1 else 0)+if E then 1 else 0:=by
 cases A <;> by_cases e:E <;> simp_all
theorem dF {s:BL} {p:Pl} {o:Option Pl} (hb:Rp (bp s) o=true\/bp s=p\/Ln p (bp s)) (he:∀x,ep s=some x->Rp x o=true\/x=p\/Ln p x) (ho:nN o p):tm s p=dE s o+M4 s p:=by
 obtain ⟨b1,b2⟩:=Jc hb ho
 unfold tm dE M4
 rw [b1,YZ b2]
 cases e:ep s with
 | none=>simp
 | some x=>
   obtain ⟨e1,e2⟩:=Jc (he x e) ho
   have h1:(if (some x).any (Ni · p)=true then (1:Int) else 0)=(if Rp x o=true then 1 else 0)+if x=p then 1 else 0:=by
    show (if Ni x p=true then (1:Int) else 0)=_
    rw [e1,YZ e2]
   rw [h1]
   show _=(_-(if Rp x o=true then (1:Int) else 0))+(_-(if some x=some p then (1:Int) else 0))
   have h2:(if some x=some p then (1:Int) else 0)=if x=p then 1 else 0:=by by_cases z:x=p <;> simp [z]
   rw [h2]
   omega
def V3 (X:List Pl):Prop:=X.Pairwise Ln
def He (ss:List BL):Int->List Pl->Prop
 | _, [] =>True
 | c,p::r=>(Hn ss p:Int)=c+cnt ss p/\He ss (Hn ss p) r
theorem Vr {α:Type} (f g:α->Int):∀xs:List α,(xs.map λx=>f x+g x).sum=(xs.map f).sum+(xs.map g).sum
 | [] =>rfl
 | x::xs=>by simp only [List.map_cons,List.sum_cons,Vr f g xs];omega
theorem Md {B:Nat} {ss:List BL} (ok:∀s∈ss,CK B s):∀(X:List Pl) (o:Option Pl),V3 X->(∀p∈X,nN o p/\0<=p.2)->(∀s∈ss,(Rp (bp s) o=true\/bp s∈X)/\∀x,ep s=some x->Rp x o=true\/x∈X)->He ss ((ss.map λs=>dE s o).sum) X
 | [],_,_,_,_=>True.intro
 | p::r,o,hs,ho,hk=>by
   obtain ⟨h1,h2⟩:=List.pairwise_cons.mp hs
   obtain ⟨op,p0⟩:=ho p (by simp)
   have cls:∀x,(Rp x o=true\/x∈p::r)->Rp x o=true\/x=p\/Ln p x:=λx h=>by
    rcases h with h|h
    ·exact .inl h
    ·rcases List.mem_cons.mp h with h|h
     ·exact .inr (.inl h)
     ·exact .inr (.inr (h1 x h))
   have e:(Hn ss p:Int)=(ss.map λs=>dE s o).sum+cnt ss p:=by
    rw [Tg p0 ok]
    unfold cnt
    rw [<-Vr]
    congr 1
    apply List.map_congr_left
    intro s hs
    exact dF (cls _ (hk s hs).1) (λx ex=>cls x ((hk s hs).2 x ex)) op
   refine ⟨e, ?_⟩
   have:=Md ok r (some p) h2 (λq hq=>⟨h1 q hq,(ho q (by simp [hq])).2⟩) (λs hs=>⟨?_,λx ex=> ?_⟩)
   ·rw [show (ss.map λs=>dE s (some p)).sum=(Hn ss p:Int) from (Tg p0 ok).symm] at this
    exact this
   ·rcases cls _ (hk s hs).1 with z|z|z
    ·exact .inl (by rw [show Rp (bp s) (some p)=Ni (bp s) p from rfl,(Jc (.inl z) op).1,z];rfl)
    ·exact .inl (Gj.mpr (.inr z))
    ·rcases (hk s hs).1 with y|y
     ·exact .inl (by rw [show Rp (bp s) (some p)=Ni (bp s) p from rfl,(Jc (.inl y) op).1,y];rfl)
     ·rcases List.mem_cons.mp y with y|y
      ·exact .inl (Gj.mpr (.inr y))
      ·exact .inr y
   ·rcases (hk s hs).2 x ex with y|y
    ·exact .inl (by rw [show Rp x (some p)=Ni x p from rfl,(Jc (.inl y) op).1,y];rfl)
    ·rcases List.mem_cons.mp y with y|y
     ·exact .inl (Gj.mpr (.inr y))
     ·exact .inr y
def places (qs:List Rat):List Pl:=qs.flatMap λq=> [(q,0),(q,1)]
theorem Bk {qs:List Rat} {p:Pl}:p∈places qs↔p.1∈qs/\(p.2=0\/p.2=1):=by
 obtain ⟨a,i⟩:=p
 unfold places
 simp only [List.mem_flatMap,List.mem_cons,List.not_mem_nil,or_false,Prod.mk.injEq]
 constructor
 ·rintro ⟨q,hq,⟨rfl,rfl⟩|⟨rfl,rfl⟩⟩
  ·exact ⟨hq, .inl rfl⟩
  ·exact ⟨hq, .inr rfl⟩
 ·rintro ⟨h,h2⟩
  exact ⟨a,h,h2.elim (λz=> .inl ⟨rfl,z⟩) (λz=> .inr ⟨rfl,z⟩)⟩
theorem Dh:∀{qs:List Rat},RI qs->V3 (places qs)
 | [],_=>List.Pairwise.nil
 | q::r,h=>by
   obtain ⟨h1,h2⟩:=List.pairwise_cons.mp h
   have ih:=Dh h2
   have lt:∀(i:Int),∀p∈places r,Ln (q,i) p:=λi p hp=> .inl (h1 _ (Bk.mp hp).1)
   show V3 ((q,0)::(q,1)::places r)
   refine List.pairwise_cons.mpr ⟨λp hp=> ?_,List.pairwise_cons.mpr ⟨lt 1,ih⟩⟩
   rcases List.mem_cons.mp hp with rfl|hp
   ·exact .inr ⟨rfl,by show (0:Int)<1;decide⟩
   ·exact lt 0 p hp
def B8 (ss:List BL):List Rat:=ss.flatMap λs=>s.1::s.2.2.toList
def Cu (ss:List BL):List Pl:=places (DP (B8 ss))
theorem Mq {B:Nat} {ss:List BL} (ok:∀s∈ss,CK B s) {s:BL} (hs:s∈ss):bp s∈Cu ss/\∀x,ep s=some x->x∈Cu ss:=by
 refine ⟨Bk.mpr ⟨CH.mpr (List.mem_flatMap.mpr ⟨s,hs,by simp [bp]⟩), ?_⟩,λx ex=> ?_⟩
 ·have:=(ok s hs).h;unfold bp;simp only;omega
 ·obtain ⟨e,he,rfl⟩:=Option.map_eq_some_iff.mp ex
  exact Bk.mpr ⟨CH.mpr (List.mem_flatMap.mpr ⟨s,hs,by simp [he]⟩), .inl rfl⟩
theorem Ge {B:Nat} {ss:List BL} (ok:∀s∈ss,CK B s):He ss 0 (Cu ss):=by
 have h:=Md ok (Cu ss) none (Dh CI) (λp hp=>⟨True.intro,by rcases (Bk.mp hp).2 with z|z <;> omega⟩) (λs hs=>⟨.inr (Mq ok hs).1,λx ex=> .inr ((Mq ok hs).2 x ex)⟩)
 have:(ss.map λs=>dE s none).sum=0:=by
  clear h ok
  induction ss with
  | nil=>rfl
  | cons s ss ih=>
    rw [List.map_cons,List.sum_cons,ih]
    unfold dE
    cases ep s <;> rfl
 rw [this] at h
 exact h
def CU (val:Pl->Option Int) (st:List (Pl×Int)×Int) (p:Pl):List (Pl×Int)×Int:=match val p with | some v=>(st.1 ++ [(p,st.2+v)],st.2+v)|none=>st
theorem Qq {ss:List BL} {val:Pl->Option Int} (h1:∀p v,val p=some v->v=cnt ss p) (h2:∀p,val p=none->cnt ss p=0):∀(X:List Pl) (acc:List (Pl×Int)) (c:Int),He ss c X->(X.foldl (CU val) (acc,c)).1=acc++(X.filter λp=>(val p).isSome).map λp=>(p,(Hn ss p:Int))
 | [],acc,c,_=>by simp
 | p::r,acc,c,h=>by
   rw [List.foldl_cons]
   cases e:val p with
   | none=>
     have hc:(Hn ss p:Int)=c:=by rw [h.1,h2 p e];omega
     rw [show CU val (acc,c) p=(acc,c) by unfold CU;rw [e],Qq h1 h2 r acc c (hc ▸ h.2),List.filter_cons,if_neg (by rw [e];decide)]
   | some v=>
     have hc:c+v=(Hn ss p:Int):=by rw [h.1,h1 p v e]
     rw [show CU val (acc,c) p=(acc ++ [(p,c+v)],c+v) by unfold CU;rw [e],hc,Qq h1 h2 r _ _ h.2,List.filter_cons,if_pos (by rw [e];rfl),List.map_cons,List.append_assoc]
     rfl
section
variable {ta tb td:AE} {r:AA} {τ:BB} {Q:PV->Prop} {QL:List PV->Prop} {m:List (FK×Int)}
def jw (xs:List PV) (Q:List PV->Prop):Prop:=match xs with | [.dct kvs] =>Q (kvs.map λp=>Tl p.1)|_=>False
instance lh:Wp (S6 r τ QL) (r τ λxs=>jw xs QL):=⟨id⟩
instance oZ:Wp (jw [.dct m] QL) (QL (m.map λp=>Tl p.1)):=⟨id⟩
class aU (m:List (FK×Int)) (k:FK) (i:outParam Int):Prop where
 e:BI m k=some i
def nQ (m:List (FK×Int)) (k:FK) (Q:PV->Prop):Prop:=match BI m k with | some i=>Q (.int i)|none=>False
instance qt:Wp (aW ta tb td τ Q) (ta τ λx=>tb τ λy=>td τ λm=>iW m λkvs=>M3 x y λk=>Q (.bl (BI kvs k).isSome)):=⟨id⟩
instance oW:Wp (Xw td ta tb τ Q) (td τ λm=>ta τ λx=>tb τ λy=>iW m λkvs=>M3 x y λk=>nQ kvs k Q):=⟨id⟩
instance qw {k:FK} {i:Int} [h:aU m k i] :Wp (nQ m k Q) (Q (.int i)):=⟨λz=>by unfold nQ;rw [h.e];exact z⟩
instance qv {R:List (FK×Int)->Prop}:Wp (iW (.dct m) R) (R m):=⟨id⟩
instance lj {q:Rat} {i:Int} {R:FK->Prop}:Wp (M3 (fr q) (.int i) R) (R (Ek (q,i))):=⟨id⟩
end
theorem Zs {v:PV} {xs:List PV} {m:List (FK×Int)} (hv:v= .tup xs\/v= .lst xs) (hl:xs.length<=1000) (h:FC xs [] =some m) {Q:PV->Prop} (q:Q (.dct m)):G0 [v] Q:=by
 have hz:2*xs.length+2<sizeLine:=Nat.lt_of_le_of_lt (by omega:_<=2002) (Nat.lt_of_lt_of_le (by decide:2002<2003) (Nat.le_of_ble_eq_true rfl))
 rcases hv with rfl|rfl
 ·exact ⟨hz,m,h,q⟩
 ·exact ⟨hz,m,h,q⟩
def un (k:FK):Rat:=mkRat k.1.1 k.1.2.toNat
theorem iE (p:Pl):un (Ek p)=p.1:=by
 unfold un Ek
 show mkRat p.1.num ((p.1.den:Int).toNat)=p.1
 rw [Int.toNat_natCast]
 exact Rat.mkRat_self p.1
theorem fq (p:Pl):Tl (Ek p)= .tup [fr p.1, .int p.2] :=rfl
def la (x:Pl×Int):PV:= .tup [fr x.1.1, .int x.1.2, .int x.2]
def Py (ss:List BL) (key:Pl->Bool):List (Pl×Int):=((Cu ss).filter key).map λp=>(p,(Hn ss p:Int))
theorem Wd {v:PV} {xs:List PV} {ss:List BL} {B:Nat} (hv:v= .tup xs\/v= .lst xs) (hr:GB xs ss) (ok:∀s∈ss,CK B s) (hl:ss.length<=400) (hB:B<=4000) {Q:PV->Prop} (q:∀key:Pl->Bool,(∀p,key p=true↔Iu ss p)->Q (.lst ((Py ss key).map la))):GY [v] Q:=by
 obtain ⟨m,t1,t2,t3,t4⟩:=Ov [] hr
 have hx:=hr.length
 have kk:∀p:Pl,(BI m (Ek p)).isSome=true↔Iu ss p:=λp=>by
  rw [dJ,t3]
  constructor
  ·rintro (z|⟨p',z,e⟩)
   ·cases z
   ·rw [Pu e];exact z
  ·exact λz=> .inr ⟨p,z,rfl⟩
 have q':=q (λp=>(BI m (Ek p)).isSome) kk
 have v1:∀p w,BI m (Ek p)=some w->w=cnt ss p:=λp w e=>by
  have:=t2 p
  rw [e] at this
  simpa [BI] using this
 have v2:∀p,BI m (Ek p)=none->cnt ss p=0:=λp e=>by
  have:=t2 p
  rw [e] at this
  simp [BI] at this
  omega
 have wk:=Qq v1 v2 (Cu ss) [] 0 (Ge ok)
 have mk:∀k∈m,∃p,k.1=Ek p/\Iu ss p:=λk hk=>by
  rcases (t3 k.1).mp (List.mem_map.mpr ⟨k,hk,rfl⟩) with z|⟨p,z,e⟩
  ·cases z
  ·exact ⟨p,e,z⟩
 have ms:∀x,x∈m.map (λk=>un k.1)↔x∈B8 ss:=λx=>by
  rw [List.mem_map]
  unfold B8
  rw [List.mem_flatMap]
  constructor
  ·rintro ⟨k,hk,rfl⟩
   obtain ⟨p,e,s,hs,z⟩:=mk k hk
   rw [e,iE]
   refine ⟨s,hs, ?_⟩
   rcases z with z|z
   ·rw [<-z];simp [bp]
   ·obtain ⟨e',he,rfl⟩:=Option.map_eq_some_iff.mp z
    simp [he]
  ·rintro ⟨s,hs,hx⟩
   have go:∀p:Pl,Iu ss p->∃a∈m,un a.1=p.1:=λp hp=>by
    obtain ⟨a,ha,e⟩:=List.mem_map.mp ((t3 (Ek p)).mpr (.inr ⟨p,hp,rfl⟩))
    exact ⟨a,ha,by rw [e,iE]⟩
   rcases List.mem_cons.mp hx with rfl|hx
   ·exact go (bp s) ⟨s,hs, .inl rfl⟩
   ·have hx:s.2.2=some x:=by simpa using hx
    exact go (x,0) ⟨s,hs, .inr (by unfold ep;rw [hx];rfl)⟩
 have bm:∀x∈m.map (λk=>un k.1),Bd B x:=λx h=>by
  obtain ⟨s,hs,hx⟩:=List.mem_flatMap.mp ((ms x).mp h)
  rcases List.mem_cons.mp hx with rfl|hx
  ·exact (ok s hs).b
  ·exact ((ok s hs).e x (by simpa using hx)).2
 have er:DP (m.map λk=>un k.1)=DP (B8 ss):=ZK ms
 have ml:m.length<=800:=by simp at t4;omega
 apply UK
 ac_rfl
 refine Zs hv (by omega) t1 ?_
 ac_rfl
 refine Dj (λk:FK×Int=>Tl k.1) fr (λk=>un k.1) (λk=>k∈m) (λk hk R hR=> ?_) m [] (λ_ h=>h) ?_
 ·obtain ⟨p,e,_⟩:=mk k hk
  rw [e,iE] at hR
  rw [e,fq]
  repeat' array_get_dec
  exact hR
 ac_rfl
 rw [List.nil_append]
 refine Of (.inl rfl) (by rw [List.length_map];omega) bm hB ?_
 rw [er]
 have rl:(DP (B8 ss)).length<=800:=by rw [<-er];exact Nat.le_trans Gr (by rw [List.length_map];omega)
 ac_rfl
 refine Eg fr (λus vs τ=>∃z4 z5,τ= [some (.val v),some (.val (.dct m)),some (.own (((places us).foldl (CU λp=>BI m (Ek p)) ([],0)).1.map la)),some (.val (.int ((places us).foldl (CU λp=>BI m (Ek p)) ([],0)).2)),z4,z5]) ?_ ?_ ⟨_,_,rfl⟩
 ·rintro τ ⟨z4,z5,rfl⟩
  repeat' array_get_dec
  have e:Py ss (λp=>(BI m (Ek p)).isSome)=((places (DP (B8 ss))).foldl (CU λp=>BI m (Ek p)) ([],0)).1:=by
   rw [show places (DP (B8 ss))=Cu ss from rfl,wk];rfl
  rw [e] at q'
  exact q'
 ·rintro us c vs e τ R hR ⟨z4,z5,rfl⟩
  have ep:places (us ++ [c])=places us ++ [(c,0),(c,1)] :=by unfold places;simp
  have es:(places (us ++ [c])).foldl (CU λp=>BI m (Ek p)) ([],0)=CU (λp=>BI m (Ek p)) (CU (λp=>BI m (Ek p)) ((places us).foldl (CU λp=>BI m (Ek p)) ([],0)) (c,0)) (c,1):=by rw [ep,List.foldl_append];rfl
  have al:((places us).foldl (CU λp=>BI m (Ek p)) ([],0)).1.length<=2*us.length:=by
   have go:∀(X:List Pl) (st:List (Pl×Int)×Int),(X.foldl (CU λp=>BI m (Ek p)) st).1.length<=st.1.length+X.length:=by
    intro X
    induction X with
    | nil=>intro st;simp
    | cons p X ih=>
      intro st
      have h1:=ih (CU (λp=>BI m (Ek p)) st p)
      have h2:(CU (λp=>BI m (Ek p)) st p).1.length<=st.1.length+1:=by
       unfold CU;split <;> simp
      rw [List.foldl_cons,List.length_cons];omega
   have h1:=go (places us) ([],0)
   have h2:(places us).length=2*us.length:=by
    unfold places
    clear hR es ep e h1
    induction us with
    | nil=>rfl
    | cons u us ih=>rw [List.flatMap_cons,List.length_append,ih];simp;omega
   simp at h1;omega
  have ul:us.length<=800:=by have:=congrArg List.length e;simp at this;omega
  generalize (places us).foldl (CU λp=>BI m (Ek p)) ([],0)=st at *
  obtain ⟨L,n⟩:=st
  have fin:∀(L2:List (Pl×Int)) n2 z4 z5,(L2,n2)=CU (λp=>BI m (Ek p)) (CU (λp=>BI m (Ek p)) (L,n) (c,0)) (c,1)->R [some (.val v),some (.val (.dct m)),some (.own (L2.map la)),some (.val (.int n2)),z4,z5] :=λL2 n2 z4 z5 h=>hR _ ⟨z4,z5,by rw [es,<-h]⟩
  clear hR
  have n0:(Rat.num 0:Int)=0:=rfl
  have d0:((Rat.den 0:Nat):Int)=1:=rfl
  have al':L.length<=1600:=by have h:L.length<=2*us.length:=al;omega
  cases e0:BI m (Ek (c,0)) with
  | none=>
    cases e1:BI m (Ek (c,1)) with
    | none=>
      have f:=fin L n
      repeat' array_get_dec
      simp only [n0,d0,e0]
      repeat' array_get_dec
      simp only [n0,d0,e1]
      repeat' array_get_dec
      exact f _ _ (by unfold CU;simp only [e0,e1])
    | some v1=>
      have f:=fin (L ++ [((c,1),n+v1)]) (n+v1)
      rw [List.map_append] at f
      haveI:aU m (Ek (c,1)) v1:=⟨e1⟩
      repeat' array_get_dec
      simp only [n0,d0,e0]
      repeat' array_get_dec
      simp only [n0,d0,e1]
      repeat' array_get_dec
      exact f _ _ (by unfold CU;simp only [e0,e1])
  | some v0=>
    haveI:aU m (Ek (c,0)) v0:=⟨e0⟩
    cases e1:BI m (Ek (c,1)) with
    | none=>
      have f:=fin (L ++ [((c,0),n+v0)]) (n+v0)
      rw [List.map_append] at f
      repeat' array_get_dec
      simp only [n0,d0,e0]
      repeat' array_get_dec
      simp only [n0,d0,e1]
      repeat' array_get_dec
      exact f _ _ (by unfold CU;simp only [e0,e1])
    | some v1=>
      have f:=fin (L ++ [((c,0),n+v0)] ++ [((c,1),n+v0+v1)]) (n+v0+v1)
      rw [List.map_append,List.map_append] at f
      haveI:aU m (Ek (c,1)) v1:=⟨e1⟩
      repeat' array_get_dec
      simp only [n0,d0,e0]
      repeat' array_get_dec
      simp only [n0,d0,e1]
      repeat' array_get_dec
      exact f _ _ (by unfold CU;simp only [e0,e1])
def stepI (st:List BL×Option Pl) (x:Pl×Bool):List BL×Option Pl:=
 match st.2,x.2 with
 | none,true=>(st.1,some x.1)
 | some b,false=>(st.1 ++ [(b.1,1-b.2,some x.1.1)],none)
 | _,_=>st
def RU (st:List BL×Option Pl):List BL:=match st.2 with | none=>st.1|some b=>st.1 ++ [(b.1,1-b.2,none)]
def HS (X:List (Pl×Bool)):List BL:=RU (X.foldl stepI ([],none))
def jJ:Option Pl->PV|none=> .non|some b=> .tup [fr b.1, .int (1-b.2)]
theorem XD {st:List BL×Option Pl} {x:Pl×Bool}:(stepI st x).1.length<=st.1.length+1:=by
 unfold stepI
 split <;> simp
theorem KF:∀(X:List (Pl×Bool)) (st:List BL×Option Pl),(X.foldl stepI st).1.length<=st.1.length+X.length
 | [],st=>by simp
 | x::X,st=>by
   have h1:=KF X (stepI st x)
   have h2:=XD (st:=st) (x:=x)
   rw [List.foldl_cons,List.length_cons];omega
theorem KJ:∀{ss:List BL},(B8 ss).length<=2*ss.length
 | [] =>by simp [B8]
 | s::ss=>by
   have ih:=KJ (ss:=ss)
   unfold B8 at *
   rw [List.flatMap_cons,List.length_append,List.length_cons,List.length_cons]
   have:s.2.2.toList.length<=1:=by cases s.2.2 <;> simp
   omega
theorem Hy:∀{qs:List Rat},(places qs).length=2*qs.length
 | [] =>rfl
 | q::qs=>by
   have ih:=Hy (qs:=qs)
   unfold places at *
   rw [List.flatMap_cons,List.length_append,ih,List.length_cons];simp;omega
theorem Yk {ss:List BL} {key:Pl->Bool}:(Py ss key).length<=4*ss.length:=by
 unfold Py Cu
 rw [List.length_map]
 have h1:=List.length_filter_le key (places (DP (B8 ss)))
 have h2:=Hy (qs:=DP (B8 ss))
 have h3:=Gr (xs:=B8 ss)
 have h4:=KJ (ss:=ss)
 omega
theorem TL {v:PV} {xs:List PV} {ss:List BL} {B:Nat} {n:Int} (hv:v= .tup xs\/v= .lst xs) (hr:GB xs ss) (ok:∀s∈ss,CK B s) (hl:ss.length<=400) (hB:B<=4000) {Q:PV->Prop} (q:∀key:Pl->Bool,(∀p,key p=true↔Iu ss p)->Q (.tup ((HS ((Py ss key).map λx=>(x.1,decide (n<=x.2)))).map BZ))):EH [v, .int n] Q:=by
 apply R9
 ac_rfl
 refine Wd hv hr ok hl hB λkey hk=> ?_
 have q':=q key hk
 have ll:(Py ss key).length<=2000:=Nat.le_trans Yk (by omega)
 clear q
 generalize Py ss key=Ls at *
 ac_rfl
 refine Eg la (λus vs τ=>∃z4 z5 z6,τ= [some (.val v),some (.val (.int n)),some (.own (((us.map λx=>(x.1,decide (n<=x.2))).foldl stepI ([],none)).1.map BZ)),some (.val (jJ ((us.map λx=>(x.1,decide (n<=x.2))).foldl stepI ([],none)).2)),z4,z5,z6]) ?_ ?_ ⟨_,_,_,rfl⟩
 ·rintro τ ⟨z4,z5,z6,rfl⟩
  have al:=KF (Ls.map λx=>(x.1,decide (n<=x.2))) ([],none)
  unfold HS at q'
  generalize (Ls.map λx=>(x.1,decide (n<=x.2))).foldl stepI ([],none)=st at *
  obtain ⟨L,b⟩:=st
  have al':L.length<=2000:=by have h:L.length<=0+_:=al;rw [List.length_map] at h;omega
  cases b with
  | none=>
    have q2:Q (.tup (L.map BZ)):=q'
    show Ff _ [some (.val v),some (.val (.int n)),some (.own (L.map BZ)),some (.val .non),z4,z5,z6]
    repeat' array_get_dec
    exact q2
  | some b=>
    have q2:Q (.tup ((L ++ [(b.1,1-b.2,none)]).map BZ)):=q'
    rw [List.map_append] at q2
    show Ff _ [some (.val v),some (.val (.int n)),some (.own (L.map BZ)),some (.val (.tup [fr b.1, .int (1-b.2)])),z4,z5,z6]
    repeat' array_get_dec
    exact q2
 ·rintro us c vs e τ R hR ⟨z4,z5,z6,rfl⟩
  have al:=KF (us.map λx=>(x.1,decide (n<=x.2))) ([],none)
  have ul:us.length<=2000:=by have:=congrArg List.length e;simp at this;omega
  have es:((us ++ [c]).map λx=>(x.1,decide (n<=x.2))).foldl stepI ([],none)=stepI ((us.map λx=>(x.1,decide (n<=x.2))).foldl stepI ([],none)) (c.1,decide (n<=c.2)):=by rw [List.map_append,List.foldl_append];rfl
  generalize (us.map λx=>(x.1,decide (n<=x.2))).foldl stepI ([],none)=st at *
  obtain ⟨L,b⟩:=st
  have al':L.length<=2000:=by have h:L.length<=0+_:=al;rw [List.length_map] at h;omega
  have fin:∀L2 b2 z4 z5 z6,(L2,b2)=stepI (L,b) (c.1,decide (n<=c.2))->R [some (.val v),some (.val (.int n)),some (.own (L2.map BZ)),some (.val (jJ b2)),z4,z5,z6] :=λL2 b2 z4 z5 z6 h=>hR _ ⟨z4,z5,z6,by rw [es,<-h]⟩
  clear hR
  obtain ⟨p,k⟩:=c
  show MX 3 (Aj (A2 4) (Aj (A2 5) (Aj (A2 6) CZ))) (.tup [fr p.1, .int p.2, .int k]) _ _
  cases b with
  | none=>
    show MX 3 (Aj (A2 4) (Aj (A2 5) (Aj (A2 6) CZ))) (.tup [fr p.1, .int p.2, .int k]) [some (.val v),some (.val (.int n)),some (.own (L.map BZ)),some (.val .non),z4,z5,z6] _
    repeat' array_get_dec
    ·rename_i h;exact fin L (some p) _ _ _ (by unfold stepI;simp only [decide_eq_true h])
    ·rename_i h;exact fin L none _ _ _ (by unfold stepI;simp only [decide_eq_false h])
  | some b=>
    show MX 3 (Aj (A2 4) (Aj (A2 5) (Aj (A2 6) CZ))) (.tup [fr p.1, .int p.2, .int k]) [some (.val v),some (.val (.int n)),some (.own (L.map BZ)),some (.val (.tup [fr b.1, .int (1-b.2)])),z4,z5,z6] _
    repeat' array_get_dec
    ·rename_i h
     have f:=fin (L ++ [(b.1,1-b.2,some p.1)]) none (some (.val (fr p.1))) (some (.val (.int p.2))) (some (.val (.int k))) (by unfold stepI;simp only [decide_eq_false (show ¬n<=k by omega)])
     rw [List.map_append] at f
     exact f
    ·rename_i h;exact fin L (some b) _ _ _ (by unfold stepI;simp only [decide_eq_true (show n<=k by omega)])
def S2 (In key:Pl->Bool):Bool->List Pl->Prop
 | _, [] =>True
 | c,p::r=>(key p=false->In p=c)/\S2 In key (In p) r
theorem UV {st:List BL×Option Pl} {p:Pl} {i:Bool}:(stepI st (p,i)).2.isSome=i:=by
 obtain ⟨L,b⟩:=st
 cases b <;> cases i <;> rfl
theorem UU {st:List BL×Option Pl} {p:Pl} {i:Bool} (h:i=st.2.isSome):stepI st (p,i)=st:=by
 obtain ⟨L,b⟩:=st
 cases b <;> cases i <;> first | rfl|cases h
theorem G7 {In key:Pl->Bool}:∀(X:List Pl) (st:List BL×Option Pl),S2 In key st.2.isSome X->(X.map λp=>(p,In p)).foldl stepI st=((X.filter key).map λp=>(p,In p)).foldl stepI st
 | [],st,_=>rfl
 | p::r,st,h=>by
   rw [List.map_cons,List.foldl_cons,List.filter_cons]
   cases k:key p with
   | true=>
     rw [if_pos rfl,List.map_cons,List.foldl_cons]
     exact G7 r _ (by rw [UV];exact h.2)
   | false=>
     have e:=h.1 k
     rw [if_neg (by decide),UU e]
     exact G7 r st (by have:=h.2;rw [e] at this;exact this)
theorem IA {ss:List BL} {key:Pl->Bool} {n:Int} (hk:∀p,key p=false->cnt ss p=0):∀(X:List Pl) (c:Int),He ss c X->S2 (λp=>decide (n<=(Hn ss p:Int))) key (decide (n<=c)) X
 | [],_,_=>True.intro
 | p::r,c,h=>⟨λk=>(by show decide (n<=(Hn ss p:Int))=_;rw [h.1,hk p k,Int.add_zero]),IA hk r _ h.2⟩
def canon (n:Int) (ss:List BL):List BL:=HS ((Cu ss).map λp=>(p,decide (n<=(Hn ss p:Int))))
theorem RP {ss:List BL} {p:Pl} (h:¬Iu ss p):cnt ss p=0:=by
 have key:∀ss:List BL,(∀s∈ss,¬(bp s=p\/ep s=some p))->cnt ss p=0:=by
  intro ss
  induction ss with
  | nil=>intro _;rfl
  | cons s ss ih=>
    intro h
    have h1:=h s (by simp)
    have e:cnt (s::ss) p=M4 s p+cnt ss p:=by simp [cnt]
    rw [e,ih λx hx=>h x (by simp [hx])]
    unfold M4
    rw [if_neg λz=>h1 (.inl z),if_neg λz=>h1 (.inr z)]
    rfl
 exact key ss λs hs z=>h ⟨s,hs,z⟩
theorem X3 {ss:List BL} {B:Nat} {n:Int} {key:Pl->Bool} (ok:∀s∈ss,CK B s) (hn:0<n) (hk:∀p,key p=true↔Iu ss p):HS ((Py ss key).map λx=>(x.1,decide (n<=x.2)))=canon n ss:=by
 unfold canon HS Py
 rw [List.map_map]
 have h:=G7 (In:=λp=>decide (n<=(Hn ss p:Int))) (key:=key) (Cu ss) ([],none) (by
  have:=IA (n:=n) (key:=key) (λp z=>RP λy=>by rw [(hk p).mpr y] at z;cases z) (Cu ss) 0 (Ge ok)
  rw [decide_eq_false (by omega)] at this
  exact this)
 rw [h]
 rfl
theorem TK {v:PV} {xs:List PV} {ss:List BL} {B:Nat} {n:Int} (hv:v= .tup xs\/v= .lst xs) (hr:GB xs ss) (ok:∀s∈ss,CK B s) (hl:ss.length<=400) (hB:B<=4000) (hn:0<n) {Q:PV->Prop} (q:Q (.tup ((canon n ss).map BZ))):EH [v, .int n] Q:=
 TL hv hr ok hl hB λkey hk=>by rw [X3 ok hn hk];exact q
theorem Sf {v:PV} {xs:List PV} {ss:List BL} {B:Nat} (hv:v= .tup xs\/v= .lst xs) (hr:GB xs ss) (ok:∀s∈ss,CK B s) (hl:ss.length<=400) (hB:B<=4000) {Q:PV->Prop} (q:Q (.tup ((canon 1 ss).map BZ))):EO [v] Q:=by
 apply QP
 repeat' array_get_dec
 exact TK hv hr ok hl hB (by decide) q
theorem Pq {ss:List BL} {p:Pl}:decide ((1:Int)<=(Hn ss p:Int))=ss.any (BF · p):=by
 rw [Bool.eq_iff_iff,decide_eq_true_iff,List.any_eq_true]
 unfold Hn
 constructor
 ·intro h
  obtain ⟨s,hs⟩:=List.exists_mem_of_length_pos (l:=ss.filter (BF · p)) (by omega)
  have:=List.mem_filter.mp hs
  exact ⟨s,this.1,this.2⟩
 ·rintro ⟨s,hs,h⟩
  have:=List.length_pos_of_mem (List.mem_filter.mpr ⟨hs,h⟩:s∈ss.filter (BF · p))
  omega
def Cs (In:Pl->Bool):List Pl->Option Pl->List BL
 | [],none=> []
 | [],some b=> [(b.1,1-b.2,none)]
 | p::r,none=>if In p=true then Cs In r (some p) else Cs In r none
 | p::r,some b=>if In p=true then Cs In r (some b) else (b.1,1-b.2,some p.1)::Cs In r none
theorem M8 {In:Pl->Bool}:∀(X:List Pl) (acc:List BL) (b:Option Pl),RU ((X.map λp=>(p,In p)).foldl stepI (acc,b))=acc++Cs In X b
 | [],acc,none=>by simp [RU,Cs]
 | [],acc,some b=>by simp [RU,Cs]
 | p::r,acc,none=>by
   rw [List.map_cons,List.foldl_cons]
   unfold Cs
   cases e:In p with
   | true=>exact M8 r acc (some p)
   | false=>exact M8 r acc none
 | p::r,acc,some b=>by
   rw [List.map_cons,List.foldl_cons]
   unfold Cs
   cases e:In p with
   | true=>exact M8 r acc (some b)
   | false=>
     show RU ((r.map λp=>(p,In p)).foldl stepI (acc ++ [(b.1,1-b.2,some p.1)],none))=acc++((b.1,1-b.2,some p.1)::Cs In r none)
     rw [M8 r _ none];simp
theorem Og {In:Pl->Bool} {X:List Pl}:HS (X.map λp=>(p,In p))=Cs In X none:=by
 unfold HS;rw [M8];rfl
theorem Li {q p:Pl} {e:Option Rat} (hq:q.2=0\/q.2=1) (hp:0<=p.2):BF (q.1,1-q.2,e) p=(Ni q p&&(match e with | none=>true|some e=>decide (p.1<e))):=by
 unfold BF Ni
 congr 2
 congr 1
 exact decide_eq_decide.mpr (by show 0<1-q.2+p.2↔q.2<=p.2;omega)
def Hg (In:Pl->Bool):Bool->List Pl->Prop
 | _, [] =>True
 | c,p::r=>(c=true->In p=false->p.2=0)/\Hg In (In p) r
theorem VU {In:Pl->Bool}:∀(X:List Pl),V3 X->(∀x∈X,x.2=0\/x.2=1)->
 (Hg In false X->(∀p:Pl,0<=p.2->(∀x∈X,Ln p x)->(Cs In X none).any (BF · p)=false)/\∀p∈X,(Cs In X none).any (BF · p)=In p)/\
 (Hg In true X->∀q:Pl,(q.2=0\/q.2=1)->(∀x∈X,Ln q x)->(∀p:Pl,0<=p.2->(∀x∈X,Ln p x)->(Cs In X (some q)).any (BF · p)=Ni q p)/\∀p∈X,(Cs In X (some q)).any (BF · p)=In p)
 | [],_,_=>⟨λ_=>⟨λp _ _=>rfl,λp hp=>by cases hp⟩,λ_ q hq _=>⟨λp hp _=>by show (BF (q.1,1-q.2,none) p||false)=_;rw [Li hq hp];simp,λp hp=>by cases hp⟩⟩
 | x::r,hs,h01=>by
   obtain ⟨h1,h2⟩:=List.pairwise_cons.mp hs
   have ih:=VU (In:=In) r h2 λy hy=>h01 y (by simp [hy])
   have x01:=h01 x (by simp)
   have x0:0<=x.2:=by omega
   have lr:∀p:Pl,(∀y∈x::r,Ln p y)->∀y∈r,Ln p y:=λp h y hy=>h y (by simp [hy])
   have nl:∀p:Pl,Ln p x->Ni x p=false:=λp h=>by
    rw [<-Bool.not_eq_true,Gj]
    rintro (z|z)
    ·exact Lo (KI z h)
    ·rw [z] at h;exact Lo h
   have lx:Ni x x=true:=Gj.mpr (.inr rfl)
   refine ⟨λhd=> ?_,λhd q hq p7=> ?_⟩
   ·unfold Cs
    cases e:In x with
    | true=>
      have d2:=hd.2;rw [e] at d2
      obtain ⟨a1,a2⟩:=ih.2 d2 x x01 h1
      rw [if_pos rfl]
      refine ⟨λp p0 hp=> ?_,λp hp=> ?_⟩
      ·rw [a1 p p0 (lr p hp),nl p (hp x (by simp))]
      ·rcases List.mem_cons.mp hp with rfl|hp
       ·rw [a1 p x0 h1,lx,e]
       ·exact a2 p hp
    | false=>
      have d2:=hd.2;rw [e] at d2
      obtain ⟨a1,a2⟩:=ih.1 d2
      rw [if_neg (by decide)]
      refine ⟨λp p0 hp=>a1 p p0 (lr p hp),λp hp=> ?_⟩
      rcases List.mem_cons.mp hp with rfl|hp
      ·rw [a1 p x0 h1,e]
      ·exact a2 p hp
   ·unfold Cs
    have qx:Ni q x=true:=Gj.mpr (.inl (p7 x (by simp)))
    cases e:In x with
    | true=>
      have d2:=hd.2;rw [e] at d2
      obtain ⟨a1,a2⟩:=ih.2 d2 q hq (lr q p7)
      rw [if_pos rfl]
      refine ⟨λp p0 hp=>a1 p p0 (lr p hp),λp hp=> ?_⟩
      rcases List.mem_cons.mp hp with rfl|hp
      ·rw [a1 p x0 h1,qx,e]
      ·exact a2 p hp
    | false=>
      have d2:=hd.2;rw [e] at d2
      obtain ⟨a1,a2⟩:=ih.1 d2
      have xz:=hd.1 rfl e
      rw [if_neg (by decide)]
      have off:∀p:Pl,(p=x\/Ln x p)->¬p.1<x.1:=λp h=>by
       rcases h with h|h|⟨h,_⟩ <;> grind
      refine ⟨λp p0 hp=> ?_,λp hp=> ?_⟩
      ·have lt:p.1<x.1:=by
        rcases hp x (by simp) with z|⟨_,z⟩
        ·exact z
        ·omega
       show (BF (q.1,1-q.2,some x.1) p||(Cs In r none).any (BF · p))=_
       rw [Li hq p0,a1 p p0 (lr p hp)]
       simp [lt]
      ·show (BF (q.1,1-q.2,some x.1) p||(Cs In r none).any (BF · p))=_
       rcases List.mem_cons.mp hp with rfl|hp
       ·rw [Li hq x0,a1 p x0 h1,e]
        simp [off p (.inl rfl)]
       ·rw [Li hq (by have:=h01 p (by simp [hp]);omega),a2 p hp]
        simp [off p (.inr (h1 p hp))]
theorem R6 {In:Pl->Bool} (P:Rat->Prop):∀(X:List Pl) (b:Option Pl),V3 X->(∀x∈X,(x.2=0\/x.2=1)/\P x.1)->Hg In b.isSome X->(∀q,b=some q->(q.2=0\/q.2=1)/\P q.1/\∀x∈X,Ln q x)->
 ∀s∈Cs In X b,P s.1/\(s.2.1=0\/s.2.1=1)/\∀e,s.2.2=some e->s.1<e/\P e
 | [],none,_,_,_,_=>λs hs=>by cases hs
 | [],some q,_,_,_,hb=>λs hs=>by
   obtain ⟨h1,h2,_⟩:=hb q rfl
   simp only [Cs,List.mem_singleton] at hs
   subst hs
   exact ⟨h2,by show 1-q.2=0\/1-q.2=1;omega,λe he=>by cases he⟩
 | x::r,b,hs,h01,hd,hb=>by
   obtain ⟨h1,h2⟩:=List.pairwise_cons.mp hs
   have ih:=λb d hb=>R6 (In:=In) P r b h2 (λy hy=>h01 y (by simp [hy])) d hb
   have d2:=hd.2
   cases b with
   | none=>
     unfold Cs
     cases e:In x with
     | true=>
       rw [if_pos rfl]
       rw [e] at d2
       exact ih (some x) d2 λq hq=>by cases hq;exact ⟨(h01 x (by simp)).1,(h01 x (by simp)).2,h1⟩
     | false=>
       rw [if_neg (by decide)]
       rw [e] at d2
       exact ih none d2 λq hq=>by cases hq
   | some q=>
     obtain ⟨q1,q2,q3⟩:=hb q rfl
     unfold Cs
     cases e:In x with
     | true=>
       rw [if_pos rfl]
       rw [e] at d2
       exact ih (some q) d2 λq' hq=>by cases hq;exact ⟨q1,q2,λy hy=>q3 y (by simp [hy])⟩
     | false=>
       rw [if_neg (by decide)]
       rw [e] at d2
       have xz:=hd.1 rfl e
       intro s hs
       rcases List.mem_cons.mp hs with rfl|hs
       ·refine ⟨q2,by show 1-q.2=0\/1-q.2=1;omega,λe' he=> ?_⟩
        cases he
        refine ⟨?_,(h01 x (by simp)).2⟩
        rcases q3 x (by simp) with z|⟨_,z⟩
        ·exact z
        ·omega
       ·exact ih none d2 (λq hq=>by cases hq) s hs
theorem Hr {ss:List BL}:∀(X:List Pl) (c:Int),(∀x∈X,x.2=0\/x.2=1)->He ss c X->Hg (λp=>ss.any (BF · p)) (decide (1<=c)) X
 | [],_,_,_=>True.intro
 | p::r,c,h01,h=>by
   have ih:=Hr r (Hn ss p) (λx hx=>h01 x (by simp [hx])) h.2
   rw [Pq] at ih
   refine ⟨λhc hi=> ?_,ih⟩
   rcases h01 p (by simp) with z|z
   ·exact z
   ·have hc:1<=c:=by simpa using hc
    have hi:ss.any (BF · p)=false:=hi
    rw [<-Pq] at hi
    have hi:¬(1:Int)<=Hn ss p:=by simpa using hi
    have c0:0<=cnt ss p:=by
     have go:∀ss:List BL,0<=cnt ss p:=by
      intro ss
      induction ss with
      | nil=>exact Int.le_refl _
      | cons s ss ih=>
        have e:cnt (s::ss) p=M4 s p+cnt ss p:=by simp [cnt]
        have o:0<=M4 s p:=by
         unfold M4
         have:¬ep s=some p:=λy=>by
          obtain ⟨e',_,e2⟩:=Option.map_eq_some_iff.mp y
          have:(0:Int)=p.2:=congrArg Prod.snd e2
          omega
         rw [if_neg this]
         split <;> decide
        omega
     exact go ss
    have:=h.1
    omega
theorem Qk {ss:List BL}:∀x∈Cu ss,x.2=0\/x.2=1:=λx hx=>(Bk.mp hx).2
theorem OW {ss:List BL}:canon 1 ss=Cs (λp=>ss.any (BF · p)) (Cu ss) none:=by
 unfold canon
 rw [<-Og]
 congr 1
 apply List.map_congr_left
 intro p _
 rw [Pq]
theorem NX {ss:List BL} {B:Nat} (ok:∀s∈ss,CK B s):Hg (λp=>ss.any (BF · p)) false (Cu ss):=Hr (Cu ss) 0 Qk (Ge ok)
theorem TF {ss:List BL} {B:Nat} (ok:∀s∈ss,CK B s):∀s∈canon 1 ss,s.1∈B8 ss/\(s.2.1=0\/s.2.1=1)/\∀e,s.2.2=some e->s.1<e/\e∈B8 ss:=by
 rw [OW]
 exact R6 (· ∈B8 ss) (Cu ss) none (Dh CI) (λx hx=>⟨Qk x hx,CH.mp (Bk.mp hx).1⟩) (NX ok) λq hq=>by cases hq
theorem VI {ss:List BL} {B:Nat} (ok:∀s∈ss,CK B s):∀x∈B8 ss,Bd B x:=λx h=>by
 obtain ⟨s,hs,hx⟩:=List.mem_flatMap.mp h
 rcases List.mem_cons.mp hx with rfl|hx
 ·exact (ok s hs).b
 ·exact ((ok s hs).e x (by simpa using hx)).2
theorem X4 {ss:List BL} {B:Nat} (ok:∀s∈ss,CK B s):∀s∈canon 1 ss,CK B s:=λs hs=>by
 obtain ⟨h1,h2,h3⟩:=TF ok s hs
 exact ⟨VI ok _ h1,h2,λe he=>⟨(h3 e he).1,VI ok _ (h3 e he).2⟩⟩
theorem HR (f:Rat->Bool):∀qs:List Rat,(places qs).filter (λp=>f p.1)=places (qs.filter f)
 | [] =>rfl
 | q::qs=>by
   show ((q,0)::(q,1)::places qs).filter (λp=>f p.1)=_
   rw [List.filter_cons,List.filter_cons,List.filter_cons,HR f qs]
   cases f q <;> rfl
def C8 (ms:List Rat) (ss:List BL):List Pl:=places (DP (ms++B8 ss))
theorem Ik {B:Nat} {ms:List Rat} {ss:List BL} (ok:∀s∈ss,CK B s):He ss 0 (C8 ms ss):=by
 have kin:∀s∈ss,bp s∈C8 ms ss/\∀x,ep s=some x->x∈C8 ms ss:=λs hs=>by
  obtain ⟨h1,h2⟩:=Mq ok hs
  have up:∀x∈Cu ss,x∈C8 ms ss:=λx hx=>by
   obtain ⟨a,b⟩:=Bk.mp hx
   exact Bk.mpr ⟨CH.mpr (List.mem_append_right _ (CH.mp a)),b⟩
  exact ⟨up _ h1,λx ex=>up _ (h2 x ex)⟩
 have h:=Md ok (C8 ms ss) none (Dh CI) (λp hp=>⟨True.intro,by rcases (Bk.mp hp).2 with z|z <;> omega⟩) (λs hs=>⟨.inr (kin s hs).1,λx ex=> .inr ((kin s hs).2 x ex)⟩)
 have z:(ss.map λs=>dE s none).sum=0:=by
  clear h kin ok
  induction ss with
  | nil=>rfl
  | cons s ss ih=>
    rw [List.map_cons,List.sum_cons,ih]
    unfold dE
    cases ep s <;> rfl
 rw [z] at h
 exact h
theorem TD {B:Nat} {ms:List Rat} {ss:List BL} {n:Int} (ok:∀s∈ss,CK B s) (hn:0<n):HS ((C8 ms ss).map λp=>(p,decide (n<=(Hn ss p:Int))))=canon n ss:=by
 have hk:∀p:Pl,decide (p.1∈B8 ss)=false->cnt ss p=0:=λp hp=>RP λ⟨s,hs,z⟩=>by
  have hp:¬p.1∈B8 ss:=by simpa using hp
  refine hp (List.mem_flatMap.mpr ⟨s,hs, ?_⟩)
  rcases z with z|z
  ·rw [<-z];simp [bp]
  ·obtain ⟨e',he,rfl⟩:=Option.map_eq_some_iff.mp z
   simp [he]
 have sk:=IA (n:=n) (ss:=ss) (key:=λp=>decide (p.1∈B8 ss)) hk (C8 ms ss) 0 (Ik ok)
 rw [decide_eq_false (by omega)] at sk
 have h:=G7 (C8 ms ss) ([],none) sk
 have e1:(C8 ms ss).filter (λp=>decide (p.1∈B8 ss))=Cu ss:=by
  unfold C8 Cu
  rw [HR (λx=>decide (x∈B8 ss))]
  congr 1
  refine Ql (CI.filter _) CI λx=> ?_
  rw [List.mem_filter,CH,CH,decide_eq_true_iff]
  exact ⟨λh=>h.2,λh=>⟨List.mem_append_right _ h,h⟩⟩
 rw [e1] at h
 show RU _=RU _
 rw [h]
theorem RL {B:Nat} {ss:List BL} (ok:∀s∈ss,CK B s) {p:Pl} (hp:p.2=0\/p.2=1):(canon 1 ss).any (BF · p)=ss.any (BF · p):=by
 have hm:p∈C8 [p.1] ss:=Bk.mpr ⟨CH.mpr (by simp),hp⟩
 have h01:∀x∈C8 [p.1] ss,x.2=0\/x.2=1:=λx hx=>(Bk.mp hx).2
 have dr:=Hr (C8 [p.1] ss) 0 h01 (Ik ok)
 have e:canon 1 ss=Cs (λp=>ss.any (BF · p)) (C8 [p.1] ss) none:=by
  rw [<-TD (ms:= [p.1]) ok (by decide),<-Og]
  congr 1
  apply List.map_congr_left
  intro q _
  rw [Pq]
 rw [e]
 exact ((VU (C8 [p.1] ss) (Dh CI) h01).1 dr).2 p hm
def hN (L:List BL) (p:Pl):Nat:=(L.filter (BF · p)).length
theorem Uq {α:Type} (f:α->Bool):∀xs:List α,Ii (xs.map λx=> .bl (f x))=some (xs.map f)
 | [] =>rfl
 | x::xs=>by
   show (Ii (xs.map λx=> .bl (f x))).map (f x :: ·)=_
   rw [Uq f xs];rfl
theorem mQ (xs:List PV):HJ xs (some 1) none=xs.drop 1:=by
 unfold HJ
 rw [HT.sIx_none,show ((1:Int))=((1:Nat):Int) from rfl,HT.sIx_nat]
 cases xs with
 | nil=>rfl
 | cons x xs=>
   rw [Nat.min_eq_left (by simp)]
   simp
theorem Mf:∀(X:List (Pl×Bool)) (st:List BL×Option Pl),2*(X.foldl stepI st).1.length+(if (X.foldl stepI st).2.isSome then 1 else 0)<=2*st.1.length+(if st.2.isSome then 1 else 0)+X.length
 | [],st=>Nat.le_refl _
 | x::X,st=>by
   have h1:=Mf X (stepI st x)
   have h2:2*(stepI st x).1.length+(if (stepI st x).2.isSome then 1 else 0)<=2*st.1.length+(if st.2.isSome then 1 else 0)+1:=by
    obtain ⟨L,b⟩:=st
    obtain ⟨p,c⟩:=x
    cases b <;> cases c <;> simp [stepI] <;> omega
   rw [List.foldl_cons,List.length_cons];omega
theorem W4 (X:List (Pl×Bool)):2*(HS X).length<=X.length+1:=by
 have h:=Mf X ([],none)
 unfold HS
 generalize X.foldl stepI ([],none)=st at *
 obtain ⟨L,b⟩:=st
 cases b <;> simp [RU] at * <;> omega
theorem TC {n:Int} {ss:List BL}:(canon n ss).length<=2*ss.length:=by
 unfold canon Cu
 have h:=W4 ((places (DP (B8 ss))).map λp=>(p,decide (n<=(Hn ss p:Int))))
 have a1:=Gr (xs:=B8 ss)
 have a2:=KJ (ss:=ss)
 have a3:=Hy (qs:=DP (B8 ss))
 rw [List.length_map] at h
 omega
inductive RH:List PV->List (List BL)->Prop where
 | nil:RH [] []
 | cons {x:PV} {xs:List PV} {ss:List BL} {r:List PV} {rs:List (List BL)} (h:x= .tup xs\/x= .lst xs) (hr:GB xs ss) (t:RH r rs):RH (x::r) (ss::rs)
theorem RH.length:∀{xs:List PV} {ss:List (List BL)},RH xs ss->xs.length=ss.length
 | _,_, .nil=>rfl
 | _,_, .cons _ _ t=>by simp [t.length]
theorem lt_size {k n:Nat} (h:k<=n) (hn:n<1000000):k<sizeLine:=Nat.lt_of_le_of_lt h (Nat.lt_of_lt_of_le hn (Nat.le_of_ble_eq_true rfl))
def lin (p q:T3) (s:Rat):T3:=(p.1+s*(q.1-p.1),p.2.1+s*(q.2.1-p.2.1),p.2.2+s*(q.2.2-p.2.2))
theorem fz {a0 D b e m x X:Rat} (hD:D≠0) (h:e-b≠0):x+(m-a0)/D*X=(x+(b-a0)/D*X)+(m-b)/(e-b)*((x+(e-a0)/D*X)-(x+(b-a0)/D*X)):=by
 grind
theorem WW {a c:C4} {b e m:Rat} (h1:a.1<c.1) (h2:b<e):inter a c m=lin (inter a c b) (inter a c e) ((m-b)/(e-b)):=by
 have n1:c.1-a.1≠0:=by grind
 have n2:e-b≠0:=by grind
 simp only [inter,lin]
 rw [<-fz n1 n2,<-fz n1 n2,<-fz n1 n2]
theorem Yi (p q:T3):lin p q 0=p:=by
 obtain ⟨a,b,c⟩:=p
 simp [lin,Rat.zero_mul,Rat.add_zero]
theorem KS {b e m:Rat} {p q:T3} (Ob:b<e) (h1:b<=m) (h2:m<=e):∀{a:C4} {r:List C4},GM (a::r)->(∀c∈r,¬(b<c.1/\c.1<e))->spotG a r b=some p->spotG a r e=some q->spotG a r m=some (lin p q ((m-b)/(e-b)))
 | a, [],_,_,hp,_=>by cases hp
 | a,c::r,hr,hn,hp,hq=>by
   have ma:=(List.pairwise_cons.mp hr).1 c (by simp)
   have bM:GM (c::r):=(List.pairwise_cons.mp hr).2
   by_cases k1:c.1<b
   ·simp only [spotG] at hp hq ⊢
    rw [if_pos k1] at hp
    rw [if_pos (by grind)] at hq ⊢
    exact KS Ob h1 h2 bM (λx hx=>hn x (by simp [hx])) hp hq
   ·simp only [spotG] at hp hq ⊢
    rw [if_neg k1] at hp
    by_cases k2:b=c.1
    ·subst k2
     rw [Mo ma] at hp
     cases hp
     by_cases k3:c.1<m
     ·rw [if_pos k3]
      rw [if_pos (by grind)] at hq
      refine KS Ob h1 h2 bM (λx hx=>hn x (by simp [hx])) ?_ hq
      cases r with
      | nil=>cases hq
      | cons d r=>
        have Lj:=(List.pairwise_cons.mp bM).1 d (by simp)
        simp only [spotG]
        rw [if_neg (by grind),Rk Lj]
     ·have e1:m=c.1:=by grind
      subst e1
      rw [if_neg k3,Mo ma]
      have z:(c.1-c.1)/(e-c.1)=0:=by grind
      rw [z,Yi]
    ·have k4:¬c.1<e:=λz=>hn c (by simp) ⟨by grind,z⟩
     cases hp
     rw [if_neg k4] at hq
     cases hq
     rw [if_neg (by grind)]
     rw [<-WW ma Ob]
theorem Os {b e m:Rat} {p q:T3} {cs:List C4} (hr:GM cs) (Ob:b<e) (h1:b<=m) (h2:m<=e) (hn:∀c∈cs,¬(b<c.1/\c.1<e)) (hp:spotC cs b=some p) (hq:spotC cs e=some q):spotC cs m=some (lin p q ((m-b)/(e-b))):=by
 cases cs with
 | nil=>cases hp
 | cons a r=>
   simp only [spotC] at hp hq ⊢
   by_cases k:b<a.1
   ·rw [if_pos k] at hp;cases hp
   ·rw [if_neg k] at hp
    rw [if_neg (by grind)] at hq ⊢
    exact KS Ob h1 h2 hr (λc hc=>hn c (by simp [hc])) hp hq
theorem CK.mono {B C:Nat} {s:BL} (h:CK B s) (k:B<=C):CK C s:=⟨h.b.mono k,h.h,λe he=>⟨(h.e e he).1,(h.e e he).2.mono k⟩⟩
def aw (r s:BL):Prop:=∃e,r.2.2=some e/\(e<s.1\/(e=s.1/\s.2.1=0))
def Sep (ss:List BL):Prop:=ss.Pairwise aw
theorem X1 (q:Pl) (e:Option Rat):bp (q.1,1-q.2,e)=q:=by
 obtain ⟨a,b⟩:=q
 show (a,1-(1-b))=(a,b)
 rw [show 1-(1-b)=b by omega]
theorem FW {In:Pl->Bool}:∀(X:List Pl) (b:Option Pl),∀s∈Cs In X b,bp s∈X\/b=some (bp s)
 | [],none=>λs hs=>by cases hs
 | [],some q=>λs hs=>by
   simp only [Cs,List.mem_singleton] at hs
   subst hs
   exact .inr (by rw [X1])
 | x::r,none=>λs hs=>by
   unfold Cs at hs
   split at hs
   ·rcases FW r (some x) s hs with h|h
    ·exact .inl (by simp [h])
    ·cases h;exact .inl (by simp)
   ·rcases FW r none s hs with h|h
    ·exact .inl (by simp [h])
    ·cases h
 | x::r,some q=>λs hs=>by
   unfold Cs at hs
   split at hs
   ·rcases FW r (some q) s hs with h|h
    ·exact .inl (by simp [h])
    ·exact .inr h
   ·rcases List.mem_cons.mp hs with rfl|hs
    ·exact .inr (by rw [X1])
    ·rcases FW r none s hs with h|h
     ·exact .inl (by simp [h])
     ·cases h
theorem VV {In:Pl->Bool}:∀(X:List Pl) (b:Option Pl),V3 X->(∀x∈X,x.2=0\/x.2=1)->Hg In b.isSome X->Sep (Cs In X b)
 | [],none,_,_,_=> .nil
 | [],some q,_,_,_=>List.pairwise_singleton _ _
 | x::r,b,hs,h01,hd=>by
   obtain ⟨h1,h2⟩:=List.pairwise_cons.mp hs
   have ih:=λb d=>VV (In:=In) r b h2 (λy hy=>h01 y (by simp [hy])) d
   have d2:=hd.2
   cases b with
   | none=>
     unfold Cs
     cases e:In x with
     | true=>rw [if_pos rfl];rw [e] at d2;exact ih (some x) d2
     | false=>rw [if_neg (by decide)];rw [e] at d2;exact ih none d2
   | some q=>
     unfold Cs
     cases e:In x with
     | true=>rw [if_pos rfl];rw [e] at d2;exact ih (some q) d2
     | false=>
       rw [if_neg (by decide)]
       rw [e] at d2
       have xz:=hd.1 rfl e
       refine List.pairwise_cons.mpr ⟨λs hs=> ?_,ih none d2⟩
       rcases FW r none s hs with h|h
       ·refine ⟨x.1,rfl, ?_⟩
        have k:=h1 _ h
        have k2:=h01 _ (List.mem_cons_of_mem x h)
        have k2:1-s.2.1=0\/1-s.2.1=1:=k2
        rcases k with k|⟨k,k3⟩
        ·exact .inl k
        ·have k3:x.2<1-s.2.1:=k3
         exact .inr ⟨k,by omega⟩
       ·cases h
theorem Dd {B:Nat} {ss:List BL} (ok:∀s∈ss,CK B s):Sep (canon 1 ss):=by
 rw [OW]
 exact VV (Cu ss) none (Dh CI) Qk (NX ok)
theorem BM {B:Nat} {s:BL} {m x:Rat} (os:CK B s) (hx:s.2.2=some x):BF s (m,0)=true↔(s.1<m\/(s.1=m/\s.2.1=1))/\m<x:=by
 unfold BF
 rw [hx]
 have:0<s.2.1+0↔s.2.1=1:=by have:=os.h;omega
 simp only [Bool.and_eq_true,Bool.or_eq_true,decide_eq_true_eq,this]
section
variable {B:Nat} {s:BL} {a:List BL} {e:Rat}
theorem Cc (h:Sep (s::a)) (ok:∀t∈s::a,CK B t) (fin:∀t∈s::a,∃x,t.2.2=some x) (he:s.2.2=some e) {m:Rat} (hm:m<=e):a.any (BF · (m,0))=false:=by
 rw [List.any_eq_false]
 intro t ht z
 obtain ⟨x,hx⟩:=fin t (by simp [ht])
 have k:=(BM (ok t (by simp [ht])) hx).mp z
 obtain ⟨e',h1,h2⟩:=(List.pairwise_cons.mp h).1 t ht
 rw [he] at h1
 cases h1
 rcases h2 with h2|⟨h2,h3⟩
 ·rcases k.1 with k1|⟨k1,k2⟩ <;> grind
 ·rcases k.1 with k1|⟨k1,k2⟩
  ·grind
  ·omega
end
theorem E5 {a b:Rat} (h:a<b):a<(a+b)/2/\(a+b)/2<b:=⟨by grind,by grind⟩
theorem Oo {B C:Nat} {s t:BL} {a b:List BL} {e f:Rat} (ha:Sep (s::a)) (oka:∀x∈s::a,CK B x) (fa:∀x∈s::a,∃y,x.2.2=some y) (hb:Sep (t::b)) (okb:∀x∈t::b,CK C x) (fb:∀x∈t::b,∃y,x.2.2=some y) (he:s.2.2=some e) (hf:t.2.2=some f)
 (h:∀m:Rat,(s::a).any (BF · (m,0))=(t::b).any (BF · (m,0))):¬s.1<t.1:=by
 intro z
 have os:=oka s (by simp)
 have ot:=okb t (by simp)
 have l1:=(os.e e he).1
 have l2:=(ot.e f hf).1
 obtain ⟨m,m1,m2,m3⟩:∃m,s.1<m/\m<e/\m<t.1:=by
  by_cases w:e<t.1
  ·exact ⟨_,(E5 l1).1,(E5 l1).2,by have:=(E5 l1).2;grind⟩
  ·exact ⟨_,(E5 z).1,by have:=(E5 z).2;grind,(E5 z).2⟩
 have k:=h m
 rw [List.any_cons,List.any_cons,(BM os he).mpr ⟨.inl m1,m2⟩,Cc hb okb fb hf (by grind)] at k
 have n:BF t (m,0)=false:=Bool.eq_false_iff.mpr λy=>by
  have:=(BM ot hf).mp y
  grind
 rw [n] at k
 simp at k
theorem NN {B C:Nat}:∀{a b:List BL},Sep a->Sep b->(∀x∈a,CK B x)->(∀x∈b,CK C x)->(∀x∈a,∃y,x.2.2=some y)->(∀x∈b,∃y,x.2.2=some y)->(∀m:Rat,a.any (BF · (m,0))=b.any (BF · (m,0)))->a=b
 | [], [],_,_,_,_,_,_,_=>rfl
 | s::a, [],_,_,ok,_,fa,_,h=>by
   obtain ⟨e,he⟩:=fa s (by simp)
   have os:=ok s (by simp)
   have l:=E5 (os.e e he).1
   have k:=h ((s.1+e)/2)
   rw [List.any_cons,(BM os he).mpr ⟨.inl l.1,l.2⟩] at k
   simp at k
 | [],s::a,_,_,_,ok,_,fa,h=>by
   obtain ⟨e,he⟩:=fa s (by simp)
   have os:=ok s (by simp)
   have l:=E5 (os.e e he).1
   have k:=h ((s.1+e)/2)
   rw [List.any_cons,(BM os he).mpr ⟨.inl l.1,l.2⟩] at k
   simp at k
 | s::a,t::b,ha,hb,oka,okb,fa,fb,h=>by
   obtain ⟨e,he⟩:=fa s (by simp)
   obtain ⟨f,hf⟩:=fb t (by simp)
   have os:=oka s (by simp)
   have ot:=okb t (by simp)
   have l1:=(os.e e he).1
   have l2:=(ot.e f hf).1
   have n1:=Oo ha oka fa hb okb fb he hf h
   have n2:=Oo hb okb fb ha oka fa hf he λm=>(h m).symm
   have e1:s.1=t.1:=by grind
   have A:∀m,(s::a).any (BF · (m,0))=(BF s (m,0)||a.any (BF · (m,0))):=λm=>by rw [List.any_cons]
   have Bb:∀m,(t::b).any (BF · (m,0))=(BF t (m,0)||b.any (BF · (m,0))):=λm=>by rw [List.any_cons]
   have e2:s.2.1=t.2.1:=by
    have k:=h s.1
    rw [A,Bb,Cc ha oka fa he (by grind),Cc hb okb fb hf (by grind),Bool.or_false,Bool.or_false] at k
    have k1:=BM (m:=s.1) os he
    have k2:=BM (m:=s.1) ot hf
    have:s.2.1=1↔t.2.1=1:=by
     constructor
     ·intro z
      have:=k2.mp (by rw [<-k];exact k1.mpr ⟨.inr ⟨rfl,z⟩,l1⟩)
      rcases this.1 with w|⟨_,w⟩
      ·grind
      ·exact w
     ·intro z
      have:=k1.mp (by rw [k];exact k2.mpr ⟨.inr ⟨e1.symm,z⟩,by grind⟩)
      rcases this.1 with w|⟨_,w⟩
      ·grind
      ·exact w
    have:=os.h
    have:=ot.h
    omega
   have e3:e=f:=by
    by_cases w:e<f
    ·have k:=h e
     rw [A,Bb,Cc ha oka fa he (by grind),(BM ot hf).mpr ⟨.inl (by grind),w⟩] at k
     have n:BF s (e,0)=false:=Bool.eq_false_iff.mpr λy=>by
      have:=(BM os he).mp y
      grind
     rw [n] at k
     simp at k
    ·by_cases w2:f<e
     ·have k:=h f
      rw [A,Bb,Cc hb okb fb hf (by grind),(BM os he).mpr ⟨.inl (by grind),w2⟩] at k
      have n:BF t (f,0)=false:=Bool.eq_false_iff.mpr λy=>by
       have:=(BM ot hf).mp y
       grind
      rw [n] at k
      simp at k
     ·grind
   have est:s=t:=by
    obtain ⟨x,y,z⟩:=s
    obtain ⟨x',y',z'⟩:=t
    simp only at e1 e2 he hf
    subst e1 e2 he hf e3
    rfl
   subst est
   congr 1
   refine NN (List.pairwise_cons.mp ha).2 (List.pairwise_cons.mp hb).2 (λx hx=>oka x (by simp [hx])) (λx hx=>okb x (by simp [hx])) (λx hx=>fa x (by simp [hx])) (λx hx=>fb x (by simp [hx])) λm=> ?_
   by_cases w:m<=e
   ·rw [Cc ha oka fa he w,Cc hb okb fb he w]
   ·have k:=h m
    have n:BF s (m,0)=false:=Bool.eq_false_iff.mpr λy=>by
     have:=(BM os he).mp y
     grind
    rw [A,Bb,n] at k
    simpa using k
abbrev Hd:AS:=
 (Ad (Gd (OP (aV 0)) (MX 2 (Aj (A2 2) (Aj (A2 3) CZ))) (S5 1 DH (AY Pi (aV 3) (AN 2 GX (AB (aV 1) (AB (aV 3) AL))))))
   (Av (aV 1)))
abbrev F9:AS:=
 (Ad (A0 (aC (.int 1)) (A2 1))
   Hd)
def CG:AF:=A5 4 F9
theorem JH {x0:PV} {Q:PV->Prop} (h:F9 ⟨λ_=>Q .non,Q,λ_=>False,λ_=>False⟩ [some (.val x0),none,none,none]):CG [x0] Q:=h
def SU (xs:List Rat):Nat:=xs.foldl (λN r=>N*(r.den/Nat.gcd N r.den)) 1
theorem Vg (xs:List Rat) (r:Rat):SU (xs ++ [r])=SU xs*(r.den/Nat.gcd (SU xs) r.den):=by unfold SU;rw [List.foldl_append];rfl
theorem cu {N d:Nat} (hN:0<N) (hd:0<d):0<N*(d/Nat.gcd N d)/\N ∣ N*(d/Nat.gcd N d)/\d ∣ N*(d/Nat.gcd N d)/\N*(d/Nat.gcd N d)<=N*d:=by
 have g:Nat.gcd N d ∣ d:=Nat.gcd_dvd_right ..
 have gp:0<Nat.gcd N d:=Nat.gcd_pos_of_pos_right _ hd
 refine ⟨Nat.mul_pos hN (Nat.div_pos (Nat.le_of_dvd hd g) gp),Nat.dvd_mul_right .., ?_,Nat.mul_le_mul_left _ (Nat.div_le_self ..)⟩
 rw [<-Nat.mul_div_assoc _ g]
 exact Nat.dvd_lcm_right ..
theorem Qa {W:Nat}:∀(n:Nat) (xs:List Rat),xs.length=n->(∀x∈xs,Bd W x)->0<SU xs/\(∀x∈xs,x.den ∣ SU xs)/\SU xs<2^(n*W+1)
 | 0,xs,e,_=>by
   have:xs= [] :=List.length_eq_zero_iff.mp e
   subst this
   exact ⟨by decide,by simp,by simp [SU]⟩
 | n+1,xs,e,h=>by
   obtain ⟨ys,r,rfl⟩:∃ys r,xs=ys ++ [r] :=⟨xs.dropLast,xs.getLast (by intro z;subst z;cases e),(List.dropLast_concat_getLast _).symm⟩
   have el:ys.length=n:=by simpa using e
   obtain ⟨h1,h2,h3⟩:=Qa n ys el λx hx=>h x (by simp [hx])
   have br:=(h r (by simp)).bot
   rw [Vg]
   obtain ⟨k1,k2,k3,k4⟩:=cu h1 r.den_pos
   refine ⟨k1,λx hx=> ?_, ?_⟩
   ·rcases List.mem_append.mp hx with hx|hx
    ·exact Nat.dvd_trans (h2 x hx) k2
    ·simp at hx;subst hx;exact k3
   ·refine Nat.lt_of_le_of_lt k4 ?_
    have:=Ym h3 br
    rw [show n*W+1+W=(n+1)*W+1 by rw [Nat.succ_mul];omega] at this
    exact this
theorem W8 {v:PV} {xs:List Rat} {W:Nat} (hv:v= .lst (xs.map fr)) (hx:∀x∈xs,Bd W x) (hl:xs.length<=6) (hW:W<=1400) {Q:PV->Prop} (q:Q (.int (SU xs:Nat))):CG [v] Q:=by
 subst hv
 apply JH
 ac_rfl
 refine Eg fr (λus vs τ=>∃z2 z3,τ= [some (.val (.lst (xs.map fr))),some (.val (.int (SU us:Nat))),z2,z3]) ?_ ?_ ⟨_,_,rfl⟩
 ·rintro τ ⟨z2,z3,rfl⟩
  ac_rfl
  exact q
 ·rintro us c vs e τ R hR ⟨z2,z3,rfl⟩
  have hu:∀x∈us,Bd W x:=λx jh=>hx x (by rw [<-e];simp [jh])
  have ul:us.length<=6:=by rw [<-e] at hl;simp at hl;omega
  obtain ⟨h1,h2,h3⟩:=Qa us.length us rfl hu
  have bc:=(hx c (by rw [<-e];simp)).bot
  have mm:us.length*W<=6*1400:=Nat.mul_le_mul ul hW
  have g0:0<Nat.gcd (SU us) c.den:=Nat.gcd_pos_of_pos_right _ c.den_pos
  have gl:Nat.gcd (SU us) c.den<2^8900:=Ay (Nat.lt_of_le_of_lt (Nat.le_of_dvd c.den_pos (Nat.gcd_dvd_right ..)) bc) (by omega)
  ac_rfl
  refine Kk _ _ _ ?_
  ac_rfl
  refine ⟨⟨by omega,by simpa using gl⟩, ?_⟩
  have ed:((c.den:Nat):Int).fdiv ((Nat.gcd (SU us) c.den:Nat):Int)=((c.den/Nat.gcd (SU us) c.den:Nat):Int):=by
   rw [Int.fdiv_eq_ediv_of_nonneg _ (by omega),Int.natCast_ediv]
  rw [ed]
  have dl:c.den/Nat.gcd (SU us) c.den<2^1400:=Ay (Nat.lt_of_le_of_lt (Nat.div_le_self ..) bc) hW
  ac_rfl
  refine ⟨MulOk.of (m:=8401) (n:=1400) (by simpa using Ay h3 (by omega)) (by rw [Int.natAbs_natCast];exact dl), ?_⟩
  exact hR _ ⟨some (.val (.int c.num)),some (.val (.int c.den)),by rw [Vg,Int.natCast_mul];rfl⟩
abbrev Jy:AS:=
 (Ad (Ee 3 LW (AB (BG (AB (aV 6) (AB (aV 7) AL))) AL))
   (Ee 3 LW (AB (BG (AB (Sk KE (aV 6)) (AB (Sk KE (aV 7)) AL))) AL)))
abbrev Jx:AS:=
 (Ad (A0 (AY DH (AY Ap (aV 5) (aC (.int 0))) (AY Pi (aV 2) (AY Ap (aV 5) (aC (.int 1))))) (A2 7))
   Jy)
abbrev Nm:AS:=
 (Ad (A0 (AY DH (AY Ap (aV 4) (aC (.int 0))) (AY Pi (aV 2) (AY Ap (aV 4) (aC (.int 1))))) (A2 6))
   Jx)
abbrev Np:AS:=
 (Ad (Gd (fB (AB (aV 0) (AB (aV 1) AL))) (MX 2 (Aj (A2 4) (Aj (A2 5) CZ))) Nm)
   (Av (BG (AB (aV 2) (AB (aV 3) AL)))))
abbrev Nn:AS:=
 (Ad (LP (Dx AL) 3)
   Np)
abbrev ME:AS:=
 (Ad (A0 (AN 1 CG (AB (AY BV (aV 0) (aV 1)) AL)) (A2 2))
   Nn)
def EN:AF:=A5 8 ME
theorem QN {x0 x1:PV} {Q:PV->Prop} (h:ME ⟨λ_=>Q .non,Q,λ_=>False,λ_=>False⟩ [some (.val x0),some (.val x1),none,none,none,none,none,none]):EN [x0,x1] Q:=h
def EL (N:Nat) (r:Rat):Int:=r.num*((N:Int).fdiv (r.den:Int))
theorem Gx {N:Nat} {r:Rat} (h:r.den ∣ N):(EL N r:Rat)=r*N:=by
 obtain ⟨k,rfl⟩:=h
 have hd:=r.den_pos
 unfold EL
 rw [Int.natCast_mul,Int.mul_fdiv_cancel_left _ (by omega),Rat.intCast_mul]
 have hn:((r.den:Int):Rat)≠0:=λz=>by
  have:(r.den:Int)=0:=Rat.intCast_inj.mp z
  omega
 have e:r=(r.num:Rat)/((r.den:Int):Rat):=by rw [<-Rat.divInt_eq_div,Rat.num_divInt_den]
 have e2:r*((r.den:Int):Rat)=r.num:=by
  conv=>lhs;arg 1;rw [e]
  grind
 rw [<-e2,show ((r.den*k:Nat):Rat)=((r.den:Int):Rat)*((k:Int):Rat) by rw [<-Rat.intCast_mul,<-Int.natCast_mul,Rat.intCast_natCast]]
 grind
abbrev Lm (p:Int×Int):PV:= .tup [.int p.1, .int p.2]
def Tx (t:T3):PV:= .lst [fr t.1,fr t.2.1,fr t.2.2]
structure Pc where
 b:Rat
 e:Rat
 o0:T3
 o1:T3
def Pc.six (p:Pc):List Rat:= [p.o0.1,p.o0.2.1,p.o0.2.2,p.o1.1,p.o1.2.1,p.o1.2.2]
def Pc.N (p:Pc):Nat:=SU p.six
def Pc.lns (p:Pc):List (Int×Int):= [(EL p.N p.o0.1,EL p.N p.o1.1),(-EL p.N p.o0.1, -EL p.N p.o1.1),(EL p.N p.o0.2.1,EL p.N p.o1.2.1),(-EL p.N p.o0.2.1, -EL p.N p.o1.2.1),(EL p.N p.o0.2.2,EL p.N p.o1.2.2),(-EL p.N p.o0.2.2, -EL p.N p.o1.2.2)]
def j5 (p:Pc):PV:= .tup [fr p.b,fr p.e, .int p.N, .lst (p.lns.map Lm)]
theorem Ze {W:Nat} {p:Pc} (h0:E2 W p.o0) (h1:E2 W p.o1):∀x∈p.six,Bd W x:=by
 intro x hx
 simp only [Pc.six,List.mem_cons,List.not_mem_nil,or_false] at hx
 rcases hx with rfl|rfl|rfl|rfl|rfl|rfl
 ·exact h0.x
 ·exact h0.y
 ·exact h0.z
 ·exact h1.x
 ·exact h1.y
 ·exact h1.z
theorem U1 {N d k:Nat} (h:N<2^k):((N:Int).fdiv (d:Int)).natAbs<2^k:=by
 rw [Int.fdiv_eq_ediv_of_nonneg _ (by omega),<-Int.natCast_ediv,Int.natAbs_natCast]
 exact Nat.lt_of_le_of_lt (Nat.div_le_self ..) h
theorem Yj {p:Pc} {W:Nat} (h0:E2 W p.o0) (h1:E2 W p.o1) (hW:W<=1400) {Q:PV->Prop} (q:Q (.tup [.int p.N, .lst (p.lns.map Lm)])):EN [Tx p.o0,Tx p.o1] Q:=by
 have hs:=Ze h0 h1
 obtain ⟨k1,k2,k3⟩:=Qa 6 p.six rfl hs
 have n0:(p.N:Nat)<2^8401:=Ay k3 (by omega)
 have dv:∀r:Rat,Bd W r->RD (p.N:Int) (r.den:Int)/\MulOk r.num ((p.N:Int).fdiv (r.den:Int)):=λr br=>
  ⟨⟨BU r,by simpa using Ay br.bot (by omega)⟩,MulOk.of (m:=1400) (n:=8401) (Ay br.top hW) (U1 n0)⟩
 unfold Tx
 apply QN
 repeat' array_get_dec
 refine W8 (xs:=p.six) (W:=W) rfl hs (by show 6<=6;omega) hW ?_
 have q:Q (.tup [.int p.N, .lst [Lm (EL p.N p.o0.1,EL p.N p.o1.1),Lm (-EL p.N p.o0.1, -EL p.N p.o1.1),Lm (EL p.N p.o0.2.1,EL p.N p.o1.2.1),Lm (-EL p.N p.o0.2.1, -EL p.N p.o1.2.1),Lm (EL p.N p.o0.2.2,EL p.N p.o1.2.2),Lm (-EL p.N p.o0.2.2, -EL p.N p.o1.2.2)]]):=q
 unfold EL at q
 rw [show SU p.six=p.N from rfl]
 generalize p.N=N at *
 repeat' array_get_dec
 refine ⟨(dv _ h0.x).1,(dv _ h0.x).2, ?_⟩
 repeat' array_get_dec
 refine ⟨(dv _ h1.x).1,(dv _ h1.x).2, ?_⟩
 repeat' array_get_dec
 refine ⟨(dv _ h0.y).1,(dv _ h0.y).2, ?_⟩
 repeat' array_get_dec
 refine ⟨(dv _ h1.y).1,(dv _ h1.y).2, ?_⟩
 repeat' array_get_dec
 refine ⟨(dv _ h0.z).1,(dv _ h0.z).2, ?_⟩
 repeat' array_get_dec
 refine ⟨(dv _ h1.z).1,(dv _ h1.z).2, ?_⟩
 repeat' array_get_dec
 exact q
abbrev Ug:AS:=
 (Ad (A0 (AY BV (AN 3 Bl (AB (aV 0) (AB (aV 2) (AB (aV 3) AL)))) (AN 3 Bl (AB (aV 1) (AB (aV 2) (AB (aV 3) AL))))) (A2 4))
   (Av (AN 1 FQ (AB (AY BV (GQ (Dx (AB (aV 2) (AB (aV 3) AL)))) (GQ (DD (OP (aV 4)) 1 [] (A2 0) E3 (AY Ap (aV 0) (aC (.int 0)))))) AL))))
def IZ:AF:=A5 5 Ug
theorem W6 {x0 x1 x2 x3:PV} {Q:PV->Prop} (h:Ug ⟨λ_=>Q .non,Q,λ_=>False,λ_=>False⟩ [some (.val x0),some (.val x1),some (.val x2),some (.val x3),none]):IZ [x0,x1,x2,x3] Q:=h
def FD (cs ds:List C4) (b e:Rat):List Rat:=DP ([b,e] ++ ((cs.filter (OU b e)++ds.filter (OU b e)).map (·.1)))
theorem Fd {cs ds:List C4} {b e x:Rat}:x∈FD cs ds b e↔x=b\/x=e\/(b<x/\x<e/\∃c,(c∈cs\/c∈ds)/\c.1=x):=by
 unfold FD
 rw [CH]
 simp only [List.cons_append,List.nil_append,List.mem_cons,List.mem_map,List.mem_append,List.mem_filter,OU,Bool.and_eq_true,decide_eq_true_eq]
 constructor
 ·rintro (h|h|⟨c,h,rfl⟩)
  ·exact .inl h
  ·exact .inr (.inl h)
  ·rcases h with ⟨h1,h2,h3⟩|⟨h1,h2,h3⟩
   ·exact .inr (.inr ⟨h2,h3,c, .inl h1,rfl⟩)
   ·exact .inr (.inr ⟨h2,h3,c, .inr h1,rfl⟩)
 ·rintro (h|h|⟨h1,h2,c,h,rfl⟩)
  ·exact .inl h
  ·exact .inr (.inl h)
  ·exact .inr (.inr ⟨c,h.elim (λh=> .inl ⟨h,h1,h2⟩) (λh=> .inr ⟨h,h1,h2⟩),rfl⟩)
theorem Ox {cs ds:List C4} {b e:Rat}:(FD cs ds b e).length<=2+(cs.length+ds.length):=by
 unfold FD
 refine Nat.le_trans Gr ?_
 have h1:=List.length_filter_le (OU b e) cs
 have h2:=List.length_filter_le (OU b e) ds
 simp only [List.length_append,List.length_map,List.length_cons,List.length_nil]
 omega
theorem Z4 {cs ds:List C4} {v w:PV} {b e:Rat} {B:Nat} (hv:CQ cs v) (hw:CQ ds w) (hl:cs.length<=100) (pp:ds.length<=100) (hc:∀c∈cs,GO B c) (Te:∀c∈ds,GO B c) (hB:B<=4000) (bb:Bd B b) (be:Bd B e) {Q:PV->Prop} (q:Q (.lst ((FD cs ds b e).map fr))):IZ [v,w,fr b,fr e] Q:=by
 have h1:=List.length_filter_le (OU b e) cs
 have h2:=List.length_filter_le (OU b e) ds
 apply W6
 ac_rfl
 refine Dw hv (by omega) hc hB (bb.mono hB) (be.mono hB) ?_
 ac_rfl
 refine Dw hw (by omega) Te hB (bb.mono hB) (be.mono hB) ?_
 ac_rfl
 rw [<-List.map_append]
 ac_rfl
 refine Dj cor fr (λc=>c.1) (λ_=>True) (λc _ R hR=> ?_) _ [] (by simp) ?_
 ·ac_rfl
  exact hR
 rw [List.nil_append]
 ac_rfl
 refine Of (xs:= [b,e] ++ (cs.filter (OU b e)++ds.filter (OU b e)).map (·.1)) (B:=B) (.inl rfl) (by simp only [List.length_append,List.length_map,List.length_cons,List.length_nil];omega) (λx hx=> ?_) hB q
 rcases List.mem_append.mp hx with hx|hx
 ·simp only [List.mem_cons,List.not_mem_nil,or_false] at hx
  rcases hx with rfl|rfl
  ·exact bb
  ·exact be
 ·obtain ⟨c,h,rfl⟩:=List.mem_map.mp hx
  rcases List.mem_append.mp h with h|h
  ·exact (hc c (List.mem_filter.mp h).1).m
  ·exact (Te c (List.mem_filter.mp h).1).m
abbrev Q3:AS:=
 (Ad (A0 (AN 2 EN (AB (AY Ap (aV 5) (AY Fn (aV 7) (aC (.int 1)))) (AB (AY Ap (aV 5) (aV 7)) AL))) (MX 2 (Aj (A2 8) (Aj (A2 9) CZ))))
   (Ee 6 LW (AB (BG (AB (AY Ap (aV 4) (AY Fn (aV 7) (aC (.int 1)))) (AB (AY Ap (aV 4) (aV 7)) (AB (aV 8) (AB (aV 9) AL))))) AL)))
abbrev Q8:AS:=
 (Ad (Gd (aY (AB (aC (.int 1)) (AB (Ea FU (AB (aV 4) AL)) AL))) (A2 7) Q3)
   (Av (aV 6)))
abbrev Q7:AS:=
 (Ad (LP (Dx AL) 6)
   Q8)
abbrev Q6:AS:=
 (Ad (A0 (GQ (DD (OP (aV 4)) 1 [0,1,2] (A2 0) E3 (AN 4 FO (AB (aV 1) (AB (aV 2) (AB (aV 3) (AB (aV 0) AL))))))) (A2 5))
   Q7)
abbrev Q5:AS:=
 (Ad (A0 (AN 4 IZ (AB (aV 0) (AB (aV 1) (AB (AY Ap (aV 3) (aC (.int 0))) (AB (AY Ap (aV 3) (aC (.int 1))) AL))))) (A2 4))
   Q6)
abbrev Q4:AS:=
 (Ad (Bn (A1 (AY TR (aV 3) (aC .non))) (Av (GQ (Dx AL))) BJ)
   Q5)
abbrev Q2:AS:=
 (Ad (A0 (AN 2 DZ (AB (aV 0) (AB (aV 1) AL))) (A2 3))
   Q4)
def Ga:AF:=A5 10 Q2
theorem UL {x0 x1 x2:PV} {Q:PV->Prop} (h:Q2 ⟨λ_=>Q .non,Q,λ_=>False,λ_=>False⟩ [some (.val x0),some (.val x1),some (.val x2),none,none,none,none,none,none,none]):Ga [x0,x1,x2] Q:=h
def GR (cs ds:List C4) (d:Rat×Rat) (m:Rat):T3:=E6 ((spotC cs m).getD (0,0,0)) ((spotC ds m).getD (0,0,0)) d
def OA (cs ds:List C4) (d:Rat×Rat) (ts:List Rat):List Pc:=(ts.zip ts.tail).map λp=>⟨p.1,p.2,GR cs ds d p.1,GR cs ds d p.2⟩
theorem zip_get {ts:List Rat} {i:Nat} {x y:Rat} (hx:ts[i]? =some x) (hy:ts[i+1]? =some y):(ts.zip ts.tail)[i]? =some (x,y):=by
 rw [List.getElem?_zip_eq_some]
 exact ⟨hx,by rw [List.getElem?_tail];exact hy⟩
structure lK (cs ds:List C4) (b e:Rat):Prop where
 lt:b<e
 one:∀m,b<=m->m<=e->∃t,spotC cs m=some t
 other:∀m,b<=m->m<=e->∃t,spotC ds m=some t
theorem Zz {a l a2 l2:C4} {r r2:List C4} (h0:r≠ []) (Z8:r2≠ []) (el:(a::r).getLast?=some l) (el2:(a2::r2).getLast?=some l2) (h:mx a.1 a2.1<mn l.1 l2.1):lK (a::r) (a2::r2) (mx a.1 a2.1) (mn l.1 l2.1):=by
 have e1:a.1<=mx a.1 a2.1:=by unfold mx;split <;> grind
 have e2:a2.1<=mx a.1 a2.1:=by unfold mx;split <;> grind
 have e3:mn l.1 l2.1<=l.1:=by unfold mn;split <;> grind
 have e4:mn l.1 l2.1<=l2.1:=by unfold mn;split <;> grind
 exact ⟨h,λm h1 h2=>NT h0 el (by grind) (by grind),λm h1 h2=>NT Z8 el2 (by grind) (by grind)⟩
theorem gK {cs ds:List C4} {d:Rat×Rat} {b e m:Rat} {B M D:Nat} (tg:lK cs ds b e) (h1:b<=m) (h2:m<=e) (hr:GM cs) (lS:GM ds) (hc:∀c∈cs,GO B c) (Te:∀c∈ds,GO B c) (bm:Bd M m) (b1:Bd D d.1) (b2:Bd D d.2) (p1:d.1≠0) (p2:d.2≠0):E2 (2*(M+6*B+10)+1+D) (GR cs ds d m):=by
 obtain ⟨s,es⟩:=tg.one m h1 h2
 obtain ⟨t,et⟩:=tg.other m h1 h2
 have k1:=E2.spotC bm hr hc s es
 have k2:=E2.spotC bm lS Te t et
 unfold GR
 rw [es,et]
 exact ⟨(((k1.x.sub k2.x).div p1 b1)).mono (by omega),(((k1.y.sub k2.y).div p1 b1)).mono (by omega),(((k1.z.sub k2.z).div p2 b2)).mono (by omega)⟩
theorem dO (ts:List Rat):(ts.zip ts.tail).length=ts.length-1:=by
 rw [List.length_zip,List.length_tail];omega
theorem QG {cs ds:List C4} {d:Rat×Rat} {ts:List Rat}:(OA cs ds d ts).length=ts.length-1:=by unfold OA;rw [List.length_map,dO]
theorem HF {cs ds:List C4} {b e:Rat}:RI (FD cs ds b e):=CI
theorem EY {cs ds:List C4} {b e x:Rat} (h:b<e) (hx:x∈FD cs ds b e):b<=x/\x<=e:=by
 rcases Fd.mp hx with rfl|rfl|⟨h1,h2,_⟩ <;> exact ⟨by grind,by grind⟩
theorem Jf {cs ds:List C4} {b e x:Rat} {M:Nat} (hc:∀c∈cs,Bd M c.1) (Te:∀c∈ds,Bd M c.1) (bb:Bd M b) (be:Bd M e) (hx:x∈FD cs ds b e):Bd M x:=by
 rcases Fd.mp hx with rfl|rfl|⟨_,_,c,h,rfl⟩
 ·exact bb
 ·exact be
 ·rcases h with h|h
  ·exact hc c h
  ·exact Te c h
def DT (cs:List C4):Rat:=(cs.head?.getD (0,0,0,0)).1
def lstM (cs:List C4):Rat:=(cs.getLast?.getD (0,0,0,0)).1
def CL (cs ds:List C4):Rat:=mx (DT cs) (DT ds)
def CM (cs ds:List C4):Rat:=mn (lstM cs) (lstM ds)
def Nk (cs ds:List C4):List Rat:=FD cs ds (CL cs ds) (CM cs ds)
structure J0 (cs ds:List C4) (d:Rat×Rat) (M W:Nat):Prop where
 c1:∀c∈cs,GO 150 c
 c2:∀c∈ds,GO 150 c
 r1:GM cs
 r2:GM ds
 t1:2<=cs.length
 t2:2<=ds.length
 f1:cs.length<=100
 f2:ds.length<=100
 m1:∀c∈cs,Bd M c.1
 m2:∀c∈ds,Bd M c.1
 b1:Bd 100 d.1
 b2:Bd 100 d.2
 p1:0<d.1
 p2:0<d.2
 w:CL cs ds<CM cs ds->∀m∈Nk cs ds,E2 W (GR cs ds d m)
 hM:M<=150
 hW:W<=1050
theorem open2 {cs:List C4} (h:2<=cs.length):∃a r l,cs=a::r/\r≠ [] /\(a::r).getLast?=some l:=by
 match cs,h with
 | a::b::r,_=>
   obtain ⟨l,el⟩:∃l,(a::b::r).getLast?=some l:=⟨_,List.getLast?_eq_some_getLast (by simp)⟩
   exact ⟨a,b::r,l,rfl,by simp,el⟩
theorem Eh {a:C4} {r:List C4}:DT (a::r)=a.1:=rfl
theorem Bz {cs:List C4} {l:C4} (e:cs.getLast?=some l):lstM cs=l.1:=by unfold lstM;rw [e];rfl
section
variable {cs ds:List C4} {d:Rat×Rat} {M W:Nat}
theorem J0.fstB (D:J0 cs ds d M W):Bd M (DT cs):=by
 obtain ⟨a,r,l,rfl,h0,el⟩:=open2 D.t1
 exact D.m1 a (by simp)
theorem J0.fstB2 (D:J0 cs ds d M W):Bd M (DT ds):=by
 obtain ⟨a,r,l,rfl,h0,el⟩:=open2 D.t2
 exact D.m2 a (by simp)
theorem J0.lstB (D:J0 cs ds d M W):Bd M (lstM cs):=by
 obtain ⟨a,r,l,rfl,h0,el⟩:=open2 D.t1
 rw [Bz el]
 exact D.m1 l (List.mem_of_getLast? el)
theorem J0.lstB2 (D:J0 cs ds d M W):Bd M (lstM ds):=by
 obtain ⟨a,r,l,rfl,h0,el⟩:=open2 D.t2
 rw [Bz el]
 exact D.m2 l (List.mem_of_getLast? el)
theorem J0.begB (D:J0 cs ds d M W):Bd M (CL cs ds):=D.fstB.mx D.fstB2
theorem J0.endB (D:J0 cs ds d M W):Bd M (CM cs ds):=D.lstB.mn D.lstB2
theorem J0.tog (D:J0 cs ds d M W) (h:CL cs ds<CM cs ds):lK cs ds (CL cs ds) (CM cs ds):=by
 obtain ⟨a,r,l,rfl,h0,el⟩:=open2 D.t1
 obtain ⟨a2,r2,l2,rfl,Z8,el2⟩:=open2 D.t2
 unfold CL CM at h ⊢
 rw [Eh,Eh,Bz el,Bz el2] at h ⊢
 exact Zz h0 Z8 el el2 h
end
theorem dG {cs ds:List C4} {d:Rat×Rat} {M W:Nat} (D:J0 cs ds d M W) {v w:PV} (hv:CQ cs v) (hw:CQ ds w) {Q:PV->Prop} (q1:CL cs ds<CM cs ds->Q (.tup [fr (CL cs ds),fr (CM cs ds)])) (q2:¬CL cs ds<CM cs ds->Q .non):DZ [v,w] Q:=by
 have k1:=D.fstB
 have k2:=D.fstB2
 have k3:=D.lstB
 have k4:=D.lstB2
 have hM:=D.hM
 obtain ⟨a,r,l,rfl,h0,el⟩:=open2 D.t1
 obtain ⟨a2,r2,l2,rfl,Z8,el2⟩:=open2 D.t2
 unfold CL CM at q1 q2
 rw [Eh,Eh,Bz el,Bz el2] at q1 q2
 rw [Bz el] at k3
 rw [Bz el2] at k4
 exact Se hv hw el el2 (k1.mono (by omega)) (k3.mono (by omega)) (k2.mono (by omega)) (k4.mono (by omega)) q1 q2
def XV (cs ds:List C4) (d:Rat×Rat):List Pc:=if CL cs ds<CM cs ds then OA cs ds d (Nk cs ds) else []
theorem W0 {cs ds:List C4} {d:Rat×Rat} {M W:Nat} (D:J0 cs ds d M W) {v w u:PV} (hv:CQ cs v) (hw:CQ ds w) (hu:aF d u) {Q:PV->Prop} (q:Q (.lst ((XV cs ds d).map j5))):Ga [v,w,u] Q:=by
 have hM:=D.hM
 have hW:=D.hW
 have pe:=D.f1
 have pf:=D.f2
 apply UL
 ac_rfl
 refine dG D hv hw (λh=> ?_) (λh=> ?_)
 rotate_left
 ·unfold XV at q
  rw [if_neg h] at q
  ac_rfl
  exact q
 unfold XV at q
 rw [if_pos h] at q
 have tg:=D.tog h
 ac_rfl
 refine Z4 (B:=150) hv hw pe pf D.c1 D.c2 (by decide) (D.begB.mono hM) (D.endB.mono hM) ?_
 have tl:=Ox (cs:=cs) (ds:=ds) (b:=CL cs ds) (e:=CM cs ds)
 have ti:∀x∈Nk cs ds,CL cs ds<=x/\x<=CM cs ds:=λx hx=>EY h hx
 have tb:∀x∈Nk cs ds,Bd M x:=λx hx=>Jf D.m1 D.m2 D.begB D.endB hx
 have tw:∀x∈Nk cs ds,E2 W (GR cs ds d x):=D.w h
 have tl':(Nk cs ds).length<=2+(cs.length+ds.length):=tl
 rw [show FD cs ds (CL cs ds) (CM cs ds)=Nk cs ds from rfl]
 generalize Nk cs ds=ts at *
 ac_rfl
 refine Dj fr Tx (GR cs ds d) (λx=>x∈ts) (λx hx R hR=> ?_) ts [] (λx hx=>hx) ?_
 ·obtain ⟨s,es⟩:=tg.one x (ti x hx).1 (ti x hx).2
  obtain ⟨t,et⟩:=tg.other x (ti x hx).1 (ti x hx).2
  have hR:R (Tx (E6 ((spotC cs x).getD (0,0,0)) ((spotC ds x).getD (0,0,0)) d)):=hR
  rw [es,et] at hR
  ac_rfl
  exact bq hv hw hu D.c1 D.c2 D.r1 D.r2 (by have:=D.t1;intro z;subst z;simp at this) (by have:=D.t2;intro z;subst z;simp at this) pe pf ((tb x hx).mono (by omega)) D.b1 D.b2 (by have:=D.p1;grind) (by have:=D.p2;grind) es et hR
 rw [List.nil_append]
 ac_rfl
 refine Pj (λi τ=>∃z8 z9 z10,τ= [some (.val v),some (.val w),some (.val u),some (.val (.tup [fr (CL cs ds),fr (CM cs ds)])),some (.val (.lst (ts.map fr))),some (.val (.lst ((ts.map (GR cs ds d)).map Tx))),some (.own (((OA cs ds d ts).take i).map j5)),z8,z9,z10]) ?_ ?_ ⟨_,_,_,rfl⟩
 ·rintro τ ⟨z8,z9,z10,rfl⟩
  rw [List.take_of_length_le (by rw [QG];omega)]
  ac_rfl
  exact q
 ·rintro i hi τ R hR ⟨z8,z9,z10,rfl⟩
  have WS:i+1<ts.length:=by omega
  obtain ⟨x,ex⟩:∃x,ts[i]? =some x:=⟨_,List.getElem?_eq_getElem (by omega)⟩
  obtain ⟨y,ey⟩:∃y,ts[i+1]? =some y:=⟨_,List.getElem?_eq_getElem WS⟩
  have pl:=QG (cs:=cs) (ds:=ds) (d:=d) (ts:=ts)
  have k1:=tw x (List.mem_of_getElem? ex)
  have k2:=tw y (List.mem_of_getElem? ey)
  have ep:(OA cs ds d ts).take (i+1)=(OA cs ds d ts).take i ++ [⟨x,y,GR cs ds d x,GR cs ds d y⟩] :=by
   have e1:(OA cs ds d ts)[i]? =some ⟨x,y,GR cs ds d x,GR cs ds d y⟩:=by
    unfold OA
    rw [List.getElem?_map,zip_get ex ey]
    rfl
   rw [List.take_succ,e1]
   rfl
  have t1:((1:Int)+(i:Int)-1).toNat=i:=by omega
  have t2:((1:Int)+(i:Int)).toNat=i+1:=by omega
  have fin:∀z8 z9 z10,R [some (.val v),some (.val w),some (.val u),some (.val (.tup [fr (CL cs ds),fr (CM cs ds)])),some (.val (.lst (ts.map fr))),some (.val (.lst ((ts.map (GR cs ds d)).map Tx))),some (.own (((OA cs ds d ts).take i).map j5 ++ [j5 ⟨x,y,GR cs ds d x,GR cs ds d y⟩])),z8,z9,z10] :=λz8 z9 z10=>hR _ ⟨z8,z9,z10,by rw [ep,List.map_append];rfl⟩
  ac_rfl
  rename_i c1 ec1 _ c2 ec2 _
  rw [t1,List.getElem?_map,ex] at ec1
  rw [t2,List.getElem?_map,ey] at ec2
  cases ec1
  cases ec2
  refine Yj (p:=⟨x,y,GR cs ds d x,GR cs ds d y⟩) k1 k2 (by omega) ?_
  ac_rfl
  rename_i c1 ec1 _ c2 ec2 _
  rw [t1,ex] at ec1
  cases ec1
  rw [t2,ey] at ec2
  cases ec2
  ac_rfl
  exact fin _ _ _
abbrev Kg:AS:=
 (Av (AN 2 Hh (AB (aV 0) (AB (AN 2 Fh (AB (AN 2 GZ (AB (AY Ap (aV 2) (aC (.int 0))) (AB (AY Ap (aV 2) (aC (.int 1))) AL))) (AB (AN 2 Di (AB (aV 1) (AB (aV 0) AL))) AL))) AL))))
def DB:AF:=A5 3 Kg
theorem OE {x0 x1 x2:PV} {Q:PV->Prop} (h:Kg ⟨λ_=>Q .non,Q,λ_=>False,λ_=>False⟩ [some (.val x0),some (.val x1),some (.val x2)]):DB [x0,x1,x2] Q:=h
def sv (p:Int×Int):Rat:=(p.1:Rat)/(p.2:Rat)
theorem OX {i:Int} (h:0<i):(0:Rat)<(i:Rat):=by
 have:=Rat.intCast_lt_intCast.mpr h
 simpa using this
theorem kg {a b:Int×Int} (ha:0<a.2) (hb:0<b.2):sv a<sv b↔a.1*b.2<b.1*a.2:=by
 have h1:=OX ha
 have h2:=OX hb
 unfold sv
 rw [Rat.div_lt_iff h1,<-Rat.intCast_lt_intCast,Rat.intCast_mul,Rat.intCast_mul]
 have e:(b.1:Rat)/(b.2:Rat)*(a.2:Rat)=(b.1:Rat)*(a.2:Rat)/(b.2:Rat):=by grind
 rw [e,Rat.lt_div_iff h2]
structure Sz (p:Int×Int):Prop where
 pos:0<p.2
 t:p.1.natAbs<2^8850
 n:p.2.natAbs<2^8850
theorem J9 {a b:Int×Int} (ha:Sz a) (hb:Sz b) {Q:PV->Prop} (q:Q (.bl (decide (sv a<sv b)))):Aw [Lm a,Lm b] Q:=by
 refine ⟨MulOk.of ha.t hb.n,MulOk.of hb.t ha.n, ?_⟩
 rw [decide_eq_decide.mpr (kg ha.pos hb.pos)] at q
 exact q
theorem Wc {a b:Int×Int} (ha:Sz a) (hb:Sz b) {Q:PV->Prop} (q:Q (Lm (if sv b<sv a then b else a))):EM [Lm a,Lm b] Q:=by
 refine ⟨rfl,J9 hb ha ?_⟩
 refine Eb (b:=decide (sv b<sv a)) (λz=> ?_) (λz=> ?_)
 ·rw [if_pos (of_decide_eq_true z)] at q;exact q
 ·rw [if_neg (of_decide_eq_false z)] at q;exact q
theorem Mt {b e:Rat} {p:Int×Int} {M S:Nat} (hp:Sz p) (bs:Bd S (sv p)) (bb:Bd M b) (be:Bd M e) (hM:M<=300) (hS:S<=3200) {Q:PV->Prop} (q:Q (fr (b+sv p*(e-b)))):DB [fr b,fr e,Lm p] Q:=by
 have ne:p.2≠0:=by have:=hp.pos;omega
 have es:Rat.divInt p.1 p.2=sv p:=Rat.divInt_eq_div ..
 have k:=be.sub bb
 have k2:=bs.mul k
 apply OE
 ac_rfl
 refine FP _ _ ne (Ay hp.n (by decide)) _ ?_
 rw [es]
 ac_rfl
 exact q
def lv (l:Int×Int) (s:Rat):Rat:=(l.1:Rat)+s*((l.2:Rat)-(l.1:Rat))
structure NI (N:Nat) (S:Nat) (us:List (Int×Int)) (lo hi:Int×Int) (h:Int):Prop where
 l:Sz lo
 r:Sz hi
 bl:Bd S (sv lo)
 br:Bd S (sv hi)
 h01:h=0\/h=1
 lo0:0<=sv lo
 hi1:sv hi<=1
 sem:∀s,0<=s->s<1->((∀l∈us,lv l s<N)↔(sv lo<s\/(sv lo=s/\h=1))/\s<sv hi)
theorem iA:sv (0,1)=0:=by decide +kernel
theorem iB:sv (1,1)=1:=by decide +kernel
theorem gJ {N S:Nat} (hS:1<=S):NI N S [] (0,1) (1,1) 1:=by
 refine ⟨⟨by decide, ?_, ?_⟩,⟨by decide, ?_, ?_⟩, ?_, ?_, .inr rfl,by rw [iA];grind,by rw [iB];grind,λs h0 h1=> ?_⟩
 ·exact Ay (m:=1) (by decide) (by decide)
 ·exact Ay (m:=1) (by decide) (by decide)
 ·exact Ay (m:=1) (by decide) (by decide)
 ·exact Ay (m:=1) (by decide) (by decide)
 ·rw [iA];exact iP.mono hS
 ·rw [iB];exact lM.mono hS
 ·rw [iA,iB]
  exact ⟨λ_=>⟨by grind,h1⟩,λ_=>by simp⟩
structure PZ (N W:Nat) (l:Int×Int):Prop where
 a:l.1.natAbs<2^8848
 b:l.2.natAbs<2^8848
 n:N<2^8848
 n0:0<N
 ex:∃u v:Rat,Bd W u/\Bd W v/\(l.1:Rat)=u*N/\(l.2:Rat)=v*N
theorem Xm {N:Nat} (h:0<N):(0:Rat)<(N:Rat):=Rat.natCast_pos.mpr h
theorem Vq {a b:Int} {k:Nat} (ha:a.natAbs<2^k) (hb:b.natAbs<2^k):(a-b).natAbs<2^(k+1):=Qm ha hb
theorem Ie {us:List (Int×Int)} {l:Int×Int} {P:Int×Int->Prop}:(∀x∈us ++ [l],P x)↔(∀x∈us,P x)/\P l:=by
 constructor
 ·intro h
  exact ⟨λx hx=>h x (by simp [hx]),h l (by simp)⟩
 ·rintro ⟨h1,h2⟩ x hx
  rcases List.mem_append.mp hx with hx|hx
  ·exact h1 x hx
  ·simp at hx;subst hx;exact h2
theorem HP (N:Nat):((N:Int):Rat)=(N:Rat):=Rat.intCast_natCast N
theorem To {N W:Nat} {l:Int×Int} (h:PZ N W l) (h1:(N:Int)<=l.1) (h2:l.2<(N:Int)):Sz (l.1-N,l.1-l.2)/\Bd (3*W+3) (sv (l.1-N,l.1-l.2))/\0<=sv (l.1-N,l.1-l.2)/\∀s,lv l s<N↔sv (l.1-N,l.1-l.2)<s:=by
 obtain ⟨u,v,bu,bv,e1,e2⟩:=h.ex
 have hn:=Xm h.n0
 have p2:0<l.1-l.2:=by omega
 have q1:((N:Rat))<=(l.1:Rat):=by rw [<-HP];exact Rat.intCast_le_intCast.mpr h1
 have q2:(l.2:Rat)<(N:Rat):=by rw [<-HP];exact Rat.intCast_lt_intCast.mpr h2
 have es:sv (l.1-N,l.1-l.2)=((l.1:Rat)-N)/((l.1:Rat)-l.2):=by
  unfold sv
  show ((l.1-(N:Int):Int):Rat)/((l.1-l.2:Int):Rat)=_
  rw [Rat.intCast_sub,Rat.intCast_sub,HP]
 have d0:(0:Rat)<(l.1:Rat)-l.2:=by grind
 have ne:u-v≠0:=by
  intro z
  have:u=v:=by grind
  subst this
  grind
 have eu:sv (l.1-N,l.1-l.2)=(u-1)/(u-v):=by
  rw [es,e1,e2]
  have:u*(N:Rat)-v*N≠0:=by rw [e1,e2] at d0;grind
  have:(N:Rat)≠0:=by grind
  grind
 refine ⟨⟨p2,Ay (Vq h.a (by simpa using h.n)) (by decide),Ay (Vq h.a h.b) (by decide)⟩, ?_, ?_,λs=> ?_⟩
 ·rw [eu]
  exact ((bu.sub lM).div ne (bu.sub bv)).mono (by omega)
 ·rw [es,<-Rat.not_lt,Rat.div_lt_iff d0]
  grind
 ·rw [es,Rat.div_lt_iff d0]
  unfold lv
  constructor <;> intro z <;> grind
theorem U8 {N W:Nat} {l:Int×Int} (h:PZ N W l) (h1:l.1<(N:Int)) (h2:(N:Int)<l.2):Sz (N-l.1,l.2-l.1)/\Bd (3*W+3) (sv (N-l.1,l.2-l.1))/\sv (N-l.1,l.2-l.1)<=1/\∀s,lv l s<N↔s<sv (N-l.1,l.2-l.1):=by
 obtain ⟨u,v,bu,bv,e1,e2⟩:=h.ex
 have hn:=Xm h.n0
 have p2:0<l.2-l.1:=by omega
 have q1:(l.1:Rat)<(N:Rat):=by rw [<-HP];exact Rat.intCast_lt_intCast.mpr h1
 have q2:(N:Rat)<(l.2:Rat):=by rw [<-HP];exact Rat.intCast_lt_intCast.mpr h2
 have es:sv (N-l.1,l.2-l.1)=((N:Rat)-l.1)/((l.2:Rat)-l.1):=by
  unfold sv
  show (((N:Int)-l.1:Int):Rat)/((l.2-l.1:Int):Rat)=_
  rw [Rat.intCast_sub,Rat.intCast_sub,HP]
 have d0:(0:Rat)<(l.2:Rat)-l.1:=by grind
 have ne:v-u≠0:=by
  intro z
  have:u=v:=by grind
  subst this
  grind
 have eu:sv (N-l.1,l.2-l.1)=(1-u)/(v-u):=by
  rw [es,e1,e2]
  have:v*(N:Rat)-u*N≠0:=by rw [e1,e2] at d0;grind
  have:(N:Rat)≠0:=by grind
  grind
 refine ⟨⟨p2,Ay (Vq (by simpa using h.n) h.a) (by decide),Ay (Vq h.b h.a) (by decide)⟩, ?_, ?_,λs=> ?_⟩
 ·rw [eu]
  exact ((lM.sub bu).div ne (bv.sub bu)).mono (by omega)
 ·rw [es,<-Rat.not_lt,Rat.lt_div_iff d0]
  grind
 ·rw [es,Rat.lt_div_iff d0]
  unfold lv
  constructor <;> intro z <;> grind
section
variable {N W:Nat} {us:List (Int×Int)} {lo hi l:Int×Int} {h:Int}
theorem gI (i:NI N (3*W+3) us lo hi h) (o:PZ N W l) (h1:(N:Int)<=l.1) (h2:l.2<(N:Int)) (k:¬sv (l.1-N,l.1-l.2)<sv lo):NI N (3*W+3) (us ++ [l]) (l.1-N,l.1-l.2) hi 0:=by
 obtain ⟨a,b,c,e⟩:=To o h1 h2
 refine ⟨a,i.r,b,i.br, .inl rfl,c,i.hi1,λs s0 s1=> ?_⟩
 rw [Ie,i.sem s s0 s1,e s]
 constructor
 ·rintro ⟨⟨x,y⟩,z⟩
  exact ⟨.inl z,y⟩
 ·rintro ⟨x|⟨_,x⟩,y⟩
  ·exact ⟨⟨.inl (by grind),y⟩,x⟩
  ·cases x
theorem bg (i:NI N (3*W+3) us lo hi h) (o:PZ N W l) (h1:(N:Int)<=l.1) (h2:l.2<(N:Int)) (k:sv (l.1-N,l.1-l.2)<sv lo):NI N (3*W+3) (us ++ [l]) lo hi h:=by
 obtain ⟨a,b,c,e⟩:=To o h1 h2
 refine ⟨i.l,i.r,i.bl,i.br,i.h01,i.lo0,i.hi1,λs s0 s1=> ?_⟩
 rw [Ie,i.sem s s0 s1,e s]
 constructor
 ·rintro ⟨x,z⟩
  exact x
 ·rintro ⟨x,y⟩
  refine ⟨⟨x,y⟩, ?_⟩
  rcases x with x|⟨x,_⟩ <;> grind
theorem bZ (i:NI N (3*W+3) us lo hi h) (o:PZ N W l) (h1:l.1<(N:Int)) (h2:(N:Int)<l.2):NI N (3*W+3) (us ++ [l]) lo (if sv (N-l.1,l.2-l.1)<sv hi then (N-l.1,l.2-l.1) else hi) h:=by
 obtain ⟨a,b,c,e⟩:=U8 o h1 h2
 by_cases k:sv (N-l.1,l.2-l.1)<sv hi
 ·rw [if_pos k]
  refine ⟨i.l,a,i.bl,b,i.h01,i.lo0,c,λs s0 s1=> ?_⟩
  rw [Ie,i.sem s s0 s1,e s]
  constructor
  ·rintro ⟨⟨x,y⟩,z⟩
   exact ⟨x,z⟩
  ·rintro ⟨x,y⟩
   exact ⟨⟨x,by grind⟩,y⟩
 ·rw [if_neg k]
  refine ⟨i.l,i.r,i.bl,i.br,i.h01,i.lo0,i.hi1,λs s0 s1=> ?_⟩
  rw [Ie,i.sem s s0 s1,e s]
  constructor
  ·rintro ⟨x,z⟩
   exact x
  ·rintro ⟨x,y⟩
   exact ⟨⟨x,y⟩,by grind⟩
theorem ju (i:NI N (3*W+3) us lo hi h) (h1:l.1<(N:Int)) (h2:¬(N:Int)<l.2):NI N (3*W+3) (us ++ [l]) lo hi h:=by
 have q1:(l.1:Rat)<(N:Rat):=by rw [<-HP];exact Rat.intCast_lt_intCast.mpr h1
 have q2:(l.2:Rat)<=(N:Rat):=by rw [<-HP];exact Rat.intCast_le_intCast.mpr (by omega)
 refine ⟨i.l,i.r,i.bl,i.br,i.h01,i.lo0,i.hi1,λs s0 s1=> ?_⟩
 rw [Ie,i.sem s s0 s1]
 constructor
 ·rintro ⟨x,z⟩
  exact x
 ·intro x
  refine ⟨x, ?_⟩
  have y:lv l s=(1-s)*(l.1:Rat)+s*(l.2:Rat):=by unfold lv;grind
  have k1:(1-s)*(l.1:Rat)<(1-s)*N:=Rat.mul_lt_mul_of_pos_left q1 (by grind)
  have k2:s*(l.2:Rat)<=s*N:=Rat.mul_le_mul_of_nonneg_left q2 s0
  rw [y]
  grind
end
abbrev O8:AS:=
 (Ad (A0 (aV 10) (A2 1))
   (A0 (aC (.int 0)) (A2 2)))
abbrev O9:AS:=
 (Ad (A0 (BG (AB (AY Fn (aV 8) (aV 6)) (AB (AY Fn (aV 8) (aV 9)) AL))) (A2 10))
   (Bn (Ef (A1 (AN 2 Aw (AB (aV 10) (AB (aV 1) AL))))) O8 BJ))
abbrev PB:AS:=
 (Ad (Bn (Ko (A1 (AY iR (aV 8) (aV 6))) (A1 (AY iR (aV 9) (aV 6)))) (Av (GQ (Dx AL))) BJ)
   (Bn (A1 (AY iR (aV 8) (aV 6))) O9 (Bn (A1 (AY iS (aV 9) (aV 6))) (A0 (AN 2 EM (AB (aV 3) (AB (BG (AB (AY Fn (aV 6) (aV 8)) (AB (AY Fn (aV 9) (aV 8)) AL))) AL))) (A2 3)) BJ)))
abbrev PK:AS:=
 (Ad (Bn (Ef (A1 (AN 2 Aw (AB (aV 1) (AB (aV 3) AL))))) (Av (GQ (Dx AL))) BJ)
   (Av (GQ (Dx (AB (BG (AB (AN 3 DB (AB (aV 4) (AB (aV 5) (AB (aV 1) AL)))) (AB (aV 2) (AB (AN 3 DB (AB (aV 4) (AB (aV 5) (AB (aV 3) AL)))) AL)))) AL)))))
abbrev PJ:AS:=
 (Ad (Gd (OP (aV 7)) (MX 2 (Aj (A2 8) (Aj (A2 9) CZ))) PB)
   PK)
abbrev PH:AS:=
 (Ad (A0 (BG (AB (aC (.int 1)) (AB (aC (.int 1)) AL))) (A2 3))
   PJ)
abbrev PF:AS:=
 (Ad (A0 (aC (.int 1)) (A2 2))
   PH)
abbrev PD:AS:=
 (Ad (A0 (BG (AB (aC (.int 0)) (AB (aC (.int 1)) AL))) (A2 1))
   PF)
abbrev OJ:AS:=
 (Ad (A0 (aV 0) (MX 4 (Aj (A2 4) (Aj (A2 5) (Aj (A2 6) (Aj (A2 7) CZ))))))
   PD)
def FN:AF:=A5 11 OJ
theorem SC {x0:PV} {Q:PV->Prop} (h:OJ ⟨λ_=>Q .non,Q,λ_=>False,λ_=>False⟩ [some (.val x0),none,none,none,none,none,none,none,none,none,none]):FN [x0] Q:=h
def VL (N:Nat) (lns:List (Int×Int)) (b e m:Rat):Prop:=b<=m/\m<e/\∀l∈lns,lv l ((m-b)/(e-b))<N
structure Xo (N:Nat) (lns:List (Int×Int)) (b e:Rat) (B:Nat) (ss:List BL):Prop where
 few:ss.length<=1
 ok:∀s∈ss,CK B s
 fin:∀s∈ss,∃x,s.2.2=some x
 sem:∀m,ss.any (BF · (m,0))=true↔VL N lns b e m
theorem Od {N:Nat} {lns:List (Int×Int)} {b e:Rat} {B:Nat} (h:∀s,0<=s->s<1->¬∀l∈lns,lv l s<N) (Ob:b<e):Xo N lns b e B [] :=by
 refine ⟨by simp,by simp,by simp,λm=> ?_⟩
 refine ⟨λz=>by simp at z,λz=> ?_⟩
 obtain ⟨h1,h2,h3⟩:=z
 have d0:0<e-b:=by grind
 refine absurd h3 (h _ ?_ ?_)
 ·rw [<-Rat.not_lt,Rat.div_lt_iff d0];grind
 ·rw [Rat.div_lt_iff d0];grind
theorem Wm {N S B M:Nat} {lns:List (Int×Int)} {b e:Rat} {lo hi:Int×Int} {h:Int} (i:NI N S lns lo hi h) (Ob:b<e) (k:sv lo<sv hi) (bb:Bd M b) (be:Bd M e) (hB:3*M+S+3<=B):Xo N lns b e B [(b+sv lo*(e-b),h,some (b+sv hi*(e-b)))] :=by
 have d0:0<e-b:=by grind
 have mono:∀{x y:Rat},x<y->b+x*(e-b)<b+y*(e-b):=λ{x y} h=>by
  have:=Rat.mul_lt_mul_of_pos_right h d0
  grind
 refine ⟨by simp,λs hs=> ?_,λs hs=> ?_,λm=> ?_⟩
 ·simp at hs;subst hs
  refine ⟨(bb.add (i.bl.mul (be.sub bb))).mono (by omega),i.h01,λx hx=> ?_⟩
  cases hx
  exact ⟨mono k,(bb.add (i.br.mul (be.sub bb))).mono (by omega)⟩
 ·simp at hs;subst hs
  exact ⟨_,rfl⟩
 ·obtain ⟨s,rfl⟩:∃s,m=b+s*(e-b):=⟨(m-b)/(e-b),by grind⟩
  have es:(b+s*(e-b)-b)/(e-b)=s:=by grind
  unfold VL
  rw [es]
  have lt:∀x y:Rat,b+x*(e-b)<b+y*(e-b)↔x<y:=λx y=>by
   refine ⟨λz=> ?_,mono⟩
   by_cases w:x<y
   ·exact w
   ·by_cases w2:y<x
    ·have:=mono w2;grind
    ·have:x=y:=by grind
     subst this;grind
  have eq:∀x y:Rat,b+x*(e-b)=b+y*(e-b)↔x=y:=λx y=>by
   refine ⟨λz=> ?_,λz=>by rw [z]⟩
   by_cases w:x<y
   ·have:=mono w;grind
   ·by_cases w2:y<x
    ·have:=mono w2;grind
    ·grind
  have A: [((b+sv lo*(e-b),h,some (b+sv hi*(e-b))):BL)].any (BF · (b+s*(e-b),0))=true↔(sv lo<s\/(sv lo=s/\h=1))/\s<sv hi:=by
   simp only [List.any_cons,List.any_nil,Bool.or_false,BF,Bool.and_eq_true,Bool.or_eq_true,decide_eq_true_eq,lt,eq]
   have:0<h+0↔h=1:=by have:=i.h01;omega
   rw [this]
  rw [A]
  constructor
  ·intro z
   have s0:0<=s:=by
    have:=i.lo0
    rcases z.1 with y|⟨y,_⟩ <;> grind
   have s1:s<1:=by have:=i.hi1;have:=z.2;grind
   refine ⟨?_, ?_,(i.sem s s0 s1).mpr z⟩
   ·have:=Rat.mul_nonneg s0 (show 0<=e-b by grind);grind
   ·have:=mono s1;grind
  ·rintro ⟨z1,z2,z3⟩
   have s0:0<=s:=by
    rw [<-Rat.not_lt]
    intro w
    have:=mono w;grind
   have s1:s<1:=by
    have:=(lt s 1).mp (by grind)
    exact this
   exact (i.sem s s0 s1).mp z3
theorem Tv {b e:Rat} {N M W:Nat} {lns:List (Int×Int)} (ok:∀l∈lns,PZ N W l) (Ob:b<e) (bb:Bd M b) (be:Bd M e) (hM:M<=300) (hW:W<=1050) (hl:lns.length<=1000) {Q:PV->Prop} (q:∀ss,Xo N lns b e (3*M+3*W+6) ss->Q (.lst (ss.map BZ))):FN [.tup [fr b,fr e, .int N, .lst (lns.map Lm)]] Q:=by
 apply SC
 ac_rfl
 refine Eg Lm (λus vs τ=>∃lo hi h z8 z9 z10,NI N (3*W+3) us lo hi h/\τ= [some (.val (.tup [fr b,fr e, .int N, .lst (lns.map Lm)])),some (.val (Lm lo)),some (.val (.int h)),some (.val (Lm hi)),some (.val (fr b)),some (.val (fr e)),some (.val (.int N)),some (.val (.lst (lns.map Lm))),z8,z9,z10]) ?_ ?_ ⟨(0,1),(1,1),1,_,_,_,gJ (by omega),rfl⟩
 ·rintro τ ⟨lo,hi,h,z8,z9,z10,i,rfl⟩
  ac_rfl
  refine J9 i.l i.r ?_
  ac_rfl
  ·rename_i k
   refine q [] (Od (λs s0 s1=> ?_) Ob)
   rw [i.sem s s0 s1]
   rintro ⟨x,y⟩
   rcases x with x|⟨x,_⟩ <;> grind
  ·rename_i k
   refine Mt i.l i.bl bb be hM (by omega) ?_
   ac_rfl
   refine Mt i.r i.br bb be hM (by omega) ?_
   ac_rfl
   exact q _ (Wm i Ob k bb be (by omega))
 ·rintro us l vs el τ R hR ⟨lo,hi,h,z8,z9,z10,i,rfl⟩
  have o:=ok l (by rw [<-el];simp)
  have fin:∀{lo hi h z8 z9 z10},NI N (3*W+3) (us ++ [l]) lo hi h->R [some (.val (.tup [fr b,fr e, .int N, .lst (lns.map Lm)])),some (.val (Lm lo)),some (.val (.int h)),some (.val (Lm hi)),some (.val (fr b)),some (.val (fr e)),some (.val (.int N)),some (.val (.lst (lns.map Lm))),z8,z9,z10] :=λ{lo hi h z8 z9 z10} k=>hR _ ⟨lo,hi,h,z8,z9,z10,k,rfl⟩
  ac_rfl
  all_goals first | (exfalso;omega)|skip
  ·rename_i k1 k2
   refine q [] (Od (λs s0 s1 z=> ?_) Ob)
   have z:=z l (by rw [<-el];simp)
   have q1:(N:Rat)<=(l.1:Rat):=by rw [<-HP];exact Rat.intCast_le_intCast.mpr k1
   have q2:(N:Rat)<=(l.2:Rat):=by rw [<-HP];exact Rat.intCast_le_intCast.mpr k2
   have y:lv l s=(1-s)*(l.1:Rat)+s*(l.2:Rat):=by unfold lv;grind
   have j1:(1-s)*N<=(1-s)*(l.1:Rat):=Rat.mul_le_mul_of_nonneg_left q1 (by grind)
   have j2:s*N<=s*(l.2:Rat):=Rat.mul_le_mul_of_nonneg_left q2 s0
   rw [y] at z
   grind
  ·rename_i k1 k2 k3
   obtain ⟨a,_,_,_⟩:=To o k1 (by omega)
   refine J9 a i.l ?_
   ac_rfl
   ·rename_i k4
    exact fin (gI i o k1 (by omega) k4)
   ·rename_i k4
    exact fin (bg i o k1 (by omega) k4)
  ·rename_i k1 k2 k3
   obtain ⟨a,_,_,_⟩:=U8 o (by omega) k3
   refine Wc i.r a ?_
   exact fin (bZ i o (by omega) k3)
  ·rename_i k1 k2 k3
   exact fin (ju i (by omega) k3)
abbrev MI:AS:=
 (Av (AN 1 EO (AB (GQ (MU (OP (AN 3 Ga (AB (aV 0) (AB (aV 1) (AB (aV 2) AL))))) 2 [] (A2 1) E3 (OP (AN 1 FN (AB (aV 1) AL))) 1 (A2 0) E3 (aV 0))) AL)))
def Bj:AF:=A5 3 MI
theorem QQ {x0 x1 x2:PV} {Q:PV->Prop} (h:MI ⟨λ_=>Q .non,Q,λ_=>False,λ_=>False⟩ [some (.val x0),some (.val x1),some (.val x2)]):Bj [x0,x1,x2] Q:=h
theorem Lh {x:Rat}:absR x<1↔x<1/\ -x<1:=by unfold absR;split <;> grind
theorem TW {o:T3}:Mj o<1↔absR o.1<1/\absR o.2.1<1/\absR o.2.2<1:=by
 unfold Mj mx
 repeat' split
 all_goals grind
theorem KQ {N:Nat} {u v s:Rat} (h0:0<N) (h1:u.den ∣ N) (h2:v.den ∣ N):(lv (EL N u,EL N v) s<N↔u+s*(v-u)<1)/\(lv (-EL N u, -EL N v) s<N↔ -(u+s*(v-u))<1):=by
 have hn:=Xm h0
 have e1:lv (EL N u,EL N v) s=(u+s*(v-u))*N:=by
  unfold lv
  show ((EL N u:Int):Rat)+s*(((EL N v:Int):Rat)-((EL N u:Int):Rat))=_
  rw [Gx h1,Gx h2];grind
 have e2:lv (-EL N u, -EL N v) s= -(u+s*(v-u))*N:=by
  unfold lv
  show ((-EL N u:Int):Rat)+s*(((-EL N v:Int):Rat)-((-EL N u:Int):Rat))=_
  rw [Rat.intCast_neg,Rat.intCast_neg,Gx h1,Gx h2];grind
 have key:∀x:Rat,x*N<N↔x<1:=λx=>by
  constructor
  ·intro z
   by_cases w:x<1
   ·exact w
   ·have:=Rat.mul_le_mul_of_nonneg_right (show 1<=x by grind) (show (0:Rat)<=N by grind)
    grind
  ·intro z
   have:=Rat.mul_lt_mul_of_pos_right z hn
   grind
 rw [e1,e2,key,key]
 exact ⟨Iff.rfl,Iff.rfl⟩
theorem Vj {W:Nat} {p:Pc} (h0:E2 W p.o0) (h1:E2 W p.o1):0<p.N/\(∀x∈p.six,x.den ∣ p.N)/\p.N<2^(6*W+1):=Qa 6 p.six rfl (Ze h0 h1)
theorem VG {W:Nat} {p:Pc} (h0:E2 W p.o0) (h1:E2 W p.o1) (s:Rat):(∀l∈p.lns,lv l s<p.N)↔Mj (lin p.o0 p.o1 s)<1:=by
 obtain ⟨n0,dv,_⟩:=Vj h0 h1
 have d1:=dv p.o0.1 (by simp [Pc.six])
 have d2:=dv p.o0.2.1 (by simp [Pc.six])
 have d3:=dv p.o0.2.2 (by simp [Pc.six])
 have d4:=dv p.o1.1 (by simp [Pc.six])
 have d5:=dv p.o1.2.1 (by simp [Pc.six])
 have d6:=dv p.o1.2.2 (by simp [Pc.six])
 rw [TW,Lh,Lh,Lh]
 unfold Pc.lns lin
 simp only [List.mem_cons,List.not_mem_nil,or_false,forall_eq_or_imp,forall_eq]
 rw [(KQ n0 d1 d4).1,(KQ n0 d1 d4).2,(KQ n0 d2 d5).1,(KQ n0 d2 d5).2,(KQ n0 d3 d6).1,(KQ n0 d3 d6).2]
 constructor
 ·rintro ⟨a,b,c,d,e,f⟩;exact ⟨⟨a,b⟩,⟨c,d⟩,e,f⟩
 ·rintro ⟨⟨a,b⟩,⟨c,d⟩,e,f⟩;exact ⟨a,b,c,d,e,f⟩
theorem ZT {N W:Nat} {r:Rat} (br:Bd W r) (hN:N<2^(6*W+1)):(EL N r).natAbs<2^(W+(6*W+1)):=BX br.top (U1 hN)
theorem gA {W:Nat} {p:Pc} (h0:E2 W p.o0) (h1:E2 W p.o1) (hW:W<=1200):∀l∈p.lns,PZ p.N W l:=by
 obtain ⟨n0,dv,nl⟩:=Vj h0 h1
 have one:∀{u v:Rat},Bd W u->Bd W v->u.den ∣ p.N->v.den ∣ p.N->PZ p.N W (EL p.N u,EL p.N v)/\PZ p.N W (-EL p.N u, -EL p.N v):=λ{u v} bu bv du dv=>by
  have s1:=ZT bu nl
  have s2:=ZT bv nl
  have nn:=Ay (n:=8848) nl (by omega)
  refine ⟨⟨Ay s1 (by omega),Ay s2 (by omega),nn,n0,u,v,bu,bv,Gx du,Gx dv⟩,⟨Ay (by rw [Int.natAbs_neg];exact s1) (by omega),Ay (by rw [Int.natAbs_neg];exact s2) (by omega),nn,n0, -u, -v,bu.neg,bv.neg, ?_, ?_⟩⟩
  ·show ((-EL p.N u:Int):Rat)=_
   rw [Rat.intCast_neg,Gx du];grind
  ·show ((-EL p.N v:Int):Rat)=_
   rw [Rat.intCast_neg,Gx dv];grind
 have l1:=one h0.x h1.x (dv _ (by simp [Pc.six])) (dv _ (by simp [Pc.six]))
 have l2:=one h0.y h1.y (dv _ (by simp [Pc.six])) (dv _ (by simp [Pc.six]))
 have l3:=one h0.z h1.z (dv _ (by simp [Pc.six])) (dv _ (by simp [Pc.six]))
 intro l hl
 simp only [Pc.lns,List.mem_cons,List.not_mem_nil,or_false] at hl
 rcases hl with rfl|rfl|rfl|rfl|rfl|rfl
 ·exact l1.1
 ·exact l1.2
 ·exact l2.1
 ·exact l2.2
 ·exact l3.1
 ·exact l3.2
theorem bn {p q p' q':T3} {d:Rat×Rat} {s:Rat}:E6 (lin p q s) (lin p' q' s) d=lin (E6 p p' d) (E6 q q' d) s:=by
 unfold E6 lin
 simp only [Rat.div_def]
 congr 1
 ·grind
 ·congr 1 <;> grind
theorem Z6 {ts:List Rat} (h:RI ts):∀p∈ts.zip ts.tail,p.1∈ts/\p.2∈ts/\p.1<p.2/\∀x∈ts,¬(p.1<x/\x<p.2):=by
 induction ts with
 | nil=>intro p hp;simp at hp
 | cons a r ih=>
   cases r with
   | nil=>intro p hp;simp at hp
   | cons b r=>
     have h1:=List.pairwise_cons.mp h
     intro p hp
     simp only [List.tail_cons,List.zip_cons_cons,List.mem_cons] at hp
     rcases hp with rfl|hp
     ·refine ⟨by simp,by simp,h1.1 b (by simp),λx hx z=> ?_⟩
      rcases List.mem_cons.mp hx with rfl|hx
      ·grind
      ·rcases List.mem_cons.mp hx with rfl|hx
       ·grind
       ·have:=(List.pairwise_cons.mp h1.2).1 x hx
        grind
     ·obtain ⟨k1,k2,k3,k4⟩:=ih h1.2 p hp
      refine ⟨by simp [k1],by simp [k2],k3,λx hx z=> ?_⟩
      rcases List.mem_cons.mp hx with rfl|hx
      ·have:=h1.1 p.1 k1;grind
      ·exact k4 x hx z
theorem O1:∀{ts:List Rat} {m:Rat} {a z:Rat},RI ts->ts.head?=some a->ts.getLast?=some z->a<=m->m<z->∃p∈ts.zip ts.tail,p.1<=m/\m<p.2
 | [],_,_,_,_,h,_,_,_=>by cases h
 | [a],m,_,_,_,h1,h2,h3,h4=>by simp at h1 h2;subst h1 h2;grind
 | a::b::r,m,x,z,h,h1,h2,h3,h4=>by
   simp at h1;subst h1
   by_cases k:m<b
   ·exact ⟨(a,b),by simp,h3,k⟩
   ·obtain ⟨p,hp,q⟩:=O1 (m:=m) (a:=b) (z:=z) (List.pairwise_cons.mp h).2 rfl (by simpa [List.getLast?_cons_cons] using h2) (by grind) h4
    exact ⟨p,by simp only [List.tail_cons,List.zip_cons_cons,List.mem_cons];exact .inr (by simpa using hp),q⟩
section
variable {cs ds:List C4} {d:Rat×Rat} {M W:Nat}
structure mJ (cs ds:List C4) (d:Rat×Rat) (M W:Nat) (p:Pc):Prop where
 lt:p.b<p.e
 w0:E2 W p.o0
 w1:E2 W p.o1
 bb:Bd M p.b
 be:Bd M p.e
 lo:CL cs ds<=p.b
 hi:p.e<=CM cs ds
 at0:p.o0=GR cs ds d p.b
 pN:p.o1=GR cs ds d p.e
 lin:∀m,p.b<=m->m<=p.e->GR cs ds d m=lin p.o0 p.o1 ((m-p.b)/(p.e-p.b))
theorem J0.pc (D:J0 cs ds d M W):∀p∈XV cs ds d,mJ cs ds d M W p:=by
 intro p hp
 unfold XV at hp
 by_cases h:CL cs ds<CM cs ds
 ·rw [if_pos h] at hp
  have tg:=D.tog h
  have ti:∀x∈Nk cs ds,CL cs ds<=x/\x<=CM cs ds:=λx hx=>EY h hx
  have tb:∀x∈Nk cs ds,Bd M x:=λx hx=>Jf D.m1 D.m2 D.begB D.endB hx
  have tw:∀x∈Nk cs ds,E2 W (GR cs ds d x):=D.w h
  unfold OA at hp
  obtain ⟨q,hq,rfl⟩:=List.mem_map.mp hp
  obtain ⟨k1,k2,k3,k4⟩:=Z6 HF q hq
  have i1:=ti _ k1
  have i2:=ti _ k2
  refine ⟨k3,tw _ k1,tw _ k2,tb _ k1,tb _ k2,i1.1,i2.2,rfl,rfl,λm m1 m2=> ?_⟩
  have m1:q.1<=m:=m1
  have m2:m<=q.2:=m2
  have no:∀c,c∈cs\/c∈ds->¬(q.1<c.1/\c.1<q.2):=λc hc z=>by
   refine k4 c.1 (Fd.mpr (.inr (.inr ⟨by grind,by grind,c,hc,rfl⟩))) z
  obtain ⟨s1,e1⟩:=tg.one q.1 i1.1 i1.2
  obtain ⟨s2,e2⟩:=tg.one q.2 i2.1 i2.2
  obtain ⟨t1,f1⟩:=tg.other q.1 i1.1 i1.2
  obtain ⟨t2,f2⟩:=tg.other q.2 i2.1 i2.2
  have l1:=Os D.r1 k3 m1 m2 (λc hc=>no c (.inl hc)) e1 e2
  have l2:=Os D.r2 k3 m1 m2 (λc hc=>no c (.inr hc)) f1 f2
  show GR cs ds d m=PL.lin (GR cs ds d q.1) (GR cs ds d q.2) ((m-q.1)/(q.2-q.1))
  unfold GR
  rw [l1,l2,e1,e2,f1,f2]
  exact bn
 ·rw [if_neg h] at hp;cases hp
theorem dH (h:CL cs ds<CM cs ds):(Nk cs ds).head?=some (CL cs ds):=by
 have mb:CL cs ds∈Nk cs ds:=Fd.mpr (.inl rfl)
 have hs:RI (Nk cs ds):=HF
 have hi:∀x∈Nk cs ds,CL cs ds<=x:=λx hx=>(EY h hx).1
 generalize Nk cs ds=ts at *
 cases ts with
 | nil=>cases mb
 | cons a r=>
   rcases List.mem_cons.mp mb with e|e
   ·rw [e];rfl
   ·have:=(List.pairwise_cons.mp hs).1 _ e
    have:=hi a (by simp)
    grind
theorem dI (h:CL cs ds<CM cs ds):(Nk cs ds).getLast?=some (CM cs ds):=by
 have mb:CM cs ds∈Nk cs ds:=Fd.mpr (.inr (.inl rfl))
 have hs:RI (Nk cs ds):=HF
 have hi:∀x∈Nk cs ds,x<=CM cs ds:=λx hx=>(EY h hx).2
 generalize Nk cs ds=ts at *
 obtain ⟨l,el⟩:∃l,ts.getLast?=some l:=⟨_,List.getLast?_eq_some_getLast (by intro z;subst z;cases mb)⟩
 rw [el]
 have l1:=hi l (List.mem_of_getLast? el)
 obtain ⟨i,WS,e⟩:=List.mem_iff_getElem.mp mb
 rw [List.getLast?_eq_getElem?] at el
 obtain ⟨hl,el⟩:=List.getElem?_eq_some_iff.mp el
 by_cases k:i=ts.length-1
 ·subst k;rw [<-e,<-el]
 ·have:=List.pairwise_iff_getElem.mp hs i (ts.length-1) WS hl (by omega)
  rw [e,el] at this
  grind
theorem J0.cover (D:J0 cs ds d M W) {m:Rat} (h1:CL cs ds<=m) (h2:m<CM cs ds):∃p∈XV cs ds d,p.b<=m/\m<p.e:=by
 have h:CL cs ds<CM cs ds:=by grind
 unfold XV
 rw [if_pos h]
 obtain ⟨p,hp,k⟩:=O1 HF (dH h) (dI h) h1 h2
 exact ⟨_,List.mem_map.mpr ⟨p,hp,rfl⟩,k⟩
def CN (cs ds:List C4) (d:Rat×Rat) (m:Rat):Prop:=CL cs ds<=m/\m<CM cs ds/\Mj (GR cs ds d m)<1
instance {m:Rat}:Decidable (CN cs ds d m):=by unfold CN;infer_instance
theorem J0.near_iff (D:J0 cs ds d M W) {m:Rat}:(∃p∈XV cs ds d,VL p.N p.lns p.b p.e m)↔CN cs ds d m:=by
 constructor
 ·rintro ⟨p,hp,h1,h2,h3⟩
  have o:=D.pc p hp
  have lo:=o.lo
  have hi:=o.hi
  rw [VG o.w0 o.w1,<-o.lin m h1 (by grind)] at h3
  exact ⟨by grind,by grind,h3⟩
 ·rintro ⟨h1,h2,h3⟩
  obtain ⟨p,hp,k1,k2⟩:=D.cover h1 h2
  have o:=D.pc p hp
  refine ⟨p,hp,k1,k2, ?_⟩
  rw [VG o.w0 o.w1,<-o.lin m k1 (by grind)]
  exact h3
theorem cG (D:J0 cs ds d M W):(XV cs ds d).length<=201:=by
 have h1:=D.f1
 have h2:=D.f2
 unfold XV
 split
 ·rw [QG]
  have:=Ox (cs:=cs) (ds:=ds) (b:=CL cs ds) (e:=CM cs ds)
  unfold Nk
  omega
 ·simp
structure Xn (cs ds:List C4) (d:Rat×Rat) (B:Nat) (ss:List BL):Prop where
 few:ss.length<=201
 ok:∀s∈ss,CK B s
 fin:∀s∈ss,∃x,s.2.2=some x
 sem:∀m,ss.any (BF · (m,0))=true↔CN cs ds d m
theorem bU {p:Pc}:p.lns.length=6:=rfl
theorem Ce (D:J0 cs ds d M W) {v w u:PV} (hv:CQ cs v) (hw:CQ ds w) (hu:aF d u) {Q:PV->Prop} (q:∀ss,Xn cs ds d (3*M+3*W+6) ss->Q (.tup ((canon 1 ss).map BZ))):Bj [v,w,u] Q:=by
 have hM:=D.hM
 have hW:=D.hW
 have fw:=cG D
 apply QQ
 ac_rfl
 refine W0 D hv hw hu ?_
 ac_rfl
 refine RO (λr acc=>∃us rs ss,us++rs=XV cs ds d/\r=rs.map j5/\acc=ss.map BZ/\ss.length<=us.length/\(∀s∈ss,CK (3*M+3*W+6) s)/\(∀s∈ss,∃x,s.2.2=some x)/\∀m,ss.any (BF · (m,0))=true↔∃p∈us,VL p.N p.lns p.b p.e m) ?_ ?_ _ _ ⟨[],_, [],rfl,rfl,rfl,by simp,by simp,by simp,by simp⟩
 ·rintro acc ⟨us,rs,ss,e,hr,rfl,h1,h2,h3,h4⟩
  have:rs= [] :=by cases rs with | nil=>rfl|cons _ _=>cases hr
  subst this
  rw [List.append_nil] at e
  subst e
  ac_rfl
  refine Sf (.inr rfl) (W5 ss) h2 (by omega) (by omega) ?_
  exact q ss ⟨by omega,h2,h3,λm=>by rw [h4,D.near_iff]⟩
 ·rintro y r acc R hR ⟨us,rs,ss,e,hr,rfl,h1,h2,h3,h4⟩
  cases rs with
  | nil=>cases hr
  | cons p rs=>
    cases hr
    have pm:p∈XV cs ds d:=by rw [<-e];simp
    have ul:us.length+1<=201:=by rw [<-e] at fw;simp at fw;omega
    have o:=D.pc p pm
    repeat' array_get_dec
    refine Tv (gA o.w0 o.w1 (by omega)) o.lt o.bb o.be (by omega) hW (by rw [bU];decide) λtt nt=> ?_
    have tf:=nt.few
    repeat' array_get_dec
    refine X7 _ _ (hR _ ⟨us ++ [p],rs,ss++tt,by simpa using e,rfl,by rw [List.map_append],by simp;omega,λs hs=> ?_,λs hs=> ?_,λm=> ?_⟩)
    ·rcases List.mem_append.mp hs with hs|hs
     ·exact h2 s hs
     ·exact nt.ok s hs
    ·rcases List.mem_append.mp hs with hs|hs
     ·exact h3 s hs
     ·exact nt.fin s hs
    ·rw [List.any_append,Bool.or_eq_true,h4,nt.sem]
     constructor
     ·rintro (⟨x,hx,z⟩|z)
      ·exact ⟨x,by simp [hx],z⟩
      ·exact ⟨p,by simp,z⟩
     ·rintro ⟨x,hx,z⟩
      rcases List.mem_append.mp hx with hx|hx
      ·exact .inl ⟨x,hx,z⟩
      ·simp at hx;subst hx;exact .inr z
end
theorem iX {r:Rat} (h:r.num.natAbs<2^3:=by decide +kernel) (h2:r.den<2^3:=by decide +kernel):Bd 3 r:=⟨h,h2⟩
theorem t8 {r:Rat} (h:r.num.natAbs<2^2:=by decide +kernel) (h2:r.den<2^2:=by decide +kernel):Bd 2 r:=⟨h,h2⟩
theorem V9 {Q:PV->Prop} (q:∀d:Rat×Rat,Bd 3 d.1->Bd 3 d.2->1/3<=d.1->1/3<=d.2->Q (.tup [fr d.1,fr d.2])):DK [.tape] Q:=by
 apply M9
 have all:∀x∈ [(1:Rat),2,3/2,1/3,5],Bd 3 x/\1/3<=x:=by
  intro x hx
  simp only [List.mem_cons,List.not_mem_nil,or_false] at hx
  rcases hx with rfl|rfl|rfl|rfl|rfl <;> exact ⟨iX,by decide +kernel⟩
 ac_rfl
 refine KH (xs:= [(1:Rat),2,3/2,1/3,5]) (by omega) (by show _<(5:Int);omega) λx hx=> ?_
 ac_rfl
 refine KH (xs:= [(1:Rat),2,3/2,1/3,5]) (by omega) (by show _<(5:Int);omega) λy hy=> ?_
 ac_rfl
 exact q (x,y) (all x hx).1 (all y hy).1 (all x hx).2 (all y hy).2
theorem Tu {n:Nat} {cs:List C4} {t:Rat} {o:T3} (p:D0 n 10 cs) (bt:Bd 11 t) (bo:E2 11 o):D0 n 22 (cs.map (Ec t o)):=by
 refine ⟨by simpa using p.two,by simpa using p.few,λc hc=> ?_, ?_⟩
 ·obtain ⟨d,hd,rfl⟩:=List.mem_map.mp hc
  have b:=p.bd d hd
  exact ⟨(b.m.add bt).mono (by decide),(b.x.add bo.x).mono (by decide),(b.y.add bo.y).mono (by decide),(b.z.add bo.z).mono (by decide)⟩
 ·refine List.pairwise_map.mpr (p.ris.imp λ{a b} h=> ?_)
  show a.1+t<b.1+t
  grind
theorem Fc {cs ds:List C4} (t1:2<=cs.length) (t2:2<=ds.length) (h:CL cs ds<CM cs ds):lK cs ds (CL cs ds) (CM cs ds):=by
 obtain ⟨a,r,l,rfl,h0,el⟩:=open2 t1
 obtain ⟨a2,r2,l2,rfl,Z8,el2⟩:=open2 t2
 unfold CL CM at h ⊢
 rw [Eh,Eh,Bz el,Bz el2] at h ⊢
 exact Zz h0 Z8 el el2 h
theorem Ph {cs ds:List C4} {M:Nat} (t1:2<=cs.length) (t2:2<=ds.length) (m1:∀c∈cs,Bd M c.1) (m2:∀c∈ds,Bd M c.1):Bd M (CL cs ds)/\Bd M (CM cs ds):=by
 obtain ⟨a,r,l,rfl,h0,el⟩:=open2 t1
 obtain ⟨a2,r2,l2,rfl,Z8,el2⟩:=open2 t2
 unfold CL CM
 rw [Eh,Eh,Bz el,Bz el2]
 exact ⟨(m1 a (by simp)).mx (m2 a2 (by simp)),(m1 l (List.mem_of_getLast? el)).mn (m2 l2 (List.mem_of_getLast? el2))⟩
theorem Pg {cs ds:List C4} {d:Rat×Rat} {n B D:Nat} (hn:n<=100) (p:D0 n B cs) (p2:D0 n B ds) (b1:Bd D d.1) (b2:Bd D d.2) (g1:0<d.1) (g2:0<d.2) (hB:B<=150) (hD:D<=100) (hW:2*(7*B+10)+1+D<=1050):J0 cs ds d B (2*(7*B+10)+1+D) where
 c1:=λc hc=>(p.bd c hc).mono hB
 c2:=λc hc=>(p2.bd c hc).mono hB
 r1:=p.ris
 r2:=p2.ris
 t1:=p.two
 t2:=p2.two
 f1:=Nat.le_trans p.few hn
 f2:=Nat.le_trans p2.few hn
 m1:=λc hc=>(p.bd c hc).m
 m2:=λc hc=>(p2.bd c hc).m
 b1:=b1.mono hD
 b2:=b2.mono hD
 p1:=g1
 p2:=g2
 w:=λh m hm=>by
  have tg:=Fc p.two p2.two h
  obtain ⟨e1,e2⟩:=Ph p.two p2.two (λc hc=>(p.bd c hc).m) (λc hc=>(p2.bd c hc).m)
  have ti:=EY h hm
  have bm:=Jf (λc hc=>(p.bd c hc).m) (λc hc=>(p2.bd c hc).m) e1 e2 hm
  exact (gK tg ti.1 ti.2 p.ris p2.ris p.bd p2.bd bm b1 b2 (by grind) (by grind)).mono (by omega)
 hM:=hB
 hW:=hW
theorem bI {ss:List BL} (fin:∀s∈ss,∃x,s.2.2=some x) (k:Rat):∃m,k<m/\ss.any (BF · (m,0))=false:=by
 induction ss with
 | nil=>exact ⟨k+1,by grind,rfl⟩
 | cons s ss ih=>
   obtain ⟨x,hx⟩:=fin s (by simp)
   have big:∀(tt:List BL),(∀s∈tt,∃x,s.2.2=some x)->∃n:Rat,k<n/\∀s∈tt,∀x,s.2.2=some x->x<n:=by
    intro tt
    induction tt with
    | nil=>intro _;exact ⟨k+1,by grind,by simp⟩
    | cons t tt ih2=>
      intro hf
      obtain ⟨n,h1,h2⟩:=ih2 λs hs=>hf s (by simp [hs])
      obtain ⟨y,hy⟩:=hf t (by simp)
      by_cases z:y<n
      ·refine ⟨n,h1,λs hs x hx=> ?_⟩
       rcases List.mem_cons.mp hs with rfl|hs
       ·rw [hy] at hx;cases hx;exact z
       ·exact h2 s hs x hx
      ·refine ⟨y+1,by grind,λs hs x hx=> ?_⟩
       rcases List.mem_cons.mp hs with rfl|hs
       ·rw [hy] at hx;cases hx;grind
       ·have:=h2 s hs x hx;grind
   obtain ⟨n,h1,h2⟩:=big (s::ss) fin
   refine ⟨n,h1, ?_⟩
   rw [List.any_eq_false]
   intro t ht z
   obtain ⟨y,hy⟩:=fin t ht
   have:=h2 t ht y hy
   unfold BF at z
   rw [hy] at z
   simp at z
   grind
theorem WF {B:Nat} {ss:List BL} (ok:∀s∈ss,CK B s) (fin:∀s∈ss,∃x,s.2.2=some x):∀r∈canon 1 ss,∃x,r.2.2=some x:=by
 intro r hr
 cases e:r.2.2 with
 | some x=>exact ⟨x,rfl⟩
 | none=>
   exfalso
   obtain ⟨m,h1,h2⟩:=bI fin r.1
   rw [<-RL ok (p:=(m,0)) (.inl rfl)] at h2
   rw [List.any_eq_false] at h2
   refine h2 r hr ?_
   unfold BF
   rw [e]
   simp
   exact .inl h1
structure Told (P:Rat->Prop) (B:Nat) (cc:List BL):Prop where
 ok:∀s∈cc,CK B s
 fin:∀s∈cc,∃x,s.2.2=some x
 few:cc.length<=2000
 sem:∀m,cc.any (BF · (m,0))=true↔P m
theorem Xn.told {cs ds:List C4} {d:Rat×Rat} {B:Nat} {ss:List BL} (n:Xn cs ds d B ss):Told (CN cs ds d) B (canon 1 ss):=
 ⟨X4 n.ok,WF n.ok n.fin,by have:=TC (n:=1) (ss:=ss);have:=n.few;omega,λm=>by rw [RL n.ok (p:=(m,0)) (.inl rfl)];exact n.sem m⟩
theorem FX {s:BL} {x:Rat} (h:s.2.2=some x):BZ s= .tup [fr s.1, .int s.2.1,fr x] :=by unfold BZ;rw [h];rfl
structure iK (Bm Bs:Nat) (c:C4):Prop where
 m:Bd Bm c.1
 p:E2 Bs c.2
theorem Ua {Bm Bs M:Nat} {a b:C4} {m:Rat} (ha:iK Bm Bs a) (hb:iK Bm Bs b) (hm:Bd M m) (h:a.1<b.1):E2 (M+3*Bm+3*Bs+5) (inter a b m):=by
 have s:Bd (M+Bm+1+(Bm+Bm+1)) ((m-a.1)/(b.1-a.1)):=(hm.sub ha.m).div (Na h) (hb.m.sub ha.m)
 exact ⟨(ha.p.x.add (s.mul (hb.p.x.sub ha.p.x))).mono (by omega),(ha.p.y.add (s.mul (hb.p.y.sub ha.p.y))).mono (by omega),(ha.p.z.add (s.mul (hb.p.z.sub ha.p.z))).mono (by omega)⟩
theorem Ng {Bm Bs M:Nat} {m:Rat} (hm:Bd M m):∀{a:C4} {r:List C4},GM (a::r)->(∀c∈a::r,iK Bm Bs c)->∀t,spotG a r m=some t->E2 (M+3*Bm+3*Bs+5) t
 | a, [],_,_,t,e=>by cases e
 | a,b::r,hr,hb,t,e=>by
   unfold PL.spotG at e
   split at e
   ·exact Ng hm (List.pairwise_cons.mp hr).2 (λc hc=>hb c (by simp [hc])) t e
   ·cases e
    exact Ua (hb a (by simp)) (hb b (by simp)) hm ((List.pairwise_cons.mp hr).1 b (by simp))
theorem IF {Bm Bs M:Nat} {m:Rat} {cs:List C4} (hm:Bd M m) (hr:GM cs) (hb:∀c∈cs,iK Bm Bs c):∀t,spotC cs m=some t->E2 (M+3*Bm+3*Bs+5) t:=λt e=>by
 cases cs with
 | nil=>cases e
 | cons a r=>
   simp only [PL.spotC] at e
   split at e
   ·cases e
   ·exact Ng hm hr hb t e
def XT (o p:T3):T3:=(p.1+o.1,p.2.1+o.2.1,p.2.2+o.2.2)
theorem WX {a b:C4} {t m:Rat} {o:T3}:inter (Ec t o a) (Ec t o b) m=XT o (inter a b (m-t)):=by
 have e1:m-(a.1+t)=m-t-a.1:=by grind
 have e2:b.1+t-(a.1+t)=b.1-a.1:=by grind
 have e3:∀x y z:Rat,y+z-(x+z)=y-x:=λx y z=>by grind
 simp only [inter,XT,Ec]
 rw [e1,e2,e3,e3,e3]
 have e4:∀x y z:Rat,x+z+y=x+y+z:=λx y z=>by grind
 rw [e4,e4 a.2.2.1,e4 a.2.2.2]
theorem Ou {t m:Rat} {o:T3}:∀{a:C4} {r:List C4},spotG (Ec t o a) (r.map (Ec t o)) m=(spotG a r (m-t)).map (XT o)
 | a, [] =>rfl
 | a,b::r=>by
   simp only [List.map_cons,spotG]
   have e:(Ec t o b).1<m↔b.1<m-t:=by show b.1+t<m↔_;constructor <;> intro h <;> grind
   by_cases h:b.1<m-t
   ·rw [if_pos h,if_pos (e.mpr h)]
    exact Ou
   ·rw [if_neg h,if_neg (λz=>h (e.mp z)),WX]
    rfl
theorem HE {t m:Rat} {o:T3} {cs:List C4}:spotC (cs.map (Ec t o)) m=(spotC cs (m-t)).map (XT o):=by
 cases cs with
 | nil=>rfl
 | cons a r=>
   simp only [List.map_cons,spotC]
   have e:m<(Ec t o a).1↔m-t<a.1:=by show m<a.1+t↔_;constructor <;> intro h <;> grind
   by_cases h:m-t<a.1
   ·rw [if_pos h,if_pos (e.mpr h)]
    rfl
   ·rw [if_neg h,if_neg (λz=>h (e.mp z))]
    exact Ou
theorem U3 {t:Rat} {o:T3} {cs:List C4} (h:2<=cs.length):DT (cs.map (Ec t o))=DT cs+t:=by
 obtain ⟨a,r,l,rfl,h0,el⟩:=open2 h
 rfl
theorem VH {t:Rat} {o:T3} {cs:List C4} (h:2<=cs.length):lstM (cs.map (Ec t o))=lstM cs+t:=by
 obtain ⟨a,r,l,rfl,h0,el⟩:=open2 h
 rw [Bz el,Bz (l:=Ec t o l) (by rw [List.getLast?_map,el];rfl)]
theorem gG {a b t:Rat}:mx (a+t) (b+t)=mx a b+t:=by unfold mx;split <;> split <;> grind
theorem gF {a b t:Rat}:mn (a+t) (b+t)=mn a b+t:=by unfold mn;split <;> split <;> grind
theorem Yn {t m:Rat} {o:T3} {d:Rat×Rat} {cs ds:List C4} (h1:2<=cs.length) (h2:2<=ds.length):CN (cs.map (Ec t o)) (ds.map (Ec t o)) d m↔CN cs ds d (m-t):=by
 unfold CN CL CM
 rw [U3 h1,U3 h2,VH h1,VH h2,gG,gF]
 have e:(mx (DT cs) (DT ds)+t<=m/\m<mn (lstM cs) (lstM ds)+t/\Mj (GR (cs.map (Ec t o)) (ds.map (Ec t o)) d m)<1)↔(mx (DT cs) (DT ds)<=m-t/\m-t<mn (lstM cs) (lstM ds)/\Mj (GR (cs.map (Ec t o)) (ds.map (Ec t o)) d m)<1):=by
  constructor <;> (rintro ⟨a,b,c⟩;exact ⟨by grind,by grind,c⟩)
 rw [e]
 constructor
 ·rintro ⟨a,b,c⟩
  refine ⟨a,b, ?_⟩
  have tg:=Fc (cs:=cs) (ds:=ds) h1 h2 (by show mx _ _<mn _ _;grind)
  obtain ⟨p,ep⟩:=tg.one (m-t) a (by show _<=mn _ _;grind)
  obtain ⟨q,eq⟩:=tg.other (m-t) a (by show _<=mn _ _;grind)
  unfold GR at c ⊢
  rw [HE,HE,ep,eq] at c
  rw [ep,eq]
  have:E6 (XT o p) (XT o q) d=E6 p q d:=by
   unfold E6 XT
   have e3:∀x y z:Rat,x+z-(y+z)=x-y:=λx y z=>by grind
   simp only [e3]
  exact this ▸ c
 ·rintro ⟨a,b,c⟩
  refine ⟨a,b, ?_⟩
  have tg:=Fc (cs:=cs) (ds:=ds) h1 h2 (by show mx _ _<mn _ _;grind)
  obtain ⟨p,ep⟩:=tg.one (m-t) a (by show _<=mn _ _;grind)
  obtain ⟨q,eq⟩:=tg.other (m-t) a (by show _<=mn _ _;grind)
  unfold GR at c ⊢
  rw [HE,HE,ep,eq]
  rw [ep,eq] at c
  have:E6 (XT o p) (XT o q) d=E6 p q d:=by
   unfold E6 XT
   have e3:∀x y z:Rat,x+z-(y+z)=x-y:=λx y z=>by grind
   simp only [e3]
  show Mj (E6 (XT o p) (XT o q) d)<1
  rw [this]
  exact c
theorem V6 (r:Rat):absR (-r)=absR r:=by
 unfold absR
 split <;> split <;> grind
theorem YK (p q:T3) (d:Rat×Rat):Mj (E6 q p d)=Mj (E6 p q d):=by
 have h:∀x y z:Rat,(y-x)/z= -((x-y)/z):=λx y z=>by
  rw [Rat.div_def,Rat.div_def,<-Rat.neg_mul]
  congr 1
  grind
 unfold Mj E6
 simp only [h p.1 q.1,h p.2.1 q.2.1,h p.2.2 q.2.2,V6]
theorem bX (a b:Rat):mx a b=mx b a:=by unfold mx;split <;> split <;> grind
theorem bW (a b:Rat):mn a b=mn b a:=by unfold mn;split <;> split <;> grind
theorem Wn {cs ds:List C4} {d:Rat×Rat} {m:Rat}:CN ds cs d m↔CN cs ds d m:=by
 unfold CN CL CM GR
 rw [bX (DT ds),bW (lstM ds),YK]
theorem MW {x a b:Rat} (ha:0<a) (lQ:a<=b) (h:absR (x/a)<1):absR (x/b)<1:=by
 have hb:0<b:=by grind
 rw [Lh] at h ⊢
 obtain ⟨h1,h2⟩:=h
 rw [Rat.div_lt_iff ha] at h1
 have e2: -(x/a)=(-x)/a:=by rw [Rat.div_def,Rat.div_def,Rat.neg_mul]
 have e3: -(x/b)=(-x)/b:=by rw [Rat.div_def,Rat.div_def,Rat.neg_mul]
 rw [e2,Rat.div_lt_iff ha] at h2
 rw [e3,Rat.div_lt_iff hb,Rat.div_lt_iff hb]
 exact ⟨by grind,by grind⟩
theorem Wo {cs ds:List C4} {d e:Rat×Rat} {m:Rat} (h1:0<d.1) (h2:0<d.2) (k1:d.1<=e.1) (k2:d.2<=e.2) (h:CN cs ds d m):CN cs ds e m:=by
 refine ⟨h.1,h.2.1, ?_⟩
 have g:=h.2.2
 unfold GR at g ⊢
 rw [TW] at g ⊢
 exact ⟨MW h1 k1 g.1,MW h1 k1 g.2.1,MW h2 k2 g.2.2⟩
theorem Wl {cs ds:List C4} {d:Rat×Rat} {m:Rat} (t1:2<=cs.length) (es:∀m,spotC ds m=spotC cs m) (ef:DT ds=DT cs) (el:lstM ds=lstM cs):CN cs ds d m↔DT cs<=m/\m<lstM cs:=by
 unfold CN CL CM GR
 rw [es,ef,el]
 have e1:mx (DT cs) (DT cs)=DT cs:=by unfold mx;split <;> rfl
 have e2:mn (lstM cs) (lstM cs)=lstM cs:=by unfold mn;split <;> rfl
 rw [e1,e2]
 have z:∀p:T3,Mj (E6 p p d)<1:=λp=>by
  have s:∀x y:Rat,(x-x)/y=0:=λx y=>by rw [show x-x=0 by grind,Rat.div_def,Rat.zero_mul]
  unfold E6
  rw [TW,s,s,s]
  have:absR 0<1:=by decide +kernel
  exact ⟨this,this,this⟩
 exact ⟨λh=>⟨h.1,h.2.1⟩,λh=>⟨h.1,h.2,z _⟩⟩
theorem Wk {cs ds es:List C4} {d:Rat×Rat} {m:Rat} (e:∀m,spotC es m=spotC cs m) (ef:DT es=DT cs) (el:lstM es=lstM cs):CN es ds d m↔CN cs ds d m:=by
 unfold CN CL CM GR
 rw [e,ef,el]
structure Gc (cs:List C4):Prop where
 ok:D0 12 22 cs
 mu:∀c∈cs,Mul 6 2000 c.1
theorem js {N:Nat}:Mul 6 N (0:Rat):=⟨by decide,0,by simp,by simp⟩
theorem Tt {cs:List C4} {t:Rat} {o:T3} (h:∀c∈cs,Mul 6 600 c.1) (ht:Mul 6 1400 t):∀c∈cs.map (Ec t o),Mul 6 2000 c.1:=λc hc=>by
 obtain ⟨b,hb,rfl⟩:=List.mem_map.mp hc
 exact (h b hb).add ht
instance (priority:=high) lq {Q:PV->Prop}:Nw (B5 [.tape] Q) True (∀a,Bd 8 a->0<a->Mul 6 48 a->Q (fr a)):=⟨λ_ h=>GA h⟩
theorem Dc {cs:List C4} {w:Int} {o:T3} {z2 z5 z6 z7 z8:Option AV} {X Y Z:BB->Prop} (pm:MS 12 6 600 cs) (bo:E2 11 o) {Q:PV->Prop} (q:∀ds,Gc ds->Q (A8 ds)):
 FH {nx:=X,rt:=Q,bk:=Y,ct:=Z} [some (.val .tape),some (.val (A8 cs)),z2,some (.val (.int w)),some (.own [fr o.1,fr o.2.1,fr o.2.2]),z5,z6,z7,z8] :=by
 have few:=pm.few
 have two:=pm.two
 have p12:D0 12 10 cs:=pm.ok (by decide) (by decide)
 obtain ⟨a,r,l,ecs,h0,el,al⟩:=p12.open
 have el':cs.getLast?=some l:=by rw [ecs];exact el
 have ml:l∈cs:=List.mem_of_getLast? el'
 have bl:=(p12.bd l ml).m
 have b20:=iP.mono (n:=11) (by decide)
 have ok40:∀{ds:List C4},MS 12 6 600 ds->Gc ds:=λp=>⟨⟨p.two,p.few,λc hc=>(p.mu c hc).bd (by decide) (by decide),p.ris⟩,λc hc=>(p.mu c hc).m.mono (by decide)⟩
 have mm:∀c∈cs,Mul 6 600 c.1:=λc hc=>(pm.mu c hc).m
 ac_rfl
 ·exact EV rfl (by omega) p12.bd b20 bo (by decide) (by decide) (q _ ⟨Tu p12 b20 bo,Tt mm js⟩)
 ·rename_i sp bs ps mp k k0 k1
  refine KH (xs:= [sp,0]) k0 k1 λt ht=> ?_
  have bt:Bd 11 t/\Mul 6 1400 t:=by
   simp only [List.mem_cons,List.not_mem_nil,or_false] at ht
   rcases ht with rfl|rfl
   ·exact ⟨bs.mono (by decide),mp.mono (by decide)⟩
   ·exact ⟨b20,js⟩
  obtain ⟨bt,mt⟩:=bt
  ac_rfl
  exact EV rfl (by omega) p12.bd bt bo (by decide) (by decide) (q _ ⟨Tu p12 bt bo,Tt mm mt⟩)
 ·show (cs.map cor).length=(cs.map cor).length/\_
  refine ⟨rfl, ?_⟩
  rw [<-List.map_reverse,dM]
  refine ⟨jp (n:=12) (by simp;omega) (by decide), ?_⟩
  refine Dj (λp:C4×C4=> .tup [cor p.1,cor p.2]) cor (λp=>(p.1.1,p.2.2)) (λ_=>True) (λp _ R hR=> ?_) _ [] (by simp) ?_
  ·ac_rfl
   exact hR
  rw [List.nil_append]
  ac_rfl
  refine q _ ⟨⟨by simp;omega,by simp;omega,λc hc=> ?_, ?_⟩,λc hc=> ?_⟩
  rotate_left 2
  ·obtain ⟨⟨u,v⟩,hu,rfl⟩:=List.mem_map.mp hc
   exact (mm u (List.of_mem_zip hu).1).mono (by decide)
  ·obtain ⟨⟨u,v⟩,hu,rfl⟩:=List.mem_map.mp hc
   have h1:=p12.bd u (List.of_mem_zip hu).1
   have h2:=p12.bd v (List.mem_reverse.mp (List.of_mem_zip hu).2)
   exact ⟨h1.m.mono (by decide),h2.x.mono (by decide),h2.y.mono (by decide),h2.z.mono (by decide)⟩
  ·refine VY pm.ris ?_
   rw [List.map_map]
   have e:((λx:C4=>x.1) ∘ λp:C4×C4=>((p.1.1,p.2.2):C4))=(λx:C4=>x.1) ∘ Prod.fst:=rfl
   rw [e,<-List.map_map,List.map_fst_zip (by simp)]
 ·refine KP λds pd=> ?_
  have pd12:D0 12 10 ds:=pd.ok (by decide) (by decide)
  obtain ⟨a2,r2,l2,eds,Z8,el2,al2⟩:=pd12.open
  have few2:=pd.few
  have ba2:=(pd12.bd a2 (by rw [eds];simp)).m
  subst eds
  have bt:Bd 11 (l.1-a2.1):=(Mul.subQ (pm.mu l ml).m (pd.mu a2 (by simp)).m).bd (by decide) (by decide)
  ac_rfl
  exact EV (o:=(0,0,0)) rfl (by omega) pd12.bd bt ⟨b20,b20,b20⟩ (by decide) (by decide) (q _ ⟨Tu pd12 bt ⟨b20,b20,b20⟩,Tt (λc hc=>(pd.mu c hc).m) ((Mul.subQ (pm.mu l ml).m (pd.mu a2 (by simp)).m).mono (by decide))⟩)
 ·rename_i k k0 k1 x bx y by' z bz c ec mc
  have bc:=p12.bd c mc
  have hk:k.toNat<cs.length:=by omega
  have ec':cs[k.toNat] =c:=by rw [List.getElem?_eq_getElem hk] at ec;exact Option.some.inj ec
  rw [show (k+1).toNat=k.toNat+1 by omega]
  refine q _ ⟨⟨by simp;omega,by simp;omega,λd hd=> ?_, ?_⟩,λd hd=> ?_⟩
  rotate_left 2
  ·rcases List.mem_append.mp hd with hd|hd
   ·rcases List.mem_append.mp hd with hd|hd
    ·exact (mm d (List.mem_of_mem_take hd)).mono (by decide)
    ·simp at hd;subst hd
     exact (mm c mc).mono (by decide)
   ·exact (mm d (List.mem_of_mem_drop hd)).mono (by decide)
  ·rcases List.mem_append.mp hd with hd|hd
   ·rcases List.mem_append.mp hd with hd|hd
    ·exact (p12.bd d (List.mem_of_mem_take hd)).mono (by decide)
    ·simp at hd;subst hd
     exact ⟨bc.m.mono (by decide),bx.mono (by decide),by'.mono (by decide),bz.mono (by decide)⟩
   ·exact (p12.bd d (List.mem_of_mem_drop hd)).mono (by decide)
  ·refine VY pm.ris ?_
   have e:cs=cs.take k.toNat ++ [c] ++ cs.drop (k.toNat+1):=by
    rw [List.append_assoc,List.singleton_append,<-ec',<-List.drop_eq_getElem_cons hk,List.take_append_drop]
   conv=>rhs;rw [e]
   simp only [List.map_append,List.map_cons,List.map_nil]
 ·rename_i k k0 k1 c ec mc c0 ec0 mc0 sp bs ps mp
  have bc:=p12.bd c mc
  have bc0:=p12.bd c0 mc0
  have e0:c0=a:=by rw [ecs] at ec0;exact (Option.some.inj ec0).symm
  refine q [(c0.1,c.2.1,c.2.2.1,c.2.2.2),(l.1+sp,c.2.1,c.2.2.1,c.2.2.2)] ⟨⟨by simp,by simp,λd hd=> ?_, ?_⟩,λd hd=> ?_⟩
  rotate_left 2
  ·simp only [List.mem_cons,List.not_mem_nil,or_false] at hd
   rcases hd with rfl|rfl
   ·exact (mm c0 mc0).mono (by decide)
   ·exact ((mm l ml).add mp).mono (by decide)
  ·simp only [List.mem_cons,List.not_mem_nil,or_false] at hd
   rcases hd with rfl|rfl
   ·exact ⟨bc0.m.mono (by decide),bc.x.mono (by decide),bc.y.mono (by decide),bc.z.mono (by decide)⟩
   ·exact ⟨(bl.add bs).mono (by decide),bc.x.mono (by decide),bc.y.mono (by decide),bc.z.mono (by decide)⟩
  ·refine List.pairwise_cons.mpr ⟨λd hd=> ?_,List.pairwise_singleton _ _⟩
   simp at hd;subst hd
   show c0.1<l.1+sp
   rw [e0]
   grind
 ·exact KP λds pd=>q ds (ok40 pd)
theorem S9 {cs:List C4} {d:Rat×Rat} (p:MS 12 6 600 cs) (b1:Bd 3 d.1) (b2:Bd 3 d.2) {Q:PV->Prop} (q:∀ds,Gc ds->Q (A8 ds)):Cm [.tape,A8 cs, .tup [fr d.1,fr d.2]] Q:=by
 have few:=p.few
 have two:=p.two
 apply LZ
 ac_rfl
 rename_i w w0 w1 r r0 r1
 have hr:r=0\/r=1\/r=2:=by omega
 have bz:Bd 11 (0:Rat):=iP.mono (by decide)
 have fac:∀{k:Int} {R:PV->Prop},0<=k->k<3->(∀f:Rat,Bd 2 f->R (fr f))->Ap (.lst [fr (1/2),fr ((-1:Int):Rat), .tup [.int (-1), .int 3]]) (.int k) R:=λk0 k1 h=>by
  rw [lB]
  refine KH (xs:= [(1/2:Rat),((-1:Int):Rat), -1/3]) k0 k1 λx hx=>h x ?_
  simp only [List.mem_cons,List.not_mem_nil,or_false] at hx
  rcases hx with rfl|rfl|rfl <;> exact t8
 rcases hr with rfl|rfl|rfl
 ·ac_rfl
  rw [show (if decide ((0:Int)=2)=true then (1:Int) else 0)=0 from rfl]
  ac_rfl
  simp only [df,cB,List.set_cons_zero,List.set_cons_succ]
  repeat' (first | exact Dc (o:=(d.1,0,0)) p ⟨b1.mono (by decide),bz,bz⟩ q|array_mem_dec)
  refine fac (by omega) (by omega) λf bf=> ?_
  ac_rfl
  simp only [df,cB,List.set_cons_zero,List.set_cons_succ]
  repeat' (first | exact Dc (o:=(d.1*f,0,0)) p ⟨(b1.mul bf).mono (by decide),bz,bz⟩ q|array_mem_dec)
 ·ac_rfl
  rw [show (if decide ((1:Int)=2)=true then (1:Int) else 0)=0 from rfl]
  ac_rfl
  simp only [dg,cB,List.set_cons_zero,List.set_cons_succ]
  repeat' (first | exact Dc (o:=(0,d.1,0)) p ⟨bz,b1.mono (by decide),bz⟩ q|array_mem_dec)
  refine fac (by omega) (by omega) λf bf=> ?_
  ac_rfl
  simp only [dg,cB,List.set_cons_zero,List.set_cons_succ]
  repeat' (first | exact Dc (o:=(0,d.1*f,0)) p ⟨bz,(b1.mul bf).mono (by decide),bz⟩ q|array_mem_dec)
 ·ac_rfl
  rw [show (if decide ((2:Int)=2)=true then (1:Int) else 0)=1 from rfl]
  ac_rfl
  simp only [dh,cB,List.set_cons_zero,List.set_cons_succ]
  repeat' (first | exact Dc (o:=(0,0,d.2)) p ⟨bz,bz,b2.mono (by decide)⟩ q|array_mem_dec)
  refine fac (by omega) (by omega) λf bf=> ?_
  ac_rfl
  simp only [dh,cB,List.set_cons_zero,List.set_cons_succ]
  repeat' (first | exact Dc (o:=(0,0,d.2*f)) p ⟨bz,bz,(b2.mul bf).mono (by decide)⟩ q|array_mem_dec)
theorem X5 {ns:List Int} {k:Nat} (hk:k<=1000) {Q:PV->Prop} (q:∀cs ds (d:Rat×Rat),Gc cs->Gc ds->Bd 3 d.1->Bd 3 d.2->1/3<=d.1->1/3<=d.2->Q (.tup [.tape,A8 cs,A8 ds, .tup [fr d.1,fr d.2]])):Dt [.scr ns, .int k] Q:=by
 apply OC
 ac_rfl
 refine V9 λd b1 b2 p1 p2=> ?_
 ac_rfl
 refine KP λcs pc=> ?_
 ac_rfl
 refine S9 pc b1 b2 λds pd=> ?_
 have pc40:Gc cs:=⟨⟨pc.two,pc.few,λc hc=>(pc.mu c hc).bd (by decide) (by decide),pc.ris⟩,λc hc=>(pc.mu c hc).m.mono (by decide)⟩
 ac_rfl
 ·exact q ds cs d pd pc40 b1 b2 p1 p2
 ·exact q cs ds d pc40 pd b1 b2 p1 p2
theorem fi {a b f t xa xb:Rat} (h1:a<b) (h2:a<f):xa+(t-a)/(f-a)*((xa+(f-a)/(b-a)*(xb-xa))-xa)=xa+(t-a)/(b-a)*(xb-xa):=by
 have n1:b-a≠0:=by grind
 have n2:f-a≠0:=by grind
 grind
theorem WV {a b:C4} {f t:Rat} (h1:a.1<b.1) (h2:a.1<f):inter a (f,inter a b f) t=inter a b t:=by
 simp only [inter]
 rw [fi h1 h2,fi h1 h2,fi h1 h2]
theorem Ot {c:C4} {m:Rat}:∀{k:Nat} {a:C4} {r:List C4} {b e:C4},(a::r)[k]? =some b->r[k]? =some e->GM (a::r)->b.1<c.1->c.1<e.1->c.2=inter b e c.1->spotG a (r.take k++c::r.drop k) m=spotG a r m
 | 0,a,r,b,e,hb,he,hr,h1,h2,hc=>by
   cases r with
   | nil=>simp at he
   | cons x r=>
     simp at hb he
     subst hb he
     have pV:a.1<x.1:=(List.pairwise_cons.mp hr).1 x (by simp)
     obtain ⟨f,p⟩:=c
     simp only at h1 h2 hc
     subst hc
     simp only [List.take_zero,List.drop_zero,List.nil_append,spotG]
     by_cases k1:f<m
     ·rw [if_pos k1]
      by_cases k2:x.1<m
      ·rw [if_pos k2,if_pos k2]
      ·rw [if_neg k2,if_neg k2,Rl pV h2]
     ·rw [if_neg k1,if_neg (by grind),WV pV h1]
 | k+1,a,r,b,e,hb,he,hr,h1,h2,hc=>by
   cases r with
   | nil=>simp at he
   | cons x r=>
     simp only [List.take_succ_cons,List.drop_succ_cons,List.cons_append,spotG]
     have ih:=Ot (c:=c) (m:=m) (k:=k) (a:=x) (r:=r) (b:=b) (e:=e) (by simpa using hb) (by simpa using he) (List.pairwise_cons.mp hr).2 h1 h2 hc
     rw [ih]
theorem Nf {a c:C4} {r:List C4} {k:Nat}:(a::r).take (k+1)++c::(a::r).drop (k+1)=a::(r.take k++c::r.drop k):=by simp
theorem XC {c b e:C4} {cs:List C4} {k:Nat} (hb:cs[k]? =some b) (he:cs[k+1]? =some e) (hr:GM cs) (h1:b.1<c.1) (h2:c.1<e.1) (hc:c.2=inter b e c.1) (m:Rat):spotC (cs.take (k+1)++c::cs.drop (k+1)) m=spotC cs m:=by
 cases cs with
 | nil=>simp at hb
 | cons a r=>
   rw [Nf]
   simp only [spotC]
   rw [Ot hb (by simpa using he) hr h1 h2 hc]
theorem R7 {c:C4}:∀{k:Nat} {a:C4} {r:List C4} {b e:C4},(a::r)[k]? =some b->r[k]? =some e->GM (a::r)->b.1<c.1->c.1<e.1->GM (a::(r.take k++c::r.drop k))
 | 0,a,r,b,e,hb,he,hr,h1,h2=>by
   cases r with
   | nil=>simp at he
   | cons x r=>
     simp at hb he
     subst hb he
     obtain ⟨k1,k2⟩:=List.pairwise_cons.mp hr
     obtain ⟨k3,k4⟩:=List.pairwise_cons.mp k2
     simp only [List.take_zero,List.drop_zero,List.nil_append]
     refine List.pairwise_cons.mpr ⟨λy hy=> ?_,List.pairwise_cons.mpr ⟨λy hy=> ?_,k2⟩⟩
     ·rcases List.mem_cons.mp hy with rfl|hy
      ·exact h1
      ·exact k1 y hy
     ·rcases List.mem_cons.mp hy with rfl|hy
      ·exact h2
      ·have:=k3 y hy;grind
 | k+1,a,r,b,e,hb,he,hr,h1,h2=>by
   cases r with
   | nil=>simp at he
   | cons x r=>
     obtain ⟨k1,k2⟩:=List.pairwise_cons.mp hr
     have ih:=R7 (c:=c) (k:=k) (a:=x) (r:=r) (b:=b) (e:=e) (by simpa using hb) (by simpa using he) k2 h1 h2
     simp only [List.take_succ_cons,List.drop_succ_cons,List.cons_append]
     refine List.pairwise_cons.mpr ⟨λy hy=> ?_,ih⟩
     rcases List.mem_cons.mp hy with rfl|hy
     ·exact k1 y (by simp)
     ·rcases List.mem_append.mp hy with hy|hy
      ·exact k1 y (by simp [List.mem_of_mem_take hy])
      ·rcases List.mem_cons.mp hy with rfl|hy
       ·have:a.1<b.1:=k1 b (List.mem_of_getElem? (by simpa using hb))
        grind
       ·exact k1 y (by simp [List.mem_of_mem_drop hy])
theorem cg {c b e:C4} {cs:List C4} {k:Nat} (hb:cs[k]? =some b) (he:cs[k+1]? =some e) (hr:GM cs) (h1:b.1<c.1) (h2:c.1<e.1):GM (cs.take (k+1)++c::cs.drop (k+1)):=by
 cases cs with
 | nil=>simp at hb
 | cons a r=>
   rw [Nf]
   exact R7 hb (by simpa using he) hr h1 h2
theorem av {c b e:C4} {cs:List C4} {k:Nat} (hb:cs[k]? =some b) (he:cs[k+1]? =some e):DT (cs.take (k+1)++c::cs.drop (k+1))=DT cs:=by
 cases cs with
 | nil=>simp at hb
 | cons a r=>rw [Nf];rfl
theorem bV {c b e:C4} {cs:List C4} {k:Nat} (hb:cs[k]? =some b) (he:cs[k+1]? =some e):lstM (cs.take (k+1)++c::cs.drop (k+1))=lstM cs:=by
 unfold lstM
 have hl:=(List.getElem?_eq_some_iff.mp he).1
 have hd:cs.drop (k+1)≠ [] :=by
  intro z
  have:=congrArg List.length z
  simp at this
  omega
 rw [List.getLast?_append,List.getLast?_cons_of_ne_nil hd]
 have:(cs.drop (k+1)).getLast?=cs.getLast?:=by
  rw [List.getLast?_drop]
  rw [if_neg (by omega)]
 rw [this]
 obtain ⟨l,el⟩:∃l,cs.getLast?=some l:=⟨_,List.getLast?_eq_some_getLast (by intro z;subst z;simp at hl)⟩
 rw [el]
 rfl
theorem Sa {m:Rat}:∀{k:Nat} {a:C4} {r:List C4} {b e:C4},(a::r)[k]? =some b->r[k]? =some e->GM (a::r)->b.1<m->m<e.1->spotG a r m=some (inter b e m)
 | 0,a,r,b,e,hb,he,hr,h1,h2=>by
   cases r with
   | nil=>simp at he
   | cons x r=>
     simp at hb he
     subst hb he
     simp only [spotG]
     rw [if_neg (by grind)]
 | k+1,a,r,b,e,hb,he,hr,h1,h2=>by
   cases r with
   | nil=>simp at he
   | cons x r=>
     have bM:=(List.pairwise_cons.mp hr).2
     simp only [spotG]
     have xb:x.1<=b.1:=by
      rcases List.mem_cons.mp (List.mem_of_getElem? (l:=x::r) (i:=k) (by simpa using hb)) with h|h
      ·rw [h];grind
      ·have:=(List.pairwise_cons.mp bM).1 b h;grind
     rw [if_pos (by grind)]
     exact Sa (k:=k) (by simpa using hb) (by simpa using he) bM h1 h2
theorem Zj {m:Rat} {cs:List C4} {k:Nat} {b e:C4} (hb:cs[k]? =some b) (he:cs[k+1]? =some e) (hr:GM cs) (h1:b.1<m) (h2:m<e.1):spotC cs m=some (inter b e m):=by
 cases cs with
 | nil=>simp at hb
 | cons a r=>
   have ab:a.1<=b.1:=by
    rcases List.mem_cons.mp (List.mem_of_getElem? hb) with h|h
    ·rw [h];grind
    ·have:=(List.pairwise_cons.mp hr).1 b h;grind
   simp only [spotC]
   rw [if_neg (by grind)]
   exact Sa hb (by simpa using he) hr h1 h2
theorem Mul.up {D N:Nat} {a:Rat} (h:Mul D N a):Mul (12*D) (30*N) a:=by
 obtain ⟨h0,k,rfl,hk⟩:=h
 refine ⟨by omega,12*k, ?_,by omega⟩
 rw [show ((12*D:Nat):Int)=12*(D:Int) by push_cast;rfl,Rat.divInt_mul_left (by decide)]
theorem Wh {D N:Nat} {a b s:Rat} (ha:Mul D N a) (hb:Mul D N b) (hs:s=1/2\/s=1/3\/s=3/4):Mul (12*D) (30*N) (a+s*(b-a)):=by
 obtain ⟨h0,k,rfl,hk⟩:=ha
 obtain ⟨_,l,rfl,hl⟩:=hb
 have hD:((D:Int):Rat)≠0:=λz=>by
  have:(D:Int)=0:=Rat.intCast_inj.mp z
  omega
 have key:∀p:Int,(0<=p/\p<=9)->s=(p:Rat)/12->Mul (12*D) (30*N) (Rat.divInt k D+s*(Rat.divInt l D-Rat.divInt k D)):=λp hp e=>by
  refine ⟨by omega,12*k+p*(l-k), ?_, ?_⟩
  ·rw [e,Rat.divInt_eq_div,Rat.divInt_eq_div,Rat.divInt_eq_div,Rat.intCast_add,Rat.intCast_mul,Rat.intCast_mul,Rat.intCast_sub]
   rw [show (((12*D:Nat):Int):Rat)=12*((D:Int):Rat) by rw [Int.natCast_mul,Rat.intCast_mul];rfl]
   rw [show ((12:Int):Rat)=12 from rfl]
   grind
  ·have:(p*(l-k)).natAbs<=9*(2*N):=by
    rw [Int.natAbs_mul]
    exact Nat.mul_le_mul (by omega) (by omega)
   omega
 rcases hs with h|h|h
 ·exact key 6 (by omega) (by rw [h];decide +kernel)
 ·exact key 4 (by omega) (by rw [h];decide +kernel)
 ·exact key 9 (by omega) (by rw [h];decide +kernel)
theorem Je {P P':Rat->Prop} {B B':Nat} {cc cc':List BL} (t:Told P B cc) (t':Told P' B' cc') (s:Sep cc) (s':Sep cc') (h:∀m,P m↔P' m):cc=cc':=
 NN s s' t.ok t'.ok t.fin t'.fin λm=>by rw [Bool.eq_iff_iff,t.sem,t'.sem,h]
theorem QX {B:Nat}:∀{L:List BL},Sep L->(∀s∈L,CK B s)->(∀s∈L,∃x,s.2.2=some x)->∀t∈L,∀e,t.2.2=some e->L.any (BF · (e,0))=false
 | [],_,_,_,t,ht,_,_=>by cases ht
 | s::a,hs,ok,fin,t,ht,e,he=>by
   have os:=ok s (by simp)
   obtain ⟨x,hx⟩:=fin s (by simp)
   rw [List.any_cons]
   rcases List.mem_cons.mp ht with rfl|ht
   ·rw [Cc hs ok fin he (by grind)]
    have:BF t (e,0)=false:=Bool.eq_false_iff.mpr λy=>by
     have:=(BM os he).mp y
     grind
    rw [this];rfl
   ·have ih:=QX (List.pairwise_cons.mp hs).2 (λs h=>ok s (by simp [h])) (λs h=>fin s (by simp [h])) t ht e he
    rw [ih]
    obtain ⟨e',h1,h2⟩:=(List.pairwise_cons.mp hs).1 t ht
    have lt:=((ok t (by simp [ht])).e e he).1
    rw [hx] at h1;cases h1
    have:BF s (e,0)=false:=Bool.eq_false_iff.mpr λy=>by
     have:=(BM os hx).mp y
     rcases h2 with h2|⟨h2,_⟩ <;> grind
    rw [this];rfl
theorem QY:∀{L:List BL},Sep L->∀s∈L,∀t∈L,s=t\/aw s t\/aw t s
 | [],_,s,hs,_,_=>by cases hs
 | a::L,h,s,hs,t,ht=>by
   obtain ⟨h1,h2⟩:=List.pairwise_cons.mp h
   rcases List.mem_cons.mp hs with e1|p8
   ·rcases List.mem_cons.mp ht with e2|nD
    ·exact .inl (e1.trans e2.symm)
    ·rw [e1];exact .inr (.inl (h1 t nD))
   ·rcases List.mem_cons.mp ht with e2|nD
    ·rw [e2];exact .inr (.inr (h1 s p8))
    ·exact QY h2 s p8 t nD
theorem UN {B C:Nat} {L:List BL} {s:BL} {b:Rat} (hs:CK C s) (hb:s.2.2=some b) (h:Sep L) (ok:∀t∈L,CK B t) (fin:∀t∈L,∃x,t.2.2=some x) (sub:∀m,BF s (m,0)=true->L.any (BF · (m,0))=true):∃t∈L,∃e,t.2.2=some e/\(t.1<s.1\/(t.1=s.1/\s.2.1<=t.2.1))/\b<=e:=by
 have lt:=(hs.e b hb).1
 have hm:=E5 lt
 obtain ⟨t,ht,tm⟩:=List.any_eq_true.mp (sub _ ((BM hs hb).mpr ⟨.inl hm.1,hm.2⟩))
 obtain ⟨e,he⟩:=fin t ht
 have ot:=ok t ht
 have tm:=(BM ot he).mp tm
 have le:=(ot.e e he).1
 have tb:t.1<=(s.1+b)/2:=by rcases tm.1 with z|⟨z,_⟩ <;> grind
 refine ⟨t,ht,e,he, ?_, ?_⟩
 ·by_cases w:t.1<s.1
  ·exact .inl w
  ·by_cases w2:t.1=s.1
   ·refine .inr ⟨w2, ?_⟩
    have h1:=hs.h
    have h2:=ot.h
    by_cases q:s.2.1<=t.2.1
    ·exact q
    ·exfalso
     have e1:s.2.1=1:=by omega
     have e2:t.2.1=0:=by omega
     obtain ⟨u,hu,um⟩:=List.any_eq_true.mp (sub s.1 ((BM hs hb).mpr ⟨.inr ⟨rfl,e1⟩,lt⟩))
     obtain ⟨f,hf⟩:=fin u hu
     have ou:=ok u hu
     have um:=(BM ou hf).mp um
     rcases QY h u hu t ht with z|⟨g,z1,z2⟩|⟨g,z1,z2⟩
     ·subst z
      rcases um.1 with y|⟨_,y⟩
      ·grind
      ·omega
     ·rw [hf] at z1;cases z1
      rcases z2 with z2|⟨z2,_⟩ <;> grind
     ·rw [he] at z1;cases z1
      have:u.1<=s.1:=by rcases um.1 with y|⟨y,_⟩ <;> grind
      rcases z2 with z2|⟨z2,_⟩ <;> grind
   ·exfalso
    have w3:s.1<t.1:=by grind
    have hn:=E5 w3
    obtain ⟨u,hu,um⟩:=List.any_eq_true.mp (sub ((s.1+t.1)/2) ((BM hs hb).mpr ⟨.inl hn.1,by grind⟩))
    obtain ⟨f,hf⟩:=fin u hu
    have ou:=ok u hu
    have um:=(BM ou hf).mp um
    have ub:u.1<=(s.1+t.1)/2:=by rcases um.1 with y|⟨y,_⟩ <;> grind
    have outf:=QX h ok fin u hu f hf
    rcases QY h u hu t ht with z|⟨g,z1,z2⟩|⟨g,z1,z2⟩
    ·subst z;grind
    ·rw [hf] at z1;cases z1
     have fb:f<=t.1:=by rcases z2 with z2|⟨z2,_⟩ <;> grind
     have:=sub f ((BM hs hb).mpr ⟨.inl (by grind),by grind⟩)
     rw [outf] at this
     cases this
    ·rw [he] at z1;cases z1
     rcases z2 with z2|⟨z2,_⟩ <;> grind
 ·by_cases w:b<=e
  ·exact w
  ·exfalso
   have:=sub e ((BM hs hb).mpr ⟨.inl (by grind),by grind⟩)
   rw [QX h ok fin t ht e he] at this
   cases this
abbrev FI (F:AF):AS:=
 (Ad (Bn (A1 (Ea RW (AB (AY Ap (aV 0) (aC (.int 0))) (AB (aC (.ty "int")) AL)))) (Av (aV 0)) BJ)
   (Av (GQ (DD (OP (aV 0)) 1 [] (A2 0) E3 (AN 1 F (AB (aV 0) AL))))))
def Am:Nat->AF
 | 0=>λ_ _=>False
 | n+1=>A5 1 (FI (Am n))
theorem C6 {m:Nat} {x0:PV} {Q:PV->Prop} (h:FI (Am m) ⟨λ_=>Q .non,Q,λ_=>False,λ_=>False⟩ [some (.val x0)]):Am (m+1) [x0] Q:=h
abbrev IS (F:AF):AS:=
 (Ad (Bn (Pb (Ef (A1 (Ea RW (AB (aV 0) (AB (aC (.ty "tuple")) AL))))) (A1 (AY ao (Ea FU (AB (aV 0) AL)) (Ea FU (AB (aV 1) AL))))) (Av (aC (.bl false))) BJ)
   (Av (Ea (YI λbs=>bs.all id) (AB (GQ (DD (fB (AB (aV 0) (AB (aV 1) AL))) 2 [] (MX 2 (Aj (A2 0) (Aj (A2 1) CZ))) E3 (AN 2 F (AB (aV 0) (AB (aV 1) AL))))) AL))))
abbrev GW (F:AF):AS:=
 (Ad (Bn (A1 (Ea RW (AB (aV 1) (AB (aC (.ty "tuple")) AL)))) (IS F) BJ)
   (Ad (Bn (Pb (A1 (AY TR (aV 1) (aC .non))) (A1 (Ea Mi (AB (aV 1) (AB (aC (.ty "str")) AL))))) (Av (S4 (AY LR (aV 0) (aV 1)) (AY LR (Ea Mi (AB (aV 0) (AB (aC (.ty "str")) AL))) (Ea Mi (AB (aV 1) (AB (aC (.ty "str")) AL)))))) BJ)
   (Av (S4 (Ea RW (AB (aV 0) (AB (aC (.ty "int")) AL))) (S4 (Sk ap (Ea RW (AB (aV 0) (AB (aC (.ty "bool")) AL)))) (AY LR (aV 0) (aV 1)))))))
def Ai:Nat->AF
 | 0=>λ_ _=>False
 | n+1=>A5 2 (GW (Ai n))
theorem B3 {m:Nat} {x0 x1:PV} {Q:PV->Prop} (h:GW (Ai m) ⟨λ_=>Q .non,Q,λ_=>False,λ_=>False⟩ [some (.val x0),some (.val x1)]):Ai (m+1) [x0,x1] Q:=h
instance oG {i:Int} {Q:PV->Prop}:Wp (Mi [.int i, .ty "str"] Q) (Q (.bl false)):=⟨λh=>⟨rfl,h⟩⟩
instance oH {Q:PV->Prop}:Wp (Mi [.non, .ty "str"] Q) (Q (.bl false)):=⟨λh=>⟨rfl,h⟩⟩
instance qV {Q:PV->Prop}:Wp (LR .non .non Q) (Q (.bl true)):=⟨λh=>h⟩
theorem G2 {m:Nat} {r:Rat} {Q:PV->Prop} (q:Q (fr r)):Am (m+1) [fr r] Q:=by
 apply C6
 ac_rfl
 exact q
theorem NB {m:Nat} {i:Int} {Q:PV->Prop} (q:Q (.bl true)):Ai (m+1) [.int i, .int i] Q:=by
 apply B3
 ac_rfl
 rw [decide_eq_true rfl]
 exact q
theorem ZN {m:Nat} {Q:PV->Prop} (q:Q (.bl true)):Ai (m+1) [.non, .non] Q:=by
 apply B3
 ac_rfl
 exact q
theorem VZ {m:Nat} {r:Rat} {Q:PV->Prop} (q:Q (.bl true)):Ai (m+2) [fr r,fr r] Q:=by
 unfold fr
 apply B3
 repeat' array_get_dec
 refine NB ?_
 repeat' array_get_dec
 refine NB ?_
 repeat' array_get_dec
 exact q
theorem Tn {m:Nat} {c:C4} {Q:PV->Prop} (q:Q (corL c)):Am (m+2) [cor c] Q:=by
 apply C6
 repeat' array_get_dec
 refine G2 ?_
 repeat' array_get_dec
 refine G2 ?_
 repeat' array_get_dec
 refine G2 ?_
 repeat' array_get_dec
 refine G2 ?_
 repeat' array_get_dec
 exact q
theorem Kx {m:Nat} {cs:List C4} (h0:cs≠ []) (hl:cs.length<=100) {Q:PV->Prop} (q:Q (.lst (cs.map corL))):Am (m+3) [A8 cs] Q:=by
 obtain ⟨a,r,rfl⟩:=List.exists_cons_of_ne_nil h0
 apply C6
 ac_rfl
 refine Dj cor corL id (λ_=>True) (λc _ R hR=> ?_) (a::r) [] (by simp) ?_
 ·ac_rfl
  refine Tn ?_
  exact hR
 rw [List.map_id]
 exact q
theorem ZO {m:Nat} {s:BL} {Q:PV->Prop} (q:Q (.bl true)):Ai (m+3) [BZ s,BZ s] Q:=by
 obtain ⟨a,h,e⟩:=s
 unfold BZ
 apply B3
 repeat' array_get_dec
 refine VZ ?_
 repeat' array_get_dec
 refine NB ?_
 repeat' array_get_dec
 cases e with
 | none=>
   refine ZN ?_
   repeat' array_get_dec
   exact q
 | some e=>
   refine VZ ?_
   repeat' array_get_dec
   exact q
theorem FY {m:Nat} {cc:List BL} (hl:cc.length<=10000) {Q:PV->Prop} (q:Q (.bl true)):Ai (m+4) [.tup (cc.map BZ), .tup (cc.map BZ)] Q:=by
 apply B3
 ac_rfl
 have ez:D7 (cc.map BZ) (cc.map BZ)=cc.map λs=> .tup [BZ s,BZ s] :=by
  unfold D7
  rw [List.zipWith_map,List.zipWith_self]
 rw [ez]
 refine ⟨lt_size (n:=10000) (by rw [List.length_map];exact hl) (by decide), ?_⟩
 refine Dj (λs:BL=> .tup [BZ s,BZ s]) (λ_:BL=>PV.bl true) id (λ_=>True) (λs _ R hR=> ?_) cc [] (by simp) ?_
 ·ac_rfl
  refine ZO ?_
  exact hR
 rw [List.map_id,List.nil_append]
 ac_rfl
 refine d8 (Uq (λ_:BL=>true) cc) ?_
 rw [show (cc.map λ_=>true).all id=true by simp]
 exact q
end PL
end
section
namespace PL.K24
open PySem L2 PL PyProof.Rows
abbrev GL:AS:=
 (Ad (A0 (AN 2 BK (AB (AY Ap (aV 7) (aC (.int 0))) (AB (AN 2 Bi (AB (aV 5) (AB (AN 2 CA (AB (AY Ap (aV 8) (aC (.int 0))) (AB (AY Ap (aV 7) (aC (.int 0))) AL))) AL))) AL))) (A2 6))
   (Ee 2 Yl (AB (AY BV (aV 4) (aC (.int 1))) (AB (AY BV (BG (AB (aV 6) AL)) (AN 2 Dv (AB (Ea Ci (AB (aV 1) AL)) (AB (aV 6) AL)))) AL))))
abbrev GK:AS:=
 (Ad (A0 (AY Ap (GQ (Dx (AB (BG (AB (aC (.int 1)) (AB (aC (.int 2)) AL))) (AB (BG (AB (aC (.int 1)) (AB (aC (.int 3)) AL))) (AB (BG (AB (aC (.int 3)) (AB (aC (.int 4)) AL))) AL))))) (AN 2 BH (AB (aV 0) (AB (aC (.int 3)) AL)))) (A2 5))
   GL)
abbrev GJ:AS:=
 (Ad (Pd 7 8 (AB (RJ (AY Ap (aV 2) (aV 4))) (AB (RJ (AY Ap (aV 2) (AY BV (aV 4) (aC (.int 1))))) AL)))
   GK)
abbrev Ha:AS:=
 (Ad (A0 (RJ (AN 2 BH (AB (aV 0) (AB (AY Fn (Ea FU (AB (aV 2) AL)) (aC (.int 1))) AL)))) (A2 4))
   GJ)
abbrev Hc:AS:=
 (Ad (Gd (S8 (AB (Ea (iT min) (AB (AY BV (aC (.int 1)) (AN 2 BH (AB (aV 0) (AB (aC (.int 3)) AL)))) (AB (AY Fn (aC (.int 12)) (Ea FU (AB (aV 1) AL))) AL))) AL)) (A2 3) Ha)
   (Av (Ea Ci (AB (aV 2) AL))))
abbrev F7:AS:=
 (Ad (LP (Xv (AB (aV 1) AL)) 2)
   Hc)
def CF:AF:=A5 9 F7
theorem JF {x0 x1:PV} {Q:PV->Prop} (h:F7 ⟨λ_=>Q .non,Q,λ_=>False,λ_=>False⟩ [some (.val x0),some (.val x1),none,none,none,none,none,none,none]):CF [x0,x1] Q:=h
abbrev Kb:AS:=
 (Ad (Gd (fB (AB (aV 0) (AB (V5 (aV 0) (V8 (aC (.int 1))) V7) AL))) (MX 2 (Aj (A2 1) (Aj (A2 2) CZ))) (Bn (Pb (A1 (AN 2 Aw (AB (AY Ap (aV 2) (aC (.int 0))) (AB (AY Ap (aV 1) (aC (.int 2))) AL)))) (Ko (A1 (AY LR (AY Ap (aV 1) (aC (.int 2))) (AY Ap (aV 2) (aC (.int 0))))) (A1 (AY LR (AY Ap (aV 2) (aC (.int 1))) (aC (.int 1)))))) (Av (aC (.bl false))) BJ))
   (Av (aC (.bl true))))
def Du:AF:=A5 3 Kb
theorem OD {x0:PV} {Q:PV->Prop} (h:Kb ⟨λ_=>Q .non,Q,λ_=>False,λ_=>False⟩ [some (.val x0),none,none]):Du [x0] Q:=h
abbrev HH:AS:=
 (Ad (A0 (mN (AN 2 Aw (AB (AY Ap (aV 6) (aC (.int 0))) (AB (aV 2) AL))) (S4 (AY LR (AY Ap (aV 6) (aC (.int 0))) (aV 2)) (AY iR (AY Ap (aV 6) (aC (.int 1))) (aV 3)))) (A2 7))
   (Ee 5 LW (AB (S4 (aV 7) (Sk ap (AN 2 Aw (AB (AY Ap (aV 6) (aC (.int 2))) (AB (aV 4) AL))))) AL)))
abbrev Fe:AS:=
 (Ad (Gd (OP (aV 1)) (A2 6) HH)
   (Bn (RK (A1 (AY (lN true) (aC (.bl true)) (aV 5)))) (Av (aC (.bl false))) BJ))
abbrev HI:AS:=
 (Ad (LP (Dx AL) 5)
   Fe)
abbrev FJ:AS:=
 (Ad (Gd (OP (aV 0)) (MX 3 (Aj (A2 2) (Aj (A2 3) (Aj (A2 4) CZ)))) HI)
   (Av (aC (.bl true))))
def B2:AF:=A5 8 FJ
theorem Hz {x0 x1:PV} {Q:PV->Prop} (h:FJ ⟨λ_=>Q .non,Q,λ_=>False,λ_=>False⟩ [some (.val x0),some (.val x1),none,none,none,none,none,none]):B2 [x0,x1] Q:=h
abbrev Jw:AS:=
 (Ad (A0 (BG (AB (AN 2 BK (AB (AY Ap (aV 11) (aC (.int 0))) (AB (BG (AB (aC (.int 1)) (AB (aC (.int 2)) AL))) AL))) (AB (AN 2 BK (AB (AY Ap (aV 11) (aC (.int 1))) (AB (AY Ap (GQ (Dx (AB (BG (AB (aC (.int 0)) (AB (aC (.int 1)) AL))) (AB (BG (AB (aC (.int 1)) (AB (aC (.int 3)) AL))) AL)))) (AN 2 BH (AB (aV 8) (AB (aC (.int 2)) AL)))) AL))) AL))) (A2 7))
   (Bn (Ef (A1 (AN 2 B2 (AB (aV 2) (AB (AN 3 Bj (AB (aV 9) (AB (aV 10) (AB (aV 7) AL)))) AL))))) (Av (aC (.bl false))) BJ))
abbrev LL:AS:=
 (Ad (Bn (Ef (A1 (AN 2 (Ai 12) (AB (AN 3 Bj (AB (AN 3 BD (AB (aV 9) (AB (aV 4) (AB (aV 5) AL)))) (AB (AN 3 BD (AB (aV 10) (AB (aV 4) (AB (aV 5) AL)))) (AB (aV 11) AL)))) (AB (aV 6) AL))))) (Av (aC (.bl false))) BJ)
   Jw)
abbrev LK:AS:=
 (Ad (A0 (Ea Ci (AB (GQ (DD (OP (aV 2)) 3 [4] (MX 3 (Aj (A2 0) (Aj (A2 1) (Aj (A2 2) CZ)))) E3 (BG (AB (AN 2 BK (AB (aV 0) (AB (aV 3) AL))) (AB (aV 1) (AB (AN 2 BK (AB (aV 2) (AB (aV 3) AL))) AL)))))) AL)) (A2 6))
   LL)
abbrev LJ:AS:=
 (Ad (A0 (GQ (Dx (AB (AN 1 An (AB (aV 8) AL)) (AB (AN 1 An (AB (aV 8) AL)) (AB (AN 1 An (AB (aV 8) AL)) AL))))) (A2 5))
   LK)
abbrev LI:AS:=
 (Ad (A0 (AN 1 B5 (AB (aV 8) AL)) (A2 4))
   LJ)
abbrev LH:AS:=
 (Ad (Bn (Ef (A1 (AN 2 (Ai 12) (AB (AN 3 Bj (AB (AN 1 (Am 12) (AB (aV 9) AL)) (AB (AN 1 (Am 12) (AB (aV 3) AL)) (AB (aV 11) AL)))) (AB (BG (AB (BG (AB (AY Ap (AY Ap (aV 9) (aC (.int 0))) (aC (.int 0))) (AB (aC (.int 1)) (AB (AY Ap (AY Ap (aV 9) (Sk KE (aC (.int 1)))) (aC (.int 0))) AL)))) AL)) AL))))) (Av (aC (.bl false))) BJ)
   LI)
abbrev LG:AS:=
 (Ad (Bn (Pb (Ef (A1 (AN 2 (Ai 12) (AB (AN 3 Bj (AB (aV 3) (AB (aV 10) (AB (aV 11) AL)))) (AB (aV 2) AL))))) (Ef (A1 (AN 2 (Ai 12) (AB (AN 3 Bj (AB (aV 9) (AB (aV 10) (AB (aV 11) AL)))) (AB (aV 2) AL)))))) (Av (aC (.bl false))) BJ)
   LH)
abbrev LF:AS:=
 (Ad (Bn (Pb (Ef (A1 (AN 1 Du (AB (aV 2) AL)))) (Ef (A1 (AN 2 (Ai 12) (AB (AN 3 Bj (AB (aV 10) (AB (aV 9) (AB (aV 11) AL)))) (AB (aV 2) AL)))))) (Av (aC (.bl false))) BJ)
   LG)
abbrev LD:AS:=
 (Ad (A0 (AN 2 CF (AB (aV 8) (AB (aV 9) AL))) (A2 3))
   LF)
abbrev LC:AS:=
 (Ad (A0 (AN 3 Bj (AB (aV 9) (AB (aV 10) (AB (aV 11) AL)))) (A2 2))
   LD)
abbrev O7:AS:=
 (Ad (A0 (AN 2 Dt (AB (aV 0) (AB (aV 1) AL))) (MX 4 (Aj (A2 8) (Aj (A2 9) (Aj (A2 10) (Aj (A2 11) CZ))))))
   LC)
abbrev OI:AS:=
 (Ad (Gd (S8 (AB (AY BV (aC (.int 1)) (Ea (iT min) (AB (aC (.int 3)) (AB (Ea FU (AB (aV 0) AL)) AL)))) AL)) (A2 1) O7)
   (Av (aC (.bl true))))
def EI:AF:=A5 12 OI
theorem SB {x0:PV} {Q:PV->Prop} (h:OI ⟨λ_=>Q .non,Q,λ_=>False,λ_=>False⟩ [some (.val x0),none,none,none,none,none,none,none,none,none,none,none]):EI [x0] Q:=h
structure S1 (cs es:List C4):Prop where
 two:2<=es.length
 few:es.length<=12
 ris:GM es
 spot:∀m,spotC es m=spotC cs m
 fst:DT es=DT cs
 lst:lstM es=lstM cs
 bm:∀c∈es,Bd 26 c.1
 bp:∀c∈es,E2 140 c.2
theorem W9 {k:Int} {R:PV->Prop} (h0:0<=k) (h1:k<3) (h:∀s:Rat,Bd 3 s->(s=1/2\/s=1/3\/s=3/4)->R (fr s)):Ap (.lst [fr (1/2),fr (1/3),fr (3/4)]) (.int k) R:=by
 refine KH (xs:= [(1/2:Rat),1/3,3/4]) h0 h1 λx hx=> ?_
 simp only [List.mem_cons,List.not_mem_nil,or_false] at hx
 rcases hx with rfl|rfl|rfl
 ·exact h _ iX (.inl rfl)
 ·exact h _ iX (.inr (.inl rfl))
 ·exact h _ iX (.inr (.inr rfl))
theorem RR {cs:List C4} (p:Gc cs) {Q:PV->Prop} (q:∀es,S1 cs es->Q (A8 es)):CF [.tape,A8 cs] Q:=by
 have few:=p.ok.few
 have two:=p.ok.two
 have m11:∀c∈cs,iK 11 22 c:=λc hc=>⟨(p.mu c hc).bd (by decide) (by decide),⟨(p.ok.bd c hc).x,(p.ok.bd c hc).y,(p.ok.bd c hc).z⟩⟩
 apply JF
 ac_rfl
 rename_i r r0 r1
 refine Pj (λi τ=>∃fs z3 z4 z5 z6 z7 z8,i<=3/\fs.length=cs.length+i/\GM fs/\(∀m,spotC fs m=spotC cs m)/\DT fs=DT cs/\lstM fs=lstM cs/\(∀c∈fs,Mul (12^i*6) (30^i*2000) c.1/\E2 140 c.2)/\τ= [some (.val .tape),some (.val (A8 cs)),some (.own (fs.map cor)),z3,z4,z5,z6,z7,z8]) ?_ ?_ ⟨cs,_,_,_,_,_,_,by omega,rfl,p.ok.ris,λ_=>rfl,rfl,rfl,λc hc=>⟨by simpa using p.mu c hc,(m11 c hc).p.mono (by decide)⟩,rfl⟩
 ·rintro τ ⟨fs,z3,z4,z5,z6,z7,z8,i3,fl,ris,spot,ef,el,ok,rfl⟩
  generalize hn:(min (1+r) ((12:Int)-cs.length)).toNat=n at *
  have n3:n=0\/n=1\/n=2\/n=3:=by omega
  have bm:∀c∈fs,Bd 26 c.1:=λc hc=>by
   have k:=(ok c hc).1
   rcases n3 with rfl|rfl|rfl|rfl
   ·exact k.bd (by decide) (by decide)
   ·exact k.bd (by decide) (by decide)
   ·exact k.bd (by decide) (by decide)
   ·exact k.bd (by decide) (by decide)
  ac_rfl
  exact q fs ⟨by omega,by omega,ris,spot,ef,el,bm,λc hc=>(ok c hc).2⟩
 ·rintro i hi τ R hR ⟨fs,z3,z4,z5,z6,z7,z8,i3,fl,ris,spot,ef,el,ok,rfl⟩
  have i2:i=0\/i=1\/i=2:=by omega
  have bm:∀c∈fs,Bd 26 c.1:=λc hc=>by
   have k:=(ok c hc).1
   rcases i2 with rfl|rfl|rfl
   ·exact k.bd (by decide) (by decide)
   ·exact k.bd (by decide) (by decide)
   ·exact k.bd (by decide) (by decide)
  ac_rfl
  rename_i k k0 k1 b eb mb e ee me j j0 j1
  refine W9 j0 j1 λs bs hs=> ?_
  have eb':fs[k.toNat]? =some b:=eb
  have ee':fs[k.toNat+1]? =some e:=by rw [<-ee];congr 1;omega
  have lt:b.1<e.1:=VX ris eb' ee'
  have bb:=bm b mb
  have be:=bm e me
  have mm:=Wh (ok b mb).1 (ok e me).1 hs
  have s0:0<s/\s<1:=by rcases hs with rfl|rfl|rfl <;> exact ⟨by decide +kernel,by decide +kernel⟩
  have d0:0<e.1-b.1:=by grind
  have x1:b.1<b.1+s*(e.1-b.1):=by have:=Rat.mul_pos s0.1 d0;grind
  have x2:b.1+s*(e.1-b.1)<e.1:=by have:=Rat.mul_lt_mul_of_pos_right s0.2 d0;grind
  have bt:Bd 26 (b.1+s*(e.1-b.1)):=by
   rcases i2 with rfl|rfl|rfl
   ·exact mm.bd (by decide) (by decide)
   ·exact mm.bd (by decide) (by decide)
   ·exact mm.bd (by decide) (by decide)
  have at':=Zj eb' ee' ris x1 x2
  rw [spot] at at'
  have tb:=IF bt p.ok.ris m11 _ at'
  have mup:∀c∈fs,Mul (12^(i+1)*6) (30^(i+1)*2000) c.1:=λc hc=>by
   have:=(ok c hc).1.up
   rw [show 12*(12^i*6)=12^(i+1)*6 by rw [Nat.pow_succ];omega,show 30*(30^i*2000)=30^(i+1)*2000 by rw [Nat.pow_succ];omega] at this
   exact this
  rw [show 12*(12^i*6)=12^(i+1)*6 by rw [Nat.pow_succ];omega,show 30*(30^i*2000)=30^(i+1)*2000 by rw [Nat.pow_succ];omega] at mm
  ac_rfl
  show Dv [A8 cs,_] _
  refine MO p.ok.bd p.ok.ris (by intro z;subst z;simp at two) (by omega) bt (by decide) ?_
  rw [at']
  generalize hm:b.1+s*(e.1-b.1)=m at *
  generalize hp:inter b e m=t at *
  have fin:∀{z3 z4 z5 z6 z7 z8},R [some (.val .tape),some (.val (A8 cs)),some (.own ((fs.map cor).take (k.toNat+1)++cor (m,t)::(fs.map cor).drop (k.toNat+1))),z3,z4,z5,z6,z7,z8] :=λ{z3 z4 z5 z6 z7 z8}=>hR _ ⟨fs.take (k.toNat+1)++(m,t)::fs.drop (k.toNat+1),z3,z4,z5,z6,z7,z8,by omega,by simp;omega,cg eb' ee' ris x1 x2,λm'=>by rw [XC eb' ee' ris x1 x2 hp.symm,spot],by rw [av eb' ee',ef],by rw [bV eb' ee',el],λc hc=>by
   rcases List.mem_append.mp hc with hc|hc
   ·exact ⟨mup c (List.mem_of_mem_take hc),(ok c (List.mem_of_mem_take hc)).2⟩
   ·rcases List.mem_cons.mp hc with rfl|hc
    ·exact ⟨mm,tb.mono (by decide)⟩
    ·exact ⟨mup c (List.mem_of_mem_drop hc),(ok c (List.mem_of_mem_drop hc)).2⟩,by rw [List.map_append,List.map_cons,List.map_take,List.map_drop]⟩
  clear hR
  rw [show NW (some t)= .tup [fr t.1,fr t.2.1,fr t.2.2] from rfl]
  ac_rfl
  rw [show (k+1).toNat=k.toNat+1 by omega]
  exact fin
theorem zip_rows (cc:List BL):D7 (cc.map BZ) (HJ (cc.map BZ) (some 1) none)=(cc.zip cc.tail).map λp=> .tup [BZ p.1,BZ p.2] :=by
 rw [mQ,<-List.map_drop,List.drop_one]
 unfold D7
 rw [List.zipWith_map,List.zip,List.map_zipWith]
theorem Vf:∀{cc:List BL},Sep cc->∀p∈cc.zip cc.tail,p.1∈cc/\p.2∈cc/\aw p.1 p.2
 | [],_,p,hp=>by simp at hp
 | [a],_,p,hp=>by simp at hp
 | a::b::r,h,p,hp=>by
   simp only [List.tail_cons,List.zip_cons_cons,List.mem_cons] at hp
   rcases hp with rfl|hp
   ·exact ⟨by simp,by simp,(List.pairwise_cons.mp h).1 b (by simp)⟩
   ·obtain ⟨k1,k2,k3⟩:=Vf (List.pairwise_cons.mp h).2 p (by simpa using hp)
    exact ⟨by simp [k1],by simp [k2],k3⟩
theorem ci {P:Rat->Prop} {B:Nat} {cc:List BL} (t:Told P B cc) (sp:Sep cc) (hB:B<=4000) {Q:PV->Prop} (q:Q (.bl true)):Du [.tup (cc.map BZ)] Q:=by
 have few:=t.few
 apply OD
 ac_rfl
 rw [zip_rows]
 refine Eg (λp:BL×BL=> .tup [BZ p.1,BZ p.2]) (λus vs τ=>∃z1 z2,τ= [some (.val (.tup (cc.map BZ))),z1,z2]) ?_ ?_ ⟨_,_,rfl⟩
 ·rintro τ ⟨z1,z2,rfl⟩
  ac_rfl
  exact q
 ·rintro us p vs e τ R hR ⟨z1,z2,rfl⟩
  obtain ⟨m1,m2,g,hg,hs⟩:=Vf sp p (by rw [<-e];simp)
  obtain ⟨f,hf⟩:=t.fin p.2 m2
  have o1:=t.ok p.1 m1
  have o2:=t.ok p.2 m2
  have b1:=(o1.e g hg).2
  have b2:=o2.b
  rw [FX hg,FX hf]
  ac_rfl
  ·exfalso
   rename_i z
   rcases hs with hs|⟨hs,_⟩ <;> grind
  ·exfalso
   rename_i z1 z2 z3
   rcases hs with hs|⟨_,hs⟩
   ·grind
   ·omega
  ·exact hR _ ⟨_,_,rfl⟩
  ·exact hR _ ⟨_,_,rfl⟩
theorem fh (bs:List Bool) {Q:PV->Prop} (q:Q (.bl (!bs.any id))):lN true (.bl true) (.lst (bs.map PV.bl)) Q:=by
 have e:de (.bl true) (bs.map PV.bl)=bs.any id:=by
  unfold de
  rw [List.any_map]
  congr 1
  funext b
  cases b <;> rfl
 refine ⟨⟨rfl,Iz λx hx=> ?_⟩, ?_⟩
 ·obtain ⟨b,_,rfl⟩:=List.mem_map.mp hx
  rfl
 ·rw [e]
  exact q
theorem Si {P P':Rat->Prop} {B B':Nat} {cc cc':List BL} (t:Told P B cc) (t':Told P' B' cc') (sp:Sep cc') (hB:B<=4000) (uk:B'<=4000) (h:∀m,P m->P' m) {Q:PV->Prop} (q:Q (.bl true)):B2 [.tup (cc.map BZ), .tup (cc'.map BZ)] Q:=by
 have few:=t.few
 have few':=t'.few
 apply Hz
 ac_rfl
 refine Eg BZ (λus vs τ=>∃z2 z3 z4 z5 z6 z7,τ= [some (.val (.tup (cc.map BZ))),some (.val (.tup (cc'.map BZ))),z2,z3,z4,z5,z6,z7]) ?_ ?_ ⟨_,_,_,_,_,_,rfl⟩
 ·rintro τ ⟨z2,z3,z4,z5,z6,z7,rfl⟩
  ac_rfl
  exact q
 ·rintro us s vs e τ R hR ⟨z2,z3,z4,z5,z6,z7,rfl⟩
  have sm:s∈cc:=by rw [<-e];simp
  obtain ⟨x,hx⟩:=t.fin s sm
  have os:=t.ok s sm
  have b1:=os.b
  have b2:=(os.e x hx).2
  obtain ⟨u,hu,f,hf,st,en⟩:=UN os hx sp t'.ok t'.fin λm hm=>by
   rw [t'.sem]
   exact h m ((t.sem m).mp (List.any_eq_true.mpr ⟨s,sm,hm⟩))
  rw [FX hx]
  ac_rfl
  let g:BL->Bool:=λw=>(decide (w.1<s.1)||(decide (w.1=s.1)&&decide (s.2.1<=w.2.1)))&&!decide ((w.2.2.getD 0)<x)
  refine Eg BZ (λas bs τ=>∃z6 z7,τ= [some (.val (.tup (cc.map BZ))),some (.val (.tup (cc'.map BZ))),some (.val (fr s.1)),some (.val (.int s.2.1)),some (.val (fr x)),some (.own ((as.map g).map PV.bl)),z6,z7]) ?_ ?_ ⟨_,_,rfl⟩
  ·rintro τ ⟨z6,z7,rfl⟩
   ac_rfl
   refine fh _ ?_
   have gy:(cc'.map g).any id=true:=by
    rw [List.any_map]
    refine List.any_eq_true.mpr ⟨u,hu, ?_⟩
    show g u=true
    simp only [g]
    rw [hf]
    have:¬f<x:=by grind
    rcases st with st|⟨st,st2⟩
    ·simp [st,this]
    ·simp [st,st2,this]
   rw [gy]
   ac_rfl
   exact hR _ ⟨_,_,_,_,_,_,rfl⟩
  ·rintro as w bs e2 τ R2 pS ⟨z6,z7,rfl⟩
   have wm:w∈cc':=by rw [<-e2];simp
   obtain ⟨y,hy⟩:=t'.fin w wm
   have ow:=t'.ok w wm
   have b3:=ow.b
   have b4:=(ow.e y hy).2
   have al:as.length<=2000:=by rw [<-e2] at few';simp at few';omega
   have fin:∀(v:Bool) {z6 z7},v=g w->R2 [some (.val (.tup (cc.map BZ))),some (.val (.tup (cc'.map BZ))),some (.val (fr s.1)),some (.val (.int s.2.1)),some (.val (fr x)),some (.own ((as.map g).map PV.bl ++ [.bl v])),z6,z7] :=λv {z6 z7} ev=>pS _ ⟨z6,z7,by rw [ev,List.map_append,List.map_append];rfl⟩
   have gw:g w=((decide (w.1<s.1)||(decide (w.1=s.1)&&decide (s.2.1<=w.2.1)))&&!decide (y<x)):=by simp only [g];rw [hy];rfl
   clear pS
   rw [FX hy]
   ac_rfl
   all_goals exact fin _ (by rw [gw];clear gw fin;grind)
theorem XA {t:Rat} {cc:List BL} (h:Sep cc):Sep (cc.map λs=>(s.1+t,s.2.1,s.2.2.map (· + t))):=by
 refine List.pairwise_map.mpr (h.imp λ{r s} g=> ?_)
 obtain ⟨e,he,hs⟩:=g
 refine ⟨e+t,by show r.2.2.map (· + t)=_;rw [he];rfl, ?_⟩
 rcases hs with hs|⟨hs,h0⟩
 ·exact .inl (by show e+t<s.1+t;grind)
 ·exact .inr ⟨by show e+t=s.1+t;rw [hs],h0⟩
theorem UP {P:Rat->Prop} {B C:Nat} {t:Rat} {cc:List BL} (h:Told P B cc) (bt:Bd C t):Told (λm=>P (m-t)) (B+C+1) (cc.map λs=>(s.1+t,s.2.1,s.2.2.map (· + t))):=by
 refine ⟨λs hs=> ?_,λs hs=> ?_,by rw [List.length_map];exact h.few,λm=> ?_⟩
 ·obtain ⟨r,hr,rfl⟩:=List.mem_map.mp hs
  have o:=h.ok r hr
  refine ⟨o.b.add bt,o.h,λe he=> ?_⟩
  obtain ⟨e',h1,rfl⟩:=Option.map_eq_some_iff.mp he
  obtain ⟨a,b⟩:=o.e e' h1
  exact ⟨by show r.1+t<e'+t;grind,b.add bt⟩
 ·obtain ⟨r,hr,rfl⟩:=List.mem_map.mp hs
  obtain ⟨x,hx⟩:=h.fin r hr
  exact ⟨x+t,by show r.2.2.map (· + t)=_;rw [hx];rfl⟩
 ·rw [<-h.sem,List.any_map]
  have:∀s:BL,BF (s.1+t,s.2.1,s.2.2.map (· + t)) (m,0)=BF s (m-t,0):=λs=>by
   obtain ⟨a,b,c⟩:=s
   unfold BF
   have e1:decide (a+t<m)=decide (a<m-t):=decide_eq_decide.mpr ⟨λh=>by grind,λh=>by grind⟩
   have e2:decide (a+t=m)=decide (a=m-t):=decide_eq_decide.mpr ⟨λh=>by grind,λh=>by grind⟩
   show ((decide (a+t<m)||(decide (a+t=m)&&_))&&_)=((decide (a<m-t)||(decide (a=m-t)&&_))&&_)
   rw [e1,e2]
   congr 1
   cases c with
   | none=>rfl
   | some c=>
     show decide (m<c+t)=decide (m-t<c)
     exact decide_eq_decide.mpr ⟨λh=>by grind,λh=>by grind⟩
  have e:(λs:BL=>BF (s.1+t,s.2.1,s.2.2.map (· + t)) (m,0))=λs=>BF s (m-t,0):=funext this
  show (cc.any λs:BL=>BF (s.1+t,s.2.1,s.2.2.map (· + t)) (m,0))=true↔_
  rw [e]
theorem Yu {a b:Rat} {B:Nat} (h:a<b) (ba:Bd B a) (bb:Bd B b):Told (λm=>a<=m/\m<b) B [(a,1,some b)] /\Sep [((a,1,some b):BL)] :=by
 have os:CK B (a,1,some b):=⟨ba, .inr rfl,λe he=>by cases he;exact ⟨h,bb⟩⟩
 refine ⟨⟨λs hs=> ?_,λs hs=> ?_,by simp,λm=> ?_⟩,List.pairwise_singleton _ _⟩
 ·simp at hs;subst hs;exact os
 ·simp at hs;subst hs;exact ⟨b,rfl⟩
 ·rw [List.any_cons,List.any_nil,Bool.or_false,BM os rfl]
  show (a<m\/(a=m/\(1:Int)=1))/\m<b↔a<=m/\m<b
  constructor
  ·rintro ⟨h1|⟨h1,_⟩,h2⟩ <;> exact ⟨by grind,h2⟩
  ·rintro ⟨h1,h2⟩
   by_cases z:a<m
   ·exact ⟨.inl z,h2⟩
   ·exact ⟨.inr ⟨by grind,rfl⟩,h2⟩
theorem YC {cs es ds:List C4} {d:Rat×Rat} (p:Gc cs) (e:S1 cs es) (p2:Gc ds) (b1:Bd 3 d.1) (b2:Bd 3 d.2) (g1:0<d.1) (g2:0<d.2):J0 es ds d 26 300 where
 c1:=λc hc=>⟨(e.bm c hc).mono (by decide),(e.bp c hc).x.mono (by decide),(e.bp c hc).y.mono (by decide),(e.bp c hc).z.mono (by decide)⟩
 c2:=λc hc=>(p2.ok.bd c hc).mono (by decide)
 r1:=e.ris
 r2:=p2.ok.ris
 t1:=e.two
 t2:=p2.ok.two
 f1:=by have:=e.few;omega
 f2:=by have:=p2.ok.few;omega
 m1:=e.bm
 m2:=λc hc=>(p2.ok.bd c hc).m.mono (by decide)
 b1:=b1.mono (by decide)
 b2:=b2.mono (by decide)
 p1:=g1
 p2:=g2
 w:=λh m hm=>by
  have tg:=Fc e.two p2.ok.two h
  obtain ⟨e1,e2⟩:=Ph (M:=26) e.two p2.ok.two e.bm (λc hc=>(p2.ok.bd c hc).m.mono (by decide))
  have ti:=EY h hm
  have bm:=Jf (M:=26) e.bm (λc hc=>(p2.ok.bd c hc).m.mono (by decide)) e1 e2 hm
  obtain ⟨s,es'⟩:=tg.one m ti.1 ti.2
  obtain ⟨t,et⟩:=tg.other m ti.1 ti.2
  have cb:∀{cs:List C4},Gc cs->∀c∈cs,iK 11 22 c:=λp c hc=>⟨(p.mu c hc).bd (by decide) (by decide),⟨(p.ok.bd c hc).x,(p.ok.bd c hc).y,(p.ok.bd c hc).z⟩⟩
  have k1:=IF bm p.ok.ris (cb p) s (by rw [<-e.spot];exact es')
  have k2:=IF bm p2.ok.ris (cb p2) t et
  unfold GR
  rw [es',et]
  exact ⟨(((k1.x.sub k2.x).div (by grind) b1)).mono (by decide),(((k1.y.sub k2.y).div (by grind) b1)).mono (by decide),(((k1.z.sub k2.z).div (by grind) b2)).mono (by decide)⟩
 hM:=by decide
 hW:=by decide
theorem YD {cs es:List C4} {d:Rat×Rat} (p:Gc cs) (e:S1 cs es) (b1:Bd 3 d.1) (b2:Bd 3 d.2) (g1:0<d.1) (g2:0<d.2):J0 cs es d 26 300 where
 c1:=λc hc=>(p.ok.bd c hc).mono (by decide)
 c2:=λc hc=>⟨(e.bm c hc).mono (by decide),(e.bp c hc).x.mono (by decide),(e.bp c hc).y.mono (by decide),(e.bp c hc).z.mono (by decide)⟩
 r1:=p.ok.ris
 r2:=e.ris
 t1:=p.ok.two
 t2:=e.two
 f1:=by have:=p.ok.few;omega
 f2:=by have:=e.few;omega
 m1:=λc hc=>(p.ok.bd c hc).m.mono (by decide)
 m2:=e.bm
 b1:=b1.mono (by decide)
 b2:=b2.mono (by decide)
 p1:=g1
 p2:=g2
 w:=λh m hm=>by
  have tg:=Fc p.ok.two e.two h
  obtain ⟨e1,e2⟩:=Ph (M:=26) p.ok.two e.two (λc hc=>(p.ok.bd c hc).m.mono (by decide)) e.bm
  have ti:=EY h hm
  obtain ⟨s,es'⟩:=tg.one m ti.1 ti.2
  unfold GR
  rw [e.spot,es']
  have z:∀x y:Rat,Bd 300 ((x-x)/y):=λx y=>by
   rw [show (x-x)/y=0 by rw [show x-x=0 by grind,Rat.div_def,Rat.zero_mul]]
   exact iP.mono (by decide)
  exact ⟨z _ _,z _ _,z _ _⟩
 hM:=by decide
 hW:=by decide
theorem VQ {n:Nat} {cs:List C4} {t:Rat} {o:T3} (p:D0 n 22 cs) (bt:Bd 8 t) (bo:E2 8 o):D0 n 31 (cs.map (Ec t o)):=by
 refine ⟨by simpa using p.two,by simpa using p.few,λc hc=> ?_, ?_⟩
 ·obtain ⟨d,hd,rfl⟩:=List.mem_map.mp hc
  have b:=p.bd d hd
  exact ⟨(b.m.add bt).mono (by decide),(b.x.add bo.x).mono (by decide),(b.y.add bo.y).mono (by decide),(b.z.add bo.z).mono (by decide)⟩
 ·refine List.pairwise_map.mpr (p.ris.imp λ{a b} h=> ?_)
  show a.1+t<b.1+t
  grind
theorem Yh (ns:List Int) (hn:ns.length<=63):EI [.scr ns] λx=>x= .bl true:=by
 apply SB
 repeat' array_get_dec
 refine Pj (λi τ=>∃z1 z2 z3 z4 z5 z6 z7 z8 z9 z10 z11,τ= [some (.val (.scr ns)),z1,z2,z3,z4,z5,z6,z7,z8,z9,z10,z11]) ?_ ?_ ⟨_,_,_,_,_,_,_,_,_,_,_,rfl⟩
 ·rintro τ ⟨z1,z2,z3,z4,z5,z6,z7,z8,z9,z10,z11,rfl⟩
  repeat' array_get_dec
 ·rintro i hi τ R hR ⟨z1,z2,z3,z4,z5,z6,z7,z8,z9,z10,z11,rfl⟩
  have e0:(0:Int)+i=i:=by omega
  rw [e0]
  have fin:∀{z1 z2 z3 z4 z5 z6 z7 z8 z9 z10 z11},R [some (.val (.scr ns)),z1,z2,z3,z4,z5,z6,z7,z8,z9,z10,z11] :=hR _ ⟨_,_,_,_,_,_,_,_,_,_,_,rfl⟩
  clear hR
  ac_rfl
  refine X5 (by omega) λcs ds d p p2 b1 b2 g1 g2=> ?_
  have h1:0<d.1:=by grind
  have h2:0<d.2:=by grind
  have few:=p.ok.few
  have two:=p.ok.two
  have few2:=p2.ok.few
  have two2:=p2.ok.two
  have D:=Pg (by decide) p.ok p2.ok b1 b2 h1 h2 (by decide) (by decide) (by decide)
  have D':=Pg (by decide) p2.ok p.ok b1 b2 h1 h2 (by decide) (by decide) (by decide)
  ac_rfl
  refine Ce D (.self _) (.self _) (.inl rfl) λss n=> ?_
  have t:=n.told
  have sp:=Dd n.ok
  clear n
  generalize canon 1 ss=cc at *
  have tf:=t.few
  ac_rfl
  refine RR p λes me=> ?_
  have ef:=me.few
  have et:=me.two
  have D2:=YC p me p2 b1 b2 h1 h2
  have D3:=YD p me b1 b2 h1 h2
  ac_rfl
  refine ci t sp (by decide) ?_
  ac_rfl
  refine Ce D' (.self _) (.self _) (.inl rfl) λss n=> ?_
  rw [Je n.told t (Dd n.ok) sp λm=>Wn]
  clear n
  ac_rfl
  refine FY (m:=8) (by omega) ?_
  ac_rfl
  refine Ce D2 (.self _) (.self _) (.inl rfl) λss n=> ?_
  rw [Je n.told t (Dd n.ok) sp λm=>Wk me.spot me.fst me.lst]
  clear n
  ac_rfl
  refine FY (m:=8) (by omega) ?_
  ac_rfl
  refine Ce D (.self _) (.self _) (.inl rfl) λss n=> ?_
  rw [Je n.told t (Dd n.ok) sp λm=>Iff.rfl]
  clear n
  ac_rfl
  refine FY (m:=8) (by omega) ?_
  ac_rfl
  refine Kx (m:=9) (by intro z;subst z;simp at two) (by omega) ?_
  ac_rfl
  refine Kx (m:=9) (by intro z;subst z;simp at et) (by omega) ?_
  ac_rfl
  refine Ce D3 (.lists _) (.lists _) (.inl rfl) λss n=> ?_
  have fl:DT cs<lstM cs:=by
   obtain ⟨a,r,l,e,h0,el⟩:=open2 two
   have hr:=p.ok.ris
   subst e
   rw [Bz el]
   cases r with
   | nil=>exact absurd rfl h0
   | cons b r=>
     refine (List.pairwise_cons.mp hr).1 l ?_
     rw [List.getLast?_cons_cons] at el
     exact List.mem_of_getLast? el
  obtain ⟨ot,os⟩:=Yu fl (D.fstB) (D.lstB)
  rw [Je n.told ot (Dd n.ok) os λm=>Wl two me.spot me.fst me.lst]
  clear n
  obtain ⟨a,r,l,ecs,h0,el⟩:=open2 two
  have el':cs.getLast?=some l:=by rw [ecs];exact el
  have P0:∀{Q:PV->Prop},Q (cor a)->Ap (A8 cs) (.int 0) Q:=λh=>by rw [ecs];exact gx h
  have e1:DT cs=a.1:=by rw [ecs];rfl
  have e2:lstM cs=l.1:=Bz el'
  rw [e1,e2]
  repeat' (first | (with_reducible refine P0 ?_)|array_mem_dec)
  refine FY (m:=8) (cc:= [(a.1,1,some l.1)]) (by simp) ?_
  have bp:=p.ok.bd
  have bp2:=p2.ok.bd
  ac_rfl
  rename_i late bl pl ml x bx y by' z bz
  refine Dj BZ BZ (λs:BL=>(s.1+late,s.2.1,s.2.2.map (· + late))) (λs=>s∈cc) (λs hs R hR=> ?_) cc [] (λs hs=>hs) ?_
  ·obtain ⟨e,he⟩:=t.fin s hs
   have os:=t.ok s hs
   have k1:=os.b
   have k2:=(os.e e he).2
   rw [FX he]
   have hR:R (BZ (s.1+late,s.2.1,s.2.2.map (· + late))):=hR
   rw [he] at hR
   ac_rfl
   exact hR
  rw [List.nil_append]
  have bo:E2 8 ((x,y,z):T3):=⟨bx,by',bz⟩
  have q1:=VQ p.ok bl bo
  have q2:=VQ p2.ok bl bo
  have D4:=Pg (by decide) q1 q2 b1 b2 h1 h2 (by decide) (by decide) (by decide)
  ac_rfl
  refine EV (o:=(x,y,z)) rfl (by omega) bp bl bo (by decide) (by decide) ?_
  ac_rfl
  refine EV (o:=(x,y,z)) rfl (by omega) bp2 bl bo (by decide) (by decide) ?_
  ac_rfl
  refine Ce D4 (.self _) (.self _) (.inl rfl) λss n=> ?_
  rw [Je n.told (UP t bl) (Dd n.ok) (XA sp) λm=>Yn two two2]
  clear n
  ac_rfl
  refine FY (m:=8) (by rw [List.length_map];omega) ?_
  have bh:Bd 3 (1/2:Rat):=iX
  have b13:Bd 3 (1/3:Rat):=iX
  ac_rfl
  rename_i j j0 j1
  refine KH (xs:= [(0:Rat),1/3]) j0 j1 λu hu=> ?_
  have bu:Bd 3 u/\0<=u:=by
   simp only [List.mem_cons,List.not_mem_nil,or_false] at hu
   rcases hu with rfl|rfl
   ·exact ⟨iP.mono (by decide),by grind⟩
   ·exact ⟨b13,by decide +kernel⟩
  have bu1:=bu.1
  ac_rfl
  have D5:=Pg (d:=(d.1+1/2,d.2+u)) (by decide) p.ok p2.ok ((b1.add bh).mono (n:=7) (by decide)) ((b2.add bu1).mono (by decide)) (by show 0<d.1+1/2;grind) (by show 0<d.2+u;have:=bu.2;grind) (by decide) (by decide) (by decide)
  refine Ce D5 (.self _) (.self _) (.inl rfl) λss n=> ?_
  ac_rfl
  refine Si t n.told (Dd n.ok) (by decide) (by decide) (λm hm=>Wo h1 h2 (by show d.1<=d.1+1/2;grind) (by show d.2<=d.2+u;have:=bu.2;grind) hm) ?_
  ac_rfl
  exact fin
end PL.K24
end
section
namespace K24
open PySem L2 PL PL.K24 PyProof.Rows
def top (i:Nat):Stmt:=PySem.Challenge.pw_skylanes_k24_few_stretches.main.body.getD i (.Pass ⟨0,0,0,0⟩)
abbrev Eo:Stmt:=top 34
abbrev ED:Stmt:=top 44
abbrev Er:Stmt:=top 35
abbrev Fu:Stmt:=top 37
abbrev EE:Stmt:=top 46
abbrev Ft:Stmt:=top 38
abbrev EF:Stmt:=top 41
abbrev Eu:Stmt:=top 42
abbrev Es:Stmt:=top 43
abbrev DQ:Stmt:=top 39
abbrev Dm:Stmt:=top 47
abbrev Ew:Stmt:=top 33
abbrev En:Stmt:=top 48
abbrev Ep:Stmt:=top 36
abbrev EG:Stmt:=top 40
abbrev Ev:Stmt:=top 45
abbrev Cz:Stmt:=top 52
abbrev Ct:Stmt:=top 51
abbrev Et:Stmt:=top 53
abbrev Dz:Stmt:=top 50
abbrev Dn:Stmt:=top 54
abbrev JI:Stmt:=top 7
abbrev JK:Stmt:=top 8
abbrev JJ:Stmt:=top 1
abbrev QS:Stmt:=top 2
abbrev Lv:Stmt:=top 4
abbrev QU:Stmt:=top 3
abbrev Lw:Stmt:=top 5
abbrev Ex:Stmt:=top 29
abbrev HA:Stmt:=top 30
abbrev C0:Stmt:=top 10
abbrev Fv:Stmt:=top 27
abbrev QR:Stmt:=top 6
abbrev HC:Stmt:=top 25
abbrev DR:Stmt:=top 14
abbrev HD:Stmt:=top 15
abbrev HB:Stmt:=top 26
abbrev G9:Stmt:=top 9
abbrev Fx:Stmt:=top 23
abbrev CT:Stmt:=top 16
abbrev Dp:Stmt:=top 11
abbrev JN:Stmt:=top 12
abbrev Lx:Stmt:=top 24
abbrev JM:Stmt:=top 28
abbrev Fw:Stmt:=top 18
abbrev JL:Stmt:=top 19
abbrev G8:Stmt:=top 20
abbrev Fy:Stmt:=top 21
abbrev Fz:Stmt:=top 31
abbrev NA:Stmt:=top 55
section
variable (P:Program) (w:World) (K:PySem.W.Frag) (mg:Str->Option Value) (base:Heap) (n:Nat)
abbrev B7:=Has P w K mg base n "_law_draw" ["_law_tape_here","_law_many"] (BQ K 2 BH)
abbrev Pm:=Has P w K mg base n "_law_apart" ["_law_tape_here"] (BQ K 1 DK)
abbrev DE:=Has P w K mg base n "_law_part" ["_law_top","_law_bottom"] (BQ K 2 A4)
abbrev Df:=Has P w K mg base n "_law_sum" ["_law_one","_law_other"] (BQ K 2 BK)
abbrev Iq:=Has P w K mg base n "_law_moved" ["_law_plan_here","_law_late","_law_by"] (BQ K 3 BD)
abbrev Hs:=Has P w K mg base n "_law_off" ["_law_one","_law_other"] (BQ K 2 CA)
abbrev Fp:=Has P w K mg base n "_law_place" ["_law_tape_here"] (BQ K 1 An)
abbrev Gh:=Has P w K mg base n "_law_span" ["_law_tape_here"] (BQ K 1 B5)
abbrev Kr:=Has P w K mg base n "_law_plan" ["_law_tape_here"] (BQ K 1 B0)
abbrev ET:=Has P w K mg base n "_law_product" ["_law_one","_law_other"] (BQ K 2 Bi)
abbrev N2:=Has P w K mg base n "_law_beside" ["_law_tape_here","_law_plan_here","_law_apart_here"] (BQ K 3 Cm)
abbrev Rb:=Has P w K mg base n "_law_tape" ["_law_script","_law_k"] (BQ K 2 MP)
abbrev RY:=Has P w K mg base n "_law_case" ["_law_script","_law_k"] (BQ K 2 Dt)
abbrev Gg:=Has P w K mg base n "_law_less" ["_law_one","_law_other"] (BQ K 2 Aw)
abbrev Pn:=Has P w K mg base n "_law_ratio" ["_law_one","_law_other"] (BQ K 2 EA)
abbrev Ra:=Has P w K mg base n "_law_spot" ["_law_plan_here","_law_m"] (BQ K 2 Dv)
abbrev LS:=Has P w K mg base n "_law_cornered" ["_law_tape_here","_law_plan_here"] (BQ K 2 CF)
abbrev HQ (m:Nat):=Has P w K mg base n "_law_listed" ["_law_thing"] (BQ K 1 (Am m))
abbrev RZ:=Has P w K mg base n "_law_rise" ["_law_found"] (BQ K 1 Du)
abbrev Ku (m:Nat):=Has P w K mg base n "_law_same" ["_law_found","_law_due"] (BQ K 2 (Ai m))
abbrev N3:=Has P w K mg base n "_law_within" ["_law_found","_law_others"] (BQ K 2 B2)
abbrev EU:=Has P w K mg base n "before" ["one","other"] (BQ K 2 Aw)
abbrev Re:=Has P w K mg base n "lesser" ["one","other"] (BQ K 2 EM)
abbrev Rc:=Has P w K mg base n "common" ["one","other"] (BQ K 2 GX)
abbrev Ml:=Has P w K mg base n "part" ["top","bottom"] (BQ K 2 GZ)
abbrev Po:=Has P w K mg base n "minus" ["one","other"] (BQ K 2 Di)
abbrev YT:=Has P w K mg base n "plus" ["one","other"] (BQ K 2 Hh)
abbrev U5:=Has P w K mg base n "times" ["one","other"] (BQ K 2 Fh)
abbrev Rf:=Has P w K mg base n "moment_at" ["begin","end","share"] (BQ K 3 DB)
abbrev WN:=Has P w K mg base n "near_in" ["piece"] (BQ K 1 FN)
abbrev LU:=Has P w K mg base n "shared_bottom" ["numbers"] (BQ K 1 CG)
abbrev TX:=Has P w K mg base n "lines_of" ["first","last"] (BQ K 2 EN)
abbrev YR:=Has P w K mg base n "over" ["one","other"] (BQ K 2 J1)
abbrev WP:=Has P w K mg base n "size_of" ["apart","side"] (BQ K 2 EJ)
abbrev Mm:=Has P w K mg base n "spot_between" ["former","latter","m"] (BQ K 3 DL)
abbrev WQ:=Has P w K mg base n "spot_at" ["plan","m"] (BQ K 2 FR)
abbrev WO:=Has P w K mg base n "offs_at" ["one","other","apart","m"] (BQ K 4 FO)
abbrev WM:=Has P w K mg base n "greater" ["one","other"] (BQ K 2 CW)
abbrev TZ:=Has P w K mg base n "together" ["one","other"] (BQ K 2 DZ)
abbrev Ir:=Has P w K mg base n "corners_between" ["plan","begin","end"] (BQ K 3 Bl)
abbrev N4:=Has P w K mg base n "count_below" ["numbers","number"] (BQ K 2 Co)
abbrev Rg:=Has P w K mg base n "rising" ["numbers"] (BQ K 1 FQ)
abbrev bF:=Has P w K mg base n "turns" ["one","other","begin","end"] (BQ K 4 IZ)
abbrev YS:=Has P w K mg base n "pieces" ["one","other","apart"] (BQ K 3 Ga)
abbrev TY:=Has P w K mg base n "steps_of" ["stretches"] (BQ K 1 G0)
abbrev YQ:=Has P w K mg base n "levels" ["stretches"] (BQ K 1 GY)
abbrev WL:=Has P w K mg base n "counted" ["stretches","n"] (BQ K 2 EH)
abbrev Ta:=Has P w K mg base n "told_set" ["stretches"] (BQ K 1 EO)
abbrev Tc:=Has P w K mg base n "too_near" ["one","other","apart"] (BQ K 3 Bj)
end
section
variable {P:Program} {w:World} {K:PySem.W.Frag} {mg:Str->Option Value} {base:Heap} {n m:Nat} {f:Addr} {fd:FuncData}
theorem JP:AZ ["_law_tape_here","_law_many","_law_once","_law_found"] ["_law_tape_here","_law_many"] (AU Eo):=⟨rfl,rfl,rfl,by decide +kernel,rfl,by decide +kernel,by decide +kernel⟩
theorem P2 (F:DC K "_law_draw" "_law_draw" Eo f fd):
 A7 P w K mg base C3 (n+1) f fd ["_law_tape_here","_law_many"] (BQ K 2 BH):=by
 have nd:=JP.nd
 refine F.ok JP (λvs H Q E h=> ?_) (λcdv A outer s H vs Q E hr h=> ?_)
 ·obtain ⟨T,M,xs,AQ,_,_,r,hl,_⟩:=h
  rw [r.length,hl] <;> rfl
 obtain ⟨T,M,xs,AQ,va,_,r,hl,hF,hQ⟩:=h
 unfold BH at hF
 split at hF <;> first | exact hF.elim|skip
 rename_i m
 obtain ⟨⟨m0,m1⟩,hF⟩:=hF
 cases r with
 | cons r rr=>
 cases rr with
 | cons r2 rr=>
 cases rr
 cases r2
 cases r with
 | tape tp=>
 rename_i p
 obtain ⟨d,x,hp,d0,x0,x1⟩:=va.tp p tp
 refine ⟨_,(Bq (VR (Lr dt (Kz Ej (pv 0) BA (λ_ _=>rfl)) BA (DO _)) (Bq (E9 (i:=3) nd rfl (Or.inl rfl) (B9 Fs (Kz Ej (pv 0) BA (λ_ _=>rfl)) (pv 1)))
  (Bq (QJ (B9 Yw (Kz Ej (pv 0) BA (λ_ _=>rfl)) (pv 1)) (UG (pv 0) BA NO))
  (El (M7 (pv 3))))) Lq)
  (Bq (QJ (B9 Fs (B9 Hx (B9 G5 (Kz Ej (pv 0) BA (λ_ _=>rfl)) BA) BA) BA) (UG (pv 0) BA NO))
  (Bq (E9 (i:=2) nd rfl (Or.inl rfl) (B9 Fs (B9 G5 (Kz Ej (pv 0) BA (λ_ _=>rfl)) (B9 Hx (B9 Fs (Kz Ej (pv 0) BA (λ_ _=>rfl)) BA) BA)) BA))
  (El (M7 (B9 Fs (B9 Fs (B9 G5 (pv 2) (B9 Hx (B9 Fs (pv 2) BA) BA)) BA) (pv 1))))))), ?_⟩
 have fin:∀(r d' x':Int),0<=r->r<m->0<=d'->0<=x'->x'<2147483647->Q (.int r) (upd H p (.lst [.int d', .int x'])):=λr d' x' r0 r1 a b c=>
  hQ _ (.int r) T _ (Zx va.tp tp a b c) (.int r) (hF r r0 r1)
 refine ⟨_,rfl,p,_,_,_,rfl,rfl,GC.of hp,rfl,_,_,rfl,rfl,_,rfl, ?_⟩
 refine jn (λc=> ?_) (λc=> ?_)
 ·refine ⟨_,rfl,p,_,_,_,rfl,rfl,GC.of hp,rfl,_,rfl,_,_,rfl,rfl,m0, ?_⟩
  refine ⟨_,rfl,p,_,_,_,rfl,rfl,GC.of hp,rfl,_,rfl,_,_,rfl,rfl,⟨m0,by omega⟩, ?_⟩
  refine ⟨_,rfl,p,_,_,_,rfl,rfl,hp,rfl, ?_⟩
  exact ⟨_,rfl,fin _ _ _ (Int.emod_nonneg _ (by omega)) (Int.emod_lt_of_pos _ m0) (Int.ediv_nonneg d0 (by omega)) x0 x1⟩
 ·refine ⟨_,rfl,p,_,_,_,rfl,rfl,GC.of hp,rfl,_,_,rfl,rfl, .inl (.inr ⟨by decide,by decide⟩),_,_,rfl,rfl,_,_,rfl,rfl,(show (0:Int)<2147483647 by decide), ?_⟩
  refine ⟨_,rfl,p,_,_,_,rfl,rfl,hp,rfl, ?_⟩
  have y0:0<=(x*48271+12345) % 2147483647:=Int.emod_nonneg _ (by decide)
  have y1:(x*48271+12345) % 2147483647<2147483647:=Int.emod_lt_of_pos _ (by decide)
  have iV:upd H p (.lst ([V.int d,V.int x].set (Int.toNat 1) (V.int ((x*48271+12345) % 2147483647)))) p=some (.lst [.int d, .int ((x*48271+12345) % 2147483647)]):=Ah
  have z0:0<=(x*48271+12345) % 2147483647*((x*48271+12345) % 2147483647 % 1009+3) % 2147483629:=Int.emod_nonneg _ (by decide)
  have z1:(x*48271+12345) % 2147483647*((x*48271+12345) % 2147483647 % 1009+3) % 2147483629<2147483629:=Int.emod_lt_of_pos _ (by decide)
  refine ⟨_,rfl,p,_,_,_,rfl,rfl,GC.of iV,rfl,_,rfl,p,_,_,_,rfl,rfl,GC.of iV,rfl,_,_,rfl,rfl,(show (0:Int)<1009 by decide),_,_,rfl,rfl,_,_,rfl,rfl, .inl (.inl (NS y0 y1)),_,_,rfl,rfl,(show (0:Int)<2147483629 by decide), ?_⟩
  refine ⟨_,rfl,_,rfl,_,_,rfl,rfl,(show (0:Int)<997 by decide),_,_,rfl,rfl,_,_,rfl,rfl, .inl (.inl (NS z0 (Int.lt_trans z1 (by decide)))),_,_,rfl,rfl,(show (0:Int)<998244353 by decide),_,rfl,_,_,rfl,rfl,m0, ?_⟩
  exact fin _ _ _ (Int.emod_nonneg _ (by omega)) (Int.emod_lt_of_pos _ m0) d0 y0 y1
theorem HU:AZ ["_law_tape_here","_law_some"] ["_law_tape_here"] (AU ED):=⟨rfl,rfl,rfl,by decide +kernel,rfl,by decide +kernel,by decide +kernel⟩
theorem N5 (F:DC K "_law_apart" "_law_apart" ED f fd) (Aa:B7 P w K mg base n):
 A7 P w K mg base C3 (n+1) f fd ["_law_tape_here"] (BQ K 1 DK):=by
 have nd:=HU.nd
 exact Ae F HU rfl λ_ _ _ _ _ _ hr=>(AM (DJ 1 nd (C7 (Be (C1 (Af (Aq AH AH)) (C1 (Af (Aq AH AH)) (FG (Af (Aq AH AH)) (Af (Aq AH AH)) (Af (Aq AH AH)))))))) (AR (AX (Af (Aq (AW (AJ 1) (AK Aa hr rfl (Aq (AJ 0) AH))) (AW (AJ 1) (AK Aa hr rfl (Aq (AJ 0) AH))))))))
theorem JR:AZ ["_law_top","_law_bottom","_law_sign","_law_one","_law_other"] ["_law_top","_law_bottom"] (AU Er):=⟨rfl,rfl,rfl,by decide +kernel,rfl,by decide +kernel,by decide +kernel⟩
theorem P4 (F:DC K "_law_part" "_law_part" Er f fd) (GI:mg "abs" =none) (Cv:mg "int" =none):
 A7 P w K mg base C3 (n+1) f fd ["_law_top","_law_bottom"] (BQ K 2 A4):=by
 have nd:=JR.nd
 exact Ae F JR rfl λ_ _ _ _ _ _ hr=>(AM (NY (i:=3) (j:=4) rfl nd rfl rfl (by decide) rfl rfl (Aq (As QV rfl GI boot_abs (Br (AJ 0))) (As QV rfl GI boot_abs (Br (AJ 1)))) rfl) (AM (Jb PassesOwn.never (GS Vm (AJ 4) AH) (AR (NY (i:=3) (j:=4) rfl nd rfl rfl (by decide) rfl rfl (Aq (AJ 4) (Ab Zh (AJ 3) (AJ 4))) rfl))) (AM (DJ 2 nd (Ab CO AH (Ab BN AH (Bg ZP rfl Cv boot_int (Br (F0 HZ (AJ 1) AH (DO _))))))) (AR (AX (Af (Aq (Ab Ez (Ab BN (AJ 2) (AJ 0)) (AJ 3)) (Ab Ez (Ab BN (AJ 2) (AJ 1)) (AJ 3)))))))))
theorem K1:AZ ["_law_one","_law_other"] ["_law_one","_law_other"] (AU Fu):=⟨rfl,rfl,rfl,by decide +kernel,rfl,by decide +kernel,by decide +kernel⟩
theorem Rt (F:DC K "_law_sum" "_law_sum" Fu f fd) (BY:DE P w K mg base n):
 A7 P w K mg base C3 (n+1) f fd ["_law_one","_law_other"] (BQ K 2 BK):=by
 have nd:=K1.nd
 exact Ae F K1 rfl λ_ _ _ _ _ _ hr=>(AR (AX (AK BY hr rfl (Aq (Ab A9 (Ab BN (AW (AJ 0) AH) (AW (AJ 1) AH)) (Ab BN (AW (AJ 1) AH) (AW (AJ 0) AH))) (Ab BN (AW (AJ 0) AH) (AW (AJ 1) AH))))))
theorem HV:AZ ["_law_plan_here","_law_late","_law_by"] ["_law_plan_here","_law_late","_law_by"] (AU EE):=⟨rfl,rfl,rfl,by decide +kernel,rfl,by decide +kernel,by decide +kernel⟩
theorem N6 (F:DC K "_law_moved" "_law_moved" EE f fd) (BO:Df P w K mg base n) (BR:mg "range" =none) (Al:mg "tuple" =none):
 A7 P w K mg base C3 (n+1) f fd ["_law_plan_here","_law_late","_law_by"] (BQ K 3 BD):=by
 have nd:=HV.nd
 have nd0:(["_law_one","_law_late","_law_by"] :List Str).Nodup:=by decide +kernel
 have nd1:(["_law_k","_law_one","_law_by"] :List Str).Nodup:=by decide +kernel
 exact Ae F HV rfl λ_ _ _ _ _ _ hr=>(AR (AX (Bg Ca rfl Al boot_tuple (Br (C7 (ZX rfl (GN (AJ 0)) (ak (own:=1) (ix:= [1,2]) (N:= ["_law_one","_law_late" ,"_law_by" ]) "_law_one" rfl rfl (λ_ _=>rfl) (λ_=>rfl) rfl rfl rfl rfl rfl (λ_ _ _ _ _ _=>(Vk (i:=0) nd0 rfl (Or.inr rfl) (by decide))) (λ_ _ _ _ _ _=>CD) (λ_ _ _ _ _ _=>(Ab A9 (Af (Br (AK BO hr rfl (Aq (AW (AJ 0) AH) (AJ 1))))) (Bg Ca rfl Al boot_tuple (Br (C7 (C2 rfl (SV rfl BR (Br AH)) (De (own:=1) (ix:= [0,2]) (N:= ["_law_k","_law_one" ,"_law_by" ]) rfl rfl rfl rfl rfl rfl (λ_ _ _ _ _ _=>(OF 0 nd1)) (λ_ _ _ _ _ _=>CD) (λ_ _ _ _ _ _=>(AK BO hr rfl (Aq (AW (AJ 1) (Ab A9 (AJ 0) AH)) (AW (AJ 2) (AJ 0)))))))))))))))))))
theorem K0:AZ ["_law_one","_law_other"] ["_law_one","_law_other"] (AU Ft):=⟨rfl,rfl,rfl,by decide +kernel,rfl,by decide +kernel,by decide +kernel⟩
theorem Rs (F:DC K "_law_off" "_law_off" Ft f fd) (BY:DE P w K mg base n):
 A7 P w K mg base C3 (n+1) f fd ["_law_one","_law_other"] (BQ K 2 CA):=by
 have nd:=K0.nd
 exact Ae F K0 rfl λ_ _ _ _ _ _ hr=>(AR (AX (AK BY hr rfl (Aq (Ab CO (Ab BN (AW (AJ 0) AH) (AW (AJ 1) AH)) (Ab BN (AW (AJ 1) AH) (AW (AJ 0) AH))) (Ab BN (AW (AJ 0) AH) (AW (AJ 1) AH))))))
theorem HW:AZ ["_law_tape_here","_law_kind"] ["_law_tape_here"] (AU EF):=⟨rfl,rfl,rfl,by decide +kernel,rfl,by decide +kernel,by decide +kernel⟩
theorem N7 (F:DC K "_law_place" "_law_place" EF f fd) (Aa:B7 P w K mg base n) (BY:DE P w K mg base n):
 A7 P w K mg base C3 (n+1) f fd ["_law_tape_here"] (BQ K 1 An):=by
 have nd:=HW.nd
 exact Ae F HW rfl λ_ _ _ _ _ _ hr=>(AM (DJ 1 nd (AK Aa hr rfl (Aq (AJ 0) AH))) (AM (BE (GS HZ (AJ 1) AH) (AR (AX (Af (Aq (Ab CO (AK Aa hr rfl (Aq (AJ 0) AH)) AH) AH)))) Ax) (AM (BE (GS (DU hr) (AJ 1) AH) (AR (AX (AK BY hr rfl (Aq (Ab CO (AK Aa hr rfl (Aq (AJ 0) AH)) AH) AH)))) Ax) (AR (AX (AK BY hr rfl (Aq (Ab CO (AK Aa hr rfl (Aq (AJ 0) AH)) AH) AH)))))))
theorem JV:AZ ["_law_tape_here","_law_way"] ["_law_tape_here"] (AU Eu):=⟨rfl,rfl,rfl,by decide +kernel,rfl,by decide +kernel,by decide +kernel⟩
theorem P8 (F:DC K "_law_span" "_law_span" Eu f fd) (Aa:B7 P w K mg base n) (BY:DE P w K mg base n):
 A7 P w K mg base C3 (n+1) f fd ["_law_tape_here"] (BQ K 1 B5):=by
 have nd:=JV.nd
 exact Ae F JV rfl λ_ _ _ _ _ _ hr=>(AM (DJ 1 nd (AK Aa hr rfl (Aq (AJ 0) AH))) (AM (BE (GS HZ (AJ 1) AH) (AR (AX (Af (Aq (Ab A9 AH (AK Aa hr rfl (Aq (AJ 0) AH))) AH)))) Ax) (AR (AX (AK BY hr rfl (Aq (Ab A9 AH (AK Aa hr rfl (Aq (AJ 0) AH))) (Ab CO (AJ 1) AH)))))))
theorem JS:AZ ["_law_tape_here","_law_many","_law_m","_law_spot_here","_law_corners","_law_way"] ["_law_tape_here"] (AU Es):=⟨rfl,rfl,rfl,by decide +kernel,rfl,by decide +kernel,by decide +kernel⟩
theorem P5 (F:DC K "_law_plan" "_law_plan" Es f fd) (Aa:B7 P w K mg base n) (A3:Fp P w K mg base n) (DW:Gh P w K mg base n) (BO:Df P w K mg base n) (BP:mg "len" =none) (Al:mg "tuple" =none):
 A7 P w K mg base C3 (n+1) f fd ["_law_tape_here"] (BQ K 1 B0):=by
 have nd:=JS.nd
 exact Ae F JS rfl λ_ _ _ _ _ _ hr=>(AM (DJ 1 nd (Ab A9 AH (AK Aa hr rfl (Aq (AJ 0) AH)))) (AM (BE (GS (DU hr) (AK Aa hr rfl (Aq (AJ 0) AH)) AH) (AR (DJ 1 nd (AW (C7 (Be (C1 AH (FG AH AH AH)))) (AK Aa hr rfl (Aq (AJ 0) AH))))) Ax) (AM (DJ 2 nd (Af (Aq (AK Aa hr rfl (Aq (AJ 0) AH)) AH))) (AM (DJ 3 nd (C7 (Be (FG (AK A3 hr rfl (Br (AJ 0))) (AK A3 hr rfl (Br (AJ 0))) (AK A3 hr rfl (Br (AJ 0))))))) (AM (F4 (i:=4) nd rfl (Or.inl rfl) (Be (Br (Af (C1 (AJ 2) (FG (AW (AJ 3) AH) (AW (AJ 3) AH) (AW (AJ 3) AH))))))) (AM (Jb PassesOwn.never (GS HZ (As D1 rfl BP PySem.boot_len (Br (AJ 4))) (AJ 1)) (AM (DJ 2 nd (AK BO hr rfl (Aq (AJ 2) (AK DW hr rfl (Br (AJ 0)))))) (AM (DJ 5 nd (AK Aa hr rfl (Aq (AJ 0) AH))) (AM (BE (GS Vm (AJ 5) AH) (AR (DJ 3 nd (C7 (Be (FG (AK A3 hr rfl (Br (AJ 0))) (AK A3 hr rfl (Br (AJ 0))) (AK A3 hr rfl (Br (AJ 0)))))))) (AR (BE (GS Vm (AJ 5) AH) (AR (DJ 3 nd (Ab A9 (Ab A9 (Gy (AJ 3) Zf (Zg (Ab CO (AJ 5) AH))) (C7 (Be (Br (AK A3 hr rfl (Br (AJ 0))))))) (Gy (AJ 3) (Zg (AJ 5)) Zf)))) Ax))) (AR (Dr (i:=4) PySem.F.slot_list_append PySem.F.type_list_append DG (Br (Af (C1 (AJ 2) (FG (AW (AJ 3) AH) (AW (AJ 3) AH) (AW (AJ 3) AH))))))))))) (AR (AX (Bg Ca rfl Al boot_tuple (Br (AJ 4)))))))))))
theorem GF:AZ ["_law_one","_law_other"] ["_law_one","_law_other"] (AU DQ):=⟨rfl,rfl,rfl,by decide +kernel,rfl,by decide +kernel,by decide +kernel⟩
theorem LX (F:DC K "_law_product" "_law_product" DQ f fd) (BY:DE P w K mg base n):
 A7 P w K mg base C3 (n+1) f fd ["_law_one","_law_other"] (BQ K 2 Bi):=by
 have nd:=GF.nd
 exact Ae F GF rfl λ_ _ _ _ _ _ hr=>(AR (AX (AK BY hr rfl (Aq (Ab BN (AW (AJ 0) AH) (AW (AJ 1) AH)) (Ab BN (AW (AJ 0) AH) (AW (AJ 1) AH))))))
theorem Gs:AZ ["_law_tape_here","_law_plan_here","_law_apart_here","_law_way","_law_by","_law_side","_law_other","_law_k","_law_spot_here"] ["_law_tape_here","_law_plan_here","_law_apart_here"] (AU Dm):=⟨rfl,rfl,rfl,by decide +kernel,rfl,by decide +kernel,by decide +kernel⟩
theorem Mx (F:DC K "_law_beside" "_law_beside" Dm f fd) (Aa:B7 P w K mg base n) (DA:Iq P w K mg base n) (DV:Hs P w K mg base n) (A3:Fp P w K mg base n) (Fg:Kr P w K mg base n) (Ck:ET P w K mg base n) (DW:Gh P w K mg base n) (BO:Df P w K mg base n) (Cv:mg "int" =none) (BP:mg "len" =none) (IH:mg "reversed" =none) (Al:mg "tuple" =none) (Cw:mg "zip" =none):
 A7 P w K mg base C3 (n+1) f fd ["_law_tape_here","_law_plan_here","_law_apart_here"] (BQ K 3 Cm):=by
 have nd:=Gs.nd
 have nd0:(["_law_one","_law_other"] :List Str).Nodup:=by decide +kernel
 exact Ae F Gs rfl λ_ _ _ _ _ _ hr=>(AM (DJ 3 nd (AK Aa hr rfl (Aq (AJ 0) AH))) (AM (F4 (i:=4) nd rfl (Or.inl rfl) (Be (FG (Af (Aq AH AH)) (Af (Aq AH AH)) (Af (Aq AH AH))))) (AM (DJ 5 nd (AK Aa hr rfl (Aq (AJ 0) AH))) (AM (Zn (i:=4) (AJ 5) (AW (AJ 2) (Bg ZP rfl Cv boot_int (Br (F0 (DU hr) (AJ 5) AH (DO _)))))) (AM (BE (GS (DU hr) (AJ 3) AH) (AR (Zn (i:=4) (AJ 5) (NL (AK Ck hr rfl (Aq (AW (AJ 4) (AJ 5)) (AW (C7 (Be (FG (Af (Aq AH AH)) (Af (Aq (EX AH) AH)) (Af (Aq (EX AH) AH))))) (AK Aa hr rfl (Aq (AJ 0) AH)))))))) Ax) (AM (BE (GS HZ (AJ 3) AH) (AR (AX (AK DA hr rfl (FG (AJ 1) (Af (Aq AH AH)) (AJ 4))))) Ax) (AM (BE (GS (DU hr) (AJ 3) AH) (AR (AX (AK DA hr rfl (FG (AJ 1) (AW (C7 (Be (Aq (AK DW hr rfl (Br (AJ 0))) (Af (Aq AH AH))))) (AK Aa hr rfl (Aq (AJ 0) AH))) (AJ 4))))) Ax) (AM (BE (GS (DU hr) (AJ 3) AH) (AR (AX (Bg Ca rfl Al boot_tuple (Br (C7 (C2 rfl (kZ rfl Cw rfl IH (AJ 1) (AJ 1)) (De (own:=2) (ix:= []) (N:= ["_law_one","_law_other" ]) rfl rfl rfl rfl rfl rfl (λ_ _ _ _ _ _=>(NQ (n:=2) rfl (Cd (OF 0 nd0) (Cd (OF 1 nd0) JZ)))) (λ_ _ _ _ _ _=>CD) (λ_ _ _ _ _ _=>(Ab A9 (Af (Br (AW (AJ 0) AH))) (Gy (AJ 1) (Zg AH) Zf)))))))))) Ax) (AM (BE (GS (DU hr) (AJ 3) AH) (AM (DJ 6 nd (AK Fg hr rfl (Br (AJ 0)))) (AR (AX (AK DA hr rfl (FG (AJ 6) (AK DV hr rfl (Aq (AW (AW (AJ 1) (EX AH)) AH) (AW (AW (AJ 6) AH) AH))) (C7 (Be (FG (Af (Aq AH AH)) (Af (Aq AH AH)) (Af (Aq AH AH)))))))))) Ax) (AM (BE (GS (DU hr) (AJ 3) AH) (AM (DJ 7 nd (AK Aa hr rfl (Aq (AJ 0) (As D1 rfl BP PySem.boot_len (Br (AJ 1)))))) (AM (DJ 8 nd (Af (FG (AK A3 hr rfl (Br (AJ 0))) (AK A3 hr rfl (Br (AJ 0))) (AK A3 hr rfl (Br (AJ 0)))))) (AR (AX (Ab A9 (Ab A9 (Gy (AJ 1) Zf (Zg (AJ 7))) (Af (Br (Ab A9 (Gy (AW (AJ 1) (AJ 7)) Zf (Zg AH)) (AJ 8))))) (Gy (AJ 1) (Zg (Ab A9 (AJ 7) AH)) Zf)))))) Ax) (AM (BE (GS (DU hr) (AJ 3) AH) (AM (DJ 8 nd (Gy (AW (AJ 1) (AK Aa hr rfl (Aq (AJ 0) (As D1 rfl BP PySem.boot_len (Br (AJ 1)))))) (Zg AH) Zf)) (AR (AX (Af (Aq (Ab A9 (Af (Br (AW (AW (AJ 1) AH) AH))) (AJ 8)) (Ab A9 (Af (Br (AK BO hr rfl (Aq (AW (AW (AJ 1) (EX AH)) AH) (AK DW hr rfl (Br (AJ 0))))))) (AJ 8))))))) Ax) (AR (AX (AK Fg hr rfl (Br (AJ 0))))))))))))))))
theorem JX:AZ ["_law_script","_law_k","_law_cell","_law_digits"] ["_law_script","_law_k"] (AU Ew):=⟨rfl,rfl,rfl,by decide +kernel,rfl,by decide +kernel,by decide +kernel⟩
theorem QA (F:DC K "_law_tape" "_law_tape" Ew f fd) (GI:mg "abs" =none) (Cv:mg "int" =none) (BP:mg "len" =none):
 A7 P w K mg base C3 (n+1) f fd ["_law_script","_law_k"] (BQ K 2 MP):=by
 have nd:=JX.nd
 refine F.ok JX (λvs H Q E h=> ?_) (λcdv A outer s H vs Q E hr h=> ?_)
 ·obtain ⟨T,M,xs,AQ,_,_,r,hl,_⟩:=h
  rw [r.length,hl] <;> rfl
 obtain ⟨T,M,xs,AQ,va,_,r,hl,hF,hQ⟩:=h
 unfold MP at hF
 split at hF <;> first | exact hF.elim|skip
 rename_i ns k
 obtain ⟨⟨k0,k1⟩,hF⟩:=hF
 cases r with
 | cons r rr=>
 cases rr with
 | cons r2 rr=>
 cases rr
 cases r2
 obtain ⟨a,rfl,hS⟩:=ZU r
 refine ⟨_,(Bq (E9 (i:=2) nd rfl (Or.inl rfl) BA)
  (Bq (VR (Lr dw (pv 1) (JA Ij rfl BP PySem.boot_len (CC (pv 0) E7)) (DO _)) (El (E9 (i:=2) nd rfl (Or.inl rfl) (Kz Ej (pv 0) (pv 1) (λ_ _=>rfl)))) Lq)
  (Bq (E9 (i:=3) nd rfl (Or.inl rfl) (B9 G5 (JA Mc rfl GI boot_abs (CC (pv 2) E7)) (G6 OV rfl Cv PyProof.Rows.boot_int (CC (VP dn (JA Mc rfl GI boot_abs (CC (pv 2) E7)) (B9 gU BA BA) (DO _)) E7))))
  (El (M7 (Y2 (CC (pv 3) (CC (B9 Fs (B9 G5 (B9 Fs (B9 Hx (B9 Hx (pv 2) (B9 G5 BA (pv 1))) BA) BA) BA) BA) E7)))))))), ?_⟩
 have hl:(ns.map V.int).length=ns.length:=List.length_map _
 have fin:∀(c:Int) (p:Addr),H p=none->Q (.ref p) (upd H p (.lst [.int ((if c<0 then -c else c)*(if decide ((10:Int)^18<=(if c<0 then -c else c)) then 1 else 0)), .int ((c+7919*k+1) % 2147483647*48271 % 2147483647)])):=λc p hp=>
  hQ _ .tape (λb=>T b\/b=p) _ (Zw va.tp hp (Int.mul_nonneg (by split <;> omega) (sQ _)) (Int.emod_nonneg _ (by decide)) (Int.emod_lt_of_pos _ (by decide))) (.tape (.inr rfl)) hF
 refine ⟨_,rfl,_,rfl,a,_,rfl, .inl hS,_,_,rfl,rfl,_,rfl, ?_⟩
 refine jn (λc=> ?_) (λc=> ?_)
 ·have c':k<(((ns.map V.int).length:Nat):Int):=of_decide_eq_true c
  rw [hl] at c'
  have hk:k.toNat<ns.length:=by omega
  have hv:IJ (ns.map V.int) k=some (.int ns[k.toNat]):=by
   have q:IJ (ns.map V.int) ((k.toNat:Nat):Int)=some (.int ns[k.toNat]):=Cf (by rw [List.getElem?_map,List.getElem?_eq_getElem hk] <;> rfl)
   rwa [show ((k.toNat:Nat):Int)=k by omega] at q
  refine ⟨_,rfl,_,rfl,a,_,_,_,rfl,rfl,hS,hv, ?_⟩
  refine ⟨_,rfl,_,rfl,_,rfl,_,rfl,_,_,rfl,rfl,⟨by decide,by decide,by decide⟩,_,_,rfl,rfl, .inr ⟨_,rfl,_,_,rfl,rfl, .inl (.inr (pO _)), ?_⟩⟩
  exact ⟨_,rfl,_,rfl,_,rfl,_,_,rfl,rfl, .inl (.inl ⟨by decide,by decide⟩),_,_,rfl,rfl,_,_,rfl,rfl,_,_,rfl,rfl,(show (0:Int)<2147483647 by decide),_,_,rfl,rfl, .inl (.inr ⟨by decide,by decide⟩),_,_,rfl,rfl,(show (0:Int)<2147483647 by decide),(show 2<=sizeLine by decide),λp hp=>fin _ p hp⟩
 ·refine ⟨_,rfl,_,rfl,_,rfl,_,rfl,_,_,rfl,rfl,⟨by decide,by decide,by decide⟩,_,_,rfl,rfl, .inr ⟨_,rfl,_,_,rfl,rfl, .inl (.inr (pO _)), ?_⟩⟩
  exact ⟨_,rfl,_,rfl,_,rfl,_,_,rfl,rfl, .inl (.inl ⟨by decide,by decide⟩),_,_,rfl,rfl,_,_,rfl,rfl,_,_,rfl,rfl,(show (0:Int)<2147483647 by decide),_,_,rfl,rfl, .inl (.inr ⟨by decide,by decide⟩),_,_,rfl,rfl,(show (0:Int)<2147483647 by decide),(show 2<=sizeLine by decide),λp hp=>fin 0 p hp⟩
theorem JO:AZ ["_law_script","_law_k","_law_tape_here","_law_apart_here","_law_one","_law_other"] ["_law_script","_law_k"] (AU En):=⟨rfl,rfl,rfl,by decide +kernel,rfl,by decide +kernel,by decide +kernel⟩
theorem P1 (F:DC K "_law_case" "_law_case" En f fd) (RB:Pm P w K mg base n) (PP:N2 P w K mg base n) (Aa:B7 P w K mg base n) (Fg:Kr P w K mg base n) (Sw:Rb P w K mg base n):
 A7 P w K mg base C3 (n+1) f fd ["_law_script","_law_k"] (BQ K 2 Dt):=by
 have nd:=JO.nd
 exact Ae F JO rfl λ_ _ _ _ _ _ hr=>(AM (DJ 2 nd (AK Sw hr rfl (Aq (AJ 0) (AJ 1)))) (AM (DJ 3 nd (AK RB hr rfl (Br (AJ 2)))) (AM (DJ 4 nd (AK Fg hr rfl (Br (AJ 2)))) (AM (DJ 5 nd (AK PP hr rfl (FG (AJ 2) (AJ 4) (AJ 3)))) (AM (BE (GS (DU hr) (AK Aa hr rfl (Aq (AJ 2) AH)) AH) (AR (NY (i:=4) (j:=5) rfl nd rfl rfl (by decide) rfl rfl (Aq (AJ 5) (AJ 4)) rfl)) Ax) (AR (AX (Af (C1 (AJ 2) (FG (AJ 4) (AJ 5) (AJ 3)))))))))))
theorem JQ:AZ ["_law_one","_law_other"] ["_law_one","_law_other"] (AU Ep):=⟨rfl,rfl,rfl,by decide +kernel,rfl,by decide +kernel,by decide +kernel⟩
theorem P3 (F:DC K "_law_less" "_law_less" Ep f fd):
 A7 P w K mg base C3 (n+1) f fd ["_law_one","_law_other"] (BQ K 2 Aw):=by
 have nd:=JQ.nd
 exact Ae F JQ rfl λ_ _ _ _ _ _ hr=>(AR (AX (F0 HZ (Ab BN (AW (AJ 0) AH) (AW (AJ 1) AH)) (Ab BN (AW (AJ 1) AH) (AW (AJ 0) AH)) (DO _))))
theorem HX:AZ ["_law_one","_law_other"] ["_law_one","_law_other"] (AU EG):=⟨rfl,rfl,rfl,by decide +kernel,rfl,by decide +kernel,by decide +kernel⟩
theorem N8 (F:DC K "_law_ratio" "_law_ratio" EG f fd) (BY:DE P w K mg base n):
 A7 P w K mg base C3 (n+1) f fd ["_law_one","_law_other"] (BQ K 2 EA):=by
 have nd:=HX.nd
 exact Ae F HX rfl λ_ _ _ _ _ _ hr=>(AR (AX (AK BY hr rfl (Aq (Ab BN (AW (AJ 0) AH) (AW (AJ 1) AH)) (Ab BN (AW (AJ 0) AH) (AW (AJ 1) AH))))))
theorem JW:AZ ["_law_plan_here","_law_m","_law_one","_law_other","_law_share","_law_gone"] ["_law_plan_here","_law_m"] (AU Ev):=⟨rfl,rfl,rfl,by decide +kernel,rfl,by decide +kernel,by decide +kernel⟩
theorem P9 (F:DC K "_law_spot" "_law_spot" Ev f fd) (CV:Gg P w K mg base n) (DV:Hs P w K mg base n) (Ck:ET P w K mg base n) (RC:Pn P w K mg base n) (BO:Df P w K mg base n) (BR:mg "range" =none) (Al:mg "tuple" =none) (Cw:mg "zip" =none):
 A7 P w K mg base C3 (n+1) f fd ["_law_plan_here","_law_m"] (BQ K 2 Dv):=by
 have nd:=JW.nd
 have nd0:(["_law_k","_law_share","_law_other","_law_one"] :List Str).Nodup:=by decide +kernel
 have nd1:(["_law_k","_law_one","_law_gone"] :List Str).Nodup:=by decide +kernel
 exact Ae F JW rfl λ_ _ _ _ _ _ hr=>(AM (BE (Lb (Nc (Ba (AK CV hr rfl (Aq (AJ 1) (AW (AW (AJ 0) AH) AH)))) (IE (Ba (AK CV hr rfl (Aq (AW (AW (AJ 0) (EX AH)) AH) (AJ 1))))))) (AR (AX Dg)) Ax) (AM (C9 PassesOwn.never rfl (ZZ rfl Cw (Aq (AJ 0) (Gy (AJ 0) (Zg AH) Zf))) (FB (n:=2) rfl (Au (QZ (i:=2) nd rfl (Or.inr rfl)) (Au (QZ (i:=3) nd rfl (Or.inr rfl)) Dq))) (AR (BE (D6 (Ba (AK CV hr rfl (Aq (AW (AJ 3) AH) (AJ 1))))) (AM (IC (i:=4) nd rfl (Or.inr rfl) (AK RC hr rfl (Aq (AK DV hr rfl (Aq (AJ 1) (AW (AJ 2) AH))) (AK DV hr rfl (Aq (AW (AJ 3) AH) (AW (AJ 2) AH)))))) (AM (IC (i:=5) nd rfl (Or.inr rfl) (C7 (C2 rfl (GN (Af (FG AH AH AH))) (De (own:=1) (ix:= [4,3,2]) (N:= ["_law_k","_law_share" ,"_law_other" ,"_law_one" ]) rfl rfl rfl rfl rfl rfl (λ_ _ _ _ _ _=>(OF 0 nd0)) (λ_ _ _ _ _ _=>CD) (λ_ _ _ _ _ _=>(AK Ck hr rfl (Aq (AJ 1) (AK DV hr rfl (Aq (AW (AJ 2) (AJ 0)) (AW (AJ 3) (AJ 0))))))))))) (AR (AX (Bg Ca rfl Al boot_tuple (Br (C7 (C2 rfl (SV rfl BR (Br AH)) (De (own:=1) (ix:= [2,5]) (N:= ["_law_k","_law_one" ,"_law_gone" ]) rfl rfl rfl rfl rfl rfl (λ_ _ _ _ _ _=>(OF 0 nd1)) (λ_ _ _ _ _ _=>CD) (λ_ _ _ _ _ _=>(AK BO hr rfl (Aq (AW (AJ 1) (Ab A9 (AJ 0) AH)) (AW (AJ 2) (AJ 0)))))))))))))) Ax))) (AR (AX Dg))))
theorem FZ:AZ ["_law_tape_here","_law_plan_here","_law_found","_law_turn","_law_k","_law_share","_law_m","_law_begin","_law_end"] ["_law_tape_here","_law_plan_here"] (AU Cz):=⟨rfl,rfl,rfl,by decide +kernel,rfl,by decide +kernel,by decide +kernel⟩
theorem KM (F:DC K "_law_cornered" "_law_cornered" Cz f fd) (Aa:B7 P w K mg base n) (DV:Hs P w K mg base n) (Ck:ET P w K mg base n) (Sv:Ra P w K mg base n) (BO:Df P w K mg base n) (BP:mg "len" =none) (KZ:mg "list" =none) (O0:mg "min" =none) (BR:mg "range" =none) (Al:mg "tuple" =none):
 A7 P w K mg base C3 (n+1) f fd ["_law_tape_here","_law_plan_here"] (BQ K 2 CF):=by
 have nd:=FZ.nd
 exact Ae F FZ rfl λ_ _ _ _ _ _ hr=>(AM (F4 (i:=2) nd rfl (Or.inl rfl) (cr rfl KZ boot_list (Br (AJ 1)))) (AM (C9 PassesOwn.never rfl (SV rfl BR (Br (As (ZQ rfl) rfl O0 boot_min (Aq (Ab A9 AH (AK Aa hr rfl (Aq (AJ 0) AH))) (Ab CO AH (As D1 rfl BP PySem.boot_len (Br (AJ 1)))))))) (HY 3 nd) (AM (DJ 4 nd (NL (AK Aa hr rfl (Aq (AJ 0) (Ab CO (As D1 rfl BP PySem.boot_len (Br (AJ 2))) AH))))) (AM (NY (i:=7) (j:=8) rfl nd rfl rfl (by decide) rfl rfl (Aq (NL (AW (AJ 2) (AJ 4))) (NL (AW (AJ 2) (Ab A9 (AJ 4) AH)))) rfl) (AM (DJ 5 nd (AW (C7 (Be (FG (Af (Aq AH AH)) (Af (Aq AH AH)) (Af (Aq AH AH))))) (AK Aa hr rfl (Aq (AJ 0) AH)))) (AM (DJ 6 nd (AK BO hr rfl (Aq (AW (AJ 7) AH) (AK Ck hr rfl (Aq (AJ 5) (AK DV hr rfl (Aq (AW (AJ 8) AH) (AW (AJ 7) AH)))))))) (AR (Dr (i:=2) PySem.F.slot_list_insert PySem.F.type_list_insert Oq (Aq (Ab A9 (AJ 4) AH) (Ab A9 (Af (Br (AJ 6))) (AK Sv hr rfl (Aq (Bg Ca rfl Al boot_tuple (Br (AJ 1))) (AJ 6)))))))))))) (AR (AX (Bg Ca rfl Al boot_tuple (Br (AJ 2)))))))
theorem Gu:AZ ["_law_thing"] ["_law_thing"] (AU Ct):=⟨rfl,rfl,rfl,by decide +kernel,rfl,by decide +kernel,by decide +kernel⟩
theorem My (F:DC K "_law_listed" "_law_listed" Ct f fd) (D9:HQ P w K mg base n m) (Cv:mg "int" =none) (Ak:mg "isinstance" =none):
 A7 P w K mg base C3 (n+1) f fd ["_law_thing"] (BQ K 1 (Am (m+1))):=by
 have nd:=Gu.nd
 have nd0:(["_law_piece"] :List Str).Nodup:=by decide +kernel
 exact Ae F Gu rfl λ_ _ _ _ _ _ hr=>(AM (BE (Ba (As NC rfl Ak boot_isinstance (Aq (AW (AJ 0) AH) (K7 (n:="int") rfl Cv boot_int rfl)))) (AR (AX (AJ 0))) Ax) (AR (AX (C7 (C2 rfl (GN (AJ 0)) (De (own:=1) (ix:= []) (N:= ["_law_piece"]) rfl rfl rfl rfl rfl rfl (λ_ _ _ _ _ _=>(OF 0 nd0)) (λ_ _ _ _ _ _=>CD) (λ_ _ _ _ _ _=>(AK D9 hr rfl (Br (AJ 0))))))))))
theorem JT:AZ ["_law_found","_law_one","_law_other"] ["_law_found"] (AU Et):=⟨rfl,rfl,rfl,by decide +kernel,rfl,by decide +kernel,by decide +kernel⟩
theorem P6 (F:DC K "_law_rise" "_law_rise" Et f fd) (CV:Gg P w K mg base n) (Cw:mg "zip" =none):
 A7 P w K mg base C3 (n+1) f fd ["_law_found"] (BQ K 1 Du):=by
 have nd:=JT.nd
 exact Ae F JT rfl λ_ _ _ _ _ _ hr=>(AM (C9 PassesOwn.never rfl (ZZ rfl Cw (Aq (AJ 0) (Gy (AJ 0) (Zg AH) Zf))) (FB (n:=2) rfl (Au (HY 1 nd) (Au (HY 2 nd) Dq))) (AR (BE (Lb (Nc (Ba (AK CV hr rfl (Aq (AW (AJ 2) AH) (AW (AJ 1) AH)))) (IE (Lb (Nb (GS (DU hr) (AW (AJ 1) AH) (AW (AJ 2) AH)) (Jd (GS (DU hr) (AW (AJ 2) AH) AH))))))) (AR (AX GH)) Ax))) (AR (AX GH)))
theorem JU:AZ ["_law_found","_law_due"] ["_law_found","_law_due"] (AU Dz):=⟨rfl,rfl,rfl,by decide +kernel,rfl,by decide +kernel,by decide +kernel⟩
theorem P7 (F:DC K "_law_same" "_law_same" Dz f fd) (C5:Ku P w K mg base n m) (Oz:mg "all" =none) (KY:mg "bool" =none) (Cv:mg "int" =none) (Ak:mg "isinstance" =none) (BP:mg "len" =none) (K9:mg "str" =none) (Al:mg "tuple" =none) (Cw:mg "zip" =none):
 A7 P w K mg base C3 (n+1) f fd ["_law_found","_law_due"] (BQ K 2 (Ai (m+1))):=by
 have nd:=JU.nd
 have nd0:(["_law_piece","_law_mate"] :List Str).Nodup:=by decide +kernel
 exact Ae F JU rfl λ_ _ _ _ _ _ hr=>(AM (BE (Ba (As NC rfl Ak boot_isinstance (Aq (AJ 1) (K7 (n:="tuple") rfl Al boot_tuple rfl)))) (AM (BE (Lb (Nc (D6 (Ba (As NC rfl Ak boot_isinstance (Aq (AJ 0) (K7 (n:="tuple") rfl Al boot_tuple rfl))))) (IE (GS (Zi hr) (As D1 rfl BP PySem.boot_len (Br (AJ 0))) (As D1 rfl BP PySem.boot_len (Br (AJ 1))))))) (AR (AX GH)) Ax) (AR (AX (As (g9 rfl) rfl Oz boot_all (Br (C7 (C2 rfl (ZZ rfl Cw (Aq (AJ 0) (AJ 1))) (De (own:=2) (ix:= []) (N:= ["_law_piece","_law_mate" ]) rfl rfl rfl rfl rfl rfl (λ_ _ _ _ _ _=>(NQ (n:=2) rfl (Cd (OF 0 nd0) (Cd (OF 1 nd0) JZ)))) (λ_ _ _ _ _ _=>CD) (λ_ _ _ _ _ _=>(AK C5 hr rfl (Aq (AJ 0) (AJ 1)))))))))))) Ax) (AM (BE (Lb (Nc (GS UR (AJ 1) Dg) (IE (Ba (As QW rfl Ak boot_isinstance (Aq (AJ 1) (K7 (n:="str") rfl K9 boot_str rfl))))))) (AR (AX (NK (F0 (DU hr) (AJ 0) (AJ 1) (DO _)) (NM (F0 (DU hr) (As QW rfl Ak boot_isinstance (Aq (AJ 0) (K7 (n:="str") rfl K9 boot_str rfl))) (As QW rfl Ak boot_isinstance (Aq (AJ 1) (K7 (n:="str") rfl K9 boot_str rfl))) (DO _)))))) Ax) (AR (AX (NK (As NC rfl Ak boot_isinstance (Aq (AJ 0) (K7 (n:="int") rfl Cv boot_int rfl))) (NK (ZV (As NC rfl Ak boot_isinstance (Aq (AJ 0) (K7 (n:="bool") rfl KY boot_bool rfl)))) (NM (F0 (DU hr) (AJ 0) (AJ 1) (DO _)))))))))
theorem Gv:AZ ["_law_found","_law_others","_law_begin","_law_held","_law_end","_law_some","_law_one","_law_starts"] ["_law_found","_law_others"] (AU Dn):=⟨rfl,rfl,rfl,by decide +kernel,rfl,by decide +kernel,by decide +kernel⟩
theorem Mz (F:DC K "_law_within" "_law_within" Dn f fd) (CV:Gg P w K mg base n):
 A7 P w K mg base C3 (n+1) f fd ["_law_found","_law_others"] (BQ K 2 B2):=by
 have nd:=Gv.nd
 exact Ae F Gv rfl λ_ _ _ _ _ _ hr=>(AM (C9 PassesOwn.never rfl (GN (AJ 0)) (FB (n:=3) rfl (Au (HY 2 nd) (Au (HY 3 nd) (Au (HY 4 nd) Dq)))) (AM (F4 (i:=5) nd rfl (Or.inl rfl) (Be FA)) (AM (C9 PassesOwn.never rfl (GN (AJ 1)) (HY 6 nd) (AM (DJ 7 nd (kY (AK CV hr rfl (Aq (AW (AJ 6) AH) (AJ 2))) (NM (NK (F0 (DU hr) (AW (AJ 6) AH) (AJ 2) (DO _)) (NM (F0 SY (AW (AJ 6) AH) (AJ 3) (DO _))))))) (AR (Dr (i:=5) PySem.F.slot_list_append PySem.F.type_list_append DG (Br (NK (AJ 7) (NM (ZV (AK CV hr rfl (Aq (AW (AJ 6) AH) (AJ 4))))))))))) (AR (BE (Zo (Zq (hV hr) GH (AJ 5) rfl)) (AR (AX GH)) Ax))))) (AR (AX GH)))
theorem Oh:AZ ["one","other"] ["one","other"] (AU JI):=⟨rfl,rfl,rfl,by decide +kernel,rfl,by decide +kernel,by decide +kernel⟩
theorem Wr (F:DC K "before" "before" JI f fd):
 A7 P w K mg base C3 (n+1) f fd ["one","other"] (BQ K 2 Aw):=by
 have nd:=Oh.nd
 exact Ae F Oh rfl λ_ _ _ _ _ _ hr=>(AR (AX (F0 HZ (Ab BN (AW (AJ 0) AH) (AW (AJ 1) AH)) (Ab BN (AW (AJ 1) AH) (AW (AJ 0) AH)) (DO _))))
theorem Oj:AZ ["one","other"] ["one","other"] (AU JK):=⟨rfl,rfl,rfl,by decide +kernel,rfl,by decide +kernel,by decide +kernel⟩
theorem Wt (F:DC K "lesser" "lesser" JK f fd) (Bx:EU P w K mg base n):
 A7 P w K mg base C3 (n+1) f fd ["one","other"] (BQ K 2 EM):=by
 have nd:=Oj.nd
 exact Ae F Oj rfl λ_ _ _ _ _ _ hr=>(AR (AX (Ve (Ba (AK Bx hr rfl (Aq (AJ 1) (AJ 0)))) (AJ 1) (AJ 0))))
theorem Oi:AZ ["one","other"] ["one","other"] (AU JJ):=⟨rfl,rfl,rfl,by decide +kernel,rfl,by decide +kernel,by decide +kernel⟩
theorem Ws (F:DC K "common" "common" JJ f fd):
 A7 P w K mg base C3 (n+1) f fd ["one","other"] (BQ K 2 GX):=by
 have nd:=Oi.nd
 exact Ae F Oi rfl λ_ _ _ _ _ _ hr=>(AM (Jb PassesOwn.never (GS (Zi hr) (AJ 1) AH) (AR (NY (i:=0) (j:=1) rfl nd rfl rfl (by decide) rfl rfl (Aq (AJ 1) (Ab Zh (AJ 0) (AJ 1))) rfl))) (AR (AX (AJ 0))))
theorem Vb:AZ ["top","bottom","shared"] ["top","bottom"] (AU QS):=⟨rfl,rfl,rfl,by decide +kernel,rfl,by decide +kernel,by decide +kernel⟩
theorem b6 (F:DC K "part" "part" QS f fd) (PR:Rc P w K mg base n) (GI:mg "abs" =none):
 A7 P w K mg base C3 (n+1) f fd ["top","bottom"] (BQ K 2 GZ):=by
 have nd:=Vb.nd
 exact Ae F Vb rfl λ_ _ _ _ _ _ hr=>(AM (DJ 2 nd (AK PR hr rfl (Aq (As QV rfl GI boot_abs (Br (AJ 0))) (As QV rfl GI boot_abs (Br (AJ 1)))))) (AM (BE (GS HZ (AJ 1) AH) (AR (DJ 2 nd (EX (AJ 2)))) Ax) (AR (AX (Af (Aq (Ab Ez (AJ 0) (AJ 2)) (Ab Ez (AJ 1) (AJ 2))))))))
theorem SJ:AZ ["one","other"] ["one","other"] (AU Lv):=⟨rfl,rfl,rfl,by decide +kernel,rfl,by decide +kernel,by decide +kernel⟩
theorem Yq (F:DC K "minus" "minus" Lv f fd) (IV:Ml P w K mg base n):
 A7 P w K mg base C3 (n+1) f fd ["one","other"] (BQ K 2 Di):=by
 have nd:=SJ.nd
 exact Ae F SJ rfl λ_ _ _ _ _ _ hr=>(AR (AX (AK IV hr rfl (Aq (Ab CO (Ab BN (AW (AJ 0) AH) (AW (AJ 1) AH)) (Ab BN (AW (AJ 1) AH) (AW (AJ 0) AH))) (Ab BN (AW (AJ 0) AH) (AW (AJ 1) AH))))))
theorem Vc:AZ ["one","other"] ["one","other"] (AU QU):=⟨rfl,rfl,rfl,by decide +kernel,rfl,by decide +kernel,by decide +kernel⟩
theorem b9 (F:DC K "plus" "plus" QU f fd) (IV:Ml P w K mg base n):
 A7 P w K mg base C3 (n+1) f fd ["one","other"] (BQ K 2 Hh):=by
 have nd:=Vc.nd
 exact Ae F Vc rfl λ_ _ _ _ _ _ hr=>(AR (AX (AK IV hr rfl (Aq (Ab A9 (Ab BN (AW (AJ 0) AH) (AW (AJ 1) AH)) (Ab BN (AW (AJ 1) AH) (AW (AJ 0) AH))) (Ab BN (AW (AJ 0) AH) (AW (AJ 1) AH))))))
theorem SL:AZ ["one","other"] ["one","other"] (AU Lw):=⟨rfl,rfl,rfl,by decide +kernel,rfl,by decide +kernel,by decide +kernel⟩
theorem Yr (F:DC K "times" "times" Lw f fd) (IV:Ml P w K mg base n):
 A7 P w K mg base C3 (n+1) f fd ["one","other"] (BQ K 2 Fh):=by
 have nd:=SL.nd
 exact Ae F SL rfl λ_ _ _ _ _ _ hr=>(AR (AX (AK IV hr rfl (Aq (Ab BN (AW (AJ 0) AH) (AW (AJ 1) AH)) (Ab BN (AW (AJ 0) AH) (AW (AJ 1) AH))))))
theorem JY:AZ ["begin","end","share"] ["begin","end","share"] (AU Ex):=⟨rfl,rfl,rfl,by decide +kernel,rfl,by decide +kernel,by decide +kernel⟩
theorem QC (F:DC K "moment_at" "moment_at" Ex f fd) (Hf:Po P w K mg base n) (IV:Ml P w K mg base n) (Xj:YT P w K mg base n) (Sx:U5 P w K mg base n):
 A7 P w K mg base C3 (n+1) f fd ["begin","end","share"] (BQ K 3 DB):=by
 have nd:=JY.nd
 exact Ae F JY rfl λ_ _ _ _ _ _ hr=>(AR (AX (AK Xj hr rfl (Aq (AJ 0) (AK Sx hr rfl (Aq (AK IV hr rfl (Aq (AW (AJ 2) AH) (AW (AJ 2) AH))) (AK Hf hr rfl (Aq (AJ 1) (AJ 0)))))))))
theorem NF:AZ ["piece","low","held","high","begin","end","bottom","lines","first","last","share"] ["piece"] (AU HA):=⟨rfl,rfl,rfl,by decide +kernel,rfl,by decide +kernel,by decide +kernel⟩
theorem T9 (F:DC K "near_in" "near_in" HA f fd) (Bx:EU P w K mg base n) (PX:Re P w K mg base n) (ML:Rf P w K mg base n):
 A7 P w K mg base C3 (n+1) f fd ["piece"] (BQ K 1 FN):=by
 have nd:=NF.nd
 exact Ae F NF rfl λ_ _ _ _ _ _ hr=>(AM (US (AJ 0) (FB (n:=4) rfl (Au (HY 4 nd) (Au (HY 5 nd) (Au (HY 6 nd) (Au (HY 7 nd) Dq)))))) (AM (DJ 1 nd (Af (Aq AH AH))) (AM (DJ 2 nd AH) (AM (DJ 3 nd (Af (Aq AH AH))) (AM (C9 PassesOwn.never rfl (GN (AJ 7)) (FB (n:=2) rfl (Au (HY 8 nd) (Au (HY 9 nd) Dq))) (AM (BE (Lb (Nb (GS SY (AJ 8) (AJ 6)) (Jd (GS SY (AJ 9) (AJ 6))))) (AR (AX (C7 (Be FA)))) Ax) (AR (BE (GS SY (AJ 8) (AJ 6)) (AM (DJ 10 nd (Af (Aq (Ab CO (AJ 8) (AJ 6)) (Ab CO (AJ 8) (AJ 9))))) (AR (BE (D6 (Ba (AK Bx hr rfl (Aq (AJ 10) (AJ 1))))) (AM (DJ 1 nd (AJ 10)) (AR (DJ 2 nd AH))) Ax))) (AR (BE (GS Vm (AJ 9) (AJ 6)) (AR (DJ 3 nd (AK PX hr rfl (Aq (AJ 3) (Af (Aq (Ab CO (AJ 6) (AJ 8)) (Ab CO (AJ 9) (AJ 8)))))))) Ax)))))) (AM (BE (D6 (Ba (AK Bx hr rfl (Aq (AJ 1) (AJ 3))))) (AR (AX (C7 (Be FA)))) Ax) (AR (AX (C7 (Be (Br (Af (FG (AK ML hr rfl (FG (AJ 4) (AJ 5) (AJ 1))) (AJ 2) (AK ML hr rfl (FG (AJ 4) (AJ 5) (AJ 3))))))))))))))))
theorem Fa:AZ ["numbers","told","top","bottom"] ["numbers"] (AU C0):=⟨rfl,rfl,rfl,by decide +kernel,rfl,by decide +kernel,by decide +kernel⟩
theorem KO (F:DC K "shared_bottom" "shared_bottom" C0 f fd) (PR:Rc P w K mg base n):
 A7 P w K mg base C3 (n+1) f fd ["numbers"] (BQ K 1 CG):=by
 have nd:=Fa.nd
 exact Ae F Fa rfl λ_ _ _ _ _ _ hr=>(AM (DJ 1 nd AH) (AM (C9 PassesOwn.never rfl (GN (AJ 0)) (FB (n:=2) rfl (Au (HY 2 nd) (Au (HY 3 nd) Dq))) (AR (Zl (i:=1) nd rfl (Or.inl rfl) (Ab Ez (AJ 3) (AK PR hr rfl (Aq (AJ 1) (AJ 3)))) hI))) (AR (AX (AJ 1)))))
theorem K2:AZ ["first","last","bottom","lines","former","latter","low","high"] ["first","last"] (AU Fv):=⟨rfl,rfl,rfl,by decide +kernel,rfl,by decide +kernel,by decide +kernel⟩
theorem Ru (F:DC K "lines_of" "lines_of" Fv f fd) (MM:LU P w K mg base n) (Cw:mg "zip" =none):
 A7 P w K mg base C3 (n+1) f fd ["first","last"] (BQ K 2 EN):=by
 have nd:=K2.nd
 exact Ae F K2 rfl λ_ _ _ _ _ _ hr=>(AM (DJ 2 nd (AK MM hr rfl (Br (Ab A9 (AJ 0) (AJ 1))))) (AM (F4 (i:=3) nd rfl (Or.inl rfl) (Be FA)) (AM (C9 PassesOwn.never rfl (ZZ rfl Cw (Aq (AJ 0) (AJ 1))) (FB (n:=2) rfl (Au (HY 4 nd) (Au (HY 5 nd) Dq))) (AM (DJ 6 nd (Ab BN (AW (AJ 4) AH) (Ab Ez (AJ 2) (AW (AJ 4) AH)))) (AM (DJ 7 nd (Ab BN (AW (AJ 5) AH) (Ab Ez (AJ 2) (AW (AJ 5) AH)))) (AM (Dr (i:=3) PySem.F.slot_list_append PySem.F.type_list_append DG (Br (Af (Aq (AJ 6) (AJ 7))))) (AR (Dr (i:=3) PySem.F.slot_list_append PySem.F.type_list_append DG (Br (Af (Aq (EX (AJ 6)) (EX (AJ 7))))))))))) (AR (AX (Af (Aq (AJ 2) (AJ 3))))))))
theorem Va:AZ ["one","other"] ["one","other"] (AU QR):=⟨rfl,rfl,rfl,by decide +kernel,rfl,by decide +kernel,by decide +kernel⟩
theorem bw (F:DC K "over" "over" QR f fd) (IV:Ml P w K mg base n):
 A7 P w K mg base C3 (n+1) f fd ["one","other"] (BQ K 2 J1):=by
 have nd:=Va.nd
 exact Ae F Va rfl λ_ _ _ _ _ _ hr=>(AR (AX (AK IV hr rfl (Aq (Ab BN (AW (AJ 0) AH) (AW (AJ 1) AH)) (Ab BN (AW (AJ 0) AH) (AW (AJ 1) AH))))))
theorem NH:AZ ["apart","side"] ["apart","side"] (AU HC):=⟨rfl,rfl,rfl,by decide +kernel,rfl,by decide +kernel,by decide +kernel⟩
theorem UB (F:DC K "size_of" "size_of" HC f fd):
 A7 P w K mg base C3 (n+1) f fd ["apart","side"] (BQ K 2 EJ):=by
 have nd:=NH.nd
 exact Ae F NH rfl λ_ _ _ _ _ _ hr=>(AR (AX (Ve (GS (DU hr) (AJ 1) AH) (AW (AJ 0) AH) (AW (AJ 0) AH))))
theorem GG:AZ ["former","latter","m","share"] ["former","latter","m"] (AU DR):=⟨rfl,rfl,rfl,by decide +kernel,rfl,by decide +kernel,by decide +kernel⟩
theorem LY (F:DC K "spot_between" "spot_between" DR f fd) (Hf:Po P w K mg base n) (Xi:YR P w K mg base n) (Xj:YT P w K mg base n) (Sx:U5 P w K mg base n) (Al:mg "tuple" =none) (Cw:mg "zip" =none):
 A7 P w K mg base C3 (n+1) f fd ["former","latter","m"] (BQ K 3 DL):=by
 have nd:=GG.nd
 have nd0:(["low","high","share"] :List Str).Nodup:=by decide +kernel
 exact Ae F GG rfl λ_ _ _ _ _ _ hr=>(AM (IC (i:=3) nd rfl (Or.inr rfl) (AK Xi hr rfl (Aq (AK Hf hr rfl (Aq (AJ 2) (AW (AJ 0) AH))) (AK Hf hr rfl (Aq (AW (AJ 1) AH) (AW (AJ 0) AH)))))) (AR (AX (Bg Ca rfl Al boot_tuple (Br (C7 (C2 rfl (ZZ rfl Cw (Aq (Gy (AJ 0) (Zg AH) Zf) (Gy (AJ 1) (Zg AH) Zf))) (De (own:=2) (ix:= [3]) (N:= ["low","high" ,"share" ]) rfl rfl rfl rfl rfl rfl (λ_ _ _ _ _ _=>(NQ (n:=2) rfl (Cd (OF 0 nd0) (Cd (OF 1 nd0) JZ)))) (λ_ _ _ _ _ _=>CD) (λ_ _ _ _ _ _=>(AK Xj hr rfl (Aq (AJ 0) (AK Sx hr rfl (Aq (AJ 2) (AK Hf hr rfl (Aq (AJ 1) (AJ 0))))))))))))))))
theorem NJ:AZ ["plan","m","at"] ["plan","m"] (AU HD):=⟨rfl,rfl,rfl,by decide +kernel,rfl,by decide +kernel,by decide +kernel⟩
theorem UC (F:DC K "spot_at" "spot_at" HD f fd) (Bx:EU P w K mg base n) (Nr:Mm P w K mg base n) (BP:mg "len" =none) (BR:mg "range" =none):
 A7 P w K mg base C3 (n+1) f fd ["plan","m"] (BQ K 2 FR):=by
 have nd:=NJ.nd
 exact Ae F NJ rfl λ_ _ _ _ _ _ hr=>(AM (BE (Ba (AK Bx hr rfl (Aq (AJ 1) (AW (AW (AJ 0) AH) AH)))) (AR (AX Dg)) Ax) (AM (C9 PassesOwn.never rfl (d9 rfl BR (Aq AH (As D1 rfl BP PySem.boot_len (Br (AJ 0))))) (HY 2 nd) (AR (BE (D6 (Ba (AK Bx hr rfl (Aq (AW (AW (AJ 0) (AJ 2)) AH) (AJ 1))))) (AR (AX (AK Nr hr rfl (FG (AW (AJ 0) (Ab CO (AJ 2) AH)) (AW (AJ 0) (AJ 2)) (AJ 1))))) Ax))) (AR (AX Dg))))
theorem NG:AZ ["one","other","apart","m","here","there"] ["one","other","apart","m"] (AU HB):=⟨rfl,rfl,rfl,by decide +kernel,rfl,by decide +kernel,by decide +kernel⟩
theorem UA (F:DC K "offs_at" "offs_at" HB f fd) (Hf:Po P w K mg base n) (Xi:YR P w K mg base n) (Xk:WP P w K mg base n) (RE:WQ P w K mg base n) (BR:mg "range" =none):
 A7 P w K mg base C3 (n+1) f fd ["one","other","apart","m"] (BQ K 4 FO):=by
 have nd:=NG.nd
 have nd0:(["side","apart","here","there"] :List Str).Nodup:=by decide +kernel
 exact Ae F NG rfl λ_ _ _ _ _ _ hr=>(AM (IC (i:=4) nd rfl (Or.inr rfl) (AK RE hr rfl (Aq (AJ 0) (AJ 3)))) (AM (IC (i:=5) nd rfl (Or.inr rfl) (AK RE hr rfl (Aq (AJ 1) (AJ 3)))) (AR (AX (C7 (C2 rfl (SV rfl BR (Br AH)) (De (own:=1) (ix:= [2,4,5]) (N:= ["side","apart" ,"here" ,"there" ]) rfl rfl rfl rfl rfl rfl (λ_ _ _ _ _ _=>(OF 0 nd0)) (λ_ _ _ _ _ _=>CD) (λ_ _ _ _ _ _=>(AK Xi hr rfl (Aq (AK Hf hr rfl (Aq (AW (AJ 2) (AJ 0)) (AW (AJ 3) (AJ 0)))) (AK Xk hr rfl (Aq (AJ 1) (AJ 0)))))))))))))
theorem NE:AZ ["one","other"] ["one","other"] (AU G9):=⟨rfl,rfl,rfl,by decide +kernel,rfl,by decide +kernel,by decide +kernel⟩
theorem T8 (F:DC K "greater" "greater" G9 f fd) (Bx:EU P w K mg base n):
 A7 P w K mg base C3 (n+1) f fd ["one","other"] (BQ K 2 CW):=by
 have nd:=NE.nd
 exact Ae F NE rfl λ_ _ _ _ _ _ hr=>(AR (AX (Ve (Ba (AK Bx hr rfl (Aq (AJ 0) (AJ 1)))) (AJ 1) (AJ 0))))
theorem K4:AZ ["one","other","begin","end"] ["one","other"] (AU Fx):=⟨rfl,rfl,rfl,by decide +kernel,rfl,by decide +kernel,by decide +kernel⟩
theorem Rx (F:DC K "together" "together" Fx f fd) (Bx:EU P w K mg base n) (Xf:WM P w K mg base n) (PX:Re P w K mg base n):
 A7 P w K mg base C3 (n+1) f fd ["one","other"] (BQ K 2 DZ):=by
 have nd:=K4.nd
 exact Ae F K4 rfl λ_ _ _ _ _ _ hr=>(AM (DJ 2 nd (AK Xf hr rfl (Aq (AW (AW (AJ 0) AH) AH) (AW (AW (AJ 1) AH) AH)))) (AM (DJ 3 nd (AK PX hr rfl (Aq (AW (AW (AJ 0) (EX AH)) AH) (AW (AW (AJ 1) (EX AH)) AH)))) (AR (AX (Ve (Ba (AK Bx hr rfl (Aq (AJ 2) (AJ 3)))) (Af (Aq (AJ 2) (AJ 3))) Dg)))))
theorem EW:AZ ["plan","begin","end"] ["plan","begin","end"] (AU CT):=⟨rfl,rfl,rfl,by decide +kernel,rfl,by decide +kernel,by decide +kernel⟩
theorem Hv (F:DC K "corners_between" "corners_between" CT f fd) (Bx:EU P w K mg base n) (Al:mg "tuple" =none):
 A7 P w K mg base C3 (n+1) f fd ["plan","begin","end"] (BQ K 3 Bl):=by
 have nd:=EW.nd
 have nd0:(["corner","begin","end"] :List Str).Nodup:=by decide +kernel
 exact Ae F EW rfl λ_ _ _ _ _ _ hr=>(AR (AX (C7 (C2 rfl (GN (AJ 0)) (De (own:=1) (ix:= [1,2]) (N:= ["corner","begin" ,"end" ]) rfl rfl rfl rfl rfl rfl (λ_ _ _ _ _ _=>(OF 0 nd0)) (λ_ _ _ _ _ _=>(cv (Lb (Nb (Ba (AK Bx hr rfl (Aq (AJ 1) (AW (AJ 0) AH)))) (Jd (Ba (AK Bx hr rfl (Aq (AW (AJ 0) AH) (AJ 2))))))))) (λ_ _ _ _ _ _=>(Bg Ca rfl Al boot_tuple (Br (AJ 0)))))))))
theorem Gw:AZ ["numbers","number","low","high","middle"] ["numbers","number"] (AU Dp):=⟨rfl,rfl,rfl,by decide +kernel,rfl,by decide +kernel,by decide +kernel⟩
theorem M0 (F:DC K "count_below" "count_below" Dp f fd) (Bx:EU P w K mg base n) (BP:mg "len" =none):
 A7 P w K mg base C3 (n+1) f fd ["numbers","number"] (BQ K 2 Co):=by
 have nd:=Gw.nd
 exact Ae F Gw rfl λ_ _ _ _ _ _ hr=>(AM (DJ 2 nd AH) (AM (DJ 3 nd (As D1 rfl BP PySem.boot_len (Br (AJ 0)))) (AM (Jb PassesOwn.never (GS HZ (AJ 2) (AJ 3)) (AM (DJ 4 nd (Ab Ez (Ab A9 (AJ 2) (AJ 3)) AH)) (AR (BE (Ba (AK Bx hr rfl (Aq (AW (AJ 0) (AJ 4)) (AJ 1)))) (AR (DJ 2 nd (Ab A9 (AJ 4) AH))) (AR (DJ 3 nd (AJ 4))))))) (AR (AX (AJ 2))))))
theorem On:AZ ["numbers","told","number","at"] ["numbers"] (AU JN):=⟨rfl,rfl,rfl,by decide +kernel,rfl,by decide +kernel,by decide +kernel⟩
theorem Ww (F:DC K "rising" "rising" JN f fd) (PU:N4 P w K mg base n) (BP:mg "len" =none):
 A7 P w K mg base C3 (n+1) f fd ["numbers"] (BQ K 1 FQ):=by
 have nd:=On.nd
 exact Ae F On rfl λ_ _ _ _ _ _ hr=>(AM (F4 (i:=1) nd rfl (Or.inl rfl) (Be FA)) (AM (C9 PassesOwn.never rfl (GN (AJ 0)) (HY 2 nd) (AM (DJ 3 nd (NL (AK PU hr rfl (Aq (AJ 1) (AJ 2))))) (AR (BE (Zo (Lb (Nc (GS (DU hr) (AJ 3) (As D1 rfl BP PySem.boot_len (Br (AJ 1)))) (IE (GS (Zi hr) (AW (AJ 1) (AJ 3)) (AJ 2)))))) (AR (Dr (i:=1) PySem.F.slot_list_insert PySem.F.type_list_insert Oq (Aq (AJ 3) (AJ 2)))) Ax)))) (AR (AX (AJ 1)))))
theorem SM:AZ ["one","other","begin","end","corners"] ["one","other","begin","end"] (AU Lx):=⟨rfl,rfl,rfl,by decide +kernel,rfl,by decide +kernel,by decide +kernel⟩
theorem Ys (F:DC K "turns" "turns" Lx f fd) (FM:Ir P w K mg base n) (PY:Rg P w K mg base n):
 A7 P w K mg base C3 (n+1) f fd ["one","other","begin","end"] (BQ K 4 IZ):=by
 have nd:=SM.nd
 have nd0:(["corner"] :List Str).Nodup:=by decide +kernel
 exact Ae F SM rfl λ_ _ _ _ _ _ hr=>(AM (DJ 4 nd (Ab A9 (AK FM hr rfl (FG (AJ 0) (AJ 2) (AJ 3))) (AK FM hr rfl (FG (AJ 1) (AJ 2) (AJ 3))))) (AR (AX (AK PY hr rfl (Br (Ab A9 (C7 (Be (Aq (AJ 2) (AJ 3)))) (C7 (C2 rfl (GN (AJ 4)) (De (own:=1) (ix:= []) (N:= ["corner"]) rfl rfl rfl rfl rfl rfl (λ_ _ _ _ _ _=>(OF 0 nd0)) (λ_ _ _ _ _ _=>CD) (λ_ _ _ _ _ _=>(AW (AJ 0) AH)))))))))))
theorem Om:AZ ["one","other","apart","span","moments","offs","told","at","bottom","lines"] ["one","other","apart"] (AU JM):=⟨rfl,rfl,rfl,by decide +kernel,rfl,by decide +kernel,by decide +kernel⟩
theorem Wv (F:DC K "pieces" "pieces" JM f fd) (Vz:TX P w K mg base n) (Xh:WO P w K mg base n) (V1:TZ P w K mg base n) (eT:bF P w K mg base n) (BP:mg "len" =none) (BR:mg "range" =none):
 A7 P w K mg base C3 (n+1) f fd ["one","other","apart"] (BQ K 3 Ga):=by
 have nd:=Om.nd
 have nd0:(["m","one","other","apart"] :List Str).Nodup:=by decide +kernel
 exact Ae F Om rfl λ_ _ _ _ _ _ hr=>(AM (DJ 3 nd (AK V1 hr rfl (Aq (AJ 0) (AJ 1)))) (AM (BE (GS UR (AJ 3) Dg) (AR (AX (C7 (Be FA)))) Ax) (AM (DJ 4 nd (AK eT hr rfl (C1 (AJ 0) (FG (AJ 1) (AW (AJ 3) AH) (AW (AJ 3) AH))))) (AM (Zm (i:=5) rfl nd rfl (Or.inl rfl) (GN (AJ 4)) (De (own:=1) (ix:= [0,1,2]) (N:= ["m","one" ,"other" ,"apart" ]) rfl rfl rfl rfl rfl rfl (λ_ _ _ _ _ _=>(OF 0 nd0)) (λ_ _ _ _ _ _=>CD) (λ_ _ _ _ _ _=>(AK Xh hr rfl (C1 (AJ 1) (FG (AJ 2) (AJ 3) (AJ 0))))))) (AM (F4 (i:=6) nd rfl (Or.inl rfl) (Be FA)) (AM (C9 PassesOwn.never rfl (d9 rfl BR (Aq AH (As D1 rfl BP PySem.boot_len (Br (AJ 4))))) (HY 7 nd) (AM (US (AK Vz hr rfl (Aq (AW (AJ 5) (Ab CO (AJ 7) AH)) (AW (AJ 5) (AJ 7)))) (FB (n:=2) rfl (Au (HY 8 nd) (Au (HY 9 nd) Dq)))) (AR (Dr (i:=6) PySem.F.slot_list_append PySem.F.type_list_append DG (Br (Af (C1 (AW (AJ 4) (Ab CO (AJ 7) AH)) (FG (AW (AJ 4) (AJ 7)) (AJ 8) (AJ 9))))))))) (AR (AX (AJ 6)))))))))
theorem K3:AZ ["stretches","steps","begin","held","end","first","last"] ["stretches"] (AU Fw):=⟨rfl,rfl,rfl,by decide +kernel,rfl,by decide +kernel,by decide +kernel⟩
theorem Rv (F:DC K "steps_of" "steps_of" Fw f fd):
 A7 P w K mg base C3 (n+1) f fd ["stretches"] (BQ K 1 G0):=by
 have nd:=K3.nd
 refine F.ok K3 (λvs H Q E h=> ?_) (λcdv A outer s H vs Q E hr h=> ?_)
 ·obtain ⟨T,M,xs,AQ,_,_,r,hl,_⟩:=h
  rw [r.length,hl] <;> rfl
 obtain ⟨T,M,xs,AQ,va,_,r,hl,hF,hQ⟩:=h
 have hu:=cj hr
 obtain ⟨x,ys,m,rfl,hx,hz,hm,hq⟩:=Sy hF
 cases r with
 | cons r rr=>
 cases rr
 refine ⟨_,(Bq (E9 (i:=1) nd rfl (Or.inl rfl) cM) (Bq (Y7 PassesOwn.never rfl (Y5 (pv 0)) (UF rfl (Gm (JB (i:=2) nd rfl (Or.inl rfl)) (Gm (JB (i:=3) nd rfl (Or.inl rfl)) (Gm (JB (i:=4) nd rfl (Or.inl rfl)) QI)))) (Bq (E9 (i:=5) nd rfl (Or.inl rfl) (M5 (CC (pv 2) (CC (B9 UE BA (pv 3)) E7)))) (Bq (VS hu (pv 1) (pv 5) (B9 Hx (R4 hu (pv 1) (pv 5) BA ⟨rfl,rfl,rfl,rfl⟩) BA) rfl) (El (VR (Lr VN (pv 4) Y3 (DO _)) (Bq (E9 (i:=6) nd rfl (Or.inl rfl) (M5 (CC (pv 4) (CC BA E7)))) (El (VS hu (pv 1) (pv 6) (B9 UE (R4 hu (pv 1) (pv 6) BA ⟨rfl,rfl,rfl,rfl⟩) BA) rfl))) Lq))))) (El (M7 (pv 1))))), ?_⟩
 exact UX va r hx hz hm λp H' ex np hp=>hQ _ (.dct m) T H' (c7 va ex) (ca va np hp) hq
theorem Ol:AZ ["stretches","steps","told","count","moment","side"] ["stretches"] (AU JL):=⟨rfl,rfl,rfl,by decide +kernel,rfl,by decide +kernel,by decide +kernel⟩
theorem Wu (F:DC K "levels" "levels" JL f fd) (PY:Rg P w K mg base n) (V0:TY P w K mg base n) (KZ:mg "list" =none):
 A7 P w K mg base C3 (n+1) f fd ["stretches"] (BQ K 1 GY):=by
 have nd:=Ol.nd
 have nd0:(["moment","side"] :List Str).Nodup:=by decide +kernel
 exact Ae F Ol rfl λ_ _ _ _ _ _ hr=>(AM (DJ 1 nd (AK V0 hr rfl (Br (AJ 0)))) (AM (F4 (i:=2) nd rfl (Or.inl rfl) (Be FA)) (AM (DJ 3 nd AH) (AM (C9 PassesOwn.never rfl (GN (AK PY hr rfl (Br (C7 (C2 rfl (GN (C7 (ZY hr rfl KZ boot_list (Br (AJ 1))))) (De (own:=2) (ix:= []) (N:= ["moment","side" ]) rfl rfl rfl rfl rfl rfl (λ_ _ _ _ _ _=>(NQ (n:=2) rfl (Cd (OF 0 nd0) (Cd (OF 1 nd0) JZ)))) (λ_ _ _ _ _ _=>CD) (λ_ _ _ _ _ _=>(AJ 0)))))))) (HY 4 nd) (AR (C9 PassesOwn.never rfl (GN (Af (Aq AH AH))) (HY 5 nd) (AR (BE (hX hr (AJ 4) (AJ 5) (AJ 1)) (AM (Zl (i:=3) nd rfl (Or.inl rfl) (cn hr (AJ 1) (AJ 4) (AJ 5) (λ_ _=>rfl)) hG) (AR (Dr (i:=2) PySem.F.slot_list_append PySem.F.type_list_append DG (Br (Af (FG (AJ 4) (AJ 5) (AJ 3))))))) Ax))))) (AR (AX (AJ 2)))))))
theorem ND:AZ ["stretches","n","told","begin","moment","side","count"] ["stretches","n"] (AU G8):=⟨rfl,rfl,rfl,by decide +kernel,rfl,by decide +kernel,by decide +kernel⟩
theorem Tz (F:DC K "counted" "counted" G8 f fd) (aO:YQ P w K mg base n) (Al:mg "tuple" =none):
 A7 P w K mg base C3 (n+1) f fd ["stretches","n"] (BQ K 2 EH):=by
 have nd:=ND.nd
 exact Ae F ND rfl λ_ _ _ _ _ _ hr=>(AM (F4 (i:=2) nd rfl (Or.inl rfl) (Be FA)) (AM (DJ 3 nd Dg) (AM (C9 PassesOwn.never rfl (GN (AK aO hr rfl (Br (AJ 0)))) (FB (n:=3) rfl (Au (HY 4 nd) (Au (HY 5 nd) (Au (HY 6 nd) Dq)))) (AR (BE (Lb (Nb (GS UR (AJ 3) Dg) (Jd (GS SY (AJ 6) (AJ 1))))) (AR (DJ 3 nd (Af (Aq (AJ 4) (Ab CO AH (AJ 5)))))) (AR (BE (Lb (Nb (GS Vn (AJ 3) Dg) (Jd (GS HZ (AJ 6) (AJ 1))))) (AM (Dr (i:=2) PySem.F.slot_list_append PySem.F.type_list_append DG (Br (Af (FG (AW (AJ 3) AH) (AW (AJ 3) AH) (AJ 4))))) (AR (DJ 3 nd Dg))) Ax))))) (AM (BE (GS Vn (AJ 3) Dg) (AR (Dr (i:=2) PySem.F.slot_list_append PySem.F.type_list_append DG (Br (Af (FG (AW (AJ 3) AH) (AW (AJ 3) AH) Dg))))) Ax) (AR (AX (Bg Ca rfl Al boot_tuple (Br (AJ 2)))))))))
theorem K5:AZ ["stretches"] ["stretches"] (AU Fy):=⟨rfl,rfl,rfl,by decide +kernel,rfl,by decide +kernel,by decide +kernel⟩
theorem Ry (F:DC K "told_set" "told_set" Fy f fd) (Xe:WL P w K mg base n):
 A7 P w K mg base C3 (n+1) f fd ["stretches"] (BQ K 1 EO):=by
 have nd:=K5.nd
 exact Ae F K5 rfl λ_ _ _ _ _ _ hr=>(AR (AX (AK Xe hr rfl (Aq (AJ 0) AH))))
theorem K6:AZ ["one","other","apart"] ["one","other","apart"] (AU Fz):=⟨rfl,rfl,rfl,by decide +kernel,rfl,by decide +kernel,by decide +kernel⟩
theorem Rz (F:DC K "too_near" "too_near" Fz f fd) (Xg:WN P w K mg base n) (aP:YS P w K mg base n) (V2:Ta P w K mg base n):
 A7 P w K mg base C3 (n+1) f fd ["one","other","apart"] (BQ K 3 Bj):=by
 have nd:=K6.nd
 have nd0:(["stretch","piece"] :List Str).Nodup:=by decide +kernel
 exact Ae F K6 rfl λ_ _ _ _ _ _ hr=>(AR (AX (AK V2 hr rfl (Br (C7 (ZW rfl (GN (AK aP hr rfl (FG (AJ 0) (AJ 1) (AJ 2)))) (aj (own:=2) (own2:=1) (ix:= []) (N:= ["stretch","piece" ]) rfl rfl rfl rfl rfl rfl (by decide) (λ_ _ _ _ _ _=>(OF 1 nd0)) (λ_ _ _ _ _ _=>CD) (λ_ _ _ _ _ _=>(GN (AK Xg hr rfl (Br (AJ 1))))) (λ_ _ _ _ _ _=>(OF 0 nd0)) (λ_ _ _ _ _ _=>CD) (λ_ _ _ _ _ _=>(AJ 0)))))))))
theorem ZS:AZ ["_law_script","_law_k","_law_found","_law_more","_law_late","_law_by","_law_due","_law_wider","_law_tape_here","_law_one","_law_other","_law_apart_here"] ["_law_script"] (AU NA):=⟨rfl,rfl,rfl,by decide +kernel,rfl,by decide +kernel,by decide +kernel⟩
theorem gL (F:DC K "law" "law" NA f fd) (Ss:RY P w K mg base n) (MK:LS P w K mg base n) (Aa:B7 P w K mg base n) (D9:HQ P w K mg base n 12) (DA:Iq P w K mg base n) (A3:Fp P w K mg base n) (Su:RZ P w K mg base n) (C5:Ku P w K mg base n 12) (DW:Gh P w K mg base n) (BO:Df P w K mg base n) (PQ:N3 P w K mg base n) (DX:Tc P w K mg base n) (BP:mg "len" =none) (O0:mg "min" =none) (BR:mg "range" =none) (Al:mg "tuple" =none):
 A7 P w K mg base C3 (n+1) f fd ["_law_script"] (BQ K 1 EI):=by
 have nd:=ZS.nd
 have nd0:(["_law_begin","_law_held","_law_end","_law_late"] :List Str).Nodup:=by decide +kernel
 exact Ae F ZS rfl λ_ _ _ _ _ _ hr=>(AM (C9 PassesOwn.never rfl (SV rfl BR (Br (Ab A9 AH (As (ZQ rfl) rfl O0 boot_min (Aq AH (As D1 rfl BP PySem.boot_len (Br (AJ 0)))))))) (HY 1 nd) (AM (US (AK Ss hr rfl (Aq (AJ 0) (AJ 1))) (FB (n:=4) rfl (Au (HY 8 nd) (Au (HY 9 nd) (Au (HY 10 nd) (Au (HY 11 nd) Dq)))))) (AM (DJ 2 nd (AK DX hr rfl (FG (AJ 9) (AJ 10) (AJ 11)))) (AM (DJ 3 nd (AK MK hr rfl (Aq (AJ 8) (AJ 9)))) (AM (BE (Lb (Nc (D6 (Ba (AK Su hr rfl (Br (AJ 2))))) (IE (D6 (Ba (AK C5 hr rfl (Aq (AK DX hr rfl (FG (AJ 10) (AJ 9) (AJ 11))) (AJ 2)))))))) (AR (AX GH)) Ax) (AM (BE (Lb (Nc (D6 (Ba (AK C5 hr rfl (Aq (AK DX hr rfl (FG (AJ 3) (AJ 10) (AJ 11))) (AJ 2))))) (IE (D6 (Ba (AK C5 hr rfl (Aq (AK DX hr rfl (FG (AJ 9) (AJ 10) (AJ 11))) (AJ 2)))))))) (AR (AX GH)) Ax) (AM (BE (D6 (Ba (AK C5 hr rfl (Aq (AK DX hr rfl (FG (AK D9 hr rfl (Br (AJ 9))) (AK D9 hr rfl (Br (AJ 3))) (AJ 11))) (Af (Br (Af (FG (AW (AW (AJ 9) AH) AH) AH (AW (AW (AJ 9) (EX AH)) AH))))))))) (AR (AX GH)) Ax) (AM (IC (i:=4) nd rfl (Or.inr rfl) (AK DW hr rfl (Br (AJ 8)))) (AM (DJ 5 nd (C7 (Be (FG (AK A3 hr rfl (Br (AJ 8))) (AK A3 hr rfl (Br (AJ 8))) (AK A3 hr rfl (Br (AJ 8))))))) (AM (DJ 6 nd (Bg Ca rfl Al boot_tuple (Br (C7 (C2 rfl (GN (AJ 2)) (De (own:=3) (ix:= [4]) (N:= ["_law_begin","_law_held" ,"_law_end" ,"_law_late" ]) rfl rfl rfl rfl rfl rfl (λ_ _ _ _ _ _=>(NQ (n:=3) rfl (Cd (OF 0 nd0) (Cd (OF 1 nd0) (Cd (OF 2 nd0) JZ))))) (λ_ _ _ _ _ _=>CD) (λ_ _ _ _ _ _=>(Af (FG (AK BO hr rfl (Aq (AJ 0) (AJ 3))) (AJ 1) (AK BO hr rfl (Aq (AJ 2) (AJ 3)))))))))))) (AM (BE (D6 (Ba (AK C5 hr rfl (Aq (AK DX hr rfl (FG (AK DA hr rfl (FG (AJ 9) (AJ 4) (AJ 5))) (AK DA hr rfl (FG (AJ 10) (AJ 4) (AJ 5))) (AJ 11))) (AJ 6))))) (AR (AX GH)) Ax) (AM (DJ 7 nd (Af (Aq (AK BO hr rfl (Aq (AW (AJ 11) AH) (Af (Aq AH AH)))) (AK BO hr rfl (Aq (AW (AJ 11) AH) (AW (C7 (Be (Aq (Af (Aq AH AH)) (Af (Aq AH AH))))) (AK Aa hr rfl (Aq (AJ 8) AH)))))))) (AR (BE (D6 (Ba (AK PQ hr rfl (Aq (AJ 2) (AK DX hr rfl (FG (AJ 9) (AJ 10) (AJ 7))))))) (AR (AX GH)) Ax)))))))))))))) (AR (AX GH)))
end
theorem Td {P:Program} {w:World} {K:PySem.W.Frag} {mg:Str->Option Value} {base:Heap} {k:Nat} {x:Str} {st:Stmt} {ps:List Str} {sp:Sp} {f:Addr} {fd:FuncData} (F:DC K x x st f fd) (b:Binds K fd ps []) (m:mg x=some (.ref f)) (G:A7 P w K mg base C3 k f fd ps sp):Has P w K mg base k x ps sp:=⟨f,fd,m,F.kp,b,G⟩
theorem GD {P:Program} {w:World} {K:PySem.W.Frag} {mg:Str->Option Value} {base:Heap} {k0:Nat} {f:Addr} {fd:FuncData} (F:DC K "_law_listed" "_law_listed" Ct f fd) (b:Binds K fd ["_law_thing"] []) (m:mg "_law_listed" =some (.ref f)) (Cv:mg "int" =none) (Ak:mg "isinstance" =none):
 ∀n:Nat,A7 P w K mg base C3 (k0+n) f fd ["_law_thing"] (BQ K 1 (Am n))
 | 0=>by
   have no:∀vs H Q E,¬BQ K 1 (Am 0) vs H Q E:=λvs H Q E h=>by
    obtain ⟨_,_,_,_,_,_,_,_,h,_⟩:=h
    exact h
   exact ⟨λvs H Q E h=>absurd h (no vs H Q E),λA outer s H args us vs Q E _ _ _ _ h=>absurd h (no vs H Q E)⟩
 | n+1=>My (n:=k0+n) F (Td F b m (GD F b m Cv Ak n)) Cv Ak
theorem HN {P:Program} {w:World} {K:PySem.W.Frag} {mg:Str->Option Value} {base:Heap} {k0:Nat} {f:Addr} {fd:FuncData} (F:DC K "_law_same" "_law_same" Dz f fd) (b:Binds K fd ["_law_found","_law_due"] []) (m:mg "_law_same" =some (.ref f)) (Oz:mg "all" =none) (KY:mg "bool" =none) (Cv:mg "int" =none) (Ak:mg "isinstance" =none) (BP:mg "len" =none) (K9:mg "str" =none) (Al:mg "tuple" =none) (Cw:mg "zip" =none):
 ∀n:Nat,A7 P w K mg base C3 (k0+n) f fd ["_law_found","_law_due"] (BQ K 2 (Ai n))
 | 0=>by
   have no:∀vs H Q E,¬BQ K 2 (Ai 0) vs H Q E:=λvs H Q E h=>by
    obtain ⟨_,_,_,_,_,_,_,_,h,_⟩:=h
    exact h
   exact ⟨λvs H Q E h=>absurd h (no vs H Q E),λA outer s H args us vs Q E _ _ _ _ h=>absurd h (no vs H Q E)⟩
 | n+1=>P7 (n:=k0+n) F (Td F b m (HN F b m Oz KY Cv Ak BP K9 Al Cw n)) Oz KY Cv Ak BP K9 Al Cw
theorem GE {us:List Value} (hl:us.length=1):∃x0:Value,us= [x0] :=by
 match us,hl with | [x0],_=>exact ⟨_,rfl⟩
theorem Bw {us:List Value} (hl:us.length=2):∃x0 x1:Value,us= [x0,x1] :=by
 match us,hl with | [x0,x1],_=>exact ⟨_,_,rfl⟩
theorem Mr {us:List Value} (hl:us.length=3):∃x0 x1 x2:Value,us= [x0,x1,x2] :=by
 match us,hl with | [x0,x1,x2],_=>exact ⟨_,_,_,rfl⟩
theorem dk {us:List Value} (hl:us.length=4):∃x0 x1 x2 x3:Value,us= [x0,x1,x2,x3] :=by
 match us,hl with | [x0,x1,x2,x3],_=>exact ⟨_,_,_,_,rfl⟩
def Ds (K:PySem.W.Frag) (x:Str) (st:Stmt) (f:Addr):Prop:=PySem.W.nsIn K mainGlobals x=some (some (.ref f))/\∃fd,DC K x x st f fd
theorem pN {K:PySem.W.Frag} {x:Str} {st:Stmt} {f:Addr} {oc:Value} {od an:Option Addr} {osl:Array (Option Value)} {kV doc pm cdv ct:Value} (a:PySem.W.nsIn K mainGlobals x=some (some (.ref f))) (l:K.lookup f=some ⟨oc,od, .func (PySem.W.fnOf x x (Fm st) (EC st) (AU st) .none kV doc pm an cdv ct),osl⟩) (c:PySem.W.codeIn K cdv x=true) (k:PySem.W.keepIn K (.ref f)=true):Ds K x st f:=⟨a,_,YH l c k⟩
theorem Bc {P:Program} {w:World} {K:PySem.W.Frag} {h base:Heap} {mg:Str->Option Value} {k:Nat} {x:Str} {st:Stmt} {ps:List Str} {sp:Sp} {f:Addr} (A:Ds K x st f) (X:K.In h) (G:h.Ns mainGlobals mg) (b:∀fd,DC K x x st f fd->Binds K fd ps []) (g:∀fd,DC K x x st f fd->Binds K fd ps [] ->mg x=some (.ref f)->A7 P w K mg base C3 k f fd ps sp):Has P w K mg base k x ps sp:=
 let ⟨a,fd,F⟩:=A;Td F (b fd F) (PySem.W.mg_of X G a) (g fd F (b fd F) (PySem.W.mg_of X G a))
theorem all_mk {l:PySem.W.OpenLaw} {w:World} {K:PySem.W.Frag} {h:Heap} {mg:Str->Option Value} {fa f1 f2 f3 f4 f5 f6 f7 f8 f9 f10 f11 f12 f13 f14 f15 f16 f17 f18 f19 f20 f21 f22 f23 f24 f25 f26 f27 f28 f29 f30 f31 f32 f33 f34 f35 f36 f37 f38 f39 f40 f41 f42 f43 f44 f45 f46 f47 f48 f49 f50:Addr} (X:K.In h) (G:h.Ns mainGlobals mg) (tG:mg "law" =some (.ref fa))
 (a1:Ds K "_law_draw" Eo f1) (a2:Ds K "_law_apart" ED f2) (a3:Ds K "_law_part" Er f3) (a4:Ds K "_law_sum" Fu f4) (a5:Ds K "_law_moved" EE f5) (a6:Ds K "_law_off" Ft f6) (a7:Ds K "_law_place" EF f7) (a8:Ds K "_law_span" Eu f8) (a9:Ds K "_law_plan" Es f9) (a10:Ds K "_law_product" DQ f10) (a11:Ds K "_law_beside" Dm f11) (a12:Ds K "_law_tape" Ew f12) (a13:Ds K "_law_case" En f13) (a14:Ds K "_law_less" Ep f14) (a15:Ds K "_law_ratio" EG f15) (a16:Ds K "_law_spot" Ev f16) (a17:Ds K "_law_cornered" Cz f17) (a18:Ds K "_law_listed" Ct f18) (a19:Ds K "_law_rise" Et f19) (a20:Ds K "_law_same" Dz f20) (a21:Ds K "_law_within" Dn f21) (a22:Ds K "before" JI f22) (a23:Ds K "lesser" JK f23) (a24:Ds K "common" JJ f24) (a25:Ds K "part" QS f25) (a26:Ds K "minus" Lv f26) (a27:Ds K "plus" QU f27) (a28:Ds K "times" Lw f28) (a29:Ds K "moment_at" Ex f29) (a30:Ds K "near_in" HA f30) (a31:Ds K "shared_bottom" C0 f31) (a32:Ds K "lines_of" Fv f32) (a33:Ds K "over" QR f33) (a34:Ds K "size_of" HC f34) (a35:Ds K "spot_between" DR f35) (a36:Ds K "spot_at" HD f36) (a37:Ds K "offs_at" HB f37) (a38:Ds K "greater" G9 f38) (a39:Ds K "together" Fx f39) (a40:Ds K "corners_between" CT f40) (a41:Ds K "count_below" Dp f41) (a42:Ds K "rising" JN f42) (a43:Ds K "turns" Lx f43) (a44:Ds K "pieces" JM f44) (a45:Ds K "steps_of" Fw f45) (a46:Ds K "levels" JL f46) (a47:Ds K "counted" G8 f47) (a48:Ds K "told_set" Fy f48) (a49:Ds K "too_near" Fz f49) (a50:Ds K "law" NA f50)
 (y_abs:PySem.W.nsIn K mainGlobals "abs" =some none) (y_all:PySem.W.nsIn K mainGlobals "all" =some none) (y_bool:PySem.W.nsIn K mainGlobals "bool" =some none) (y_int:PySem.W.nsIn K mainGlobals "int" =some none) (y_isinstance:PySem.W.nsIn K mainGlobals "isinstance" =some none) (y_len:PySem.W.nsIn K mainGlobals "len" =some none) (y_list:PySem.W.nsIn K mainGlobals "list" =some none) (y_min:PySem.W.nsIn K mainGlobals "min" =some none) (y_range:PySem.W.nsIn K mainGlobals "range" =some none) (y_reversed:PySem.W.nsIn K mainGlobals "reversed" =some none) (y_str:PySem.W.nsIn K mainGlobals "str" =some none) (y_tuple:PySem.W.nsIn K mainGlobals "tuple" =some none) (y_zip:PySem.W.nsIn K mainGlobals "zip" =some none):
 ∃fd:FuncData,(∀(s:Shared) (v:Value),BindsTo s fd ⟨[v], []⟩ [("_law_script",v)])/\∀base:Heap,K.In base->base.Ns mainGlobals mg->A7 l.prog w K mg base C3 13 fa fd ["_law_script"] (BQ K 1 EI):=by
 have e:=tG.symm.trans (PySem.W.mg_of X G a50.1)
 cases e
 obtain ⟨aL,fdL,FL⟩:=a50
 obtain ⟨⟨oc,od,kV,doc,pm,an,cdv,ct,osl,eL,lL,cL⟩,kL⟩:=FL
 subst eL
 have FL:=YH lL cL kL
 have GI:=PySem.W.mg_none_of X G y_abs
 have Oz:=PySem.W.mg_none_of X G y_all
 have KY:=PySem.W.mg_none_of X G y_bool
 have Cv:=PySem.W.mg_none_of X G y_int
 have Ak:=PySem.W.mg_none_of X G y_isinstance
 have BP:=PySem.W.mg_none_of X G y_len
 have KZ:=PySem.W.mg_none_of X G y_list
 have O0:=PySem.W.mg_none_of X G y_min
 have BR:=PySem.W.mg_none_of X G y_range
 have IH:=PySem.W.mg_none_of X G y_reversed
 have K9:=PySem.W.mg_none_of X G y_str
 have Al:=PySem.W.mg_none_of X G y_tuple
 have Cw:=PySem.W.mg_none_of X G y_zip
 refine ⟨PySem.W.fnOf "law" "law" (Fm NA) (EC NA) (AU NA) .none kV doc pm an cdv ct,λs v=> .of_eq rfl,λbase _ _=> ?_⟩
 have H1:=Bc a1 X G (λ_ F=>F.binds (ps:= ["_law_tape_here","_law_many"]) λ_ _ _ _ _ _ us hl=>by obtain ⟨_,_,rfl⟩:=Bw hl;rfl) λ_ F _ _=>P2 (P:=l.prog) (w:=w) (base:=base) (n:=0) F
 have H2:=Bc a2 X G (λ_ F=>F.binds (ps:= ["_law_tape_here"]) λ_ _ _ _ _ _ us hl=>by obtain ⟨_,rfl⟩:=GE hl;rfl) λ_ F _ _=>N5 (P:=l.prog) (w:=w) (base:=base) (n:=1) F (Bh H1)
 have H3:=Bc a3 X G (λ_ F=>F.binds (ps:= ["_law_top","_law_bottom"]) λ_ _ _ _ _ _ us hl=>by obtain ⟨_,_,rfl⟩:=Bw hl;rfl) λ_ F _ _=>P4 (P:=l.prog) (w:=w) (base:=base) (n:=0) F GI Cv
 have H4:=Bc a4 X G (λ_ F=>F.binds (ps:= ["_law_one","_law_other"]) λ_ _ _ _ _ _ us hl=>by obtain ⟨_,_,rfl⟩:=Bw hl;rfl) λ_ F _ _=>Rt (P:=l.prog) (w:=w) (base:=base) (n:=1) F (Bh H3)
 have H5:=Bc a5 X G (λ_ F=>F.binds (ps:= ["_law_plan_here","_law_late","_law_by"]) λ_ _ _ _ _ _ us hl=>by obtain ⟨_,_,_,rfl⟩:=Mr hl;rfl) λ_ F _ _=>N6 (P:=l.prog) (w:=w) (base:=base) (n:=2) F (Bh H4) BR Al
 have H6:=Bc a6 X G (λ_ F=>F.binds (ps:= ["_law_one","_law_other"]) λ_ _ _ _ _ _ us hl=>by obtain ⟨_,_,rfl⟩:=Bw hl;rfl) λ_ F _ _=>Rs (P:=l.prog) (w:=w) (base:=base) (n:=1) F (Bh H3)
 have H7:=Bc a7 X G (λ_ F=>F.binds (ps:= ["_law_tape_here"]) λ_ _ _ _ _ _ us hl=>by obtain ⟨_,rfl⟩:=GE hl;rfl) λ_ F _ _=>N7 (P:=l.prog) (w:=w) (base:=base) (n:=1) F (Bh H1) (Bh H3)
 have H8:=Bc a8 X G (λ_ F=>F.binds (ps:= ["_law_tape_here"]) λ_ _ _ _ _ _ us hl=>by obtain ⟨_,rfl⟩:=GE hl;rfl) λ_ F _ _=>P8 (P:=l.prog) (w:=w) (base:=base) (n:=1) F (Bh H1) (Bh H3)
 have H9:=Bc a9 X G (λ_ F=>F.binds (ps:= ["_law_tape_here"]) λ_ _ _ _ _ _ us hl=>by obtain ⟨_,rfl⟩:=GE hl;rfl) λ_ F _ _=>P5 (P:=l.prog) (w:=w) (base:=base) (n:=2) F (Bh H1) (Bh H7) (Bh H8) (Bh H4) BP Al
 have i8:=Bc a10 X G (λ_ F=>F.binds (ps:= ["_law_one","_law_other"]) λ_ _ _ _ _ _ us hl=>by obtain ⟨_,_,rfl⟩:=Bw hl;rfl) λ_ F _ _=>LX (P:=l.prog) (w:=w) (base:=base) (n:=1) F (Bh H3)
 have iL:=Bc a11 X G (λ_ F=>F.binds (ps:= ["_law_tape_here","_law_plan_here","_law_apart_here"]) λ_ _ _ _ _ _ us hl=>by obtain ⟨_,_,_,rfl⟩:=Mr hl;rfl) λ_ F _ _=>Mx (P:=l.prog) (w:=w) (base:=base) (n:=3) F (Bh H1) (Bh H5) (Bh H6) (Bh H7) (Bh H9) (Bh i8) (Bh H8) (Bh H4) Cv BP IH Al Cw
 have rW:=Bc a12 X G (λ_ F=>F.binds (ps:= ["_law_script","_law_k"]) λ_ _ _ _ _ _ us hl=>by obtain ⟨_,_,rfl⟩:=Bw hl;rfl) λ_ F _ _=>QA (P:=l.prog) (w:=w) (base:=base) (n:=0) F GI Cv BP
 have rX:=Bc a13 X G (λ_ F=>F.binds (ps:= ["_law_script","_law_k"]) λ_ _ _ _ _ _ us hl=>by obtain ⟨_,_,rfl⟩:=Bw hl;rfl) λ_ F _ _=>P1 (P:=l.prog) (w:=w) (base:=base) (n:=4) F (Bh H2) (Bh iL) (Bh H1) (Bh H9) (Bh rW)
 have mB:=Bc a14 X G (λ_ F=>F.binds (ps:= ["_law_one","_law_other"]) λ_ _ _ _ _ _ us hl=>by obtain ⟨_,_,rfl⟩:=Bw hl;rfl) λ_ F _ _=>P3 (P:=l.prog) (w:=w) (base:=base) (n:=0) F
 have rY:=Bc a15 X G (λ_ F=>F.binds (ps:= ["_law_one","_law_other"]) λ_ _ _ _ _ _ us hl=>by obtain ⟨_,_,rfl⟩:=Bw hl;rfl) λ_ F _ _=>N8 (P:=l.prog) (w:=w) (base:=base) (n:=1) F (Bh H3)
 have rZ:=Bc a16 X G (λ_ F=>F.binds (ps:= ["_law_plan_here","_law_m"]) λ_ _ _ _ _ _ us hl=>by obtain ⟨_,_,rfl⟩:=Bw hl;rfl) λ_ F _ _=>P9 (P:=l.prog) (w:=w) (base:=base) (n:=2) F (Bh mB) (Bh H6) (Bh i8) (Bh rY) (Bh H4) BR Al Cw
 have rc:=Bc a17 X G (λ_ F=>F.binds (ps:= ["_law_tape_here","_law_plan_here"]) λ_ _ _ _ _ _ us hl=>by obtain ⟨_,_,rfl⟩:=Bw hl;rfl) λ_ F _ _=>KM (P:=l.prog) (w:=w) (base:=base) (n:=3) F (Bh H1) (Bh H6) (Bh i8) (Bh rZ) (Bh H4) BP KZ O0 BR Al
 have rf:=Bc a18 X G (λ_ F=>F.binds (ps:= ["_law_thing"]) λ_ _ _ _ _ _ us hl=>by obtain ⟨_,rfl⟩:=GE hl;rfl) λ_ F b m=>GD (P:=l.prog) (w:=w) (base:=base) (k0:=0) F b m Cv Ak 12
 have rh:=Bc a19 X G (λ_ F=>F.binds (ps:= ["_law_found"]) λ_ _ _ _ _ _ us hl=>by obtain ⟨_,rfl⟩:=GE hl;rfl) λ_ F _ _=>P6 (P:=l.prog) (w:=w) (base:=base) (n:=1) F (Bh mB) Cw
 have rj:=Bc a20 X G (λ_ F=>F.binds (ps:= ["_law_found","_law_due"]) λ_ _ _ _ _ _ us hl=>by obtain ⟨_,_,rfl⟩:=Bw hl;rfl) λ_ F b m=>HN (P:=l.prog) (w:=w) (base:=base) (k0:=0) F b m Oz KY Cv Ak BP K9 Al Cw 12
 have rk:=Bc a21 X G (λ_ F=>F.binds (ps:= ["_law_found","_law_others"]) λ_ _ _ _ _ _ us hl=>by obtain ⟨_,_,rfl⟩:=Bw hl;rfl) λ_ F _ _=>Mz (P:=l.prog) (w:=w) (base:=base) (n:=1) F (Bh mB)
 have eV:=Bc a22 X G (λ_ F=>F.binds (ps:= ["one","other"]) λ_ _ _ _ _ _ us hl=>by obtain ⟨_,_,rfl⟩:=Bw hl;rfl) λ_ F _ _=>Wr (P:=l.prog) (w:=w) (base:=base) (n:=0) F
 have pE:=Bc a23 X G (λ_ F=>F.binds (ps:= ["one","other"]) λ_ _ _ _ _ _ us hl=>by obtain ⟨_,_,rfl⟩:=Bw hl;rfl) λ_ F _ _=>Wt (P:=l.prog) (w:=w) (base:=base) (n:=1) F (Bh eV)
 have pF:=Bc a24 X G (λ_ F=>F.binds (ps:= ["one","other"]) λ_ _ _ _ _ _ us hl=>by obtain ⟨_,_,rfl⟩:=Bw hl;rfl) λ_ F _ _=>Ws (P:=l.prog) (w:=w) (base:=base) (n:=0) F
 have i9:=Bc a25 X G (λ_ F=>F.binds (ps:= ["top","bottom"]) λ_ _ _ _ _ _ us hl=>by obtain ⟨_,_,rfl⟩:=Bw hl;rfl) λ_ F _ _=>b6 (P:=l.prog) (w:=w) (base:=base) (n:=1) F (Bh pF) GI
 have mC:=Bc a26 X G (λ_ F=>F.binds (ps:= ["one","other"]) λ_ _ _ _ _ _ us hl=>by obtain ⟨_,_,rfl⟩:=Bw hl;rfl) λ_ F _ _=>Yq (P:=l.prog) (w:=w) (base:=base) (n:=2) F (Bh i9)
 have pG:=Bc a27 X G (λ_ F=>F.binds (ps:= ["one","other"]) λ_ _ _ _ _ _ us hl=>by obtain ⟨_,_,rfl⟩:=Bw hl;rfl) λ_ F _ _=>b9 (P:=l.prog) (w:=w) (base:=base) (n:=2) F (Bh i9)
 have pH:=Bc a28 X G (λ_ F=>F.binds (ps:= ["one","other"]) λ_ _ _ _ _ _ us hl=>by obtain ⟨_,_,rfl⟩:=Bw hl;rfl) λ_ F _ _=>Yr (P:=l.prog) (w:=w) (base:=base) (n:=2) F (Bh i9)
 have rm:=Bc a29 X G (λ_ F=>F.binds (ps:= ["begin","end","share"]) λ_ _ _ _ _ _ us hl=>by obtain ⟨_,_,_,rfl⟩:=Mr hl;rfl) λ_ F _ _=>QC (P:=l.prog) (w:=w) (base:=base) (n:=3) F (Bh mC) (Bh i9) (Bh pG) (Bh pH)
 have rn:=Bc a30 X G (λ_ F=>F.binds (ps:= ["piece"]) λ_ _ _ _ _ _ us hl=>by obtain ⟨_,rfl⟩:=GE hl;rfl) λ_ F _ _=>T9 (P:=l.prog) (w:=w) (base:=base) (n:=4) F (Bh eV) (Bh pE) (Bh rm)
 have rp:=Bc a31 X G (λ_ F=>F.binds (ps:= ["numbers"]) λ_ _ _ _ _ _ us hl=>by obtain ⟨_,rfl⟩:=GE hl;rfl) λ_ F _ _=>KO (P:=l.prog) (w:=w) (base:=base) (n:=1) F (Bh pF)
 have rq:=Bc a32 X G (λ_ F=>F.binds (ps:= ["first","last"]) λ_ _ _ _ _ _ us hl=>by obtain ⟨_,_,rfl⟩:=Bw hl;rfl) λ_ F _ _=>Ru (P:=l.prog) (w:=w) (base:=base) (n:=2) F (Bh rp) Cw
 have pI:=Bc a33 X G (λ_ F=>F.binds (ps:= ["one","other"]) λ_ _ _ _ _ _ us hl=>by obtain ⟨_,_,rfl⟩:=Bw hl;rfl) λ_ F _ _=>bw (P:=l.prog) (w:=w) (base:=base) (n:=2) F (Bh i9)
 have r9:=Bc a34 X G (λ_ F=>F.binds (ps:= ["apart","side"]) λ_ _ _ _ _ _ us hl=>by obtain ⟨_,_,rfl⟩:=Bw hl;rfl) λ_ F _ _=>UB (P:=l.prog) (w:=w) (base:=base) (n:=0) F
 have sA:=Bc a35 X G (λ_ F=>F.binds (ps:= ["former","latter","m"]) λ_ _ _ _ _ _ us hl=>by obtain ⟨_,_,_,rfl⟩:=Mr hl;rfl) λ_ F _ _=>LY (P:=l.prog) (w:=w) (base:=base) (n:=3) F (Bh mC) (Bh pI) (Bh pG) (Bh pH) Al Cw
 have sB:=Bc a36 X G (λ_ F=>F.binds (ps:= ["plan","m"]) λ_ _ _ _ _ _ us hl=>by obtain ⟨_,_,rfl⟩:=Bw hl;rfl) λ_ F _ _=>UC (P:=l.prog) (w:=w) (base:=base) (n:=4) F (Bh eV) (Bh sA) BP BR
 have sC:=Bc a37 X G (λ_ F=>F.binds (ps:= ["one","other","apart","m"]) λ_ _ _ _ _ _ us hl=>by obtain ⟨_,_,_,_,rfl⟩:=dk hl;rfl) λ_ F _ _=>UA (P:=l.prog) (w:=w) (base:=base) (n:=5) F (Bh mC) (Bh pI) (Bh r9) (Bh sB) BR
 have sD:=Bc a38 X G (λ_ F=>F.binds (ps:= ["one","other"]) λ_ _ _ _ _ _ us hl=>by obtain ⟨_,_,rfl⟩:=Bw hl;rfl) λ_ F _ _=>T8 (P:=l.prog) (w:=w) (base:=base) (n:=1) F (Bh eV)
 have sE:=Bc a39 X G (λ_ F=>F.binds (ps:= ["one","other"]) λ_ _ _ _ _ _ us hl=>by obtain ⟨_,_,rfl⟩:=Bw hl;rfl) λ_ F _ _=>Rx (P:=l.prog) (w:=w) (base:=base) (n:=2) F (Bh eV) (Bh sD) (Bh pE)
 have sF:=Bc a40 X G (λ_ F=>F.binds (ps:= ["plan","begin","end"]) λ_ _ _ _ _ _ us hl=>by obtain ⟨_,_,_,rfl⟩:=Mr hl;rfl) λ_ F _ _=>Hv (P:=l.prog) (w:=w) (base:=base) (n:=1) F (Bh eV) Al
 have sG:=Bc a41 X G (λ_ F=>F.binds (ps:= ["numbers","number"]) λ_ _ _ _ _ _ us hl=>by obtain ⟨_,_,rfl⟩:=Bw hl;rfl) λ_ F _ _=>M0 (P:=l.prog) (w:=w) (base:=base) (n:=1) F (Bh eV) BP
 have pJ:=Bc a42 X G (λ_ F=>F.binds (ps:= ["numbers"]) λ_ _ _ _ _ _ us hl=>by obtain ⟨_,rfl⟩:=GE hl;rfl) λ_ F _ _=>Ww (P:=l.prog) (w:=w) (base:=base) (n:=2) F (Bh sG) BP
 have sH:=Bc a43 X G (λ_ F=>F.binds (ps:= ["one","other","begin","end"]) λ_ _ _ _ _ _ us hl=>by obtain ⟨_,_,_,_,rfl⟩:=dk hl;rfl) λ_ F _ _=>Ys (P:=l.prog) (w:=w) (base:=base) (n:=3) F (Bh sF) (Bh pJ)
 have sI:=Bc a44 X G (λ_ F=>F.binds (ps:= ["one","other","apart"]) λ_ _ _ _ _ _ us hl=>by obtain ⟨_,_,_,rfl⟩:=Mr hl;rfl) λ_ F _ _=>Wv (P:=l.prog) (w:=w) (base:=base) (n:=6) F (Bh rq) (Bh sC) (Bh sE) (Bh sH) BP BR
 have sJ:=Bc a45 X G (λ_ F=>F.binds (ps:= ["stretches"]) λ_ _ _ _ _ _ us hl=>by obtain ⟨_,rfl⟩:=GE hl;rfl) λ_ F _ _=>Rv (P:=l.prog) (w:=w) (base:=base) (n:=0) F
 have sK:=Bc a46 X G (λ_ F=>F.binds (ps:= ["stretches"]) λ_ _ _ _ _ _ us hl=>by obtain ⟨_,rfl⟩:=GE hl;rfl) λ_ F _ _=>Wu (P:=l.prog) (w:=w) (base:=base) (n:=3) F (Bh pJ) (Bh sJ) KZ
 have sL:=Bc a47 X G (λ_ F=>F.binds (ps:= ["stretches","n"]) λ_ _ _ _ _ _ us hl=>by obtain ⟨_,_,rfl⟩:=Bw hl;rfl) λ_ F _ _=>Tz (P:=l.prog) (w:=w) (base:=base) (n:=4) F (Bh sK) Al
 have sM:=Bc a48 X G (λ_ F=>F.binds (ps:= ["stretches"]) λ_ _ _ _ _ _ us hl=>by obtain ⟨_,rfl⟩:=GE hl;rfl) λ_ F _ _=>Ry (P:=l.prog) (w:=w) (base:=base) (n:=5) F (Bh sL)
 have sN:=Bc a49 X G (λ_ F=>F.binds (ps:= ["one","other","apart"]) λ_ _ _ _ _ _ us hl=>by obtain ⟨_,_,_,rfl⟩:=Mr hl;rfl) λ_ F _ _=>Rz (P:=l.prog) (w:=w) (base:=base) (n:=7) F (Bh rn) (Bh sI) (Bh sM)
 exact gL (n:=12) FL (Bh rX) (Bh rc) (Bh H1) (Bh rf) (Bh H5) (Bh H7) (Bh rh) (Bh rj) (Bh H8) (Bh H4) (Bh rk) (Bh sN) BP O0 BR Al
theorem walk {l:PySem.W.OpenLaw} {q:Program} {loose:List Str} {XP:(Str->Option Value)->Heap->Prop} {YP:World->Heap->Prop} {d:DefRec} {K:Params->PySem.W.Frag} (hn:l.most=some 63) (jU:d.params.defaults= [])
 (hY:∀(w:World) (h:Heap),YP w h->(K w.params).In h)
 (F:∀(w:World) (mg:Str->Option Value) (fa:Addr) (h:Heap),(K w.params).In h->h.Ns mainGlobals mg->mg d.name=some (.ref fa)->
   ∃fd:FuncData,(∀(s:Shared) (u:Value),BindsTo s fd ⟨[u], []⟩ [("_law_script",u)])/\∀base:Heap,(K w.params).In base->base.Ns mainGlobals mg->A7 l.prog w (K w.params) mg base C3 13 fa fd ["_law_script"] (BQ (K w.params) 1 EI)):
 PySem.W.WalkO q loose XP YP l.row.toRowW d [] (λf vs=>PySem.call f vs):=
 L2.walk_of (n:=63) (k:=13) (x:="_law_script") (CX:=λ_=>C3) (sp:=λw=>BQ (K w.params) 1 EI) hn (by decide) jU ⟨rfl,by decide,by decide,rfl⟩ hY F (λ_ _ a ns hl _ hS=>PL.law_sp hS (Yh ns hl)) λ_ _ _ _ _ z=>z
def m0:String:="law_skylanes_k24_few_stretches"
def m1:String:="skylanes.fractions"
def m2:String:="skylanes.nearness"
def m3:String:="skylanes.plans"
def m4:String:="skylanes.stretches"
def eN (P:Params) (x:String) (i:Nat) (v:Value):DictEntry:=⟨PyData.keyHash P (Str.ofString x), .str (Str.ofString x) i,v⟩
abbrev eR (P:Params) (x:String) (i f:Nat):=eN P x i (.ref f)
def fO (x:String) (s:Stmt) (m:String) (i c:Nat):Obj:=⟨.type "function",none, .func (PySem.W.fnOf (Str.ofString x) (Str.ofString x) (Fm s) (EC s) (AU s) .none .none .none (.str (Str.ofString m) i) none (.ref c) .none), #[]⟩
def rV:Nat->Value
 | 0=> .none
 | n+1=> .ref (n+1)
def fc (x:String) (s:Stmt) (m:String) (mi c f i l n g a1 a2 a3 a4 a5 u:Nat) (r:PySem.W.Frag):PySem.W.Frag:=
 (c,⟨.type "code",none, .fields #[.str (Str.ofString x) i, .str (Str.ofString x) (i+1), .str (Str.ofString "/claim/cut.py") (i+2), .int l 0, .int n 0, .int 0 0, .int 0 0, .int g 0,rV a1, .bool true, .int 181 0,rV a2, .none,rV a3,rV a4,rV a5, .int u 0, .int l 0, .str (Str.ofString "/claim/cut.py") (u+1)], #[]⟩) ::
 (f,fO x s m mi c)::r
theorem atK {K:PySem.W.Frag} {x:String} {s:Stmt} (m:String) (i c f:Nat) (a:PySem.W.nsIn K mainGlobals (Str.ofString x)=some (some (.ref f)):=by kernel_rfl) (l:K.lookup f=some (fO x s m i c):=by kernel_rfl) (d:PySem.W.codeIn K (.ref c) (Str.ofString x)=true:=by kernel_rfl) (k:PySem.W.keepIn K (.ref f)=true:=by kernel_rfl):Ds K (Str.ofString x) s f:=pN a l d k
def nk (P:Params):Obj:=⟨.type "dict",none, .dict #[eN P "__name__" 165 (.str (Str.ofString "law_skylanes_k24_few_stretches") 441),eN P "__doc__" 166 .none,eN P "__package__" 167 .none,eN P "__loader__" 168 (.builtin "__main__.__loader__#opaque"),eN P "__spec__" 169 .none,eR P "__annotations__" 170 6,eR P "__builtins__" 171 4,eN P "__file__" 173 (.str (Str.ofString "/claim/cut.py") 172),eN P "__cached__" 174 .none,eR P "common" 196 21,eR P "part" 205 28,eR P "plus" 213 35,eR P "minus" 221 42,eR P "times" 229 49,eR P "over" 237 56,eR P "before" 245 63,eR P "lesser" 253 70,eR P "greater" 261 77,eR P "shared_bottom" 271 84,eR P "count_below" 282 91,eR P "rising" 292 98,eR P "spot_between" 300 103,eR P "spot_at" 309 110,eR P "corners_between" 315 115,eR P "steps_of" 330 122,eR P "levels" 336 127,eR P "counted" 349 134,eR P "told_set" 356 141,eR P "together" 368 148,eR P "turns" 374 153,eR P "size_of" 382 160,eR P "offs_at" 388 165,eR P "lines_of" 402 172,eR P "pieces" 408 177,eR P "moment_at" 417 184,eR P "near_in" 434 191,eR P "too_near" 440 196,eR P "_law_tape" 452 203,eR P "_law_draw" 462 210,eR P "_law_part" 473 217,eR P "_law_less" 481 224,eR P "_law_sum" 489 231,eR P "_law_off" 497 238,eR P "_law_product" 505 245,eR P "_law_ratio" 513 252,eR P "_law_place" 521 259,eR P "_law_span" 529 266,eR P "_law_plan" 541 273,eR P "_law_apart" 549 280,eR P "_law_spot" 555 285,eR P "_law_moved" 561 290,eR P "_law_beside" 567 295,eR P "_law_case" 579 302,eR P "_law_middle" 587 309,eR P "_law_same" 593 314,eR P "_law_listed" 599 319,eR P "_law_cornered" 614 326,eR P "_law_rise" 623 333,eR P "_law_within" 637 340,eR P "law" 643 345] 60, #[]⟩
def KK (P:Params):PySem.W.Frag:=(3,nk P)::(fc "_law_draw" Eo m0 441 209 210 453 157 2 3 204 205 206 207 208 460 <| fc "_law_apart" ED m0 441 279 280 542 209 1 3 274 275 276 277 278 547 <| fc "_law_part" Er m0 441 216 217 463 165 2 3 211 212 213 214 215 471 <| fc "_law_sum" Fu m0 441 230 231 482 173 2 3 225 226 227 228 229 487 <| fc "_law_moved" EE m0 441 289 290 556 221 3 3 286 287 0 0 288 559 <| fc "_law_off" Ft m0 441 237 238 490 175 2 3 232 233 234 235 236 495 <| fc "_law_place" EF m0 441 258 259 514 181 1 3 253 254 255 256 257 519 <| fc "_law_span" Eu m0 441 265 266 522 188 1 3 260 261 262 263 264 527 <| fc "_law_plan" Es m0 441 272 273 530 193 1 3 267 268 269 270 271 539 <| fc "_law_product" DQ m0 441 244 245 498 177 2 3 239 240 241 242 243 503 <| fc "_law_beside" Dm m0 441 294 295 562 223 3 3 291 292 0 0 293 565 <| fc "_law_tape" Ew m0 441 202 203 443 151 2 3 197 198 199 200 201 450 <| fc "_law_case" En m0 441 301 302 568 247 2 3 296 297 298 299 300 577 <| fc "_law_less" Ep m0 441 223 224 474 171 2 3 218 219 220 221 222 479 <| fc "_law_ratio" EG m0 441 251 252 506 179 2 3 246 247 248 249 250 511 <| fc "_law_spot" Ev m0 441 284 285 550 212 2 3 281 282 0 0 283 553 <| fc "_law_cornered" Cz m0 441 325 326 600 269 2 3 320 321 322 323 324 612 <| fc "_law_listed" Ct m0 441 318 319 594 265 1 3 315 316 0 0 317 597 <| fc "_law_rise" Et m0 441 332 333 615 278 1 3 327 328 329 330 331 621 <| fc "_law_same" Dz m0 441 313 314 588 257 2 3 310 311 0 0 312 591 <| fc "_law_within" Dn m0 441 339 340 624 283 2 3 334 335 336 337 338 635 <| fc "before" JI m1 187 62 63 238 19 2 3 57 58 59 60 61 243 <| fc "lesser" JK m1 187 69 70 246 21 2 3 64 65 66 67 68 251 <| fc "common" JJ m1 187 20 21 189 2 2 3 15 16 17 18 19 194 <| fc "part" QS m1 187 27 28 197 6 2 3 22 23 24 25 26 203 <| fc "minus" Lv m1 187 41 42 214 13 2 3 36 37 38 39 40 219 <| fc "plus" QU m1 187 34 35 206 11 2 3 29 30 31 32 33 211 <| fc "times" Lw m1 187 48 49 222 15 2 3 43 44 45 46 47 227 <| fc "moment_at" Ex m2 357 183 184 409 128 3 3 178 179 180 181 182 415 <| fc "near_in" HA m2 357 190 191 418 130 1 3 185 186 187 188 189 432 <| fc "shared_bottom" C0 m1 187 83 84 262 25 1 3 78 79 80 81 82 269 <| fc "lines_of" Fv m2 357 171 172 389 108 2 3 166 167 168 169 170 400 <| fc "over" QR m1 187 55 56 230 17 2 3 50 51 52 53 54 235 <| fc "size_of" HC m2 357 159 160 375 102 2 3 154 155 156 157 158 380 <| fc "spot_between" DR m3 293 102 103 295 48 3 3 99 100 0 0 101 298 <| fc "spot_at" HD m3 293 109 110 301 51 2 3 104 105 106 107 108 307 <| fc "offs_at" HB m2 357 164 165 383 104 4 3 161 162 0 0 163 386 <| fc "greater" G9 m1 187 76 77 254 23 2 3 71 72 73 74 75 259 <| fc "together" Fx m2 357 147 148 359 95 2 3 142 143 144 145 146 366 <| fc "corners_between" CT m3 293 114 115 310 58 3 3 111 112 0 0 113 313 <| fc "count_below" Dp m1 187 90 91 272 30 2 3 85 86 87 88 89 280 <| fc "rising" JN m1 187 97 98 283 40 1 3 92 93 94 95 96 290 <| fc "turns" Lx m2 357 152 153 369 99 4 3 149 150 0 0 151 372 <| fc "pieces" JM m2 357 176 177 403 117 3 3 173 174 0 0 175 406 <| fc "steps_of" Fw m4 316 121 122 318 61 1 3 116 117 118 119 120 328 <| fc "levels" JL m4 316 126 127 331 70 1 3 123 124 0 0 125 334 <| fc "counted" G8 m4 316 133 134 337 80 2 3 128 129 130 131 132 347 <| fc "told_set" Fy m4 316 140 141 350 92 1 3 135 136 137 138 139 354 <| fc "too_near" Fz m2 357 195 196 435 148 3 3 192 193 0 0 194 438 <| fc "law" NA m0 441 344 345 638 292 1 3 341 342 0 0 343 641 <| [])
def KA:List Addr:= [3,209,210,279,280,216,217,230,231,289,290,237,238,258,259,265,266,272,273,244,245,294,295,202,203,301,302,223,224,251,252,284,285,325,326,318,319,332,333,313,314,339,340,62,63,69,70,20,21,27,28,41,42,34,35,48,49,183,184,190,191,83,84,171,172,55,56,159,160,102,103,109,110,164,165,76,77,147,148,114,115,90,91,97,98,152,153,176,177,121,122,126,127,133,134,140,141,195,196,344,345]
def q:Program:={PySem.Challenge.pw_skylanes_k24_few_stretches with main:={PySem.Challenge.pw_skylanes_k24_few_stretches.main with body:= [top 1,top 2,top 3,top 4,top 5,top 6,top 7,top 8,top 9,top 10,top 11,top 12,top 14,top 15,top 16,top 18,top 19,top 20,top 21,top 23,top 24,top 25,top 26,top 27,top 28,top 29,top 30,top 31,top 33,top 34,top 35,top 36,top 37,top 38,top 39,top 40,top 41,top 42,top 43,top 44,top 45,top 46,top 47,top 48,top 49,top 50,top 51,top 52,top 53,top 54,top 55] }}
end K24
open PySem PySem.W PyProof.Rows
set_option maxRecDepth 100000 in
set_option maxHeartbeats 0 in
theorem K24.lf:∀w,(openEnds treeTable PySem.Challenge.pw_skylanes_k24_few_stretches w 6000).map (λs=>(openSeen K24.q [] (importedModules (PySem.Challenge.pw_skylanes_k24_few_stretches).main.body) (λs=>xlAt K24.q [] s&&recOk [] s) true s,K24.KA.map s.heap.get?))=some (openGood K24.q [],(K24.KK w.params).map λp=>some p.2):=by
 intro w;kernel_rfl
set_option maxRecDepth 100000 in
set_option maxHeartbeats 0 in
theorem PySem.Challenge.cw_skylanes_k24_few_stretches_holds : PySem.Challenge.rw_skylanes_k24_few_stretches.Holds := by
 w_on;o_law
 refine holds_open (q:=K24.q) (loose:= []) (Xt:=λs=>xlAt K24.q [] s&&recOk [] s) (XP:=XL K24.q []) (YP:=InK K24.KK) (N:=6000) K24.lf (InK.of (as:=K24.KA) λ_=>by kernel_rfl) InK.keeps (λs e=>xl_of s (Bool.and_eq_true_iff.mp e).1) XL.keeps (by rfl) (by rfl) (by rfl) (λs e=>recFacts_of (Bool.and_eq_true_iff.mp e).2) (by rfl) (by first | assumption|decide +kernel) (by decide +kernel) ⟨rfl,rfl,rfl,rfl,rfl,by decide +kernel⟩ ?hw ?hc
 (case hw=>w_witness2)
 case hc=>
 refine K24.walk (l:=PySem.Challenge.rw_skylanes_k24_few_stretches) (K:=K24.KK) rfl rfl (λw h Y=>Y) ?F
 intro w mg fa h KX G jZ
 exact K24.all_mk KX G jZ (K24.atK K24.m0 441 209 210) (K24.atK K24.m0 441 279 280) (K24.atK K24.m0 441 216 217) (K24.atK K24.m0 441 230 231) (K24.atK K24.m0 441 289 290) (K24.atK K24.m0 441 237 238) (K24.atK K24.m0 441 258 259) (K24.atK K24.m0 441 265 266) (K24.atK K24.m0 441 272 273) (K24.atK K24.m0 441 244 245) (K24.atK K24.m0 441 294 295) (K24.atK K24.m0 441 202 203) (K24.atK K24.m0 441 301 302) (K24.atK K24.m0 441 223 224) (K24.atK K24.m0 441 251 252) (K24.atK K24.m0 441 284 285) (K24.atK K24.m0 441 325 326) (K24.atK K24.m0 441 318 319) (K24.atK K24.m0 441 332 333) (K24.atK K24.m0 441 313 314) (K24.atK K24.m0 441 339 340) (K24.atK K24.m1 187 62 63) (K24.atK K24.m1 187 69 70) (K24.atK K24.m1 187 20 21) (K24.atK K24.m1 187 27 28) (K24.atK K24.m1 187 41 42) (K24.atK K24.m1 187 34 35) (K24.atK K24.m1 187 48 49) (K24.atK K24.m2 357 183 184) (K24.atK K24.m2 357 190 191) (K24.atK K24.m1 187 83 84) (K24.atK K24.m2 357 171 172) (K24.atK K24.m1 187 55 56) (K24.atK K24.m2 357 159 160) (K24.atK K24.m3 293 102 103) (K24.atK K24.m3 293 109 110) (K24.atK K24.m2 357 164 165) (K24.atK K24.m1 187 76 77) (K24.atK K24.m2 357 147 148) (K24.atK K24.m3 293 114 115) (K24.atK K24.m1 187 90 91) (K24.atK K24.m1 187 97 98) (K24.atK K24.m2 357 152 153) (K24.atK K24.m2 357 176 177) (K24.atK K24.m4 316 121 122) (K24.atK K24.m4 316 126 127) (K24.atK K24.m4 316 133 134) (K24.atK K24.m4 316 140 141) (K24.atK K24.m2 357 195 196) (K24.atK K24.m0 441 344 345) (by kernel_rfl) (by kernel_rfl) (by kernel_rfl) (by kernel_rfl) (by kernel_rfl) (by kernel_rfl) (by kernel_rfl) (by kernel_rfl) (by kernel_rfl) (by kernel_rfl) (by kernel_rfl) (by kernel_rfl) (by kernel_rfl)
end
