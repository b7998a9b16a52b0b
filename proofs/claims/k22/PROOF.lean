import PyProof.Rows.All
import Wide.All
import OpenK.AllK
import Wide.FinOn
import PyProof.EqAt
import PyProof.EqKinds
import PyProof.TupleCall
import Lean
import PyProof.IsiTupleAll
import PySem.Challenge.RW_skylanes_k22_too_near_at_moments
set_option Elab.async false
set_option linter.all false
set_option maxRecDepth 100000
set_option maxHeartbeats 4000000
section
namespace PySem
open Sem (wp)
abbrev FK:=(Int×Int)×Int
section
variable {prog:Program} {w:World}
def IK (prog:Program) (w:World) (h:Heap) (k:FK) (a:Addr):Prop:=∃o items n b u,h.get? a=some o/\o.cls= .type "tuple" /\o.data= .seq items n/\items.toList= [.ref b, .int k.2 u] /\IsTupleKey (intKind prog w) h [k.1.1,k.1.2] b
theorem IK.typeIs {s:Shared} {k:FK} {a:Addr} (x:IK prog w s.heap k a):s.TypeIs (.ref a) "tuple" :=let ⟨o,_,_,_,_,ho,hc,_⟩:=x;⟨o,ho,hc⟩
theorem IK.inj {h:Heap} {a:Addr} {x y:FK} (hx:IK prog w h x a) (hy:IK prog w h y a):x=y:=by
 obtain ⟨o,items,n,b,u,ho,_,hd,hi,hk⟩:=hx
 obtain ⟨o',items',n',b',u',YC,_,eJ,am,tz⟩:=hy
 obtain rfl:o=o':=Option.some.inj (ho.symm.trans YC)
 rw [hd] at eJ
 injection eJ with h1 _
 subst h1
 rw [hi] at am
 injection am with h1 h2
 injection h1 with h1
 subst h1
 injection h2 with h2 _
 injection h2 with h2 _
 have:=hk.inj tz
 obtain ⟨⟨x1,x2⟩,x3⟩:=x
 obtain ⟨⟨y1,y2⟩,y3⟩:=y
 injection this with e1 e2
 injection e2 with e2 _
 simp only at h2 e1 e2
 subst h2;subst e1;subst e2
 rfl
theorem IK.keeps {h h':Heap} {k:FK} {a d:Addr} {o:Obj} {es ep} (x:IK prog w h k a) (ho:h.get? d=some o) (hd:o.data= .dict es ep) (hs:Heap.SameBut d h h'):IK prog w h' k a:=by
 obtain ⟨o',items,n,b,u,YC,hc,eJ,hi,hk⟩:=x
 have YB:a≠d:=by
  rintro rfl
  obtain rfl:o'=o:=Option.some.inj (YC.symm.trans ho)
  rw [hd] at eJ;exact nomatch eJ
 exact ⟨o',items,n,b,u,(hs.2 a YB).trans YC,hc,eJ,hi,hk.keeps ho hd hs⟩
def Ua (prog:Program) (w:World) (k:FK):Int:=reduceHash (Builtin.Tuple.tupleHashOf [tupleKeyHash (intKind prog w) [k.1.1,k.1.2],hashInt k.2])
variable {A:Around} {E:Value->Shared->Prop} {s:Shared}
theorem L5 {k:FK} {a:Addr} {Q:Int->Shared->Prop} (hu:A.units+1<cLine) (hk:IK prog w s.heap k a) (h:Q (Ua prog w k) {s with toks:=s.toks+5}):
 wpAny (model prog w) A (pyHash (.ref a)) Q E s:=by
 have hT:=hk.typeIs
 obtain ⟨o,items,n,b,u,ho,_,hd,hi,cE⟩:=hk
 unfold pyHash
 first | unfold pyHashByItsType|skip
 first | refine wpAny_bind (wpAny_cRoomFor_or (.inr (by omega)) ?_)|skip
 refine wpAny_bind (wpAny_specialOf hT F.slot_tuple_hash.lookup ?_)
 show wpAny _ _ (if (some (Value.builtin "tuple.__hash__")==some Value.none)=true then _ else _) Q E s
 rw [if_neg (by rw [beq_builtin_none];exact Bool.false_ne_true)]
 refine wpAny_bind (wpAny_specialOf hT F.slot_tuple_hash.lookup ?_)
 show wpAny _ _ (callSpecialIfBoundUnlessNone? (.ref a) "__hash__" _ >>= _) Q E s
 refine wpAny_bind (wpAny_callSpecialIfBoundUnlessNone?_slot hT F.slot_tuple_hash (wpAny_call_entry F.slot_tuple_hash hT F.entry_tuple_hash ?_ (F.args_tuple_hash_1 _)))
 show wpAny _ _ (Builtin.Tuple.tupleItemsOf (.ref a) >>= _) _ _ s
 refine wpAny_bind (wpAny_tupleItemsOf ho hd ?_)
 refine wpAny_bind ?_
 rw [<-Array.forIn_toList,hi]
 refine wpAny_forIn_list _
  (λrest (r:Array Int) s'=>(rest= [.ref b, .int k.2 u] /\r.toList= [] /\s'=s)\/(rest= [.int k.2 u] /\r.toList= [tupleKeyHash (intKind prog w) [k.1.1,k.1.2]] /\s'={s with toks:=s.toks+3})\/
    (rest= [] /\r.toList= [tupleKeyHash (intKind prog w) [k.1.1,k.1.2],hashInt k.2] /\s'={s with toks:=s.toks+4}))
  _ ?_ ?_ _ _ (.inl ⟨rfl,rfl,rfl⟩)
 ·rintro x rest r s' (⟨e1,e2,rfl⟩|⟨e1,e2,rfl⟩|⟨e1,_⟩)
  ·cases e1
   refine wpAny_bind (wpAny_pyHash_tuple (knd:=intKind prog w) (by first | exact hu|omega) cE ?_)
   exact wpAny_pure (.inr (.inl ⟨rfl,by simp [e2],rfl⟩))
  ·cases e1
   refine wpAny_bind (wpAny_pyHash_int ?_)
   exact wpAny_pure (.inr (.inr ⟨rfl,by simp [e2],by simp [Nat.add_assoc]⟩))
  ·cases e1
 ·rintro r s' (⟨e1,_⟩|⟨e1,_⟩|⟨_,e2,rfl⟩)
  ·cases e1
  ·cases e1
  ·show wpAny _ _ (retInt (Builtin.Tuple.tupleHashOf r.toList)) _ _ _
   rw [e2]
   refine wpAny_ret_mkInt ?_
   show wpAny _ _ (if (decide (-(2:Int)^63<=Builtin.Tuple.tupleHashOf [tupleKeyHash (intKind prog w) [k.1.1,k.1.2],hashInt k.2])&&decide (Builtin.Tuple.tupleHashOf [tupleKeyHash (intKind prog w) [k.1.1,k.1.2],hashInt k.2] < 2^63))=true then _ else _) Q E _
   unfold Ua reduceHash at h
   by_cases hr:(decide (-(2:Int)^63<=Builtin.Tuple.tupleHashOf [tupleKeyHash (intKind prog w) [k.1.1,k.1.2],hashInt k.2])&&decide (Builtin.Tuple.tupleHashOf [tupleKeyHash (intKind prog w) [k.1.1,k.1.2],hashInt k.2] < 2^63))=true
   ·rw [if_pos hr]
    rw [if_pos hr] at h
    exact wpAny_pure (by simpa [Nat.add_assoc] using h)
   ·rw [if_neg hr]
    rw [if_neg hr] at h
    exact wpAny_bind (wpAny_rule (wpAny_pure (by simpa [Nat.add_assoc] using h)))
theorem Ub {x y:FK} {a b:Addr} {P:Fin->Shared->Prop} (hu:A.units<cLine) (hx:IK prog w s.heap x a) (hy:IK prog w s.heap y b) (h:P (.done (.ret (.bool (decide (x=y))))) s):
 wpAny (model prog w) A (Builtin.«tuple.__eq__» ⟨[.ref a, .ref b], []⟩) P E s:=by
 have tV:=hy.typeIs
 obtain ⟨oa,xs,na,ba,ua,uI,_,tY,qK,t5⟩:=hx
 obtain ⟨ob,ys,nb,bb,ub,uJ,_,hdb,qL,t6⟩:=hy
 have sx:xs.size=2:=by rw [<-Array.length_toList,qK];rfl
 have sy:ys.size=2:=by rw [<-Array.length_toList,qL];rfl
 obtain ⟨⟨x1,x2⟩,x3⟩:=x
 obtain ⟨⟨y1,y2⟩,y3⟩:=y
 show wpAny _ _ (isInstance (.ref b) (.type "tuple") >>= _) _ _ s
 refine wpAny_bind (wpAny_isInstance tV isSubtype_tuple_tuple ?_)
 simp only [Bool.not_true,Bool.false_eq_true,if_false]
 refine wpAny_bind (wpAny_tupleItemsOf uI tY ?_)
 refine wpAny_bind (wpAny_tupleItemsOf uJ hdb ?_)
 refine wpAny_bind ?_
 rw [qK,qL]
 refine wpAny_forIn_list _
  (λrest r s'=>r.1=none/\s'=s/\(rest= [(.ref ba, .ref bb),(.int x3 ua, .int y3 ub)] \/(rest= [(.int x3 ua, .int y3 ub)] /\x1=y1/\x2=y2)\/(rest= [] /\x1=y1/\x2=y2/\x3=y3)))
  _ ?_ ?_ _ _ ⟨rfl,rfl, .inl rfl⟩
 ·rintro ⟨u,v⟩ rest r s' ⟨hr,rfl,(hz|⟨hz,e1,e2⟩|⟨hz,_⟩)⟩
  ·cases hz
   refine wpAny_bind (wpAny_eqBool_tuple (knd:=intKind prog w) (by first | exact hu|omega) t5 t6 ?_)
   by_cases hk:x1=y1/\x2=y2
   ·rw [decide_eq_true (by rw [hk.1,hk.2])]
    simp only [Bool.not_true,Bool.false_eq_true,if_false]
    exact wpAny_pure ⟨rfl,rfl, .inr (.inl ⟨by first | trivial|rfl,hk⟩)⟩
   ·rw [decide_eq_false (by intro z;injection z with z1 z2;injection z2 with z2 _;exact hk ⟨z1,z2⟩)]
    simp only [Bool.not_false,if_true]
    have hf:decide ((((x1,x2),x3):FK)=((y1,y2),y3))=false:=by
     apply decide_eq_false
     intro z
     injection z with z1 z2
     injection z1 with z3 z4
     exact hk ⟨z3,z4⟩
    rw [hf] at h
    exact wpAny_bind (wpAny_pure (wpAny_pure (wpAny_pure h)))
  ·cases hz
   refine wpAny_bind (wpAny_eqBool_int ?_)
   by_cases hk:x3=y3
   ·rw [show (x3==y3)=true by simp [hk]]
    simp only [Bool.not_true,Bool.false_eq_true,if_false]
    exact wpAny_pure ⟨rfl,rfl, .inr (.inr ⟨by first | trivial|rfl,e1,e2,hk⟩)⟩
   ·rw [show (x3==y3)=false by simp [hk]]
    simp only [Bool.not_false,if_true]
    have hf:decide ((((x1,x2),x3):FK)=((y1,y2),y3))=false:=by
     apply decide_eq_false
     intro z
     injection z with z1 z2
     exact hk z2
    rw [hf] at h
    exact wpAny_bind (wpAny_pure (wpAny_pure (wpAny_pure h)))
  ·cases hz
 ·rintro ⟨r1,r2⟩ s' ⟨hr,rfl,(hz|⟨hz,_⟩|⟨_,e1,e2,e3⟩)⟩
  ·cases hz
  ·cases hz
  ·simp only at hr
   subst hr
   refine wpAny_pure ?_
   show P (.done (.ret (.bool (xs.size==ys.size)))) s'
   rw [sx,sy]
   rw [decide_eq_true (by rw [e1,e2,e3])] at h
   exact h
theorem L4 {x y:FK} {a b:Addr} {Q:Bool->Shared->Prop} (hu:A.units+1<cLine) (hx:IK prog w s.heap x a) (hy:IK prog w s.heap y b) (h:Q (decide (x=y)) s):
 wpAny (model prog w) A (eqBool (.ref a) (.ref b)) Q E s:=by
 unfold eqBool
 try with_reducible refine wpAny_holding ?_
 show wpAny _ _ (if (Value.ref a==Value.ref b)=true then _ else _) Q E s
 by_cases nI:(Value.ref a==Value.ref b)=true
 ·rw [if_pos nI]
  have e:a=b:=by have:=eq_of_beq nI;injection this
  subst e
  obtain rfl:=hx.inj hy
  exact wpAny_bind (wpAny_rule (wpAny_pure (by simpa using h)))
 ·rw [if_neg nI]
  exact wpAny_bind (wpAny_richCompare_same_room (op:= .Eq) hx.typeIs hy.typeIs F.slot_tuple_eq
   (wpAny_call_entry F.slot_tuple_eq hx.typeIs F.entry_tuple_eq (Ub (by first | exact hu|omega) hx hy ⟨_,rfl,(λe=>nomatch e),wpAny_truthy_bool h⟩) (F.args_tuple_eq_2 _ _)) (by omega))
theorem GH {K:Type} [DecidableEq K] {knd:KeyKind prog w K} {ks:List K} {a:Addr} {Q:Bool->Shared->Prop} (m:Nat) (hk:IsTupleKey knd s.heap ks a) (h:Q true s):wpAny (model prog w) A (eqIsQuiet (m+1) (.ref a)) Q E s:=by
 have hT:=hk.typeIs
 obtain ⟨o,items,n,ho,_,hd,hi⟩:=hk
 unfold eqIsQuiet
 refine wpAny_bind (wpAny_specialOf hT F.slot_tuple_eq.lookup ?_)
 show wpAny _ _ (isInstance (.ref a) (.type "tuple") >>= _) _ _ s
 refine wpAny_bind (wpAny_isInstance hT isSubtype_tuple_tuple ?_)
 simp only [Bool.not_true,Bool.false_eq_true,if_false]
 refine wpAny_bind (wpAny_seqItems ho hd ?_)
 refine wpAny_bind ?_
 show wpAny _ _ (forIn items _ _) _ _ s
 rw [<-Array.forIn_toList]
 refine wpAny_forIn_list _ (λrest r s'=>r.1=none/\s'=s/\∀v∈rest,carriedByValue v=true) _ ?_ ?_ _ _ ⟨rfl,rfl,hi.byValue⟩
 ·rintro v rest r s' ⟨hr,rfl,XM⟩
  rw [eqIsQuiet_byValue _ (XM v List.mem_cons_self)]
  refine wpAny_bind (wpAny_pure ?_)
  simp only [Bool.not_true,Bool.false_eq_true,if_false]
  exact wpAny_pure ⟨rfl,rfl,λu uO=>XM u (List.mem_cons_of_mem _ uO)⟩
 ·rintro ⟨r1,r2⟩ s' ⟨hr,rfl,_⟩
  simp only at hr
  subst hr
  exact wpAny_pure h
theorem Ic {k:FK} {a:Addr} {Q:Bool->Shared->Prop} (hk:IK prog w s.heap k a) (h:Q true s):wpAny (model prog w) A (eqIsQuiet 8 (.ref a)) Q E s:=by
 have hT:=hk.typeIs
 obtain ⟨o,items,n,b,u,ho,_,hd,hi,cE⟩:=hk
 unfold eqIsQuiet
 refine wpAny_bind (wpAny_specialOf hT F.slot_tuple_eq.lookup ?_)
 show wpAny _ _ (isInstance (.ref a) (.type "tuple") >>= _) _ _ s
 refine wpAny_bind (wpAny_isInstance hT isSubtype_tuple_tuple ?_)
 simp only [Bool.not_true,Bool.false_eq_true,if_false]
 refine wpAny_bind (wpAny_seqItems ho hd ?_)
 refine wpAny_bind ?_
 show wpAny _ _ (forIn items _ _) _ _ s
 rw [<-Array.forIn_toList,hi]
 refine wpAny_forIn_list _ (λrest r s'=>r.1=none/\s'=s/\(rest= [.ref b, .int k.2 u] \/rest= [.int k.2 u] \/rest= [])) _ ?_ ?_ _ _ ⟨rfl,rfl, .inl rfl⟩
 ·rintro v rest r s' ⟨hr,rfl,(hz|hz|hz)⟩
  ·cases hz
   refine wpAny_bind (GH (knd:=intKind prog w) 6 cE ?_)
   simp only [Bool.not_true,Bool.false_eq_true,if_false]
   exact wpAny_pure ⟨rfl,rfl, .inr (.inl (by first | trivial|rfl))⟩
  ·cases hz
   rw [eqIsQuiet_byValue _ rfl]
   refine wpAny_bind (wpAny_pure ?_)
   simp only [Bool.not_true,Bool.false_eq_true,if_false]
   exact wpAny_pure ⟨rfl,rfl, .inr (.inr (by first | trivial|rfl))⟩
  ·cases hz
 ·rintro ⟨r1,r2⟩ s' ⟨hr,rfl,_⟩
  simp only at hr
  subst hr
  exact wpAny_pure h
end
def fkKind (prog:Program) (w:World):HeapKind prog w FK where
 is:=IK prog w
 hash:=Ua prog w
 draws:=λ_=>5
 room:=λA=>A.units+1<cLine
 inj:=λhx hy=>hx.inj hy
 keeps:=λx ho hd hs=>x.keeps ho hd hs
 pyHash:=λhu hk h=>L5 hu hk h
 eqBool:=λhu hx hy h=>L4 hu hx hy h
 quiet:=λhk h=>Ic hk h
theorem C0 {prog:Program} {w:World} {A:Around} (h:A.units+2<cLine):(fkKind prog w).room A.in1:=by
 show A.units+1+1<cLine
 omega
end PySem
end
namespace L2
open PySem PySem.Spec PyProof.Rows
abbrev FS:=Sum Int Str
def eZ:FS->Value->Bool
 | .inl k,v=>Value.isInt k v
 | .inr x,v=>Value.isStrOf x v
def nz (w:World):FS->Int
 | .inl k=>hashInt k
 | .inr x=>hashStr w x
theorem Bt:∀{k:FS} {v:Value},eZ k v=true->(∃i t,k=Sum.inl i/\v=Value.int i t)\/(∃x t,k=Sum.inr x/\v=Value.str x t)
 | .inl i,v,h=>by
   obtain ⟨t,e⟩:=Value.isInt_shape (k:=i) (v:=v) h
   exact .inl ⟨i,t,rfl,e⟩
 | .inr x,v,h=>by
   obtain ⟨t,e⟩:=Value.isStrOf_shape (x:=x) (v:=v) h
   exact .inr ⟨x,t,rfl,e⟩
theorem ga (a b:Int):decide ((Sum.inl a:FS)=Sum.inl b)=(a==b):=by
 by_cases e:a=b
 ·subst e;simp
 ·have h:¬(Sum.inl a:FS)=Sum.inl b:=λq=>e (Sum.inl.inj q)
  rw [decide_eq_false h]
  exact (beq_eq_false_iff_ne.mpr e).symm
theorem gf (a b:Str):decide ((Sum.inr a:FS)=Sum.inr b)=decide (a=b):=by
 by_cases e:a=b
 ·subst e;simp
 ·have h:¬(Sum.inr a:FS)=Sum.inr b:=λq=>e (Sum.inr.inj q)
  rw [decide_eq_false h,decide_eq_false e]
theorem gb (a:Int) (b:Str):decide ((Sum.inl a:FS)=Sum.inr b)=false:=decide_eq_false (λq=>nomatch q)
theorem gc (a:Str) (b:Int):decide ((Sum.inr a:FS)=Sum.inl b)=false:=decide_eq_false (λq=>nomatch q)
def Qp (prog:Program) (w:World):PySem.KeyKind prog w FS where
 is:=eZ
 hash:=nz w
 inj:=λv a b ha hb=>by
  rcases Bt ha with ⟨i,t,rfl,rfl⟩|⟨x,t,rfl,rfl⟩
  ·rcases Bt hb with ⟨j,u,rfl,e⟩|⟨y,u,rfl,e⟩
   ·injection e with e1 _;rw [e1]
   ·exact nomatch e
  ·rcases Bt hb with ⟨j,u,rfl,e⟩|⟨y,u,rfl,e⟩
   ·exact nomatch e
   ·injection e with e1 _;rw [e1]
 byValue:=λk v h=>by
  rcases Bt h with ⟨i,t,rfl,rfl⟩|⟨x,t,rfl,rfl⟩ <;> rfl
 pyHash:=λhv h=>by
  rcases Bt hv with ⟨i,t,rfl,rfl⟩|⟨x,t,rfl,rfl⟩
  ·exact wpAny_pyHash_int h
  ·exact wpAny_pyHash_str h
 eqBool:=λhu hv h=>by
  rcases Bt hu with ⟨i,t,rfl,rfl⟩|⟨x,t,rfl,rfl⟩
  ·rcases Bt hv with ⟨j,u,rfl,rfl⟩|⟨y,u,rfl,rfl⟩
   ·rw [ga] at h;exact wpAny_eqBool_int h
   ·rw [gb] at h;exact SeqAt.EqAt.int_str i t y u _ _ _ _ h
  ·rcases Bt hv with ⟨j,u,rfl,rfl⟩|⟨y,u,rfl,rfl⟩
   ·rw [gc] at h;exact SeqAt.EqAt.str_int x t j u _ _ _ _ h
   ·rw [gf] at h;exact wpAny_eqBool_str h
 «strs»:=λk x t v h=>by
  rcases Bt h with ⟨i,u,rfl,e⟩|⟨y,u,rfl,e⟩
  ·exact nomatch e
  ·injection e with e1 _
   subst e1
   cases v <;> rfl
end L2
namespace L2
open PySem PySem.Spec PyProof.Rows
inductive V where
 | non|bl (b:Bool)|int (i:Int)|str (x:Str)|byt (b:Array UInt8)|flt (b:UInt64)|ref (a:Addr)|ty (n:String)
 deriving DecidableEq
def RelV:V->Value->Prop
 | .non,u=>u=Value.none
 | .bl b,u=>u=Value.bool b
 | .int i,u=>∃t,u=Value.int i t
 | .str x,u=>∃t,u=Value.str x t
 | .byt b,u=>∃t,u=Value.bytes b t
 | .flt b,u=>∃t,u=Value.float b t
 | .ref a,u=>u=Value.ref a
 | .ty n,u=>u=Value.type n
abbrev Ax:List V->List Value->Prop:=Paired RelV
theorem Ax.length {xs:List V} {us:List Value} (r:Ax xs us):xs.length=us.length:=Paired.length r
theorem Ax.get:∀{xs:List V} {us:List Value} {i:Nat} {x:V},Ax xs us->xs[i]? =some x->∃u,us[i]? =some u/\RelV x u
 | _,_,_,_, .nil,e=>by simp at e
 | _,_,0,_, .cons r _,e=>by simp at e;subst e;exact ⟨_,rfl,r⟩
 | _,_,i+1,x, .cons _ t,e=>by
   obtain ⟨u,h1,h2⟩:=Ax.get (i:=i) (x:=x) t (by simpa using e)
   exact ⟨u,by simpa using h1,h2⟩
theorem Ax.set {x:V} {u:Value} (r:RelV x u):∀{xs:List V} {us:List Value} (i:Nat),Ax xs us->Ax (xs.set i x) (us.set i u)
 | _,_,_, .nil=> .nil
 | _,_,0, .cons _ t=> .cons r t
 | _,_,i+1, .cons q t=> .cons q (Ax.set r i t)
theorem Ax.append:∀{xs ys:List V} {us ws:List Value},Ax xs us->Ax ys ws->Ax (xs++ys) (us++ws)
 | _,_,_,_, .nil,s=>s
 | _,_,_,_, .cons r t,s=> .cons r (Ax.append t s)
theorem Ax.take:∀{xs:List V} {us:List Value} (n:Nat),Ax xs us->Ax (xs.take n) (us.take n)
 | _,_,0,_=> .nil
 | _,_,_+1, .nil=> .nil
 | _,_,n+1, .cons r t=> .cons r (Ax.take n t)
theorem Ax.drop:∀{xs:List V} {us:List Value} (n:Nat),Ax xs us->Ax (xs.drop n) (us.drop n)
 | _,_,0,r=>r
 | _,_,_+1, .nil=> .nil
 | _,_,n+1, .cons _ t=>Ax.drop n t
def Lm:Option V->Option Value->Prop
 | some v,some u=>RelV v u
 | none,none=>True
 | _,_=>False
def KV {κ:Type}:List (κ×V)->List (κ×Value)->Prop:=Paired λ(p:κ×V) (q:κ×Value)=>p.1=q.1/\RelV p.2 q.2
def kV:FS->V
 | .inl i=> .int i
 | .inr x=> .str x
inductive HO where
 | lst (xs:List V)
 | tup (xs:List V)
 | dK (kvs:List (FS×V))|dT (kvs:List (List FS×V))|dN (K:PySem.W.Frag) (kvs:List (PySem.FK×V))
 | set (S:Int->Bool) (n:Nat)
 | ins (C dx:Addr) (fs:List (Str×V))
 | own (x:Addr)
 | xd (fs:List (Str×V))
 | met (f x:Addr)
 | rng (lo hi:Int)
 | frz (o:Obj) (u:HO)
 | tbl (ps:Array Value)
 | ext (φ:Heap->Prop)
abbrev Hp:=Addr->Option HO
def upd (H:Hp) (a:Addr) (o:HO):Hp:=λb=>if b=a then some o else H b
theorem Ah {H:Hp} {a:Addr} {o:HO}:upd H a o a=some o:=by unfold upd;rw [if_pos rfl]
theorem Af {H:Hp} {a b:Addr} {o:HO} (h:b≠a):upd H a o b=H b:=by unfold upd;rw [if_neg h]
theorem kR {H:Hp} {a b:Addr} {o u:HO} (h:H a=some o) (h':H b=some u) (d:o≠u):a≠b:=by
 intro e;subst e;rw [h] at h';exact d (Option.some.inj h')
theorem As {H:Hp} {a b:Addr} {o:HO} (h:H a=some o) (h':H b=none):a≠b:=by
 intro e;subst e;rw [h] at h';cases h'
def Yg (K:PySem.W.Frag) (H:Hp) (b:Addr) (t d:Int):Prop:=H b=some (.tup [.int t, .int d])\/∃(o:Obj) (its:Array Value) (n:Nat),K.lookup b=some o/\o.cls= .type "tuple" /\o.data= .seq its n/\Ax [.int t, .int d] its.toList
def Fu (K:PySem.W.Frag) (H:Hp) (a:Addr) (k:PySem.FK):Prop:=∃b,H a=some (.tup [.ref b, .int k.2])/\Yg K H b k.1.1 k.1.2
theorem Fu.stay {K:PySem.W.Frag} {H H':Hp} {a:Addr} {k:PySem.FK} (x:Fu K H a k) (ht:∀b xs,H b=some (.tup xs)->H' b=some (.tup xs)):Fu K H' a k:=let ⟨b,h1,h2⟩:=x;⟨b,ht _ _ h1,h2.elim (λz=> .inl (ht _ _ z)) .inr⟩
section
variable (P:Program) (w:World)
def Cv (H:Hp) (h:Heap) (a:Addr):HO->Prop
 | .lst xs=>xs.length<=sizeLine/\∃(its:List Value) (n:Nat),Ax xs its/\h.get? a=some {cls:= .type "list",data:= .seq its.toArray n}
 | .tup xs=>xs.length<=sizeLine/\∃its:List Value,Ax xs its/\IsTup h a its.toArray
 | .dK kvs=>kvs.length<=sizeLine/\(a==sysModules)=false/\∃vs,KV kvs vs/\h.DictOf (Qp P w) a vs
 | .dT kvs=>kvs.length<=sizeLine/\(a==sysModules)=false/\∃xs:List (List FS×Addr×Value),
     Paired (λ(p:List FS×V) (q:List FS×Addr×Value)=>p.1=q.1/\H q.2.1=some (.tup (p.1.map kV))/\RelV p.2 q.2.2) kvs xs/\
     ∃o es ep,h.get? a=some o/\o.ExactDict/\o.data= .dict es ep/\es.toList=xs.map (entryOfKey (tupleKind (Qp P w)))/\(xs.map (·.1)).Nodup
 | .dN K kvs=>kvs.length<=sizeLine/\(a==sysModules)=false/\∃xs:List (PySem.FK×Addr×Value),Paired (λ(p:PySem.FK×V) (q:PySem.FK×Addr×Value)=>p.1=q.1/\Fu K H q.2.1 p.1/\RelV p.2 q.2.2) kvs xs/\∃o es ep,h.get? a=some o/\o.ExactDict/\o.data= .dict es ep/\es.toList=xs.map (entryOfKey (PySem.fkKind P w))/\(xs.map (·.1)).Nodup
 | .set S n=>h.SetOf (intKind P w) a S n
 | .ins C dx fs=>H dx=some (.own a)/\fs.length<=1000/\dx≠a/\h.get? a=some (PySem.W.instObj C dx)/\
     ∃mA,h.Ns1 dx mA/\(∀f,Lm (fs.lookup f) (mA f))/\PySem.Within mA (fs.map (·.1))
 | .own _=>∃o,h.get? a=some o
 | .xd fs=>∃mA,h.Ns1 a mA/\∀f,Lm (fs.lookup f) (mA f)
 | .rng lo hi=>∃t u v,h.get? a=some {cls:= .type "range",data:= .fields #[.int lo t, .int hi u, .int 1 v] }
 | .frz o u=>h.get? a=some o/\Cv H h a u
 | .tbl ps=>h.get? a=some {cls:= .none,data:= .fields ps}
 | .met f x=>h.get? a=some (PySem.W.methodObj (.ref f) (.ref x))
 | .ext φ=>φ h/\(∃o,h.get? a=some o)/\∀h1 h2:Heap,φ h1->(∀o,h1.get? a=some o->h2.get? a=some o)->φ h2
def Ll (H:Hp) (h:Heap):Prop:=∀a o,H a=some o->Cv P w H h a o
end
section
variable {P:Program} {w:World} {H H':Hp} {h h':Heap} {a:Addr} {o:HO}
theorem Cv.lt (x:Cv P w H h a o):a<h.objs.size:=by
 cases o with
 | lst xs=>obtain ⟨_,_,_,_,e⟩:=x;exact Heap.lt_size e
 | tup xs=>obtain ⟨_,_,_,p⟩:=x;exact p.lt
 | dK kvs=>obtain ⟨_,_,_,_,o,_,_,e,_⟩:=x;exact Heap.lt_size e
 | dT kvs=>obtain ⟨_,_,_,_,o,_,_,e,_⟩:=x;exact Heap.lt_size e
 | dN K kvs=>obtain ⟨_,_,_,_,o,_,_,e,_⟩:=x;exact Heap.lt_size e
 | set S n=>obtain ⟨o,_,_,_,e,_⟩:=x;exact Heap.lt_size e
 | ins C dx fs=>obtain ⟨_,_,_,e,_⟩:=x;exact Heap.lt_size e
 | own y=>obtain ⟨_,e⟩:=x;exact Heap.lt_size e
 | xd fs=>obtain ⟨_,⟨_,_,_,e,_⟩,_⟩:=x;exact Heap.lt_size e
 | rng lo hi=>obtain ⟨_,_,_,e⟩:=x;exact Heap.lt_size e
 | frz ob u=>obtain ⟨e,_⟩:=x;exact Heap.lt_size e
 | tbl ps=>exact Heap.lt_size (show h.get? a=some _ from x)
 | met f y=>exact Heap.lt_size (show h.get? a=some _ from x)
 | ext φ=>obtain ⟨_,⟨_,e⟩,_⟩:=x;exact Heap.lt_size e
theorem Paired.mapP {α β:Type} {F G:α->β->Prop}:∀{l₁:List α} {l₂:List β},Paired F l₁ l₂->(∀a b,F a b->G a b)->Paired G l₁ l₂
 | _,_, .nil,_=> .nil
 | _,_, .cons r t,f=> .cons (f _ _ r) (Paired.mapP t f)
theorem Cv.stay (x:Cv P w H h a o) (k:∀b u,(b=a\/H b=some (.own a))->h.get? b=some u->h'.get? b=some u)
 (ho:∀b,H b=some (.own a)->H' b=some (.own a)) (ht:∀b xs,H b=some (.tup xs)->H' b=some (.tup xs)):Cv P w H' h' a o:=by
 induction o with
 | lst xs=>obtain ⟨z,its,n,r,e⟩:=x;exact ⟨z,its,n,r,k _ _ (.inl rfl) e⟩
 | tup xs=>obtain ⟨z,its,r,ob,e,c⟩:=x;exact ⟨z,its,r,ob,k _ _ (.inl rfl) e,c⟩
 | dK kvs=>obtain ⟨z,y,vs,r,ob,es,ep,e,c⟩:=x;exact ⟨z,y,vs,r,ob,es,ep,k _ _ (.inl rfl) e,c⟩
 | dT kvs=>
   obtain ⟨z,y,xs,r,ob,es,ep,e,c⟩:=x
   exact ⟨z,y,xs,Paired.mapP r λp q z=>⟨z.1,ht _ _ z.2.1,z.2.2⟩,ob,es,ep,k _ _ (.inl rfl) e,c⟩
 | dN K kvs=>
   obtain ⟨z,y,xs,r,ob,es,ep,e,c⟩:=x
   exact ⟨z,y,xs,Paired.mapP r λp q z=>⟨z.1,z.2.1.stay ht,z.2.2⟩,ob,es,ep,k _ _ (.inl rfl) e,c⟩
 | set S n=>obtain ⟨ob,es,ep,t,e,c⟩:=x;exact ⟨ob,es,ep,t,k _ _ (.inl rfl) e,c⟩
 | ins C dx fs=>
   obtain ⟨d,z,ne,e,mA,⟨od,es,ep,e2,c⟩,r⟩:=x
   exact ⟨ho _ d,z,ne,k _ _ (.inl rfl) e,mA,⟨od,es,ep,k _ _ (.inr d) e2,c⟩,r⟩
 | own y=>obtain ⟨ob,e⟩:=x;exact ⟨ob,k _ _ (.inl rfl) e⟩
 | xd fs=>obtain ⟨mA,⟨od,es,ep,e,c⟩,r⟩:=x;exact ⟨mA,⟨od,es,ep,k _ _ (.inl rfl) e,c⟩,r⟩
 | rng lo hi=>obtain ⟨t,u,v,e⟩:=x;exact ⟨t,u,v,k _ _ (.inl rfl) e⟩
 | frz ob u ih=>obtain ⟨e,q⟩:=x;exact ⟨k _ _ (.inl rfl) e,ih q⟩
 | tbl ps=>
   have e:h.get? a=some {cls:= .none,data:= .fields ps}:=x
   show h'.get? a=some {cls:= .none,data:= .fields ps}
   exact k a _ (.inl rfl) e
 | met f y=>
   have e:h.get? a=some (PySem.W.methodObj (.ref f) (.ref y)):=x
   show h'.get? a=some (PySem.W.methodObj (.ref f) (.ref y))
   exact k a _ (.inl rfl) e
 | ext φ=>obtain ⟨p,⟨o,e⟩,st⟩:=x;exact ⟨st _ _ p λo q=>k _ _ (.inl rfl) q,⟨o,k _ _ (.inl rfl) e⟩,st⟩
theorem Ll.lt (x:Ll P w H h) (e:H a=some o):a<h.objs.size:=(x a o e).lt
theorem Ll.fresh (x:Ll P w H h) (e:h.objs.size<=a):H a=none:=by
 cases q:H a with
 | none=>rfl
 | some u=>exact absurd (Nat.lt_of_lt_of_le (x.lt q) e) (Nat.lt_irrefl _)
theorem Ll.kept (x:Ll P w H h) (k:∀b u,h.get? b=some u->h'.get? b=some u):Ll P w H h':=λa o e=>
 (x a o e).stay (λb u _ q=>k b u q) (λ_ q=>q) λ_ _ q=>q
theorem Ll.laid (x:Ll P w H h) (k:∀b u,h.get? b=some u->h'.get? b=some u) (hp:h.objs.size<=a) (new:Cv P w (upd H a o) h' a o):Ll P w (upd H a o) h':=λb u e=>by
 have hn:=x.fresh hp
 by_cases hb:b=a
 ·subst hb;rw [Ah] at e;cases e;exact new
 ·rw [Af hb] at e
  exact (x b u e).stay (λc v _ q=>k c v q) (λc q=>by rw [Af (As q hn)];exact q) λc xs q=>by rw [Af (As q hn)];exact q
end
def Rd (H:Hp) (a:Addr) (u:HO):Prop:=H a=some u\/∃o,H a=some (.frz o u)
theorem Rd.of {H:Hp} {a:Addr} {u:HO} (h:H a=some u):Rd H a u:= .inl h
theorem Rd.ok {P:Program} {w:World} {H:Hp} {h:Heap} {a:Addr} {u:HO} (r:Rd H a u) (x:Ll P w H h):Cv P w H h a u:=by
 rcases r with r|⟨o,r⟩
 ·exact x a u r
 ·obtain ⟨_,q⟩:=x a _ r
  exact q
def ja:Option HO->Prop
 | some (.lst _)=>True
 | some (.dK _)=>True
 | some (.dT _)=>True
 | some (.dN _ _)=>True
 | some (.set _ _)=>True
 | some (.ins _ _ _)=>True
 | some (.ext _)=>True
 | _=>False
section
variable {P:Program} {w:World} {H:Hp} {h h':Heap} {x e:Addr} {o':HO}
theorem Ll.write (ok:Ll P w H h) (mu:ja (H x)) (he:e=x\/H e=some (.own x)) (k:∀b u,b≠e->h.get? b=some u->h'.get? b=some u) (i9:∃u,h'.get? e=some u)
 (new:Cv P w (upd H x o') h' x o'):Ll P w (upd H x o') h':=λb u q=>by
 have nown:∀c y,H c=some (.own y)->c≠x:=λc y r z=>by subst z;rw [r] at mu;exact mu
 have ntup:∀c xs,H c=some (.tup xs)->c≠x:=λc xs r z=>by subst z;rw [r] at mu;exact mu
 by_cases hb:b=x
 ·subst hb;rw [Ah] at q;cases q;exact new
 ·rw [Af hb] at q
  by_cases PK:b=e
  ·have q':H b=some (.own x):=by
    rcases he with z|z
    ·exact absurd (PK.trans z) hb
    ·rw [PK];exact z
   rw [q] at q';cases q'
   obtain ⟨v,hv⟩:=i9
   exact ⟨v,by rw [PK];exact hv⟩
  ·refine (ok b u q).stay (λc v hc r=>k c v ?_ r) (λc r=>by rw [Af (nown c b r)];exact r) λc xs r=>by rw [Af (ntup c xs r)];exact r
   rcases hc with rfl|hc
   ·exact PK
   ·rintro rfl
    rcases he with z|z
    ·exact nown c b hc z
    ·rw [hc] at z;cases z;exact hb rfl
end
structure Un (fs ex:List Addr) (H H':Hp) (h h':Heap):Prop where
 keep:∀b o,h.get? b=some o->H b=none->b ∉ fs->b ∉ ex->h'.get? b=some o
 slot:∀b o,h.get? b=some o->H b=none->b∈fs->b ∉ ex->∃sl,h'.get? b=some {o with slots:=sl}
 free:∀b o,h.get? b=some o->H b=none->b ∉ ex->H' b=none
 there:∀b o,h.get? b=some o->b ∉ ex->∃o',h'.get? b=some o'
 tups:∀b xs,H b=some (.tup xs)->H' b=some (.tup xs)
 frzs:∀b o u,H b=some (.frz o u)->H' b=some (.frz o u)
 tbls:∀b ps,H b=some (.tbl ps)->∃more,H' b=some (.tbl (ps++more))
section
variable {fs fs' ex ex':List Addr} {H H1 H2:Hp} {h h1 h2 h':Heap} {a x e:Addr} {o:HO}
theorem Un.any (u:Un fs ex H H1 h h1) {b:Addr} {ob:Obj} (q:h.get? b=some ob) (n:H b=none) (hx:b ∉ ex):∃sl,h1.get? b=some {ob with slots:=sl}:=by
 by_cases hb:b∈fs
 ·exact u.slot b ob q n hb hx
 ·exact ⟨ob.slots,u.keep b ob q n hb hx⟩
theorem Un.trans (a:Un fs ex H H1 h h1) (b:Un fs ex H1 H2 h1 h2):Un fs ex H H2 h h2 where
 keep:=λc ob q n hc hx=>b.keep c ob (a.keep c ob q n hc hx) (a.free c ob q n hx) hc hx
 slot:=λc ob q n hc hx=>by
  obtain ⟨sl,e1⟩:=a.slot c ob q n hc hx
  obtain ⟨sl',e2⟩:=b.slot c _ e1 (a.free c ob q n hx) hc hx
  exact ⟨sl',e2⟩
 free:=λc ob q n hx=>by
  obtain ⟨o',e1⟩:=a.there c ob q hx
  exact b.free c o' e1 (a.free c ob q n hx) hx
 there:=λc ob q hx=>by
  obtain ⟨o',e1⟩:=a.there c ob q hx
  exact b.there c o' e1 hx
 tups:=λc xs q=>b.tups c xs (a.tups c xs q)
 frzs:=λc ob xs q=>b.frzs c ob xs (a.frzs c ob xs q)
 tbls:=λc ps q=>by
  obtain ⟨m1,e1⟩:=a.tbls c ps q
  obtain ⟨m2,e2⟩:=b.tbls c _ e1
  exact ⟨m1++m2,by rw [e2,Array.append_assoc]⟩
theorem Un.kept (k:∀b u,h.get? b=some u->h'.get? b=some u):Un fs ex H H h h':=
 ⟨λb ob q _ _ _=>k b ob q,λb ob q _ _ _=>⟨ob.slots,k b ob q⟩,λ_ _ _ n _=>n,λb ob q _=>⟨ob,k b ob q⟩,λ_ _ q=>q,λ_ _ _ q=>q,λ_ ps q=>⟨#[],by rw [q];simp⟩⟩
theorem Un.refl:Un fs ex H H h h:=Un.kept λ_ _ q=>q
theorem Un.laid (k:∀b u,h.get? b=some u->h'.get? b=some u) (hp:h.objs.size<=a) (hn:H a=none):Un fs ex H (upd H a o) h h' where
 keep:=λb u q _ _ _=>k b u q
 slot:=λb u q _ _ _=>⟨u.slots,k b u q⟩
 free:=λb u q n _=>by rw [Af (Nat.ne_of_lt (Nat.lt_of_lt_of_le (Heap.lt_size q) hp))];exact n
 there:=λb u q _=>⟨u,k b u q⟩
 tups:=λb xs q=>by rw [Af (As q hn)];exact q
 frzs:=λb u xs q=>by rw [Af (As q hn)];exact q
 tbls:=λb ps q=>⟨#[],by rw [Af (As q hn),q];simp⟩
theorem Un.write (mu:ja (H x)) (he:e=x\/H e=some (.own x)) (k:∀b u,b≠e->h.get? b=some u->h'.get? b=some u) (i9:∃u,h'.get? e=some u):Un fs ex H (upd H x o) h h':=by
 have hx:∀b,H b=none->b≠x:=λb n z=>by subst z;rw [n] at mu;exact mu
 have hb:∀b,H b=none->b≠e:=λb n z=>by
  subst z
  rcases he with r|r
  ·exact hx b n r
  ·rw [n] at r;cases r
 have hm:∀b u,H b=some u->¬ja (some u)->b≠x:=λb u q nm z=>by subst z;rw [q] at mu;exact nm mu
 refine ⟨λb u q n _ _=>k b u (hb b n) q,λb u q n _ _=>⟨u.slots,k b u (hb b n) q⟩,λb u q n _=>by rw [Af (hx b n)];exact n,λb u q _=> ?_,
  λb xs q=>by rw [Af (hm b _ q λz=>z)];exact q,λb u xs q=>by rw [Af (hm b _ q λz=>z)];exact q,λb ps q=>⟨#[],by rw [Af (hm b _ q λz=>z),q];simp⟩⟩
 by_cases PK:b=e
 ·subst PK;exact i9
 ·exact ⟨u,k b u PK q⟩
theorem Un.mono (u:Un fs ex H H1 h h1) (hs:∀b∈fs,b∈fs') (hx:∀b∈ex,b∈ex'):Un fs' ex' H H1 h h1:=
 ⟨λb ob q n hb he=>u.keep b ob q n (λz=>hb (hs b z)) λz=>he (hx b z),λ_ _ q n _ he=>u.any q n λz=>he (hx _ z),λb ob q n he=>u.free b ob q n λz=>he (hx b z),λb ob q he=>u.there b ob q λz=>he (hx b z),u.tups,u.frzs,u.tbls⟩
end
def mL (h:Heap) (H:Hp):List Addr:=(List.range h.objs.size).filter λa=>(H a).isSome
def QY (h:Heap) (H:Hp):Heap:=PySem.W.hideAll h (mL h H)
theorem XN (h:Heap) (H:Hp):(QY h H).objs.size=h.objs.size:=PySem.W.hideAll_size _ _
theorem ZB {h:Heap} {H:Hp} {b:Addr} {o:Obj} (e:h.get? b=some o) (n:H b=none):(QY h H).get? b=some o:=
 PySem.W.hideAll_get _ e λhm=>by
  have q:(H b).isSome=true:=(List.mem_filter.mp hm).2
  rw [n] at q;simp at q
theorem cV {h:Heap} {H:Hp} {b:Addr} {o:Obj} (e:(QY h H).get? b=some o):h.get? b=some o/\H b=none:=by
 have e':h.get? b=some o:=PySem.W.of_hideAll (mL h H) e
 refine ⟨e', ?_⟩
 cases q:H b with
 | none=>rfl
 | some x=>
   have hm:b∈mL h H:=List.mem_filter.mpr ⟨List.mem_range.mpr (Heap.lt_size e'),by simp [q]⟩
   have z:(QY h H).get? b=none:=PySem.W.hideAll_none (mL h H) hm
   rw [z] at e;cases e
def bP (g h:Heap) (L:Addr):List (Addr×Obj):=(List.range h.objs.size).filterMap λa=>if a=L\/(g.get? a).isSome=true then none else (h.get? a).map λo=>(a,o)
def rest (g h:Heap) (L d:Addr):List (Addr×Obj):=(bP g h L).filter λp=>decide (p.1≠d)
end L2
namespace L2
open PySem PySem.Spec PyProof.Rows
structure Mod (K:PySem.W.Frag) (mg:Str->Option Value) (base:Heap):Prop where
 kin:K.In base
 glob:base.Ns mainGlobals mg
 blt:∃mb,base.Ns builtinsNs mb/\∀x:Str,x≠"__name__" ->mb x=bootBuiltins x
 nolimit:base.NoLimit
structure Cx where
 prog:Program
 w:World
 K:PySem.W.Frag
 mg:Str->Option Value
 base:Heap
 A:Around
 N:List Str
 s₀:Shared
 H₀:Hp
 env:Env
 outer:List Env
 stack:List Env
 ex:List Addr
 fn:Str->Bool
 calm:Bool
 pn:List (Addr×Obj)
 xe:Value->Shared->Prop
def YA (l:List Env):List Addr:=l.filterMap (·.frame)
abbrev Cx.fs (X:Cx):List Addr:=YA X.outer
def fg (sc:Scope) (x:Str):Prop:=sc.names.lookup x=some .local\/sc.names.lookup x=some .cell\/sc.names.lookup x=some .free
def Loc (sc:Scope) (x:Str):Prop:=sc.names.lookup x=some .local\/sc.names.lookup x=some .cell
def Look (env:Env) (h:Heap) (m:Str->Option Value) (x:Str) (u:Value):Prop:=
 (env.kindOf x=some .local/\m x=some u)\/((env.kindOf x=some .cell\/env.kindOf x=some .free)/\∃c,env.cells.lookup x=some c/\h.IsCell c (some u))
structure Cx.Ok (X:Cx):Prop where
 mod:Mod X.K X.mg X.base
 kind:X.env.scope.kind= .function
 glob:X.env.globals=mainGlobals
 blt:X.env.builtins=builtinsNs
 above:X.s₀.heap.objs.size<=X.env.locals
 inj:∀x y c,X.env.cells.lookup x=some c->X.env.cells.lookup y=some c->x=y
 has:∀x,(X.env.kindOf x=some .cell\/X.env.kindOf x=some .free)->∃c,X.env.cells.lookup x=some c
 cab:∀x c,X.fn x=true->X.env.cells.lookup x=some c->X.s₀.heap.objs.size<=c
 hd:X.calm=true->X.A.handled=none
 frames:X.A.frames=some X.stack
 stk:X.stack=X.outer\/(X.stack=X.env::X.outer/\X.env.frame=some X.env.locals)
 exf:∀b∈X.ex,b≠X.env.locals/\∀x c,X.env.cells.lookup x=some c->c≠b
 bs:∀b o,X.base.get? b=some o->X.s₀.heap.get? b=some o/\X.H₀ b=none
 bsz:X.base.objs.size<=X.s₀.heap.objs.size
 noex:∀b o,X.base.get? b=some o->b ∉ X.ex
 exfs:∀b∈X.ex,b ∉ X.fs
 funs:X.s₀.heap.FunFrames X.base X.outer
 frf:∀b∈X.fs,X.H₀ b=none
structure Inv (X:Cx) (pins:List (Addr×Obj)) (σ:List (Option V)) (H:Hp) (s:Shared):Prop where
 ok:X.Ok
 os:s.os=X.s₀.os
 bare:AllBare s.gens
 base:Un X.fs X.ex X.H₀ H X.s₀.heap s.heap
 loc:∃m,s.heap.Ns X.env.locals m/\∀(i:Nat) (x:Str) (v:V),X.N[i]? =some x->σ[i]? =some (some v)->fg X.env.scope x->∃u,RelV v u/\Look X.env s.heap m x u
 cell:∀x c,X.env.cells.lookup x=some c->∃v,s.heap.IsCell c v
 free:H X.env.locals=none
 freeC:∀x c,X.env.cells.lookup x=some c->H c=none
 pin:∀p∈X.pn++pins,s.heap.get? p.1=some p.2/\H p.1=none/\p.1≠X.env.locals/\p.1 ∉ X.fs/\∀v,p.2.data≠ .cell v
 hok:Ll X.prog X.w H s.heap
 len:σ.length=X.N.length
section
variable {X:Cx} {pins:List (Addr×Obj)} {σ:List (Option V)} {H H':Hp} {s:Shared} {h':Heap}
theorem Cx.Ok.nofr (ok:X.Ok) {b:Addr} {o:Obj} (e:X.base.get? b=some o):b ∉ X.fs:=λhb=>by
 have:=(ok.funs.mem hb).1
 rw [e] at this;cases this
theorem Inv.bs (I:Inv X pins σ H s):∀b o,X.base.get? b=some o->s.heap.get? b=some o/\H b=none:=λb o e=>
 ⟨I.base.keep b o (I.ok.bs b o e).1 (I.ok.bs b o e).2 (I.ok.nofr e) (I.ok.noex b o e),I.base.free b o (I.ok.bs b o e).1 (I.ok.bs b o e).2 (I.ok.noex b o e)⟩
theorem Inv.bk (I:Inv X pins σ H s):∀b o,X.base.get? b=some o->s.heap.get? b=some o:=λb o e=>(I.bs b o e).1
theorem Inv.mod (I:Inv X pins σ H s):Mod X.K X.mg X.base:=I.ok.mod
theorem Inv.kIn (I:Inv X pins σ H s):X.K.In s.heap:=I.ok.mod.kin.keeps I.bk
theorem Inv.nolimit (I:Inv X pins σ H s):s.heap.NoLimit:=I.ok.mod.nolimit.keeps I.bk
theorem Inv.fr (I:Inv X pins σ H s):∃m,Fr X.base X.env.locals s.heap m:=
 let ⟨m,hn,_⟩:=I.loc
 ⟨m,hn,I.bk,Nat.le_trans I.ok.bsz I.ok.above⟩
theorem Inv.lt (I:Inv X pins σ H s):X.env.locals<s.heap.objs.size:=let ⟨_,hn,_⟩:=I.loc;hn.lt
theorem Inv.sz (I:Inv X pins σ H s):X.s₀.heap.objs.size<=s.heap.objs.size:=Nat.le_trans I.ok.above (Nat.le_of_lt I.lt)
theorem Inv.nofs (I:Inv X pins σ H s) {a:Addr} (h:s.heap.objs.size<=a):a ∉ X.fs:=λhb=>by
 obtain ⟨_,o,ho,_⟩:=I.ok.funs.mem hb
 exact absurd (Nat.lt_of_lt_of_le (Heap.lt_size ho) (Nat.le_trans I.sz h)) (Nat.lt_irrefl _)
theorem Inv.cne (I:Inv X pins σ H s):∀x c,X.env.cells.lookup x=some c->c≠X.env.locals:=λx c e z=>by
 obtain ⟨v,o,ho,hd⟩:=I.cell x c e
 obtain ⟨m,⟨o',es,ep,YC,eJ,_⟩,_⟩:=I.loc
 rw [z,YC] at ho;cases ho;rw [eJ] at hd;cases hd
theorem Inv.funs (I:Inv X pins σ H s):s.heap.FunFrames X.base X.outer:=by
 have all:∀(l:List Env),(∀b∈YA l,b∈X.fs)->X.s₀.heap.FunFrames X.base l->s.heap.FunFrames X.base l:=by
  intro l
  induction l with
  | nil=>intro _ _;trivial
  | cons env r ih=>
    intro hs hl
    obtain ⟨hk,⟨L,o,hf,hn,ho,hd⟩,hr⟩:=hl
    have hL:L∈X.fs:=hs L (by unfold YA;rw [List.filterMap_cons,hf];exact List.mem_cons_self)
    obtain ⟨sl,e⟩:=I.base.slot L o ho (I.ok.frf L hL) hL λz=>I.ok.exfs L z hL
    exact ⟨hk,⟨L,_,hf,hn,e,hd⟩,ih (λb hb=>hs b (by unfold YA;rw [List.filterMap_cons,hf];exact List.mem_cons_of_mem _ hb)) hr⟩
 exact all X.outer (λ_ hb=>hb) I.ok.funs
theorem Inv.stack (I:Inv X pins σ H s):s.heap.FunFrames X.base X.stack:=by
 rcases I.ok.stk with e|⟨e,hf⟩
 ·rw [e];exact I.funs
 ·rw [e]
  obtain ⟨m,hn,_⟩:=I.loc
  refine .cons (by rw [I.ok.kind];decide) hf hn ?_ I.funs
  exact Heap.get?_none_of_le (Nat.le_trans I.ok.bsz I.ok.above)
theorem Inv.stkSub (I:Inv X pins σ H s):∀b∈YA X.stack,b∈X.env.locals::X.fs:=λb hb=>by
 rcases I.ok.stk with e|⟨e,hf⟩
 ·rw [e] at hb;exact List.mem_cons_of_mem _ hb
 ·rw [e] at hb
  unfold YA at hb
  rw [List.filterMap_cons,hf] at hb
  exact hb
theorem Inv.stkFree (I:Inv X pins σ H s):∀b∈YA X.stack,H b=none:=λb hb=>by
 rcases List.mem_cons.mp (I.stkSub b hb) with e|hb
 ·rw [e];exact I.free
 ·obtain ⟨_,o,ho,_⟩:=I.ok.funs.mem hb
  exact I.base.free b o ho (I.ok.frf b hb) λz=>I.ok.exfs b z hb
theorem Inv.step {g':Array GenState} {t':Nat} {d':Drawn} {ch:List Addr} (I:Inv X pins σ H s)
 (MC:∀b∈ch,(b∈X.ex\/X.s₀.heap.objs.size<=b)/\b≠X.env.locals/\(∀x c,X.env.cells.lookup x=some c->c≠b)/\∀p∈X.pn++pins,p.1≠b)
 (keep:∀b o,b≠X.env.locals->b ∉ X.fs->b ∉ ch->s.heap.get? b=some o->H b=none->h'.get? b=some o)
 (slot:∀b o,b≠X.env.locals->b∈X.fs->b ∉ ch->s.heap.get? b=some o->H b=none->∃sl,h'.get? b=some {o with slots:=sl}) (free:∀b o,b ∉ ch->s.heap.get? b=some o->H b=none->H' b=none)
 (there:∀b o,b ∉ ch->s.heap.get? b=some o->∃o',h'.get? b=some o')
 (tups:∀b xs,H b=some (.tup xs)->H' b=some (.tup xs)) (frzs:∀b o u,H b=some (.frz o u)->H' b=some (.frz o u)) (tbls:∀b ps,H b=some (.tbl ps)->∃more,H' b=some (.tbl (ps++more)))
 (ns:∀m,s.heap.Ns X.env.locals m->h'.Ns X.env.locals m) (hok:Ll X.prog X.w H' h') (hg:AllBare g'):
 Inv X pins σ H' {s with heap:=h',gens:=g',drawn:=d',toks:=t'}:=by
 have neL:∀b o,X.s₀.heap.get? b=some o->b≠X.env.locals:=λb o e=>Nat.ne_of_lt (Nat.lt_of_lt_of_le (Heap.lt_size e) I.ok.above)
 have neC:∀b o,X.s₀.heap.get? b=some o->b ∉ X.ex->b ∉ ch:=λb o e hx hb=>by
  rcases (MC b hb).1 with z|z
  ·exact hx z
  ·exact absurd (Nat.lt_of_lt_of_le (Heap.lt_size e) z) (Nat.lt_irrefl _)
 have cellK:∀x c,X.env.cells.lookup x=some c->∀v,s.heap.IsCell c v->h'.IsCell c v:=λx c e v ⟨o,ho,hd⟩=>by
  have nch:c ∉ ch:=λz=>(MC c z).2.2.1 x c e rfl
  by_cases hc:c∈X.fs
  ·obtain ⟨sl,q⟩:=slot c o (I.cne x c e) hc nch ho (I.freeC x c e)
   exact ⟨_,q,hd⟩
  ·exact ⟨o,keep c o (I.cne x c e) hc nch ho (I.freeC x c e),hd⟩
 refine ⟨I.ok,I.os,hg,⟨λb o e n hb hx=> ?_,λb o e n hb hx=> ?_,λb o e n hx=> ?_,λb o e hx=> ?_,λb xs e=>tups b xs (I.base.tups b xs e),λb o xs e=>frzs b o xs (I.base.frzs b o xs e),λb ps e=> ?_⟩, ?_,λx c e=> ?_, ?_,λx c e=> ?_,λp hp=> ?_,hok,I.len⟩
 ·exact keep b o (neL b o e) hb (neC b o e hx) (I.base.keep b o e n hb hx) (I.base.free b o e n hx)
 ·obtain ⟨sl,e1⟩:=I.base.slot b o e n hb hx
  obtain ⟨sl',e2⟩:=slot b _ (neL b o e) hb (neC b o e hx) e1 (I.base.free b o e n hx)
  exact ⟨sl',e2⟩
 ·obtain ⟨o',e1⟩:=I.base.there b o e hx
  exact free b o' (neC b o e hx) e1 (I.base.free b o e n hx)
 ·obtain ⟨o',e1⟩:=I.base.there b o e hx
  exact there b o' (neC b o e hx) e1
 ·obtain ⟨m1,e1⟩:=I.base.tbls b ps e
  obtain ⟨m2,e2⟩:=tbls b _ e1
  exact ⟨m1++m2,by rw [e2,Array.append_assoc]⟩
 ·obtain ⟨m,hn,hl⟩:=I.loc
  refine ⟨m,ns m hn,λi x v e1 e2 e3=> ?_⟩
  obtain ⟨u,r,l⟩:=hl i x v e1 e2 e3
  refine ⟨u,r, ?_⟩
  rcases l with l|⟨k,c,e,z⟩
  ·exact .inl l
  ·exact .inr ⟨k,c,e,cellK x c e _ z⟩
 ·obtain ⟨v,z⟩:=I.cell x c e
  exact ⟨v,cellK x c e v z⟩
 ·obtain ⟨m,⟨o,_,_,ho,_⟩,_⟩:=I.loc
  exact free _ o (λz=>(MC _ z).2.1 rfl) ho I.free
 ·obtain ⟨v,o,ho,hd⟩:=I.cell x c e
  exact free c o (λz=>(MC c z).2.2.1 x c e rfl) ho (I.freeC x c e)
 ·obtain ⟨e,n,ne,nf,d⟩:=I.pin p hp
  have nch:p.1 ∉ ch:=λz=>(MC p.1 z).2.2.2 p hp rfl
  exact ⟨keep p.1 p.2 ne nf nch e n,free p.1 p.2 nch e n,ne,nf,d⟩
theorem Inv.un {t':Nat} (I:Inv X pins σ H s) (u:Un X.fs [] H H' s.heap h') (hok:Ll X.prog X.w H' h'):Inv X pins σ H' {s with heap:=h',toks:=t'}:=by
 obtain ⟨m,⟨o,es,ep,ho,r⟩,_⟩:=id I.loc
 obtain ⟨sl,hL⟩:=u.any ho I.free (by simp)
 exact I.step (g':=s.gens) (d':=s.drawn) (ch:= []) (λ_ z=>nomatch z) (λb o _ hb _ e n=>u.keep b o e n hb (by simp)) (λb o _ hb _ e n=>u.slot b o e n hb (by simp)) (λb o _ e n=>u.free b o e n (by simp)) (λb o _ e=>u.there b o e (by simp)) u.tups u.frzs u.tbls (λm' hm=>by
  obtain ⟨o',es',ep',YC,r'⟩:=hm
  rw [ho] at YC;cases YC
  exact ⟨_,es',ep',hL,r'⟩) hok I.bare
theorem Inv.call {g':Array GenState} {t':Nat} {d':Drawn} {ch:List Addr} (I:Inv X pins σ H s) (u:Un (YA X.stack) ch H H' s.heap h') (hok:Ll X.prog X.w H' h') (hg:AllBare g')
 (MC:∀b∈ch,(b∈X.ex\/X.s₀.heap.objs.size<=b)/\b≠X.env.locals/\(∀x c,X.env.cells.lookup x=some c->c≠b)/\∀p∈X.pn++pins,p.1≠b):
 Inv X pins σ H' {s with heap:=h',gens:=g',drawn:=d',toks:=t'}:=by
 obtain ⟨m,⟨o,es,ep,ho,r⟩,_⟩:=id I.loc
 obtain ⟨sl,hL⟩:=u.any ho I.free λz=>(MC _ z).2.1 rfl
 exact I.step (ch:=ch) MC (λb o hL hb hc e n=>u.keep b o e n (λz=>(List.mem_cons.mp (I.stkSub b z)).elim hL hb) hc) (λb o _ _ hc e n=>u.any e n hc) (λb o hc e n=>u.free b o e n hc) (λb o hc e=>u.there b o e hc) u.tups u.frzs u.tbls (λm' hm=>by
  obtain ⟨o',es',ep',YC,r'⟩:=hm
  rw [ho] at YC;cases YC
  exact ⟨_,es',ep',hL,r'⟩) hok hg
theorem Inv.turned {t':Nat} {it:Addr} (I:Inv X pins σ H s) (k:∀b o,b≠it->s.heap.get? b=some o->h'.get? b=some o) (hn:H it=none) (hL:it≠X.env.locals)
 (h1:it∈X.ex\/X.s₀.heap.objs.size<=it) (h2:∀x c,X.env.cells.lookup x=some c->c≠it) (h3:∀p∈X.pn++pins,p.1≠it):Inv X pins σ H {s with heap:=h',toks:=t'}:=by
 have nit:∀b u,H b=some u->b≠it:=λb u e z=>by rw [z,hn] at e;cases e
 refine I.step (g':=s.gens) (d':=s.drawn) (ch:= [it]) (λb hb=> ?_) (λb o _ _ hc e _=>k b o (λz=>hc (by simp [z])) e) (λb o _ _ hc e _=>⟨o.slots,k b o (λz=>hc (by simp [z])) e⟩) (λ_ _ _ _ n=>n)
  (λb o hc e=>⟨o,k b o (λz=>hc (by simp [z])) e⟩) (λ_ _ e=>e) (λ_ _ _ e=>e) (λb ps e=>⟨#[],by rw [e];simp⟩) (λm hm=> ?_) (λb u e=> ?_) I.bare
 ·have e:b=it:=by simpa using hb
  subst e
  exact ⟨h1,hL,h2,h3⟩
 ·obtain ⟨o,es,ep,ho,r⟩:=hm
  exact ⟨o,es,ep,k _ o (Ne.symm hL) ho,r⟩
 ·refine (I.hok b u e).stay (λc v hc q=>k c v ?_ q) (λ_ q=>q) λ_ _ q=>q
  rcases hc with z|z
  ·rw [z];exact nit b u e
  ·exact nit c _ z
theorem Inv.tok (I:Inv X pins σ H s) (t:Nat):Inv X pins σ H {s with toks:=t}:=I.un (h':=s.heap) (t':=t) Un.refl I.hok
theorem Inv.kept {t':Nat} (I:Inv X pins σ H s) (k:∀b u,s.heap.get? b=some u->h'.get? b=some u):Inv X pins σ H {s with heap:=h',toks:=t'}:=I.un (Un.kept k) (I.hok.kept k)
theorem Inv.laid {a:Addr} {o:HO} {t':Nat} (I:Inv X pins σ H s) (k:∀b u,s.heap.get? b=some u->h'.get? b=some u) (hp:s.heap.objs.size<=a) (new:Cv X.prog X.w (upd H a o) h' a o):
 Inv X pins σ (upd H a o) {s with heap:=h',toks:=t'}:=I.un (Un.laid k hp (I.hok.fresh hp)) (I.hok.laid k hp new)
theorem Inv.write {x e:Addr} {o:HO} {t':Nat} (I:Inv X pins σ H s) (mu:ja (H x)) (he:e=x\/H e=some (.own x)) (k:∀b u,b≠e->s.heap.get? b=some u->h'.get? b=some u) (i9:∃u,h'.get? e=some u)
 (new:Cv X.prog X.w (upd H x o) h' x o):Inv X pins σ (upd H x o) {s with heap:=h',toks:=t'}:=I.un (Un.write mu he k i9) (I.hok.write mu he k i9 new)
theorem Inv.weak {σ':List (Option V)} (I:Inv X pins σ H s) (hl:σ'.length=σ.length) (w:∀(i:Nat) v,σ'[i]? =some (some v)->σ[i]? =some (some v)):Inv X pins σ' H s:=
 ⟨I.ok,I.os,I.bare,I.base,let ⟨m,hn,t8⟩:=I.loc;⟨m,hn,λi x v e1 e2 e3=>t8 i x v e1 (w i v e2) e3⟩,I.cell,I.free,I.freeC,I.pin,I.hok,hl.trans I.len⟩
theorem Inv.pins_of {pins':List (Addr×Obj)} (I:Inv X pins σ H s) (h:∀p∈pins',s.heap.get? p.1=some p.2/\H p.1=none/\p.1≠X.env.locals/\p.1 ∉ X.fs/\∀v,p.2.data≠ .cell v):Inv X pins' σ H s:=
 ⟨I.ok,I.os,I.bare,I.base,I.loc,I.cell,I.free,I.freeC,λp hp=>(List.mem_append.mp hp).elim (λz=>I.pin p (List.mem_append_left _ z)) (h p),I.hok,I.len⟩
theorem S5 {N:List Str} (hN:N.Nodup) {i j:Nat} {x:Str} (a:N[i]? =some x) (b:N[j]? =some x):i=j:=by
 obtain ⟨h1,e1⟩:=List.getElem?_eq_some_iff.mp a
 obtain ⟨h2,e2⟩:=List.getElem?_eq_some_iff.mp b
 exact (List.getElem_inj hN).mp (e1.trans e2.symm)
theorem Pn {M:Model} {A:Around} {E:Value->Shared->Prop} {i:Nat} {x:Str} {v:V} {u:Value} {Q:Unit->Shared->Prop} (I:Inv X pins σ H s) (hN:X.N.Nodup) (hi:X.N[i]? =some x) (hx:Loc X.env.scope x) (r:RelV v u)
 (h:∀s',Inv X pins (σ.set i (some v)) H s'->(∃a,Heap.SameBut a s.heap s'.heap/\(a=X.env.locals\/X.env.cells.lookup x=some a))->Q () s') (hf:X.fn x=true\/X.env.scope.names.lookup x=some .local:=by first | exact .inl rfl|exact .inr rfl|assumption):wpAny M A (storeName X.env x u) Q E s:=by
 obtain ⟨m,hn,hl⟩:=id I.loc
 have nK:(X.env.scope.kind == .class||(X.env.scope.kind == .module&&X.env.locals != X.env.globals))=false:=by rw [I.ok.kind];rfl
 have hiσ:i<σ.length:=by rw [I.len];exact (List.getElem?_eq_some_iff.mp hi).1
 have cne:=I.cne
 have tracked:∀{a:Addr} {h':Heap},(∃o,s.heap.get? a=some o/\H a=none)->Heap.SameBut a s.heap h'->Ll X.prog X.w H h':=λ{a h'} ha hs b ob e=>by
  obtain ⟨_,_,eM⟩:=ha
  refine (I.hok b ob e).stay (λc w' hc q=>(hs.2 c ?_).trans q) (λ_ q=>q) λ_ _ q=>q
  rintro rfl
  rcases hc with rfl|hc
  ·rw [eM] at e;cases e
  ·rw [eM] at hc;cases hc
 rcases hx with hk|hk
 ·refine wpAny_storeName_local hk hn (λh' uE hs=> ?_) nK
  obtain ⟨oL,_,_,uH,_⟩:=id hn
  refine h _ ⟨I.ok,I.os,I.bare,⟨λb o e n hb hx=> ?_,λb o e n hb hx=> ?_,I.base.free,λb o e hx=> ?_,I.base.tups,I.base.frzs,I.base.tbls⟩,⟨_,uE,λj y v' e1 e2 e3=> ?_⟩,λy c e=> ?_,I.free,I.freeC,λp hp=> ?_,tracked ⟨oL,uH,I.free⟩ hs,by simpa using I.len⟩ ⟨_,hs, .inl rfl⟩
  ·exact (hs.2 b (Nat.ne_of_lt (Nat.lt_of_lt_of_le (Heap.lt_size e) I.ok.above))).trans (I.base.keep b o e n hb hx)
  ·obtain ⟨sl,e1⟩:=I.base.slot b o e n hb hx
   exact ⟨sl,(hs.2 b (Nat.ne_of_lt (Nat.lt_of_lt_of_le (Heap.lt_size e) I.ok.above))).trans e1⟩
  ·obtain ⟨o',e1⟩:=I.base.there b o e hx
   exact ⟨o',(hs.2 b (Nat.ne_of_lt (Nat.lt_of_lt_of_le (Heap.lt_size e) I.ok.above))).trans e1⟩
  ·by_cases hj:j=i
   ·subst hj
    rw [hi] at e1;cases e1
    rw [List.getElem?_set_self hiσ] at e2
    cases e2
    exact ⟨u,r, .inl ⟨hk,by simp⟩⟩
   ·rw [List.getElem?_set_ne (Ne.symm hj)] at e2
    obtain ⟨u',r',q⟩:=hl j y v' e1 e2 e3
    refine ⟨u',r', ?_⟩
    rcases q with ⟨k,e⟩|⟨k,c,e,z⟩
    ·refine .inl ⟨k, ?_⟩
     have:y≠x:=λe=>hj (S5 hN e1 (e ▸ hi))
     simp [this,e]
    ·exact .inr ⟨k,c,e,z.sameBut hs (cne y c e)⟩
  ·obtain ⟨w',z⟩:=I.cell y c e
   exact ⟨w',z.sameBut hs (cne y c e)⟩
  ·obtain ⟨e,n,ne,nf,d⟩:=I.pin p hp
   exact ⟨(hs.2 p.1 ne).trans e,n,ne,nf,d⟩
 ·have nM:X.fn x=true:=by
   rcases hf with z|z
   ·exact z
   ·rw [z] at hk;cases hk
  obtain ⟨c,hc⟩:=I.ok.has x (.inl hk)
  obtain ⟨w',z⟩:=I.cell x c hc
  refine wpAny_storeName_cell I.ok.kind hk hc z (λh' qE hs=> ?_)
  obtain ⟨oc,qM,nX⟩:=id z
  refine h {s with heap:=h'} ⟨I.ok,I.os,I.bare,⟨λb o e n hb hx=> ?_,λb o e n hb hx=> ?_,I.base.free,λb o e hx=> ?_,I.base.tups,I.base.frzs,I.base.tbls⟩,⟨m,hn.sameBut hs (Ne.symm (cne x c hc)),λj y v' e1 e2 e3=> ?_⟩,λy c' e=> ?_,I.free,I.freeC,λp hp=> ?_,tracked ⟨oc,qM,I.freeC x c hc⟩ hs,by simpa using I.len⟩ ⟨c,hs, .inr hc⟩
  ·exact (hs.2 b (Nat.ne_of_lt (Nat.lt_of_lt_of_le (Heap.lt_size e) (I.ok.cab x c nM hc)))).trans (I.base.keep b o e n hb hx)
  ·obtain ⟨sl,e1⟩:=I.base.slot b o e n hb hx
   exact ⟨sl,(hs.2 b (Nat.ne_of_lt (Nat.lt_of_lt_of_le (Heap.lt_size e) (I.ok.cab x c nM hc)))).trans e1⟩
  ·obtain ⟨o',e1⟩:=I.base.there b o e hx
   exact ⟨o',(hs.2 b (Nat.ne_of_lt (Nat.lt_of_lt_of_le (Heap.lt_size e) (I.ok.cab x c nM hc)))).trans e1⟩
  ·by_cases hj:j=i
   ·subst hj
    rw [hi] at e1;cases e1
    rw [List.getElem?_set_self hiσ] at e2
    cases e2
    exact ⟨u,r, .inr ⟨.inl hk,c,hc,qE⟩⟩
   ·rw [List.getElem?_set_ne (Ne.symm hj)] at e2
    obtain ⟨u',r',q⟩:=hl j y v' e1 e2 e3
    refine ⟨u',r', ?_⟩
    rcases q with q|⟨k,c',e,z'⟩
    ·exact .inl q
    ·refine .inr ⟨k,c',e,z'.sameBut hs ?_⟩
     rintro rfl
     exact hj (S5 hN e1 (I.ok.inj _ _ _ e hc ▸ hi))
  ·by_cases qF:c'=c
   ·subst qF;exact ⟨_,qE⟩
   ·obtain ⟨w2,z2⟩:=I.cell y c' e
    exact ⟨w2,z2.sameBut hs qF⟩
  ·obtain ⟨e,n,ne,nf,d⟩:=I.pin p hp
   refine ⟨(hs.2 p.1 ?_).trans e,n,ne,nf,d⟩
   intro q
   rw [q,qM] at e
   have q':oc=p.2:=Option.some.inj e
   exact d w' (by rw [<-q'];exact nX)
theorem HD {M:Model} {A:Around} {E:Value->Shared->Prop} {i:Nat} {x:Str} {v:V} {u:Value} {Q:Unit->Shared->Prop} (I:Inv X pins σ H s) (hN:X.N.Nodup) (hi:X.N[i]? =some x) (hx:Loc X.env.scope x) (r:RelV v u)
 (h:∀s',Inv X pins (σ.set i (some v)) H s'->Q () s') (hf:X.fn x=true\/X.env.scope.names.lookup x=some .local:=by first | exact .inl rfl|exact .inr rfl|assumption):wpAny M A (storeName X.env x u) Q E s:=
 Pn I hN hi hx r (λs' I' _=>h s' I') hf
theorem Inv.call' {s':Shared} {ch:List Addr} (I:Inv X pins σ H s) (ho:s'.os=s.os) (u:Un (YA X.stack) ch H H' s.heap s'.heap) (hok:Ll X.prog X.w H' s'.heap) (hg:AllBare s'.gens)
 (MC:∀b∈ch,(b∈X.ex\/X.s₀.heap.objs.size<=b)/\b≠X.env.locals/\(∀x c,X.env.cells.lookup x=some c->c≠b)/\∀p∈X.pn++pins,p.1≠b):Inv X pins σ H' s':=by
 obtain ⟨h',g',d',t',o'⟩:=s'
 have e:o'=s.os:=ho
 subst e
 exact I.call (g':=g') (t':=t') (d':=d') u hok hg MC
end
abbrev XK:=Value->Option Addr->Hp->Prop
abbrev St:=List (Option V)
abbrev VK:=V->Hp->Prop
abbrev TE:=St->Hp->VK->Prop
abbrev TT:=St->Hp->(Bool->Hp->Prop)->Prop
abbrev TA:=St->Hp->(List V->Hp->Prop)->Prop
structure Mu where
 nx:St->Hp->Prop
 rt:VK
 bk:St->Hp->Prop:=λ_ _=>False
 ct:St->Hp->Prop:=λ_ _=>False
abbrev TS:=Mu->St->Hp->Prop
def EP (X:Cx) (pins:List (Addr×Obj)) (σ:St) (Q:VK) (u:Value) (s':Shared):Prop:=∃v H',Inv X pins σ H' s'/\RelV v u/\Q v H'
def TP (X:Cx) (pins:List (Addr×Obj)) (σ:St) (Q:Bool->Hp->Prop) (b:Bool) (s':Shared):Prop:=∃H',Inv X pins σ H' s'/\Q b H'
def AP (X:Cx) (pins:List (Addr×Obj)) (σ:St) (Q:List V->Hp->Prop) (us:List Value) (s':Shared):Prop:=∃vs H',Inv X pins σ H' s'/\Ax vs us/\Q vs H'
def SP (X:Cx) (pins:List (Addr×Obj)) (D:Mu) (f:Flow) (s':Shared):Prop:=
 match f with
 | .next=>∃σ' H',Inv X pins σ' H' s'/\D.nx σ' H'
 | .brk=>∃σ' H',Inv X pins σ' H' s'/\D.bk σ' H'
 | .cont=>∃σ' H',Inv X pins σ' H' s'/\D.ct σ' H'
 | .ret u=>∃v σ' H',Inv X pins σ' H' s'/\RelV v u/\D.rt v H'
def PE (X:Cx) (e:Expr) (t:TE):Prop:=
 ∀(pins:List (Addr×Obj)) (s:Shared) (σ:St) (H:Hp) (Q:VK),Inv X pins σ H s->t σ H Q->wpAny (model X.prog X.w) X.A (eval e X.env) (EP X pins σ Q) X.xe s
def PT (X:Cx) (e:Expr) (t:TT):Prop:=
 ∀(pins:List (Addr×Obj)) (s:Shared) (σ:St) (H:Hp) (Q:Bool->Hp->Prop),Inv X pins σ H s->t σ H Q->wpAny (model X.prog X.w) X.A (isTrue e X.env (eval e X.env)) (TP X pins σ Q) X.xe s
def PW (X:Cx) (e:Expr) (t:TT):Prop:=
 ∀(whole:Sem Value) (pins:List (Addr×Obj)) (s:Shared) (σ:St) (H:Hp) (Q:Bool->Hp->Prop),Inv X pins σ H s->t σ H Q->wpAny (model X.prog X.w) X.A (isTrue e X.env whole) (TP X pins σ Q) X.xe s
theorem PW.pt {X:Cx} {e:Expr} {t:TT} (h:PW X e t):PT X e t:=h _
def PA (X:Cx) (es:List Expr) (t:TA):Prop:=
 ∀(pos:Pos) (pins:List (Addr×Obj)) (s:Shared) (σ:St) (H:Hp) (Q:List V->Hp->Prop),Inv X pins σ H s->t σ H Q->wpAny (model X.prog X.w) X.A (spliced (backTo pos (starEach es X.env))) (AP X pins σ Q) X.xe s
def PS (X:Cx) (st:Stmt) (t:TS):Prop:=
 ∀(pins:List (Addr×Obj)) (s:Shared) (σ:St) (H:Hp) (D:Mu),Inv X pins σ H s->t D σ H->wpAny (model X.prog X.w) X.A (exec st X.env) (SP X pins D) X.xe s
def Vh (X:Cx) (st:List Stmt) (t:TS):Prop:=
 ∀(pins:List (Addr×Obj)) (s:Shared) (σ:St) (H:Hp) (D:Mu),Inv X pins σ H s->t D σ H->wpAny (model X.prog X.w) X.A (execs st X.env) (SP X pins D) X.xe s
theorem BV {α:Type} {t:Sem α} {Q Q':α->Shared->Prop} {M:Model} {A:Around} {E:Value->Shared->Prop} {s:Shared} (h:wpAny M A t Q E s) (hQ:∀a s,Q a s->Q' a s):wpAny M A t Q' E s:=wpAny_mono h hQ λ_ _ x=>x
end L2
namespace L2
open PySem PySem.Spec PyProof.Rows
section
variable {X:Cx}
def Fk (i:Nat):TE:=λσ H Q=>∃v,σ[i]? =some (some v)/\Q v H
def tC (v:V):TE:=λ_ H Q=>Q v H
theorem Q6 {i:Nat} {x:Str} {pos:Pos} (hN:X.N[i]? =some x) (hv:fg X.env.scope x) (hd:(x==("__debug__" :Str))=false:=by decide) (MB:(x==("__classdict__" :Str))=false:=by decide):PE X (.Name x pos) (Fk i):=by
 intro pins s σ H Q I h
 obtain ⟨v,e,h⟩:=h
 obtain ⟨m,hn,hl⟩:=I.loc
 obtain ⟨u,r,l⟩:=hl i x v hN e hv
 have fin:EP X pins σ Q u s:=⟨v,H,I,r,h⟩
 rcases l with ⟨hk,hm⟩|⟨hk,c,hc,V5⟩
 ·exact wpAny_Name (wpAny_loadName_local I.ok.kind hk hn hm fin) hd
 ·rcases hk with hk|hk
  ·exact wpAny_Name (wpAny_loadName_cell I.ok.kind hk hc V5 fin) hd
  ·exact wpAny_Name (wpAny_loadName_free I.ok.kind hk hc V5 fin MB) hd
theorem BA {i j pos}:PE X (.Constant (.int i) j pos) (tC (.int i)):=λ_ _ _ H _ I h=>wpAny_Constant_int ⟨.int i,H,I.tok _,⟨_,rfl⟩,h⟩
theorem kb {b j pos}:PE X (.Constant (.bool b) j pos) (tC (.bl b)):=λ_ _ _ H _ I h=>Constant_bool ⟨.bl b,H,I,rfl,h⟩
theorem Zk {j pos}:PE X (.Constant .none j pos) (tC .non):=λ_ _ _ H _ I h=>Constant_none ⟨.non,H,I,rfl,h⟩
def Gl (X:Cx) (x:Str):Prop:=X.env.kindOf x=some .globalImplicit
theorem cO {E:Value->Shared->Prop} {pins:List (Addr×Obj)} {s:Shared} {σ:St} {H:Hp} {x:Str} {u:Value} {pos:Pos} {Q:Value->Shared->Prop} (I:Inv X pins σ H s) (hg:Gl X x) (hm:X.mg x=some u) (h:Q u s)
 (hd:(x==("__debug__" :Str))=false:=by decide):wpAny (model X.prog X.w) X.A (eval (.Name x pos) X.env) Q E s:=
 Calls.Name_function_global I.ok.kind hg (Calls.loadGlobal_global (by rw [I.ok.glob];exact I.mod.glob.keeps I.bk) hm h) hd
theorem Gy {E:Value->Shared->Prop} {pins:List (Addr×Obj)} {s:Shared} {σ:St} {H:Hp} {x:Str} {u:Value} {pos:Pos} {Q:Value->Shared->Prop} (I:Inv X pins σ H s) (hg:Gl X x) (hm:X.mg x=none) (hv:bootBuiltins x=some u) (h:Q u s)
 (hn:x≠"__name__" :=by decide) (hd:(x==("__debug__" :Str))=false:=by decide):wpAny (model X.prog X.w) X.A (eval (.Name x pos) X.env) Q E s:=by
 obtain ⟨mb,h1,h2⟩:=I.mod.blt
 exact Calls.Name_function_global I.ok.kind hg (Calls.loadGlobal_builtin (by rw [I.ok.glob];exact I.mod.glob.keeps I.bk) hm (by rw [I.ok.blt];exact h1.keeps I.bk) ((h2 x hn).trans hv) h) hd
theorem cn {x:Str} {v:V} {u:Value} {pos:Pos} (hg:Gl X x) (hm:X.mg x=none) (hv:bootBuiltins x=some u) (r:RelV v u) (hn:x≠"__name__" :=by decide) (hd:(x==("__debug__" :Str))=false:=by decide):PE X (.Name x pos) (tC v):=
 λ_ _ _ H _ I h=>Gy I hg hm hv ⟨v,H,I,r,h⟩ hn hd
variable {a b:Expr} {ta tb:TE} {pos:Pos}
def PC (X:Cx) (op:CmpOp) (a b:Expr) (t:TE):Prop:=
 ∀(pins:List (Addr×Obj)) (s:Shared) (σ:St) (H:Hp) (Q:VK),Inv X pins σ H s->t σ H Q->
  wpAny (model X.prog X.w) X.A (eval a X.env) (λv s₁=>wpAny (model X.prog X.w) X.A (eval b X.env) (λu s₂=>wpAny (model X.prog X.w) X.A (compareOp op v u) (EP X pins σ Q) X.xe s₂) X.xe s₁) X.xe s
theorem ZX (b:Expr) {op:CmpOp} (h:op≠ .In) (h2:op≠ .NotIn):behindInMarks op b=false:=by
 have e1:(op==CmpOp.In)=false:=by cases op <;> first | rfl|exact absurd rfl h
 have e2:(op==CmpOp.NotIn)=false:=by cases op <;> first | rfl|exact absurd rfl h2
 cases b <;> simp [behindInMarks,e1,e2]
def tB (t:TE):TT:=λσ H Q=>t σ H λx H1=>∃c,x= .bl c/\Q c H1
theorem iH {op:CmpOp} {t:TE} (h:PC X op a b t) (h1:behindInMarks op b=false:=by first | exact ZX _ (by decide) (by decide)|rfl):PT X (.Compare a [op] [b] pos) (tB t):=by
 intro pins s σ H Q I hw
 refine wpAny_isTrue_Compare1 (BV (h pins s σ H _ I hw) λv s1 h1=>BV h1 λu s2 h2=>BV h2 λc s3 ⟨x,H1,I1,r1,q1⟩=> ?_) h1
 obtain ⟨d,rfl,q⟩:=q1
 cases r1
 exact wpAny_truthy_bool ⟨H1,I1,q⟩
theorem iJ {e:Expr} {t:TE} (h:PE X e t) (he:∀whole,isTrue e X.env whole=(do let v <-whole;standAt e.pos;holding [v] (truthy v)):=by intro _;rfl):PT X e (tB t):=by
 intro pins s σ H Q I hw
 refine isTrue_plain (BV (h pins s σ H _ I hw) λv s1 ⟨x,H1,I1,r1,q1⟩=> ?_) (he _)
 obtain ⟨d,rfl,q⟩:=q1
 cases r1
 exact wpAny_truthy_bool ⟨H1,I1,q⟩
variable {tA tB':TT} {rest:List Expr}
def oG (t u:TT):TT:=λσ H Q=>t σ H λc H1=>if c=true then u σ H1 Q else Q false H1
def uZ (t u:TT):TT:=λσ H Q=>t σ H λc H1=>if c=true then Q true H1 else u σ H1 Q
def oK (t:TT):TT:=λσ H Q=>t σ H λc H1=>Q (!c) H1
theorem dB (ha:PT X a tA):PW X (.BoolOp .And [a] pos) tA:=by
 intro wh pins s σ H Q I h
 refine isTrue_and (BV (ha pins s σ H Q I h) λc s1 e=> ?_)
 cases c with
 | true=>exact isTrue_and_nil e
 | false=>exact e
theorem iL (ha:PT X a tA):PW X (.BoolOp .Or [a] pos) tA:=by
 intro wh pins s σ H Q I h
 refine isTrue_or (BV (ha pins s σ H Q I h) λc s1 e=> ?_)
 cases c with
 | false=>exact isTrue_or_nil e
 | true=>exact e
theorem iK (ha:PT X a tA) (hb:PW X (.BoolOp .And (b::rest) pos) tB'):PW X (.BoolOp .And (a::b::rest) pos) (oG tA tB'):=by
 intro wh pins s σ H Q I h
 refine isTrue_and (BV (ha pins s σ H _ I h) λc s1 ⟨H1,I1,q1⟩=> ?_)
 cases c with
 | true=>exact hb wh pins s1 σ H1 Q I1 q1
 | false=>exact ⟨H1,I1,q1⟩
theorem ko (ha:PT X a tA) (hb:PW X (.BoolOp .Or (b::rest) pos) tB'):PW X (.BoolOp .Or (a::b::rest) pos) (uZ tA tB'):=by
 intro wh pins s σ H Q I h
 refine isTrue_or (BV (ha pins s σ H _ I h) λc s1 ⟨H1,I1,q1⟩=> ?_)
 cases c with
 | true=>exact ⟨H1,I1,q1⟩
 | false=>exact hb wh pins s1 σ H1 Q I1 q1
theorem iI (ha:PT X a tA):PT X (.UnaryOp .Not a pos) (oK tA):=by
 intro pins s σ H Q I h
 exact isTrue_not (ha pins s σ H (λc H1=>Q (!c) H1) I h)
def lV (ta tb:TE):TE:=λσ H Q=>ta σ H λx H1=>∃c,x= .bl c/\if c=true then tb σ H1 Q else Q (.bl false) H1
def la (ta:TE):TE:=λσ H Q=>ta σ H λx H1=>∃c,x= .bl c/\Q (.bl (!c)) H1
theorem iE {op} {t:TE} (h:PE X a t):PE X (.BoolOp op [a] pos) t:=λpins s σ H Q I hw=>BoolOp_one (h pins s σ H Q I hw)
theorem iB (ha:PE X a ta) (hb:PE X (.BoolOp .And (b::rest) pos) tb):PE X (.BoolOp .And (a::b::rest) pos) (lV ta tb):=by
 intro pins s σ H Q I h
 refine BoolOp_and (BV (ha pins s σ H _ I h) λv s1 ⟨x,H1,I1,r1,q1⟩=> ?_)
 obtain ⟨c,rfl,q1⟩:=q1
 cases r1
 refine wpAny_truthy_bool ?_
 cases c with
 | true=>exact hb pins s1 σ H1 Q I1 q1
 | false=>exact ⟨.bl false,H1,I1,rfl,q1⟩
theorem iD (ha:PE X a ta):PE X (.UnaryOp .Not a pos) (la ta):=by
 intro pins s σ H Q I h
 refine UnaryOp_ (BV (ha pins s σ H _ I h) λv s1 ⟨x,H1,I1,r1,q1⟩=> ?_)
 obtain ⟨c,rfl,q1⟩:=q1
 cases r1
 exact not_of (wpAny_truthy_bool ⟨.bl (!c),H1,I1,rfl,q1⟩)
def uY (t:TT) (ta tb:TE):TE:=λσ H Q=>t σ H λc H1=>if c=true then ta σ H1 Q else tb σ H1 Q
theorem Zi {c:Expr} (hc:PT X c tA) (ha:PE X a ta) (hb:PE X b tb):PE X (.IfExp c a b pos) (uY tA ta tb):=by
 intro pins s σ H Q I h
 refine wpAny_IfExp (BV (hc pins s σ H _ I h) λd s1 ⟨H1,I1,q1⟩=> ?_)
 cases d with
 | true=>exact ha pins s1 σ H1 Q I1 q1
 | false=>exact hb pins s1 σ H1 Q I1 q1
end
end L2
namespace L2
open PySem PySem.Spec PyProof.Rows
def Fw (K:PySem.W.Frag) (H:Hp) (a:Addr) (xs:List V):Prop:=
 Rd H a (.lst xs)\/
  ∃(o:Obj) (its:Array Value) (n:Nat),K.lookup a=some o/\o.cls= .type "list" /\o.dict=none/\o.data= .seq its n/\its.size<=sizeLine/\Ax xs its.toList
def JD (K:PySem.W.Frag) (H:Hp) (a:Addr) (xs:List V):Prop:=
 Rd H a (.tup xs)\/
  ∃(o:Obj) (its:Array Value) (n:Nat),K.lookup a=some o/\o.cls= .type "tuple" /\o.data= .seq its n/\its.size<=sizeLine/\Ax xs its.toList
def m6:Value->Option V
 | .none=>some .non
 | .bool b=>some (.bl b)
 | .int i _=>some (.int i)
 | .str x _=>some (.str x)
 | .bytes b _=>some (.byt b)
 | .float b _=>some (.flt b)
 | .ref a=>some (.ref a)
 | .type n=>some (.ty n)
 | _=>none
theorem RelV.abs {x:V} {u:Value} (r:RelV x u):m6 u=some x:=by
 cases x with
 | non=>cases r;rfl
 | bl _=>cases r;rfl
 | int _=>obtain ⟨t,rfl⟩:=r;rfl
 | str _=>obtain ⟨t,rfl⟩:=r;rfl
 | byt _=>obtain ⟨t,rfl⟩:=r;rfl
 | flt _=>obtain ⟨t,rfl⟩:=r;rfl
 | ref _=>cases r;rfl
 | ty _=>cases r;rfl
theorem RelV.inj {x y:V} {u:Value} (r:RelV x u) (q:RelV y u):x=y:=Option.some.inj (r.abs.symm.trans q.abs)
theorem Ax.inj:∀{xs ys:List V} {us:List Value},Ax xs us->Ax ys us->xs=ys
 | _,_,_, .nil, .nil=>rfl
 | _,_,_, .cons r t, .cons r' t'=>by rw [r.inj r',Ax.inj t t']
section
variable {X:Cx} {pins:List (Addr×Obj)} {σ:St} {H:Hp} {s:Shared} {a:Addr} {xs ys:List V}
theorem Fw.of {K:PySem.W.Frag} (h:H a=some (.lst xs)):Fw K H a xs:= .inl (.inl h)
theorem JD.of {K:PySem.W.Frag} (h:H a=some (.tup xs)):JD K H a xs:= .inl (.inl h)
theorem Inv.list (I:Inv X pins σ H s) (h:Fw X.K H a xs):∃its:List Value,Ax xs its/\PlainL s.heap a its.toArray/\xs.length<=sizeLine:=by
 rcases h with h|⟨o,its,n,hk,hc,hd,hs,hz,r⟩
 ·obtain ⟨z,its,n,r,e⟩:=h.ok I.hok
  exact ⟨its,r,⟨_,n,e,rfl,rfl,rfl⟩,z⟩
 ·refine ⟨its.toList,r,⟨o,n,I.kIn a o hk,hc,hd,by simpa using hs⟩, ?_⟩
  have e:=r.length
  simp only [Array.length_toList] at e
  omega
theorem Inv.tuple (I:Inv X pins σ H s) (h:JD X.K H a xs):∃its:List Value,Ax xs its/\IsTup s.heap a its.toArray/\xs.length<=sizeLine:=by
 rcases h with h|⟨o,its,n,hk,hc,hs,hz,r⟩
 ·obtain ⟨z,its,r,p⟩:=h.ok I.hok
  exact ⟨its,r,p,z⟩
 ·refine ⟨its.toList,r,⟨o,I.kIn a o hk,hc,n,by simpa using hs⟩, ?_⟩
  have e:=r.length
  simp only [Array.length_toList] at e
  omega
theorem Inv.list_inj (I:Inv X pins σ H s) (h:Fw X.K H a xs) (h':Fw X.K H a ys):xs=ys:=by
 obtain ⟨its,r,⟨o,n,e,_,_,d⟩,_⟩:=I.list h
 obtain ⟨its',r',⟨o',n',e',_,_,d'⟩,_⟩:=I.list h'
 rw [e] at e';cases e'
 rw [d] at d'
 injection d' with d1 _
 have:its=its':=by simpa using congrArg Array.toList d1
 subst this
 exact r.inj r'
theorem Inv.tuple_inj (I:Inv X pins σ H s) (h:JD X.K H a xs) (h':JD X.K H a ys):xs=ys:=by
 obtain ⟨its,r,⟨o,e,_,n,d⟩,_⟩:=I.tuple h
 obtain ⟨its',r',⟨o',e',_,n',d'⟩,_⟩:=I.tuple h'
 rw [e] at e';cases e'
 rw [d] at d'
 injection d' with d1 _
 have:its=its':=by simpa using congrArg Array.toList d1
 subst this
 exact r.inj r'
end
abbrev Cx.wish (X:Cx) (E:Value->Shared->Prop):Cx:={X with xe:=E}
abbrev Cx.nox (X:Cx):Cx:=X.wish λ_ _=>False
theorem Cx.Ok.wish {X:Cx} (ok:X.Ok) (E:Value->Shared->Prop):(X.wish E).Ok:=
 ⟨ok.mod,ok.kind,ok.glob,ok.blt,ok.above,ok.inj,ok.has,ok.cab,ok.hd,ok.frames,ok.stk,ok.exf,ok.bs,ok.bsz,ok.noex,ok.exfs,ok.funs,ok.frf⟩
theorem Cx.Ok.unwish {X:Cx} {E:Value->Shared->Prop} (ok:(X.wish E).Ok):X.Ok:=
 ⟨ok.mod,ok.kind,ok.glob,ok.blt,ok.above,ok.inj,ok.has,ok.cab,ok.hd,ok.frames,ok.stk,ok.exf,ok.bs,ok.bsz,ok.noex,ok.exfs,ok.funs,ok.frf⟩
section
variable {X:Cx} {pins:List (Addr×Obj)} {σ:St} {H:Hp} {s:Shared} {E:Value->Shared->Prop}
theorem Inv.wish (I:Inv X pins σ H s) (E:Value->Shared->Prop):Inv (X.wish E) pins σ H s:=⟨I.ok.wish E,I.os,I.bare,I.base,I.loc,I.cell,I.free,I.freeC,I.pin,I.hok,I.len⟩
theorem Inv.unwish (I:Inv (X.wish E) pins σ H s):Inv X pins σ H s:=⟨I.ok.unwish,I.os,I.bare,I.base,I.loc,I.cell,I.free,I.freeC,I.pin,I.hok,I.len⟩
theorem SP.unwish {D:Mu} {f:Flow} {s':Shared} (h:SP (X.wish E) pins D f s'):SP X pins D f s':=by
 cases f with
 | next=>obtain ⟨σ',H',I,q⟩:=h;exact ⟨σ',H',I.unwish,q⟩
 | brk=>obtain ⟨σ',H',I,q⟩:=h;exact ⟨σ',H',I.unwish,q⟩
 | cont=>obtain ⟨σ',H',I,q⟩:=h;exact ⟨σ',H',I.unwish,q⟩
 | ret u=>obtain ⟨v,σ',H',I,r,q⟩:=h;exact ⟨v,σ',H',I.unwish,r,q⟩
theorem PE.nox {e:Expr} {t:TE} (h:PE X.nox e t):PE X e t:=λpins s σ H Q I hw=>
 wpAny_mono (h pins s σ H Q (I.wish _) hw) (λ_ _ ⟨v,H',I',r,q⟩=>⟨v,H',I'.unwish,r,q⟩) λ_ _ z=>False.elim z
theorem PT.nox {e:Expr} {t:TT} (h:PT X.nox e t):PT X e t:=λpins s σ H Q I hw=>
 wpAny_mono (h pins s σ H Q (I.wish _) hw) (λ_ _ ⟨H',I',q⟩=>⟨H',I'.unwish,q⟩) λ_ _ z=>False.elim z
theorem Vh.nox {st:List Stmt} {t:TS} (h:Vh X.nox st t):Vh X st t:=λpins s σ H D I hw=>
 wpAny_mono (h pins s σ H D (I.wish _) hw) (λ_ _ q=>q.unwish) λ_ _ z=>False.elim z
end
section
variable {X:Cx} {st:Stmt} {rest:List Stmt} {t u:TS} {e:Expr} {te:TE} {pos:Pos}
def fH:TS:=λD σ H=>D.nx σ H
def Xz (t u:TS):TS:=λD σ H=>t {D with nx:=u D} σ H
theorem MH:Vh X [] fH:=λ_ _ σ H _ I h=>wpAny_execs_nil ⟨σ,H,I,h⟩
theorem Bu (h1:PS X st t) (h2:Vh X rest u):Vh X (st::rest) (Xz t u):=by
 intro pins s σ H D I h
 refine wpAny_execs_cons (BV (h1 pins s σ H {D with nx:=u D} I h) λf s1 q=> ?_)
 cases f with
 | next=>
   obtain ⟨σ',H',I',q⟩:=q
   exact h2 pins s1 σ' H' D I' q
 | ret v=>exact q
 | brk=>exact q
 | cont=>exact q
theorem Ew (h1:PS X st t):Vh X [st] t:=by
 intro pins s σ H D I h
 refine wpAny_execs_cons (BV (h1 pins s σ H D I h) λf s1 q=> ?_)
 cases f with
 | next=>exact wpAny_execs_nil q
 | ret v=>exact q
 | brk=>exact q
 | cont=>exact q
theorem Inv.quiet {pins:List (Addr×Obj)} {σ:St} {H:Hp} {s:Shared} (I:Inv X pins σ H s):interactive X.env=false:=by simp [interactive,I.ok.kind]
def fF (te:TE):TS:=λD σ H=>te σ H λ_ H1=>D.nx σ H1
theorem dA (he:PE X e te) (hs:swapsWith e none pos.line X.env=pure false:=by rfl):PS X (.Expr e pos) (fF te):=by
 intro pins s σ H D I h
 exact wpAny_Expr_any (BV (he pins s σ H _ I h) λv s1 ⟨x,H1,I1,r1,q1⟩=>⟨σ,H1,I1,q1⟩) I.quiet hs
def aU (te:TE):TS:=λD σ H=>te σ H D.rt
theorem Ni (he:PE X e te):PS X (.Return (some e) pos) (aU te):=by
 intro pins s σ H D I h
 exact wpAny_Return_some (BV (he pins s σ H _ I h) λv s1 ⟨x,H1,I1,r1,q1⟩=>⟨x,σ,H1,I1,r1,q1⟩)
def lX (c:TT) (t u:TS):TS:=λD σ H=>c σ H λb H1=>if b=true then t D σ H1 else u D σ H1
theorem WM {c:Expr} {a b:List Stmt} {tc:TT} (hc:PT X c tc) (ha:Vh X a t) (hb:Vh X b u):PS X (.If c a b pos) (lX tc t u):=by
 intro pins s σ H D I h
 refine wpAny_If (BV (hc pins s σ H _ I h) λd s1 ⟨H1,I1,q1⟩=> ?_)
 cases d with
 | true=>exact ha pins s1 σ H1 D I1 q1
 | false=>exact hb pins s1 σ H1 D I1 q1
end
abbrev TG:=V->St->Hp->(St->Hp->Prop)->Prop
abbrev UI:=List V->St->Hp->(St->Hp->Prop)->Prop
def PG (X:Cx) (target:Expr) (t:TG):Prop:=
 ∀(pins:List (Addr×Obj)) (s:Shared) (σ:St) (H:Hp) (v:V) (u:Value) (Q:St->Hp->Prop),Inv X pins σ H s->RelV v u->t v σ H Q->
  wpAny (model X.prog X.w) X.A (assign target X.env u) (λ_ s'=>∃σ' H',Inv X pins σ' H' s'/\Q σ' H') X.xe s
def i5 (X:Cx) (ts:List Expr) (t:UI):Prop:=
 ∀(pins:List (Addr×Obj)) (s:Shared) (σ:St) (H:Hp) (vs:List V) (us:List Value) (Q:St->Hp->Prop),Inv X pins σ H s->Ax vs us->t vs σ H Q->
  wpAny (model X.prog X.w) X.A (assignInOrder ((assignEach ts X.env).map (·.2)) us) (λ_ s'=>∃σ' H',Inv X pins σ' H' s'/\Q σ' H') X.xe s
abbrev fb:=V->V->V->Hp->(Hp->Prop)->Prop
def jb (X:Cx) (t:fb):Prop:=
 ∀(pins:List (Addr×Obj)) (s:Shared) (σ:St) (H:Hp) (o i v:V) (ov iv u:Value) (Q:Hp->Prop),Inv X pins σ H s->RelV o ov->RelV i iv->RelV v u->t o i v H Q->
  wpAny (model X.prog X.w) X.A (setItem ov iv u) (λ_ s'=>∃H',Inv X pins σ H' s'/\Q H') X.xe s
abbrev jd:=V->V->Hp->VK->Prop
def i6 (X:Cx) (op:Operator) (t:jd):Prop:=
 ∀(pins:List (Addr×Obj)) (s:Shared) (σ:St) (H:Hp) (x y:V) (v u:Value) (Q:VK),Inv X pins σ H s->RelV x v->RelV y u->t x y H Q->
  wpAny (model X.prog X.w) X.A (inplaceOp op v u) (EP X pins σ Q) X.xe s
section
variable {X:Cx} {pos:Pos}
def Cy (i:Nat):TG:=λv σ H Q=>Q (σ.set i (some v)) H
theorem JZ {i:Nat} {x:Str} (hN:X.N.Nodup) (hi:X.N[i]? =some x) (hx:Loc X.env.scope x) (hf:X.fn x=true\/X.env.scope.names.lookup x=some .local:=by first | exact .inl rfl|exact .inr rfl|assumption):PG X (.Name x pos) (Cy i):=by
 intro pins s σ H v u Q I r h
 exact wpAny_assign_Name (HD I hN hi hx r (λs' I'=>⟨_,H,I',h⟩) hf)
def Sc:UI:=λvs σ H Q=>vs= [] /\Q σ H
def Es (t:TG) (u:UI):UI:=λvs σ H Q=>∃v r,vs=v::r/\t v σ H λσ' H'=>u r σ' H' Q
theorem Q7:i5 X [] Sc:=by
 intro pins s σ H vs us Q I r h
 obtain ⟨e,h⟩:=h
 subst e
 cases r
 exact assignInOrder_nil ⟨σ,H,I,h⟩
theorem G1 {e:Expr} {es:List Expr} {t:TG} {u:UI} (h1:PG X e t) (h2:i5 X es u)
 (hs:(assignEach (e::es) X.env).map (·.2)=assign e X.env::(assignEach es X.env).map (·.2):=by rfl):i5 X (e::es) (Es t u):=by
 intro pins s σ H vs us Q I r h
 obtain ⟨v,vr,e1,h⟩:=h
 subst e1
 cases r with
 | cons r rr=>
   rw [hs]
   refine assignInOrder_cons (BV (h1 pins s σ H _ _ _ I r h) λ_ s1 ⟨σ1,H1,I1,q1⟩=> ?_)
   exact h2 pins s1 σ1 H1 _ _ Q I1 rr q1
def nA (to ti:TE) (t:fb):TG:=λv σ H Q=>to σ H λo H1=>ti σ H1 λi H2=>t o i v H2 λH3=>Q σ H3
theorem VB {o i:Expr} {to ti:TE} {t:fb} (ho:PE X o to) (hi:PE X i ti) (hs:jb X t)
 (ha:∀v,assign (.Subscript o i pos) X.env v=(do
   let ov <-holding [v] (eval o X.env)
   let iv <-holding [v,ov] (eval i X.env)
   standAt pos
   holding [v,ov,iv] (setItem ov iv v)
   release [v,ov,iv] []):=by intro _;rfl):PG X (.Subscript o i pos) (nA to ti t):=by
 intro pins s σ H v u Q I r h
 rw [ha]
 refine wpAny_bind (wpAny_holding (BV (ho pins s σ H _ I h) λov s1 ⟨x,H1,I1,r1,q1⟩=> ?_))
 refine wpAny_bind (wpAny_holding (BV (hi pins s1 σ H1 _ I1 q1) λiv s2 ⟨y,H2,I2,r2,q2⟩=> ?_))
 refine wpAny_bind (wpAny_standAt (wpAny_bind (wpAny_holding (BV (hs pins s2 σ H2 x y v ov iv u _ I2 r1 r2 r q2) λ_ s3 ⟨H3,I3,q3⟩=> ?_))))
 exact wpAny_release ⟨σ,H3,I3,q3⟩
def To (te:TE) (g:TG):TS:=λD σ H=>te σ H λx H1=>g x σ H1 D.nx
theorem Q8 {tg e:Expr} {te:TE} {g:TG} (he:PE X e te) (hg:PG X tg g) (hs:swapsWithSole [tg] e pos.line X.env=pure false:=by rfl) (hw:swappedStores [tg] e X.env=pure none:=by rfl)
 (h1:(assignEach [tg] X.env).map (·.2)= [assign tg X.env] :=by rfl):PS X (.Assign [tg] e pos) (To te g):=by
 intro pins s σ H D I h
 refine wpAny_Assign_stores (BV (he pins s σ H _ I h) λv s1 ⟨x,H1,I1,r1,q1⟩=> ?_) hs hw
 rw [h1]
 exact BV (hg pins s1 σ H1 x v _ I1 r1 q1) λ_ s2 q=>q
theorem FJ {i:Nat} {x:Str} {e:Expr} {te:TE} {pos':Pos} (hN:X.N.Nodup) (hi:X.N[i]? =some x) (hx:Loc X.env.scope x) (he:PE X e te) (hs:swapsWith e (some (.Name x pos')) pos.line X.env=pure false:=by rfl) (hf:X.fn x=true\/X.env.scope.names.lookup x=some .local:=by first | exact .inl rfl|exact .inr rfl|assumption):
 PS X (.Assign [.Name x pos'] e pos) (To te (Cy i)):=by
 intro pins s σ H D I h
 refine wpAny_Assign_Name (BV (he pins s σ H _ I h) λv s1 ⟨y,H1,I1,r1,q1⟩=> ?_) hs
 exact HD I1 hN hi hx r1 (λs2 I2=>⟨_,H1,I2,q1⟩) hf
def oM (i j:Nat) (ta:TA):TS:=λD σ H=>ta σ H λvs H1=>∃v w,vs= [v,w] /\D.nx ((σ.set i (some v)).set j (some w)) H1
theorem iG {i j:Nat} {x y:Str} {a b:Expr} {ta:TA} {px py pt:Pos} {kt k2 pt2} (hc:X.calm=true) (hN:X.N.Nodup) (hi:X.N[i]? =some x) (hj:X.N[j]? =some y) (nO:i≠j)
 (hx:X.env.scope.names.lookup x=some .local) (hy:X.env.scope.names.lookup y=some .local) (ha:PA X [a,b] ta)
 (hw:swappedStores [.Tuple [.Name x px, .Name y py] kt pt] (.Tuple [a,b] k2 pt2) X.env=pure (some [x,y]))
 (hs:swapsWithSole [.Tuple [.Name x px, .Name y py] kt pt] (.Tuple [a,b] k2 pt2) pos.line X.env=pure false:=by rfl):
 PS X (.Assign [.Tuple [.Name x px, .Name y py] kt pt] (.Tuple [a,b] k2 pt2) pos) (oM i j ta):=by
 intro pins s σ H D I h
 rw [exec_Assign_arm]
 refine wpAny_bind (wpAny_standAt ?_)
 rw [hs]
 refine wpAny_bind (wpAny_pure ?_)
 rw [if_neg (by decide)]
 refine wpAny_bind (Tuple_ (BV (ha _ pins s σ H _ I h) λus s1 ⟨vs,H1,I1,r1,q1⟩=> ?_))
 obtain ⟨v,w,e1,q1⟩:=q1
 subst e1
 obtain ⟨u1,u2,rfl,rv,rw'⟩:∃u1 u2,us= [u1,u2] /\RelV v u1/\RelV w u2:=by
  cases r1 with
  | cons p q=>
    cases q with
    | cons p' q'=>
      cases q'
      exact ⟨_,_,rfl,p,p'⟩
 refine wpAny_newObj_type ?_ (by show 2<=sizeLine;decide)
 have I2:Inv X pins σ H1 {s1 with heap:=s1.heap.push {cls:= .type "tuple",data:= .seq [u1,u2].toArray}}:=I1.kept (t':=s1.toks) λb o e=>Heap.get?_push_of_some _ e
 rw [hw]
 refine wpAny_bind (wpAny_pure ?_)
 show wpAny (model X.prog X.w) X.A (do rule "assign.swapped-stores";let items <-unpackItems (.ref s1.heap.objs.size) 2 none;assignInOrder [λv=>bindName X.env y v,λv=>bindName X.env x v] items.reverse;pure Flow.next) _ _ _
 refine wpAny_bind (wpAny_rule (wpAny_bind (unpackItems_tuple (items:= #[u1,u2]) (I.ok.hd hc) (IsTup.new s1.heap _) λh' kB=> ?_)))
 have I3:=I2.kept (h':=h') (t':=s1.toks) λb o e=>kB b o (Nat.ne_of_lt (Heap.lt_size e)) e
 show wpAny _ _ (assignInOrder [λv=>bindName X.env y v,λv=>bindName X.env x v] [u2,u1] >>= λ_=>pure Flow.next) _ _ _
 refine wpAny_bind (assignInOrder_cons (wpAny_bindName (HD I3 hN hj (.inl hy) rw' (λs2 I4=> ?_) (.inr hy))))
 refine assignInOrder_cons (wpAny_bindName (HD I4 hN hi (.inl hx) rv (λs3 I5=>assignInOrder_nil (wpAny_pure ?_)) (.inr hx)))
 rw [List.set_comm _ _ (Ne.symm nO)] at I5
 exact ⟨_,H1,I5,q1⟩
def oH (i:Nat) (te:TE) (ti:jd):TS:=λD σ H=>∃x,σ[i]? =some (some x)/\te σ H λy H1=>ti x y H1 λz H2=>D.nx (σ.set i (some z)) H2
theorem iF {i:Nat} {x:Str} {e:Expr} {te:TE} {op:Operator} {ti:jd} {pos':Pos} (hN:X.N.Nodup) (hi:X.N[i]? =some x) (hx:Loc X.env.scope x) (he:PE X e te) (ho:i6 X op ti) (hf:X.fn x=true\/X.env.scope.names.lookup x=some .local:=by first | exact .inl rfl|exact .inr rfl|assumption):
 PS X (.AugAssign (.Name x pos') op e pos) (oH i te ti):=by
 intro pins s σ H D I h
 obtain ⟨v,e1,h⟩:=h
 obtain ⟨m,hn,hl⟩:=I.loc
 have vis:fg X.env.scope x:=by rcases hx with k|k;exact .inl k;exact .inr (.inl k)
 obtain ⟨u,r,l⟩:=hl i x v hi e1 vis
 refine wpAny_AugAssign_Name ?_
 have go:wpAny (model X.prog X.w) X.A (eval e X.env) (λw s₂=>wpAny (model X.prog X.w) X.A (inplaceOp op u w) (λr s₃=>wpAny (model X.prog X.w) X.A (storeName X.env x r) (λ_=>SP X pins D .next) X.xe s₃) X.xe s₂) X.xe s:=by
  refine BV (he pins s σ H _ I h) λw s1 ⟨y,H1,I1,r1,q1⟩=> ?_
  refine BV (ho pins s1 σ H1 v y u w _ I1 r r1 q1) λz s2 ⟨zv,H2,I2,r2,q2⟩=> ?_
  exact HD I2 hN hi hx r2 (λs3 I3=>⟨_,H2,I3,q2⟩) hf
 rcases l with ⟨hk,hm⟩|⟨hk,c,hc,V5⟩
 ·exact wpAny_loadName_local I.ok.kind hk hn hm go
 ·rcases hk with hk|hk
  ·exact wpAny_loadName_cell I.ok.kind hk hc V5 go
  ·rcases hx with k|k
   ·have:X.env.scope.names.lookup x=some .free:=hk
    rw [k] at this;cases this
   ·have:X.env.scope.names.lookup x=some .free:=hk
    rw [k] at this;cases this
def nw (f:Int->Int->Int):jd:=λx y H Q=>∃i j,x= .int i/\y= .int j/\Q (.int (f i j)) H
theorem gW:i6 X .Add (nw λi j=>i+j):=by
 intro pins s σ H x y v u Q I r1 r2 h
 obtain ⟨i,j,e1,e2,q⟩:=h
 subst e1;subst e2
 obtain ⟨t,rfl⟩:=r1
 obtain ⟨t',rfl⟩:=r2
 exact iadd_int ⟨.int _,H,I.tok _,⟨_,rfl⟩,q⟩
end
section
variable {X:Cx} {pos:Pos}
def il (c:TT) (tb:TS):TS:=λD σ H=>∃W:Nat->St->Hp->Prop,(∃m,W m σ H)/\∀m σ H,W m σ H->
 c σ H λb H1=>if b=true then ∃N:St->Hp->Prop,(∀σ' H',N σ' H'->∃m',m'<m/\W m' σ' H')/\tb {D with nx:=N,ct:=N,bk:=D.nx} σ H1 else D.nx σ H1
theorem Zq {c:Expr} {body:List Stmt} {tc:TT} {tb:TS} (hp:PassesOwn (model X.prog X.w) X.A X.env X.xe) (hc:PT X c tc) (hb:Vh X body tb):PS X (.While c body [] pos) (il tc tb):=by
 intro pins s σ H D I h
 obtain ⟨W,⟨m0,w0⟩,turn⟩:=h
 refine wpAny_While (codeAny_whileLoop (λn s'=>∃σ' H',Inv X pins σ' H' s'/\W n σ' H') ?_ m0 ⟨σ,H,I,w0⟩)
 rintro n s1 ⟨σ1,H1,I1,w1⟩
 refine wpAny_passesOwn hp (BV (hc pins s1 σ1 H1 _ I1 (turn n σ1 H1 w1)) λb s2 ⟨H2,I2,q2⟩=> ?_)
 cases b with
 | true=>
   obtain ⟨N,hN,q2⟩:=q2
   rw [if_pos rfl]
   refine wpAny_passesOwn hp (BV (hb pins s2 σ1 H2 _ I2 q2) λf s3 q3=> ?_)
   cases f with
   | next=>
     obtain ⟨σ3,H3,I3,n3⟩:=q3
     obtain ⟨m',hm,w3⟩:=hN σ3 H3 n3
     exact ⟨m',hm,σ3,H3,I3,w3⟩
   | cont=>
     obtain ⟨σ3,H3,I3,n3⟩:=q3
     obtain ⟨m',hm,w3⟩:=hN σ3 H3 n3
     exact ⟨m',hm,σ3,H3,I3,w3⟩
   | brk=>exact q3
   | ret v=>exact q3
 | false=>
   rw [if_neg Bool.false_ne_true]
   exact wpAny_execs_nil ⟨σ1,H2,I2,q2⟩
end
structure It where
 go:Nat->Hp->Prop
 yld:Nat->Hp->V->Hp->Prop
 stop:Nat->Hp->Prop
def Dh (X:Cx) (pins:List (Addr×Obj)) (H:Hp) (b:Addr):Prop:=
 H b=none/\b≠X.env.locals/\b ∉ X.fs/\(b∈X.ex\/X.s₀.heap.objs.size<=b)/\(∀x c,X.env.cells.lookup x=some c->c≠b)/\∀p∈X.pn++pins,p.1≠b
theorem Inv.fpOk {X:Cx} {pins:List (Addr×Obj)} {σ:St} {H H':Hp} {s:Shared} {b:Addr} (I:Inv X pins σ H s) (hb:s.heap.objs.size<=b) (hn:H' b=none):Dh X pins H' b:=by
 refine ⟨hn,Nat.ne_of_gt (Nat.lt_of_lt_of_le I.lt hb),I.nofs hb, .inr (Nat.le_trans I.sz hb),λx c e z=> ?_,λp hp z=> ?_⟩
 ·obtain ⟨v,q⟩:=I.cell x c e
  exact absurd (Nat.lt_of_lt_of_le q.lt (by rw [z];exact hb)) (Nat.lt_irrefl _)
 ·exact absurd (Nat.lt_of_lt_of_le (Heap.lt_size (I.pin p hp).1) (by rw [z];exact hb)) (Nat.lt_irrefl _)
structure Ka (P:Program) (w:World) (K:PySem.W.Frag) (tg:Expr) (J:It) (fp:List Addr) (it:Addr) (tn:Nat->Heap->Prop):Prop where
 mem:it∈fp
 obj:∀i h,tn i h->∀b∈fp,∃o,h.get? b=some o/\∀v,o.data≠ .cell v
 keep:∀i h h',tn i h->(∀b∈fp,∀o,h.get? b=some o->h'.get? b=some o)->tn i h'
 item:∀(X:Cx),X.prog=P->X.w=w->X.K=K->X.calm=true->∀(i:Nat) (pins:List (Addr×Obj)) (s:Shared) (σ:St) (H:Hp) (E:Value->Shared->Prop),Inv X pins σ H s->(∀b∈fp,Dh X pins H b)->tn i s.heap->J.go i H->
  wpAny (model P w) X.A (pyNext (.ref it)) (λr s1=>∃u,r=some u/\
   wpAny (model P w) X.A (letOwnedTupleGo tg (.ref it) u) (λ_ s2=>∃x H',Inv X pins σ H' s2/\RelV x u/\J.yld i H x H'/\tn (i+1) s2.heap/\∀b∈fp,H' b=none) E s1) E s
 done:∀(X:Cx),X.prog=P->X.w=w->X.K=K->X.calm=true->∀(i:Nat) (pins:List (Addr×Obj)) (s:Shared) (σ:St) (H:Hp) (E:Value->Shared->Prop),Inv X pins σ H s->(∀b∈fp,Dh X pins H b)->tn i s.heap->J.stop i H->
  wpAny (model P w) X.A (pyNext (.ref it)) (λr s1=>r=none/\Inv X pins σ H s1) E s
 self:∀(A:Around) (i:Nat) (s:Shared) (Q:Value->Shared->Prop) (E:Value->Shared->Prop),tn i s.heap->Q (.ref it) s->wpAny (model P w) A (pyIter (.ref it)) Q E s
abbrev TI:=St->Hp->(It->Hp->Prop)->Prop
def pz (X:Cx) (pins:List (Addr×Obj)) (σ:St) (tg:Expr) (R:It->Hp->Prop) (itv:Value) (s2:Shared):Prop:=
 ∃(it:Addr) (fp:List Addr) (tn:Nat->Heap->Prop) (J:It) (H':Hp),itv= .ref it/\Inv X pins σ H' s2/\Ka X.prog X.w X.K tg J fp it tn/\tn 0 s2.heap/\(∀b∈fp,Dh X pins H' b)/\R J H'
def PI (X:Cx) (tg iter:Expr) (wi:TI):Prop:=
 ∀(pins:List (Addr×Obj)) (s:Shared) (σ:St) (H:Hp) (R:It->Hp->Prop),Inv X pins σ H s->wi σ H R->
  wpAny (model X.prog X.w) X.A (eval iter X.env) (λv s1=>wpAny (model X.prog X.w) X.A (pyIter v) (pz X pins σ tg R) X.xe s1) X.xe s
theorem Y5 {M:Model} {A:Around} {E:Value->Shared->Prop} {s:Shared} {tg:Expr} {it:Addr} {u:Value} {o:Obj} {n:String} {vs:Array Value} {Q:Unit->Shared->Prop} (ho:s.heap.get? it=some o) (hc:o.cls= .type n) (hd:o.data= .fields vs)
 (hn: ["enumerate","zip","dict_itemiterator","dict_reverseitemiterator","odict_iterator","itertools.zip_longest","itertools.pairwise"].contains n=false) (hQ:Q () s):wpAny M A (letOwnedTupleGo tg (.ref it) u) Q E s:=by
 unfold letOwnedTupleGo
 cases tg <;> first
  | exact wpAny_pure hQ
  | (cases u <;> first
      | exact wpAny_pure hQ
      | (refine wpAny_bind (wpAny_load ho ?_)
         rw [hc,hd]
         show wpAny M A (if (["enumerate","zip","dict_itemiterator","dict_reverseitemiterator","odict_iterator","itertools.zip_longest","itertools.pairwise"].contains n&&vs[0]?==some (rawInt _))=true then _ else _) Q E s
         rw [if_neg (by intro h;rw [hn,Bool.false_and] at h;cases h)]
         exact wpAny_pure hQ))
def md (K:PySem.W.Frag) (a:Addr):It:=
 ⟨λi H=>∃xs x,Fw K H a xs/\xs[i]? =some x,λi H x H'=>H'=H/\∀xs,Fw K H a xs->xs[i]? =some x,λi H=>∃xs,Fw K H a xs/\xs.length<=i⟩
def me (K:PySem.W.Frag) (a:Addr):It:=
 ⟨λi H=>∃xs x,JD K H a xs/\xs[i]? =some x,λi H x H'=>H'=H/\∀xs,JD K H a xs->xs[i]? =some x,λi H=>∃xs,JD K H a xs/\xs.length<=i⟩
def jX (lo:Int) (n:Nat):It:=⟨λi _=>i<n,λi H x H'=>H'=H/\x= .int (lo+i),λi _=>n<=i⟩
theorem X2 {P:Program} {w:World} {K:PySem.W.Frag} {tg:Expr} (a it:Addr):Ka P w K tg (md K a) [it] it (λi h=>h.IsListIter it a i) where
 mem:=by simp
 obj:=λi h st b hb=>by
  have e:b=it:=by simpa using hb
  subst e
  obtain ⟨o,e,c,d⟩:=st
  exact ⟨o,e,λv z=>by rw [d] at z;cases z⟩
 keep:=λi h h' st k=>st.at λo e=>k it (by simp) o e
 item:=by
  intro X hP hw hK hc i pins s σ H E I hf st hg
  subst hP hw hK
  obtain ⟨xs,x,hq,hx⟩:=hg
  obtain ⟨its,rv,p,hz⟩:=I.list hq
  obtain ⟨u,hu,ru⟩:=rv.get hx
  obtain ⟨f0,f1,f2,f3,f4,f5⟩:=hf it (by simp)
  refine wpAny_pyNext_list_item st p.isList (x:=u) (by simpa using hu) λh' st' sb=> ?_
  have I1:Inv X pins σ H {s with heap:=h'}:=I.turned (t':=s.toks) (λb o hb e=>(sb.2 b hb).trans e) f0 f1 f3 f4 f5
  obtain ⟨o,e,c,d⟩:=id st'
  exact ⟨u,rfl,Y5 (s:={s with heap:=h'}) e c d (by decide) ⟨x,H,I1,ru,⟨rfl,λys hy=>by rw [I.list_inj hy hq];exact hx⟩,st',λb hb=>(hf b hb).1⟩⟩
 done:=by
  intro X hP hw hK hc i pins s σ H E I hf st hg
  subst hP hw hK
  obtain ⟨xs,hq,hx⟩:=hg
  obtain ⟨its,rv,p,hz⟩:=I.list hq
  obtain ⟨f0,f1,f2,f3,f4,f5⟩:=hf it (by simp)
  have hl:=rv.length
  exact wpAny_pyNext_list_end (I.ok.hd hc) st p.isList (by simp;omega) λh' eb=>⟨rfl,I.turned (t':=s.toks) (λb o hb e=>eb b o hb e) f0 f1 f3 f4 f5⟩
 self:=λ_ _ _ _ _ st h=>wpAny_pyIter_listiter st h
theorem VZ {P:Program} {w:World} {K:PySem.W.Frag} {tg:Expr} (a it:Addr):Ka P w K tg (me K a) [it] it (λi h=>h.IsTupleIter it a i) where
 mem:=by simp
 obj:=λi h st b hb=>by
  have e:b=it:=by simpa using hb
  subst e
  obtain ⟨o,e,c,d⟩:=st
  exact ⟨o,e,λv z=>by rw [d] at z;cases z⟩
 keep:=λi h h' st k=>st.at λo e=>k it (by simp) o e
 item:=by
  intro X hP hw hK hc i pins s σ H E I hf st hg
  subst hP hw hK
  obtain ⟨xs,x,hq,hx⟩:=hg
  obtain ⟨its,rv,p,hz⟩:=I.tuple hq
  obtain ⟨u,hu,ru⟩:=rv.get hx
  obtain ⟨f0,f1,f2,f3,f4,f5⟩:=hf it (by simp)
  refine wpAny_pyNext_tuple_item st (show s.heap.IsTuple a its.toArray from p) (x:=u) (by simpa using hu) λh' st' sb=> ?_
  have I1:Inv X pins σ H {s with heap:=h'}:=I.turned (t':=s.toks) (λb o hb e=>(sb.2 b hb).trans e) f0 f1 f3 f4 f5
  obtain ⟨o,e,c,d⟩:=id st'
  exact ⟨u,rfl,Y5 (s:={s with heap:=h'}) e c d (by decide) ⟨x,H,I1,ru,⟨rfl,λys hy=>by rw [I.tuple_inj hy hq];exact hx⟩,st',λb hb=>(hf b hb).1⟩⟩
 done:=by
  intro X hP hw hK hc i pins s σ H E I hf st hg
  subst hP hw hK
  obtain ⟨xs,hq,hx⟩:=hg
  obtain ⟨its,rv,p,hz⟩:=I.tuple hq
  obtain ⟨f0,f1,f2,f3,f4,f5⟩:=hf it (by simp)
  have hl:=rv.length
  exact wpAny_pyNext_tuple_end (I.ok.hd hc) st (show s.heap.IsTuple a its.toArray from p) (by simp;omega) λh' eb=>⟨rfl,I.turned (t':=s.toks) (λb o hb e=>eb b o hb e) f0 f1 f3 f4 f5⟩
 self:=λ_ _ _ _ _ st h=>wpAny_pyIter_tupleiter st h
theorem VY {P:Program} {w:World} {K:PySem.W.Frag} {tg:Expr} (it:Addr) (lo:Int) (n:Nat):Ka P w K tg (jX lo n) [it] it (λi h=>IsRangeIter h it (lo+(i:Nat)*1) ((n:Int)-(i:Nat)) 1) where
 mem:=by simp
 obj:=λi h st b hb=>by
  have e:b=it:=by simpa using hb
  subst e
  exact ⟨_,st,λv z=>by
   have z':Data.fields _=Data.cell v:=z
   cases z'⟩
 keep:=λi h h' st k=>k it (by simp) _ st
 item:=by
  intro X hP hw hK hc i pins s σ H E I hf st hg
  subst hP hw hK
  obtain ⟨f0,f1,f2,f3,f4,f5⟩:=hf it (by simp)
  have W:=Walks.range (prog:=X.prog) (w:=X.w) (I.ok.hd hc) it lo 1 n
  refine W.item i s _ _ hg st λv h' tk hv st' kk=> ?_
  obtain ⟨t,rfl⟩:=hv
  have I1:Inv X pins σ H {s with heap:=h',toks:=tk}:=I.turned (λb o hb e=>kk b o (by simpa using hb) e) f0 f1 f3 f4 f5
  refine ⟨_,rfl,Y5 (s:={s with heap:=h',toks:=tk}) (n:="range_iterator") st' rfl rfl (by decide) ⟨.int (lo+i),H,I1,⟨t, ?_⟩,⟨rfl,rfl⟩,st',λb hb=>(hf b hb).1⟩⟩
  rw [Int.mul_one]
 done:=by
  intro X hP hw hK hc i pins s σ H E I hf st hg
  subst hP hw hK
  obtain ⟨f0,f1,f2,f3,f4,f5⟩:=hf it (by simp)
  exact wpAny_pyNext_range_end (I.ok.hd hc) st (by have:n<=i:=hg;omega) λh' eb=>⟨rfl,I.turned (t':=s.toks) (λb o hb e=>eb b o hb e) f0 f1 f3 f4 f5⟩
 self:=λ_ _ _ _ _ st h=>wpAny_pyIter_rangeiter st h
end L2
namespace L2
open PySem PySem.Spec PyProof.Rows
section
variable {X:Cx} {tg:Expr}
theorem TN {pins:List (Addr×Obj)} {σ:St} {H:Hp} {s:Shared} {R:It->Hp->Prop} {E:Value->Shared->Prop} {lo hi:Int} {t u v:Tok} {tk:Nat} (I:Inv X pins σ H s) (h1: -(2^62)<=lo) (h2:lo<2^62) (h3: -(2^62)<=hi) (h4:hi<2^62)
 (q:R (jX lo (hi-lo).toNat) H):wpAny (model X.prog X.w) X.A (pyIter (.ref s.heap.objs.size)) (pz X pins σ tg R) E {s with heap:=s.heap.push {cls:= .type "range",data:= .fields #[.int lo t, .int hi u, .int 1 v] },toks:=tk}:=by
 refine wpAny_pyIter_range (IsRange.new ..) (small_one h1 h2 h3 h4) ?_
 have I1:Inv X pins σ H {s with heap:=s.heap.push {cls:= .type "range",data:= .fields #[.int lo t, .int hi u, .int 1 v] },toks:=tk}:=I.kept λb o e=>Heap.get?_push_of_some _ e
 refine ⟨(s.heap.push {cls:= .type "range",data:= .fields #[.int lo t, .int hi u, .int 1 v] }).objs.size, [(s.heap.push {cls:= .type "range",data:= .fields #[.int lo t, .int hi u, .int 1 v] }).objs.size],_,_,H,rfl,
  I1.kept (t':=tk) λb o e=>Heap.get?_push_of_some _ e,VY _ lo (hi-lo).toNat, ?_,λb hb=> ?_,q⟩
 ·have e1:lo+((0:Nat):Int)*1=lo:=by simp
  have e2:(((hi-lo).toNat:Nat):Int)-((0:Nat):Int)=Builtin.Range.rangeSize lo hi 1:=by rw [rangeSize_one];split <;> omega
  show IsRangeIter _ _ (lo+((0:Nat):Int)*1) ((((hi-lo).toNat:Nat):Int)-((0:Nat):Int)) 1
  rw [e1,e2]
  exact Heap.get?_push_size _ rfl
 ·have e:b=(s.heap.push {cls:= .type "range",data:= .fields #[.int lo t, .int hi u, .int 1 v] }).objs.size:=by simpa using hb
  subst e
  exact I1.fpOk (Nat.le_refl _) (I1.hok.fresh (Nat.le_refl _))
def kC (ta:TA):TI:=λσ H R=>ta σ H λvs H1=>∃j:Int,vs= [.int j] /\ -(2^62)<=j/\j<2^62/\R (jX 0 j.toNat) H1
def kD (ta:TA):TI:=λσ H R=>ta σ H λvs H1=>∃i j:Int,vs= [.int i, .int j] /\(-(2^62)<=i/\i<2^62/\ -(2^62)<=j/\j<2^62)/\R (jX i (j-i).toNat) H1
theorem Xm {a:Expr} {ta:TA} {p pos:Pos} (hg:Gl X "range") (hm:X.mg "range" =none) (ha:PA X [a] ta) (hs:starEach [a] X.env= [(false,eval a X.env)] :=by rfl):PI X tg (.Call (.Name "range" p) [a] [] pos) (kC ta):=by
 intro pins s σ H R I h
 refine Call_ (Gy I hg hm boot_range (PyProof.Rows.callWith_type1 (BV (ha pos pins s σ H _ I h) λus s1 ⟨vs,H1,I1,r1,q1⟩=> ?_) hs rfl))
 obtain ⟨j,e,q1,q2,q⟩:=q1
 subst e
 cases r1 with
 | cons r rr=>
   cases rr
   obtain ⟨t,rfl⟩:=r
   exact call_range_1 (TN I1 (by omega) (by omega) q1 q2 (by simpa using q))
theorem Xn {a b:Expr} {ta:TA} {p pos:Pos} (hg:Gl X "range") (hm:X.mg "range" =none) (ha:PA X [a,b] ta) (hs:starEach [a,b] X.env= [(false,eval a X.env),(false,eval b X.env)] :=by rfl) (Rh:starEach [b] X.env= [(false,eval b X.env)] :=by rfl):
 PI X tg (.Call (.Name "range" p) [a,b] [] pos) (kD ta):=by
 intro pins s σ H R I h
 refine Call_ (Gy I hg hm boot_range (PyProof.Rows.callWith_type1 (BV (ha pos pins s σ H _ I h) λus s1 ⟨vs,H1,I1,r1,q1⟩=> ?_) (by rw [hs,Rh]) (by rw [Rh];rfl)))
 obtain ⟨i,j,e,⟨q1,q2,q3,q4⟩,q⟩:=q1
 subst e
 cases r1 with
 | cons r rr=>
   cases rr with
   | cons r' rr=>
     cases rr
     obtain ⟨t,rfl⟩:=r
     obtain ⟨t',rfl⟩:=r'
     exact call_range_2 (TN I1 q1 q2 q3 q4 q)
def lW (wi:TI) (g:TG) (tb:TS):TS:=λD σ H=>wi σ H λJ H1=>∃W:Nat->Nat->St->Hp->Prop,(∃m,W 0 m σ H1)/\∀i m σ H,W i m σ H->
 (J.stop i H/\D.nx σ H)\/(J.go i H/\∃N:St->Hp->Prop,(∀σ' H',N σ' H'->∃m',m'<m/\W (i+1) m' σ' H')/\∀x H',J.yld i H x H'->g x σ H' λσ2 H2=>tb {D with nx:=N,ct:=N,bk:=D.nx} σ2 H2)
def FI (fp:List Addr) (h:Heap):List (Addr×Obj):=fp.filterMap λb=>(h.get? b).map λo=>(b,o)
theorem Bx {fp:List Addr} {h:Heap} {b:Addr} {o:Obj} (hb:b∈fp) (e:h.get? b=some o):(b,o)∈FI fp h:=List.mem_filterMap.mpr ⟨b,hb,by rw [e];rfl⟩
theorem Xe {fp:List Addr} {h:Heap} {p:Addr×Obj} (hp:p∈FI fp h):p.1∈fp/\h.get? p.1=some p.2:=by
 obtain ⟨b,hb,e⟩:=List.mem_filterMap.mp hp
 cases q:h.get? b with
 | none=>rw [q] at e;cases e
 | some o=>
   rw [q] at e
   have e':(b,o)=p:=Option.some.inj e
   subst e'
   exact ⟨hb,q⟩
theorem Inv.pinned {pins:List (Addr×Obj)} {σ:St} {H:Hp} {s:Shared} {fp:List Addr} (I:Inv X pins σ H s) (hf:∀b∈fp,Dh X pins H b) (ho:∀b∈fp,∃o,s.heap.get? b=some o/\∀v,o.data≠ .cell v):Inv X (pins++FI fp s.heap) σ H s:=
 I.pins_of λp hp=>(List.mem_append.mp hp).elim (λz=>I.pin p (List.mem_append_right _ z)) λz=>by
   obtain ⟨hb,e⟩:=Xe z
   obtain ⟨f0,f1,f2,_⟩:=hf p.1 hb
   obtain ⟨o,e',d⟩:=ho p.1 hb
   rw [e] at e';cases e'
   exact ⟨e,f0,f1,f2,d⟩
theorem Inv.unpinned {pins pl:List (Addr×Obj)} {σ:St} {H:Hp} {s:Shared} (I:Inv X (pins++pl) σ H s):Inv X pins σ H s:=I.pins_of λp hp=>I.pin p (List.mem_append_right _ (List.mem_append_left _ hp))
theorem Zo {iter:Expr} {body:List Stmt} {wi:TI} {g:TG} {tb:TS} {pos:Pos} (hp:PassesOwn (model X.prog X.w) X.A X.env X.xe) (hc:X.calm=true) (hi:PI X tg iter wi) (hg:PG X tg g) (hb:Vh X body tb)
 (hs:∀x,foldedSetIterable iter X.env x=pure x:=by intro _;rfl):PS X (.For tg iter body [] pos) (lW wi g tb):=by
 intro pins s σ H D I h
 refine wpAny_For (BV (hi pins s σ H _ I h) λv s1 h1=>BV h1 λitv s2 h2=> ?_) hs
 obtain ⟨it,fp,tn,J,H2,e,I2,T,st2,f2,W,⟨m0,w0⟩,turn⟩:=h2
 subst e
 have stat:∀{H':Hp},(∀b∈fp,H' b=none)->∀b∈fp,Dh X pins H' b:=λhn b hb=>⟨hn b hb,(f2 b hb).2⟩
 refine codeAny_forLoop_any (λn s'=>∃i σ' H',Inv X pins σ' H' s'/\tn i s'.heap/\(∀b∈fp,H' b=none)/\W i n σ' H') ?_ m0 ⟨0,σ,H2,I2,st2,λb hb=>(f2 b hb).1,w0⟩
 rintro n s3 ⟨i,σ3,H3,I3,st3,fr3,w3⟩
 rcases turn i n σ3 H3 w3 with ⟨stop,qn⟩|⟨go,N,hN,step⟩
 ·refine wpAny_passesOwn hp (BV (T.done X rfl rfl rfl hc i pins s3 σ3 H3 X.xe I3 (stat fr3) st3 stop) λr s4 ⟨hr,I4⟩=> ?_)
  subst hr
  exact wpAny_execs_nil ⟨σ3,H3,I4,qn⟩
 ·refine wpAny_passesOwn hp (BV (T.item X rfl rfl rfl hc i pins s3 σ3 H3 X.xe I3 (stat fr3) st3 go) λr s4 ⟨u,hr,h4⟩=> ?_)
  subst hr
  refine wpAny_passesOwn hp (BV h4 λ_ s5 ⟨x,H5,I5,r5,y5,st5,fr5⟩=> ?_)
  have I5':=I5.pinned (stat fr5) (T.obj _ _ st5)
  refine wpAny_passesOwn hp (BV (hg _ s5 σ3 H5 x u _ I5' r5 (step x H5 y5)) λ_ s6 ⟨σ6,H6,I6,q6⟩=> ?_)
  refine wpAny_passesOwn hp (BV (hb _ s6 σ6 H6 _ I6 q6) λf s7 q7=> ?_)
  have again:∀{σ7:St} {H7:Hp},Inv X (pins++FI fp s5.heap) σ7 H7 s7->N σ7 H7->∃m,m<n/\∃i σ' H',Inv X pins σ' H' s7/\tn i s7.heap/\(∀b∈fp,H' b=none)/\W i m σ' H':=λ{σ7 H7} I7 n7=>by
   obtain ⟨m',hm,w7⟩:=hN σ7 H7 n7
   refine ⟨m',hm,i+1,σ7,H7,I7.unpinned,T.keep _ _ _ st5 λb hb o e=>(I7.pin (b,o) (List.mem_append_right _ (List.mem_append_right _ (Bx hb e)))).1,λb hb=> ?_,w7⟩
   obtain ⟨o,e,d⟩:=T.obj _ _ st5 b hb
   exact (I7.pin (b,o) (List.mem_append_right _ (List.mem_append_right _ (Bx hb e)))).2.1
  cases f with
  | next=>obtain ⟨σ7,H7,I7,n7⟩:=q7;exact again I7 n7
  | cont=>obtain ⟨σ7,H7,I7,n7⟩:=q7;exact again I7 n7
  | brk=>obtain ⟨σ7,H7,I7,q7⟩:=q7;exact ⟨σ7,H7,I7.unpinned,q7⟩
  | ret v=>obtain ⟨x7,σ7,H7,I7,r7,q7⟩:=q7;exact ⟨x7,σ7,H7,I7.unpinned,r7,q7⟩
end
end L2
namespace L2
open PySem PySem.Spec PyProof.Rows
abbrev R2:=V->V->Hp->VK->Prop
def EC (X:Cx) (f:Value->Value->Sem Value) (r:R2):Prop:=
 ∀(pins:List (Addr×Obj)) (s:Shared) (σ:St) (H:Hp) (x y:V) (v u:Value) (Q:VK),Inv X pins σ H s->RelV x v->RelV y u->r x y H Q->
  wpAny (model X.prog X.w) X.A (f v u) (EP X pins σ Q) X.xe s
def my (X:Cx) (f:Value->Sem Value) (r:V->Hp->VK->Prop):Prop:=
 ∀(pins:List (Addr×Obj)) (s:Shared) (σ:St) (H:Hp) (x:V) (v:Value) (Q:VK),Inv X pins σ H s->RelV x v->r x H Q->
  wpAny (model X.prog X.w) X.A (f v) (EP X pins σ Q) X.xe s
def Cj (X:Cx) (f:Value) (r:List V->Hp->VK->Prop):Prop:=
 ∀(pins:List (Addr×Obj)) (s:Shared) (σ:St) (H:Hp) (xs:List V) (us:List Value) (Q:VK),Inv X pins σ H s->Ax xs us->r xs H Q->
  wpAny (model X.prog X.w) X.A (call f us) (EP X pins σ Q) X.xe s
def mw (X:Cx) (r:V->Hp->(Bool->Hp->Prop)->Prop):Prop:=
 ∀(pins:List (Addr×Obj)) (s:Shared) (σ:St) (H:Hp) (x:V) (v:Value) (Q:Bool->Hp->Prop),Inv X pins σ H s->RelV x v->r x H Q->
  wpAny (model X.prog X.w) X.A (truthy v) (TP X pins σ Q) X.xe s
def de (r:R2) (ta tb:TE):TE:=λσ H Q=>ta σ H λx H1=>tb σ H1 λy H2=>r x y H2 Q
def ud (r:V->Hp->VK->Prop) (ta:TE):TE:=λσ H Q=>ta σ H λx H1=>r x H1 Q
def rI (C:Int->Int->Prop) (g:Int->Int->V):R2:=λx y H Q=>∃i j,x= .int i/\y= .int j/\C i j/\Q (g i j) H
def PQ (g:Int->Int->V):R2:=λx y H Q=>∃i j,x= .int i/\y= .int j/\Q (g i j) H
def rU (g:Int->V):V->Hp->VK->Prop:=λx H Q=>∃i,x= .int i/\Q (g i) H
section
variable {X:Cx} {a b c:Expr} {ta tb tc:TE} {pos:Pos}
theorem fo (ha:PE X a ta) (hb:PE X b tb) {pins:List (Addr×Obj)} {s:Shared} {σ:St} {H:Hp} {R:V->V->Hp->Prop} (I:Inv X pins σ H s)
 (h:ta σ H λx H1=>tb σ H1 λy H2=>R x y H2) {Q:Value->Shared->Prop} {f:Value->Value->Sem Value}
 (hf:∀v u s2 x y H2,Inv X pins σ H2 s2->RelV x v->RelV y u->R x y H2->wpAny (model X.prog X.w) X.A (f v u) Q X.xe s2):
 wpAny (model X.prog X.w) X.A (eval a X.env) (λv s₁=>wpAny (model X.prog X.w) X.A (eval b X.env) (λu s₂=>wpAny (model X.prog X.w) X.A (f v u) Q X.xe s₂) X.xe s₁) X.xe s:=by
 refine BV (ha pins s σ H _ I h) λv s1 ⟨x,H1,I1,r1,q1⟩=> ?_
 refine BV (hb pins s1 σ H1 _ I1 q1) λu s2 ⟨y,H2,I2,r2,q2⟩=> ?_
 exact hf v u s2 x y H2 I2 r1 r2 q2
theorem CA {op:Operator} {r:R2} (ho:EC X (binaryOp op) r) (ha:PE X a ta) (hb:PE X b tb):PE X (.BinOp a op b pos) (de r ta tb):=by
 intro pins s σ H Q I h
 exact wpAny_BinOp (fo ha hb I h λv u s2 x y H2 I2 rx ry q=>ho pins s2 σ H2 x y v u Q I2 rx ry q)
theorem kh {op:UnaryOp} {r:V->Hp->VK->Prop} (ho:my X (unaryOp op) r) (ha:PE X a ta):PE X (.UnaryOp op a pos) (ud r ta):=by
 intro pins s σ H Q I h
 exact UnaryOp_ (BV (ha pins s σ H _ I h) λv s1 ⟨x,H1,I1,r1,q1⟩=>ho pins s1 σ H1 x v Q I1 r1 q1)
theorem hG {f:Value->Value->Sem Value} {C:Int->Int->Prop} {g:Int->Int->Int}
 (rule:∀(i j:Int) (t u:Tok) (s:Shared) (Q:Value->Shared->Prop) (E:Value->Shared->Prop),C i j->Q (.int (g i j) s.toks) {s with toks:=s.toks+1}->wpAny (model X.prog X.w) X.A (f (.int i t) (.int j u)) Q E s):
 EC X f (rI C λi j=> .int (g i j)):=by
 intro pins s σ H x y v u Q I rx ry h
 obtain ⟨i,j,rfl,rfl,hc,q⟩:=h
 obtain ⟨t,rfl⟩:=rx
 obtain ⟨t',rfl⟩:=ry
 exact rule i j t t' s _ _ hc ⟨.int (g i j),H,I.tok _,⟨_,rfl⟩,q⟩
theorem kW {f:Value->Value->Sem Value} {g:Int->Int->Int}
 (rule:∀(i j:Int) (t u:Tok) (s:Shared) (Q:Value->Shared->Prop) (E:Value->Shared->Prop),Q (.int (g i j) s.toks) {s with toks:=s.toks+1}->wpAny (model X.prog X.w) X.A (f (.int i t) (.int j u)) Q E s):
 EC X f (PQ λi j=> .int (g i j)):=by
 intro pins s σ H x y v u Q I rx ry h
 obtain ⟨i,j,rfl,rfl,q⟩:=h
 obtain ⟨t,rfl⟩:=rx
 obtain ⟨t',rfl⟩:=ry
 exact rule i j t t' s _ _ ⟨.int (g i j),H,I.tok _,⟨_,rfl⟩,q⟩
theorem g9 {f:Value->Value->Sem Value} {g:Int->Int->Bool}
 (rule:∀(i j:Int) (t u:Tok) (s:Shared) (Q:Value->Shared->Prop) (E:Value->Shared->Prop),Q (.bool (g i j)) s->wpAny (model X.prog X.w) X.A (f (.int i t) (.int j u)) Q E s):
 EC X f (PQ λi j=> .bl (g i j)):=by
 intro pins s σ H x y v u Q I rx ry h
 obtain ⟨i,j,rfl,rfl,q⟩:=h
 obtain ⟨t,rfl⟩:=rx
 obtain ⟨t',rfl⟩:=ry
 exact rule i j t t' s _ _ ⟨.bl (g i j),H,I,rfl,q⟩
def mY (i j:Int):Prop:=0<=j/\j<=1000000/\i.natAbs<2^64
def Mq (i j:Int):Prop:=(-(2^64)<i/\i<2^64)\/(-(2^64)<j/\j<2^64)
theorem Mq.ok {i j:Int} (h:Mq i j):IntMulOk i j:=by
 rcases h with ⟨h1,h2⟩|⟨h1,h2⟩
 ·exact .of_left (intBits_le_64 h1 h2)
 ·exact .of_right (intBits_le_64 h1 h2)
theorem IX:EC X (binaryOp .Add) (PQ λi j=> .int (i+j)):=kW λ_ _ _ _ _ _ _ q=>add_int q
theorem U8:EC X (binaryOp .Sub) (PQ λi j=> .int (i-j)):=kW λ_ _ _ _ _ _ _ q=>sub_int q
theorem F4:EC X (binaryOp .Mod) (rI (λ_ j=>0<j) λi j=> .int (i % j)):=hG λi j _ _ _ _ _ hc q=>by
 have h1:(0:Int)<j:=hc
 exact mod_int' (by omega) (by rw [Int.fmod_eq_emod_of_nonneg i (by omega)];exact q)
theorem cj:EC X (binaryOp .Mod) (rI (λ_ j=>j≠0) λi j=> .int (i.fmod j)):=hG λ_ _ _ _ _ _ _ hc q=>mod_int' hc q
theorem hZ:EC X (binaryOp .Pow) (rI mY λi j=> .int (i^j.toNat)):=hG λ_ _ _ _ _ _ _ hc q=>pow_int_small hc.1 hc.2.1 hc.2.2 q
theorem ue {f:Value->Sem Value} {g:Int->Int}
 (rule:∀(i:Int) (t:Tok) (s:Shared) (Q:Value->Shared->Prop) (E:Value->Shared->Prop),Q (.int (g i) s.toks) {s with toks:=s.toks+1}->wpAny (model X.prog X.w) X.A (f (.int i t)) Q E s):
 my X f (rU λi=> .int (g i)):=by
 intro pins s σ H x v Q I rx h
 obtain ⟨i,rfl,q⟩:=h
 obtain ⟨t,rfl⟩:=rx
 exact rule i t s _ _ ⟨.int (g i),H,I.tok _,⟨_,rfl⟩,q⟩
theorem ir:my X (unaryOp .USub) (rU λi=> .int (-i)):=ue λ_ _ _ _ _ q=>neg_int q
end
def dJ:V->V->Bool
 | .non, .non=>true | .non, .int _=>true | .int _, .non=>true | .non, .bl _=>true | .bl _, .non=>true | .non, .str _=>true | .str _, .non=>true
 | .int _, .int _=>true | .bl _, .bl _=>true | .str _, .str _=>true | .byt _, .byt _=>true
 | .int _, .str _=>true | .str _, .int _=>true | .bl _, .str _=>true | .str _, .bl _=>true
 | _,_=>false
def qb:R2:=λx y H Q=>dJ x y=true/\Q (.bl (decide (x=y))) H
def qc:R2:=λx y H Q=>dJ x y=true/\Q (.bl (!decide (x=y))) H
theorem Vv {i j:Int}:decide (V.int i=V.int j)=(i==j):=by
 rw [Bool.eq_iff_iff]
 simp
theorem Yv {i j:Bool}:decide (V.bl i=V.bl j)=(i==j):=by
 rw [Bool.eq_iff_iff]
 simp
theorem Vw {i j:Str}:decide (V.str i=V.str j)=(i==j):=by
 rw [Bool.eq_iff_iff]
 simp
theorem Vu {i j:Array UInt8}:decide (V.byt i=V.byt j)=(i.toList==j.toList):=by
 rw [Bool.eq_iff_iff]
 cases i
 cases j
 simp
section
variable {X:Cx} {a b c:Expr} {ta tb tc:TE} {pos:Pos}
theorem BE {pins:List (Addr×Obj)} {σ:St} {H:Hp} {s:Shared} {Q:VK} {k k':Bool} (I:Inv X pins σ H s) (q:Q (.bl k) H) (e:k=k'):EP X pins σ Q (.bool k') s:=by
 subst e
 exact ⟨.bl k,H,I,rfl,q⟩
theorem kX:EC X (compareOp .Eq) qb:=by
 intro pins s σ H x y v u Q I rx ry h
 obtain ⟨hs,q⟩:=h
 cases x with
 | non=>
   cases rx
   cases y with
   | non=>cases ry;exact PySem.EqNone.eq_none_none (BE I q (by simp))
   | bl j=>cases ry;exact PySem.EqNone.eq_none_bool (BE I q (by simp))
   | int j=>obtain ⟨t',rfl⟩:=ry;exact PySem.EqNone.eq_none_int (BE I q (by simp))
   | str j=>obtain ⟨t',rfl⟩:=ry;exact PySem.EqNone.eq_none_str (BE I q (by simp))
   | _=>exact absurd (show false=true from hs) Bool.false_ne_true
 | bl i=>
   cases rx
   cases y with
   | non=>cases ry;exact PySem.EqNone.eq_bool_none (BE I q (by simp))
   | bl j=>cases ry;exact eq_bool (BE I q Yv)
   | str j=>obtain ⟨t',rfl⟩:=ry;exact PySem.EqMixed.eq_bool_str (BE I q (by simp))
   | _=>exact absurd (show false=true from hs) Bool.false_ne_true
 | int i=>
   obtain ⟨t,rfl⟩:=rx
   cases y with
   | non=>cases ry;exact PySem.EqNone.eq_int_none (BE I q (by simp))
   | int j=>obtain ⟨t',rfl⟩:=ry;exact eq_int (BE I q Vv)
   | str j=>obtain ⟨t',rfl⟩:=ry;exact PySem.EqMixed.eq_int_str (BE I q (by simp))
   | _=>exact absurd (show false=true from hs) Bool.false_ne_true
 | str i=>
   obtain ⟨t,rfl⟩:=rx
   cases y with
   | non=>cases ry;exact PySem.EqNone.eq_str_none (BE I q (by simp))
   | bl j=>cases ry;exact PySem.EqMixed.eq_str_bool (BE I q (by simp))
   | int j=>obtain ⟨t',rfl⟩:=ry;exact PySem.EqMixed.eq_str_int (BE I q (by simp))
   | str j=>obtain ⟨t',rfl⟩:=ry;exact eq_str (BE I q Vw)
   | _=>exact absurd (show false=true from hs) Bool.false_ne_true
 | byt i=>
   obtain ⟨t,rfl⟩:=rx
   cases y with
   | byt j=>obtain ⟨t',rfl⟩:=ry;exact PySem.W.eq_bytes (BE I q Vu)
   | _=>exact absurd (show false=true from hs) Bool.false_ne_true
 | _=>cases y <;> exact absurd (show false=true from hs) Bool.false_ne_true
theorem kY:EC X (compareOp .NotEq) qc:=by
 intro pins s σ H x y v u Q I rx ry h
 obtain ⟨hs,q⟩:=h
 cases x with
 | non=>
   cases rx
   cases y with
   | non=>cases ry;exact PySem.EqNone.ne_none_none (BE I q (by simp))
   | bl j=>cases ry;exact PySem.EqNone.ne_none_bool (BE I q (by simp))
   | int j=>obtain ⟨t',rfl⟩:=ry;exact PySem.EqNone.ne_none_int (BE I q (by simp))
   | str j=>obtain ⟨t',rfl⟩:=ry;exact PySem.EqNone.ne_none_str (BE I q (by simp))
   | _=>exact absurd (show false=true from hs) Bool.false_ne_true
 | bl i=>
   cases rx
   cases y with
   | non=>cases ry;exact PySem.EqNone.ne_bool_none (BE I q (by simp))
   | bl j=>cases ry;exact ne_bool (BE I q (congrArg not Yv))
   | str j=>obtain ⟨t',rfl⟩:=ry;exact PySem.EqMixed.ne_bool_str (BE I q (by simp))
   | _=>exact absurd (show false=true from hs) Bool.false_ne_true
 | int i=>
   obtain ⟨t,rfl⟩:=rx
   cases y with
   | non=>cases ry;exact PySem.EqNone.ne_int_none (BE I q (by simp))
   | int j=>obtain ⟨t',rfl⟩:=ry;exact ne_int (BE I q (congrArg not Vv))
   | str j=>obtain ⟨t',rfl⟩:=ry;exact PySem.EqMixed.ne_int_str (BE I q (by simp))
   | _=>exact absurd (show false=true from hs) Bool.false_ne_true
 | str i=>
   obtain ⟨t,rfl⟩:=rx
   cases y with
   | non=>cases ry;exact PySem.EqNone.ne_str_none (BE I q (by simp))
   | bl j=>cases ry;exact PySem.EqMixed.ne_str_bool (BE I q (by simp))
   | int j=>obtain ⟨t',rfl⟩:=ry;exact PySem.EqMixed.ne_str_int (BE I q (by simp))
   | str j=>obtain ⟨t',rfl⟩:=ry;exact ne_str (BE I q (congrArg not Vw))
   | _=>exact absurd (show false=true from hs) Bool.false_ne_true
 | byt i=>
   obtain ⟨t,rfl⟩:=rx
   cases y with
   | byt j=>obtain ⟨t',rfl⟩:=ry;exact PySem.W.ne_bytes (BE I q (congrArg not Vu))
   | _=>exact absurd (show false=true from hs) Bool.false_ne_true
 | _=>cases y <;> exact absurd (show false=true from hs) Bool.false_ne_true
theorem e8:EC X (compareOp .Lt) (PQ λi j=> .bl (decide (i<j))):=g9 λ_ _ _ _ _ _ _ q=>lt_int q
theorem e7:EC X (compareOp .Gt) (PQ λi j=> .bl (decide (j<i))):=g9 λ_ _ _ _ _ _ _ q=>gt_int q
theorem e6:EC X (compareOp .GtE) (PQ λi j=> .bl (decide (j<=i))):=g9 λ_ _ _ _ _ _ _ q=>ge_int q
theorem hU:EC X (compareOp .Is) (λx y H Q=>y= .non/\Q (.bl (decide (x= .non))) H):=by
 intro pins s σ H x y v u Q I rx ry h
 obtain ⟨rfl,q⟩:=h
 cases ry
 refine is_none_gen (BE I q ?_)
 cases x <;> first
  | (cases rx;rfl)
  | (obtain ⟨t,rfl⟩:=rx;rfl)
theorem WI:EC X (compareOp .IsNot) (λx y H Q=>y= .non/\Q (.bl (!decide (x= .non))) H):=by
 intro pins s σ H x y v u Q I rx ry h
 obtain ⟨rfl,q⟩:=h
 cases ry
 refine isnot_none_gen (BE I q ?_)
 cases x <;> first
  | (cases rx;rfl)
  | (obtain ⟨t,rfl⟩:=rx;rfl)
theorem EC.or {f:Value->Value->Sem Value} {r r':R2} (h:EC X f r) (h':EC X f r'):EC X f (λx y H Q=>r x y H Q\/r' x y H Q):=by
 intro pins s σ H x y v u Q I rx ry q
 rcases q with q|q
 ·exact h pins s σ H x y v u Q I rx ry q
 ·exact h' pins s σ H x y v u Q I rx ry q
theorem DB (b:Expr) {op:CmpOp} (h:op≠ .In:=by decide) (h2:op≠ .NotIn:=by decide):behindInMarks op b=false:=by
 have e1:(op==CmpOp.In)=false:=by cases op <;> first | rfl|exact absurd rfl h
 have e2:(op==CmpOp.NotIn)=false:=by cases op <;> first | rfl|exact absurd rfl h2
 cases b <;> simp [behindInMarks,e1,e2]
theorem WL {op:CmpOp} {r:R2} (ho:EC X (compareOp op) r) (ha:PE X a ta) (hb:PE X b tb) (hm:behindInMarks op b=false):PE X (.Compare a [op] [b] pos) (de r ta tb):=by
 intro pins s σ H Q I h
 exact wpAny_Compare1 (fo ha hb I h λv u s2 x y H2 I2 rx ry q=>ho pins s2 σ H2 x y v u Q I2 rx ry q) hm
def aW (t:TE):TT:=λσ H Q=>t σ H λx H'=>∃k,x= .bl k/\Q k H'
theorem MI {op:CmpOp} {r:R2} (ho:EC X (compareOp op) r) (ha:PE X a ta) (hb:PE X b tb) (hm:behindInMarks op b=false):PT X (.Compare a [op] [b] pos) (aW (de r ta tb)):=by
 intro pins s σ H Q I h
 refine wpAny_isTrue_Compare1 (BV (ha pins s σ H _ I h) λv s1 ⟨x,H1,I1,r1,q1⟩=>BV (hb pins s1 σ H1 _ I1 q1) λu s2 ⟨y,H2,I2,r2,q2⟩=>
  BV (ho pins s2 σ H2 x y v u _ I2 r1 r2 q2) λc s3 ⟨z,H3,I3,r3,k,e,q3⟩=> ?_) hm
 subst e
 cases r3
 exact wpAny_truthy_bool ⟨H3,I3,q3⟩
def jf (K:PySem.W.Frag) (x:V) (H:Hp) (k:Bool):Prop:=
 match x with
 | .non=>k=false
 | .bl b=>k=b
 | .int i=>k=(i != 0)
 | .str y=>y.length<=sizeLine/\k=((y.length:Int) != 0)
 | .byt y=>y.size<=sizeLine/\k=((y.size:Int) != 0)
 | .ref p=>(∃xs,Fw K H p xs/\k= !xs.isEmpty)\/(∃xs,JD K H p xs/\k= !xs.isEmpty)\/∃kvs,H p=some (.dK kvs)/\k= !kvs.isEmpty
 | _=>False
theorem Uo {κ:Type} {kvs:List (κ×V)} {vs:List (κ×Value)} (r:KV kvs vs):(!vs.isEmpty)= !kvs.isEmpty:=by
 cases r <;> rfl
theorem NP {xs:List V} {its:List Value} (r:Ax xs its):(!its.toArray.isEmpty)= !xs.isEmpty:=by
 cases r <;> simp
theorem Kz:(sizeLine:Nat)<2^63:=by rw [sizeLine_eq];decide
theorem im:mw X (λx H Q=>∃k,jf X.K x H k/\Q k H):=by
 intro pins s σ H x v Q I rx h
 obtain ⟨k,e,q⟩:=h
 have hl:=Kz
 have hs:sizeLine=16777216:=sizeLine_eq
 cases x with
 | non=>
   cases rx
   have e':k=false:=e
   subst e'
   exact truthy_none ⟨H,I,q⟩
 | bl b=>
   cases rx
   have e':k=b:=e
   subst e'
   exact wpAny_truthy_bool ⟨H,I,q⟩
 | int i=>
   obtain ⟨t,rfl⟩:=rx
   have e':k=(i != 0):=e
   subst e'
   exact PySem.P.truthy_int ⟨H,I,q⟩
 | str y=>
   obtain ⟨t,rfl⟩:=rx
   obtain ⟨hy,e'⟩:y.length<=sizeLine/\k=((y.length:Int) != 0):=e
   subst e'
   exact PySem.P.truthy_str (by omega) ⟨H,I.tok _,q⟩
 | byt y=>
   obtain ⟨t,rfl⟩:=rx
   obtain ⟨hy,e'⟩:y.size<=sizeLine/\k=((y.size:Int) != 0):=e
   subst e'
   exact PySem.W.truthy_bytes (by omega) ⟨H,I.tok _,q⟩
 | ref p=>
   cases rx
   have e':(∃xs,Fw X.K H p xs/\k= !xs.isEmpty)\/(∃xs,JD X.K H p xs/\k= !xs.isEmpty)\/∃kvs,H p=some (.dK kvs)/\k= !kvs.isEmpty:=e
   rcases e' with ⟨xs,hx,e'⟩|⟨xs,hx,e'⟩|⟨kvs,hx,e'⟩
   ·subst e'
    obtain ⟨its,r,pl,hz⟩:=I.list hx
    have C9:=r.length
    exact wpAny_truthy_list pl.isList (by simp only [List.size_toArray];omega) ⟨H,I.tok _,by rw [NP r];exact q⟩
   ·subst e'
    obtain ⟨its,r,pl,hz⟩:=I.tuple hx
    have C9:=r.length
    exact truthy_tuple pl (by simp only [List.size_toArray];omega) ⟨H,I.tok _,by rw [NP r];exact q⟩
   ·subst e'
    obtain ⟨hz,hS,vs,r,m⟩:kvs.length<=sizeLine/\(p==sysModules)=false/\∃vs,KV kvs vs/\s.heap.DictOf (Qp X.prog X.w) p vs:=I.hok p _ hx
    have C9:kvs.length=vs.length:=Paired.length r
    exact wpAny_truthy_dict hS m (by omega) ⟨H,I.tok _,by rw [Uo r];exact q⟩
 | _=>exact (show False from e).elim
theorem Zr (ha:PE X a ta) (he:∀whole,isTrue a X.env whole=(do let v <-whole;standAt a.pos;holding [v] (truthy v))):
 PT X a (λσ H Q=>ta σ H λx H'=>∃k,jf X.K x H' k/\Q k H'):=by
 intro pins s σ H Q I h
 exact isTrue_plain (BV (ha pins s σ H _ I h) λv s1 ⟨x,H1,I1,r1,q1⟩=>im pins s1 σ H1 x v Q I1 r1 q1) (he _)
theorem vals1 {x:V} {us:List Value} (r:Ax [x] us):∃u,us= [u] /\RelV x u:=by
 cases r with
 | cons r1 r2=>cases r2;exact ⟨_,rfl,r1⟩
theorem vals2 {x y:V} {us:List Value} (r:Ax [x,y] us):∃u w',us= [u,w'] /\RelV x u/\RelV y w':=by
 cases r with
 | cons r1 r2=>
   cases r2 with
   | cons r3 r4=>cases r4;exact ⟨_,_,rfl,r1,r3⟩
theorem NC:Cj X (.builtin "abs") (λxs H Q=>∃i,xs= [.int i] /\Q (.int (if i<0 then -i else i)) H):=by
 intro pins s σ H xs us Q I r h
 obtain ⟨i,rfl,q⟩:=h
 obtain ⟨u,rfl,t,rfl⟩:=vals1 r
 exact call_abs_int λu tk=>⟨.int (if i<0 then -i else i),H,I.tok _,⟨_,rfl⟩,q⟩
theorem W3 (hc:X.calm=true):Cj X (.builtin "min") (λxs H Q=>∃i j,xs= [.int i, .int j] /\Q (.int (if j<i then j else i)) H):=by
 intro pins s σ H xs us Q I r h
 obtain ⟨i,j,rfl,q⟩:=h
 obtain ⟨u,w',rfl,⟨t,rfl⟩,⟨t',rfl⟩⟩:=vals2 r
 refine min_two_ints (I.ok.hd hc) λh' tk k=>⟨_,H,I.kept k, ?_,q⟩
 by_cases hj:j<i
 ·rw [if_pos hj,if_pos hj];exact ⟨_,rfl⟩
 ·rw [if_neg hj,if_neg hj];exact ⟨_,rfl⟩
theorem PB:Cj X (.type "int") (λxs H Q=>(∃i,xs= [.int i] /\Q (.int i) H)\/∃k,xs= [.bl k] /\Q (.int (if k then 1 else 0)) H):=by
 intro pins s σ H xs us Q I r h
 rcases h with ⟨i,rfl,q⟩|⟨k,rfl,q⟩
 ·obtain ⟨u,rfl,t,rfl⟩:=vals1 r
  exact call_int_int ⟨.int i,H,I,⟨_,rfl⟩,q⟩
 ·obtain ⟨u,rfl,r1⟩:=vals1 r
  cases r1
  exact call_int_bool ⟨.int (if k then 1 else 0),H,I.tok _,⟨_,rfl⟩,q⟩
end
end L2
namespace L2
open PySem PySem.Spec PyProof.Rows
structure fV (h:Heap) (x dx C:Addr) (mA:Str->Option Value):Prop where
 obj:h.get? x=some (PySem.W.instObj C dx)
 ns:h.Ns1 dx mA
 ne:dx≠x
theorem XY {h:Heap} {dx:Addr} {mA:Str->Option Value} (n:h.Ns1 dx mA):∃od,h.get? dx=some od/\∀name,PySem.W.lookIn name od=some (mA name):=by
 obtain ⟨o,es,ep,ho,hd,hk,_,hm⟩:=n
 refine ⟨o,ho,λname=> ?_⟩
 have e:=hm name
 unfold nsFind findBy at e
 rw [<-Array.find?_toList] at e
 unfold PySem.W.lookIn
 rw [hd]
 dsimp only
 split
 ·rename_i y q
  rw [q] at e
  exact congrArg some e
 ·rename_i q
  rw [q] at e
  have a:es.toList.any (·.refKey)=false:=by
   rw [List.any_eq_false]
   intro y hy
   obtain ⟨z,t,nQ⟩:=hk y (Array.mem_toList_iff.mp hy)
   simp [DictEntry.refKey,nQ]
  have a':¬es.toList.any (·.refKey)=true:=by rw [a];exact Bool.false_ne_true
  rw [if_neg a']
  exact congrArg some e
theorem fV.look {h:Heap} {x dx C:Addr} {mA:Str->Option Value} (I:fV h x dx C mA):∃od,PySem.W.InstAt h x (PySem.W.instObj C dx) C (some od)/\∀name,PySem.W.lookIn name od=some (mA name):=
 let ⟨od,ho,hl⟩:=XY I.ns
 ⟨od,⟨I.obj,rfl,rfl,ho⟩,hl⟩
section
variable {prog:Program} {w:World} {A:Around} {E:Value->Shared->Prop} {s:Shared} {K:PySem.W.Frag} {x dx C f:Addr} {mA:Str->Option Value} {name:Str} {v:Value}
theorem F1 {expr:Bool} {Q:Value->Shared->Prop} (X:K.In s.heap) (I:fV s.heap x dx C mA) (hg:PySem.W.plainGet K C name=true) (hh:PySem.W.hasDictIn K C=true)
 (ha:PySem.W.findIn K (.ref C) name=some none) (hv:mA name=some v) (uP:PySem.W.handedIn v=true) (h:Q v {s with toks:=s.toks+1}):
 wpAny (model prog w) A (getAttr (.ref x) name expr) Q E s:=by
 obtain ⟨od,J,hl⟩:=I.look
 exact PySem.W.get_value X J (PySem.W.plainGet_of hg).1 (PySem.W.findObj_own hh ha rfl (by rw [hl,hv])) uP h
end
theorem Lm.some_of {v:V} {o:Option Value} (r:Lm (some v) o):∃u,o=some u/\RelV v u:=by
 cases o with
 | none=>exact (show False from r).elim
 | some u=>exact ⟨u,rfl,r⟩
section
variable {P:Program} {w:World} {H H':Hp} {h h':Heap} {a C dx:Addr} {fs fs':List (Str×V)}
end
structure mZ (K:PySem.W.Frag) (C:Addr):Prop where
 pg:PySem.W.plainGet K C Str.empty=true
 hd:PySem.W.hasDictIn K C=true
 po:PySem.W.plainOver K C=true
 sa:PySem.W.findIn K (.ref C) "__setattr__" =some (some (.builtin "object.__setattr__"))
theorem mZ.get {K:PySem.W.Frag} {C:Addr} (c:mZ K C) (f:Str):PySem.W.plainGet K C f=true:=c.pg
structure u8 (K:PySem.W.Frag) (C:Addr) (f:Str) (v:V) (u:Value):Prop where
 at_:PySem.W.findIn K (.ref C) f=some (some u)
 rel:RelV v u
 get:PySem.W.specialIn K u "__get__" =some none
 cp:PySem.W.copiedNames.contains f=false
structure tF (K:PySem.W.Frag) (C:Addr) (m:Str) (f:Addr):Prop where
 at_:PySem.W.findIn K (.ref C) m=some (some (.ref f))
 fn:PySem.W.isFn K (.ref f)=true
 kp:PySem.W.keepIn K (.ref f)=true
section
variable {X:Cx} {pins:List (Addr×Obj)} {σ:St} {H:Hp} {s:Shared} {a C dx:Addr} {fs:List (Str×V)} {f:Str} {v:V} {A:Around} {E:Value->Shared->Prop}
theorem Inv.made (I:Inv X pins σ H s):Inv X pins σ (upd (upd H s.heap.objs.size (.own (s.heap.objs.size+1))) (s.heap.objs.size+1) (.ins C s.heap.objs.size []))
 {s with heap:=(s.heap.push PySem.W.emptyDict).push (PySem.W.instObj C s.heap.objs.size)}:=by
 have e1:(s.heap.push PySem.W.emptyDict).get? s.heap.objs.size=some PySem.W.emptyDict:=Heap.get?_push_size s.heap rfl
 have e2:((s.heap.push PySem.W.emptyDict).push (PySem.W.instObj C s.heap.objs.size)).get? (s.heap.objs.size+1)=some (PySem.W.instObj C s.heap.objs.size):=by
  have:=Heap.get?_push_size (s.heap.push PySem.W.emptyDict) (o:=PySem.W.instObj C s.heap.objs.size) rfl
  rwa [Heap.size_push] at this
 have e3:(s.heap.push PySem.W.emptyDict).Ns s.heap.objs.size (λ_=>none):=⟨PySem.W.emptyDict, #[],_,e1,rfl,(λe he=>absurd he (by simp)),λ_=>rfl⟩
 have I1:=I.laid (a:=s.heap.objs.size) (o:= .own (s.heap.objs.size+1)) (h':=s.heap.push PySem.W.emptyDict) (t':=s.toks) (λb u q=>Heap.get?_push_of_some _ q) (Nat.le_refl _) ⟨_,e1⟩
 refine I1.laid (a:=s.heap.objs.size+1) (o:= .ins C s.heap.objs.size []) (t':=s.toks) (λb u q=>Heap.get?_push_of_some _ q) (Nat.le_of_eq (Heap.size_push _ _)) ?_
 have ne:s.heap.objs.size≠s.heap.objs.size+1:=Nat.ne_of_lt (Nat.lt_succ_self _)
 refine ⟨by rw [Af ne,Ah],Nat.zero_le _,ne,e2,λ_=>none,(Heap.Ns1.of_empty e3).at λo q=>Heap.get?_push_of_some _ q,λ_=>True.intro,λy hy=>absurd rfl hy⟩
end
section
variable {X:Cx} {o e value:Expr} {f:Str} {pos pos' tpos:Pos} {ta tv:TE}
end
section
variable {X:Cx} {pins:List (Addr×Obj)} {σ:St} {H:Hp} {s:Shared} {A:Around} {E:Value->Shared->Prop} {Q:Value->Shared->Prop} {c:Value} {b:Bool}
inductive M3 (K:PySem.W.Frag) (H:Hp):V->Value->Prop where
 | non:M3 K H .non (.type "NoneType")
 | bl (x:Bool):M3 K H (.bl x) (.type "bool")
 | int (i:Int):M3 K H (.int i) (.type "int")
 | str (x:Str):M3 K H (.str x) (.type "str")
 | flt (x:UInt64):M3 K H (.flt x) (.type "float")
 | lst {a:Addr} {xs:List V} (e:H a=some (.lst xs)):M3 K H (.ref a) (.type "list")
 | frz {a:Addr} {o:Obj} {xs:List V} (e:H a=some (.frz o (.lst xs))):M3 K H (.ref a) (.type "list")
 | tup {a:Addr} {xs:List V} (e:H a=some (.tup xs)):M3 K H (.ref a) (.type "tuple")
 | dK {a:Addr} {kvs:List (FS×V)} (e:H a=some (.dK kvs)):M3 K H (.ref a) (.type "dict")
 | dT {a:Addr} {kvs:List (List FS×V)} (e:H a=some (.dT kvs)):M3 K H (.ref a) (.type "dict")
 | ins {a C dx:Addr} {fs:List (Str×V)} (e:H a=some (.ins C dx fs)) (cl:mZ K C) (ha:PySem.W.findIn K (.ref C) "__class__" =some (some (.builtin "object.__class__")))
    (hn:PySem.W.specialIn K (.builtin "object.__class__") "__get__" =some (some (.builtin "getset_descriptor.__get__"))) (vN:PySem.W.takesIn K (.builtin "object.__class__")=some true)
    (hm:PySem.W.mroIn K C (.type "object")=some true):M3 K H (.ref a) (.ref C)
end
end L2
namespace L2
open PySem PySem.Spec PyProof.Rows
structure Room (k:Nat) (A:Around):Prop where
 hd:A.handled=none
 dp:A.depth+3*k+5<recursionLimit
 un:A.units+16*k+200<cLine
 gd:A.guards=some []
theorem Room.mono {j k:Nat} {A:Around} (r:Room k A) (h:j<=k):Room j A:=⟨r.hd,by have:=r.dp;omega,by have:=r.un;omega,r.gd⟩
theorem Room.deeper {k:Nat} {A:Around} (r:Room (k+1) A) (env:Env):Room k (A.deeper env):=
 ⟨r.hd,by have:=r.dp;show A.depth+1+3*k+5<_;omega,by have:=r.un;show A.units+3+16*k+200<_;omega,r.gd⟩
theorem Room.in1 {k:Nat} {A:Around} (r:Room (k+1) A):Room k A.in1:=
 ⟨r.hd,by have:=r.dp;show A.depth+3*k+5<_;omega,by have:=r.un;show A.units+1+16*k+200<_;omega,r.gd⟩
theorem Us {A:Around} {C:Addr} {us:List Value} {kw:List (Str×Value)}:(A.under (.builtin "type.__call__" ⟨.ref C::us,kw⟩)).depth=A.depth+1:=by
 first | rfl|simp [Around.under,Code.weight,Code.isCreation,Code.isGuard,Code.isCaller,Code.frames,Code.isFrame,guardIds]
theorem Ut {A:Around} {C:Addr} {us:List Value} {kw:List (Str×Value)}:(A.under (.builtin "type.__call__" ⟨.ref C::us,kw⟩)).units=A.units+1:=by
 first | rfl|simp [Around.under,Code.cUnits,Code.frames,Code.isFrame]
theorem Room.make {k:Nat} {A:Around} (r:Room (k+1) A) (C:Addr) (us:List Value) (kw:List (Str×Value)):Room k (A.under (.builtin "type.__call__" ⟨.ref C::us,kw⟩)):=
 ⟨r.hd,by have:=r.dp;rw [Us];omega,by have:=r.un;rw [Ut];omega,by first | exact r.gd|simpa [Around.under,pushGuards,Code.guards,Code.isGuard,guardIds] using r.gd⟩
theorem Room.depth {k:Nat} {A:Around} (r:Room k A):A.depth<recursionLimit:=by have:=r.dp;omega
theorem Room.units {k:Nat} {A:Around} (r:Room k A):A.units+64<cLine:=by have:=r.un;omega
def db:TA:=λ_ H Q=>Q [] H
def N7 (ta:TE) (tr:TA):TA:=λσ H Q=>ta σ H λx H1=>tr σ H1 λxs H2=>Q (x::xs) H2
section
variable {X:Cx} {e:Expr} {es:List Expr} {te:TE} {t:TA} {pos:Pos}
theorem FH:PA X [] db:=λ_ _ _ _ H Q I h=>Calls.spliced_nil ⟨[],H,I, .nil,h⟩
theorem CC (ha:PE X e te) (hr:PA X es t) (hs:starEach (e::es) X.env=(false,eval e X.env)::starEach es X.env:=by rfl):PA X (e::es) (N7 te t):=by
 intro pos pins s σ H Q I h
 rw [hs]
 show wpAny _ _ (spliced ((false,eval e X.env)::backTo pos (starEach es X.env))) _ _ s
 refine Calls.spliced_cons (BV (ha pins s σ H _ I h) λu s1 ⟨x,H1,I1,r1,q1⟩=> ?_)
 exact BV (hr pos pins s1 σ H1 _ I1 q1) λus s2 ⟨xs,H2,I2,r2,q2⟩=>⟨x::xs,H2,I2, .cons r1 r2,q2⟩
def df (t:TA):TE:=λσ H Q=>t σ H λxs H1=>xs.length<=sizeLine/\∀p,H1 p=none->Q (.ref p) (upd H1 p (.tup xs))
def oJ (t:TA):TE:=λσ H Q=>t σ H λxs H1=>xs.length<=sizeLine/\∀p,H1 p=none->Q (.ref p) (upd H1 p (.lst xs))
theorem Ng {x1} (h:PA X es t):PE X (.Tuple es x1 pos) (df t):=by
 intro pins s σ H Q I hq
 refine wpAny_Tuple_spliced (BV (h pos pins s σ H _ I hq) λus s1 ⟨xs,H1,I1,r,z,q⟩=>⟨by rw [<-r.length];exact z, ?_⟩)
 have hf:H1 s1.heap.objs.size=none:=I1.hok.fresh (Nat.le_refl _)
 refine ⟨.ref s1.heap.objs.size,upd H1 s1.heap.objs.size (.tup xs),I1.laid (t':=s1.toks) (λb u e=>Heap.get?_push_of_some _ e) (Nat.le_refl _) ?_,rfl,q _ hf⟩
 exact ⟨z,us,r,⟨_,Heap.get?_push_size _ rfl,rfl,_,rfl⟩⟩
theorem Zj (h:PA X es t):PE X (.List es pos) (oJ t):=by
 intro pins s σ H Q I hq
 refine wpAny_List_spliced (BV (h pos pins s σ H _ I hq) λus s1 ⟨xs,H1,I1,r,z,q⟩=>⟨by rw [<-r.length];exact z, ?_⟩)
 have hf:H1 s1.heap.objs.size=none:=I1.hok.fresh (Nat.le_refl _)
 refine ⟨.ref s1.heap.objs.size,upd H1 s1.heap.objs.size (.lst xs),I1.laid (t':=s1.toks) (λb u e=>Heap.get?_push_of_some _ e) (Nat.le_refl _) ?_,rfl,q _ hf⟩
 exact ⟨z,us,0,r,Heap.get?_push_size _ rfl⟩
end
abbrev Sp:=List V->Hp->VK->XK->Prop
abbrev Wr:=List Env->Hp->Shared->XK->Value->Shared->Prop
structure OP (P:Program) (w:World) (K:PySem.W.Frag) (mg:Str->Option Value) (base:Heap) (A:Around) (outer:List Env) (s:Shared) (H:Hp):Prop where
 frames:A.frames=some outer
 mod:Mod K mg base
 bs:∀b o,base.get? b=some o->s.heap.get? b=some o/\H b=none
 bsz:base.objs.size<=s.heap.objs.size
 funs:s.heap.FunFrames base outer
 frf:∀b∈YA outer,H b=none
 hok:Ll P w H s.heap
 bare:AllBare s.gens
def CE (outer:List Env) (P:Program) (w:World) (H:Hp) (s:Shared) (Q:VK) (u:Value) (s':Shared):Prop:=
 ∃v H',s'.os=s.os/\AllBare s'.gens/\Un (YA outer) [] H H' s.heap s'.heap/\Ll P w H' s'.heap/\RelV v u/\Q v H'
def CR (CX:Wr) (outer:List Env) (P:Program) (w:World) (H:Hp) (s:Shared) (Q:VK) (E:XK) (r:Result) (s':Shared):Prop:=
 match r with
 | .ok (.ret u)=>CE outer P w H s Q u s'
 | .ok _=>False
 | .error e=>CX outer H s E e s'
structure Az (P:Program) (w:World) (K:PySem.W.Frag) (mg:Str->Option Value) (base:Heap) (CX:Wr) (k:Nat) (f:Addr) (fd:FuncData) (ps:List Str) (sp:Sp):Prop where
 len:∀vs H Q E,sp vs H Q E->vs.length=ps.length
 run:∀(A:Around) (outer:List Env) (s:Shared) (H:Hp) (args:Args) (us:List Value) (vs:List V) (Q:VK) (E:XK),Room k A->OP P w K mg base A outer s H->BindsTo s fd args (ps.zip us)->Ax vs us->sp vs H Q E->
  codeAny (model P w) A (.call (.ref f) args) (CR CX outer P w H s Q E) s
theorem Az.mono {P:Program} {w:World} {K:PySem.W.Frag} {mg:Str->Option Value} {base:Heap} {CX:Wr} {j k:Nat} {f:Addr} {fd:FuncData} {ps:List Str} {sp:Sp} (F:Az P w K mg base CX j f fd ps sp) (h:j<=k):
 Az P w K mg base CX k f fd ps sp:=⟨F.len,λA outer s H args us vs Q E hr=>F.run A outer s H args us vs Q E (hr.mono h)⟩
theorem Az.imp {P:Program} {w:World} {K:PySem.W.Frag} {mg:Str->Option Value} {base:Heap} {CX:Wr} {k:Nat} {f:Addr} {fd:FuncData} {ps:List Str} {sp sp':Sp} (F:Az P w K mg base CX k f fd ps sp)
 (h:∀vs H Q E,sp' vs H Q E->sp vs H Q E):Az P w K mg base CX k f fd ps sp':=
 ⟨λvs H Q E q=>F.len vs H Q E (h _ _ _ _ q),λA outer s H args us vs Q E hr he hb hv hs=>F.run A outer s H args us vs Q E hr he hb hv (h _ _ _ _ hs)⟩
theorem OP.make {P:Program} {w:World} {K:PySem.W.Frag} {mg:Str->Option Value} {base:Heap} {A:Around} {outer:List Env} {s:Shared} {H:Hp} (e:OP P w K mg base A outer s H) (C:Addr) (us:List Value) (kw:List (Str×Value)):
 OP P w K mg base (A.under (.builtin "type.__call__" ⟨.ref C::us,kw⟩)) outer s H:=⟨by first | exact e.frames|(simpa [Around.under,Code.envs,Code.isFrame,pushEnvs] using e.frames),e.mod,e.bs,e.bsz,e.funs,e.frf,e.hok,e.bare⟩
theorem OP.in1 {P:Program} {w:World} {K:PySem.W.Frag} {mg:Str->Option Value} {base:Heap} {A:Around} {outer:List Env} {s:Shared} {H:Hp} (e:OP P w K mg base A outer s H):
 OP P w K mg base A.in1 outer s H:=⟨e.frames,e.mod,e.bs,e.bsz,e.funs,e.frf,e.hok,e.bare⟩
section
variable {X:Cx} {pins:List (Addr×Obj)} {σ:St} {H:Hp} {s s':Shared}
theorem Inv.env0 (I:Inv X pins σ H s):OP X.prog X.w X.K X.mg X.base X.A X.stack s H:=
 ⟨I.ok.frames,I.ok.mod,I.bs,Nat.le_trans I.ok.bsz I.sz,I.stack,I.stkFree,I.hok,I.bare⟩
theorem Inv.after {Q:VK} {u:Value} (I:Inv X pins σ H s) (h:CE X.stack X.prog X.w H s Q u s'):EP X pins σ Q u s':=by
 obtain ⟨v,H',os,bare,un,hok,r,q⟩:=h
 obtain ⟨hh,g,d,t,os'⟩:=s'
 obtain rfl:os'=s.os:=os
 exact ⟨v,H',I.call (h':=hh) (g':=g) (d':=d) (t':=t) (ch:= []) un hok bare (λb z=>absurd z (by simp)),r,q⟩
end
def fE (sp:Sp) (dvs:List V) (E:XK) (t:TA):TE:=λσ H Q=>t σ H λvs H1=>sp (vs++dvs) H1 Q E
def Binds (K:PySem.W.Frag) (fd:FuncData) (ps:List Str) (ds:List Value):Prop:=
 ∀(s:Shared) (us:List Value),K.In s.heap->(us++ds).length=ps.length->BindsTo s fd ⟨us, []⟩ (ps.zip (us++ds))
theorem Binds.all {K:PySem.W.Frag} {fd:FuncData} {ps:List Str} (h:∀us:List Value,us.length=ps.length->bindArgs fd ⟨us, []⟩=pure (ps.zip us)):Binds K fd ps [] :=λs us _ hl=>by
 rw [List.append_nil] at hl ⊢
 exact .of_eq (h us hl)
def Passes (CX:Wr) (X:Cx) (E:XK):Prop:=∀(pins:List (Addr×Obj)) (σ:St) (H:Hp) (s:Shared) (e:Value) (s':Shared),Inv X pins σ H s->CX X.stack H s E e s'->X.xe e s'
section
variable {X:Cx} {CX:Wr} {k:Nat} {f C:Addr} {fd:FuncData} {ps:List Str} {sp:Sp} {dvs:List V} {ds:List Value} {E:XK} {x m:Str} {p pos apos:Pos} {e o:Expr} {es:List Expr} {ta:TE} {t:TA}
theorem iQ {pins:List (Addr×Obj)} {σ:St} {H:Hp} {s:Shared} {Q:VK} {us:List Value} {vs:List V} (F:Az X.prog X.w X.K X.mg X.base CX k f fd ps sp) (hr:Room k X.A) (hb:Binds X.K fd ps ds) (hd:Ax dvs ds) (hx:Passes CX X E)
 (I:Inv X pins σ H s) (r:Ax vs us) (h:sp (vs++dvs) H Q E):wpAny (model X.prog X.w) X.A (call (.ref f) us) (EP X pins σ Q) X.xe s:=by
 have r2:Ax (vs++dvs) (us++ds):=r.append hd
 have hl:(us++ds).length=ps.length:=by rw [<-r2.length];exact F.len _ _ _ _ h
 refine wpAny_call (codeAny_mono (F.run X.A X.stack s H ⟨us, []⟩ (us++ds) (vs++dvs) Q E hr I.env0 (hb s us I.kIn hl) r2 h) λr s' hq=> ?_)
 cases r with
 | error e=>exact hx pins σ H s e s' I hq
 | ok fl=>
   cases fl with
   | ret u=>exact I.after hq
   | next=>exact False.elim hq
   | brk=>exact False.elim hq
   | cont=>exact False.elim hq
theorem cr (F:Az X.prog X.w X.K X.mg X.base CX k f fd ps sp) (hr:Room k X.A) (hg:Gl X x) (hm:X.mg x=some (.ref f)) (hk:PySem.W.keepIn X.K (.ref f)=true) (hb:Binds X.K fd ps ds) (hd:Ax dvs ds) (hx:Passes CX X E)
 (ha:PA X (e::es) t) (hdb:(x==("__debug__" :Str))=false:=by decide) (he:starEach (e::es) X.env=(false,eval e X.env)::starEach es X.env:=by rfl) (hpl:(backTo pos (starEach es X.env)).any (·.1)=false:=by rfl):
 PE X (.Call (.Name x p) (e::es) [] pos) (fE sp dvs E t):=by
 intro pins s σ H Q I h
 refine wpAny_Call_Name_kw (cO I hg hm ?_ hdb)
 refine PySem.W.callWith_K (h₀:=X.base) I.ok.mod.kin hk (BV (ha pos pins s σ H _ I h) λus s1 ⟨vs,H1,I1,r,q⟩=>⟨I1.kIn, ?_⟩) he hpl
 exact iQ F hr hb hd hx I1 r q
structure Mk (K:PySem.W.Frag) (C f:Addr):Prop where
 makes:PySem.W.makesIn K C=true
 init:PySem.W.findIn K (.ref C) "__init__" =some (some (.ref f))
 fn:PySem.W.isFn K (.ref f)=true
 kp:PySem.W.keepIn K (.ref C)=true
end
section
variable {X:Cx} {CX:Wr} {k:Nat} {f C:Addr} {fd:FuncData} {ps ks:List Str} {sp:Sp} {E:XK} {x m:Str} {p pos apos kpos:Pos} {e o:Expr} {es:List Expr} {kws:List Keyword} {te ta:TE} {t tk:TA} {nm:Option Str}
structure mo (K:PySem.W.Frag) (fd:FuncData) (ps ks:List Str) (g:List Value->List Value->List Value) (gV:List V->List V->List V):Prop where
 to:∀(s:Shared) (us ws:List Value),K.In s.heap->(g us ws).length=ps.length->BindsTo s fd ⟨us,ks.zip ws⟩ (ps.zip (g us ws))
 rel:∀{vs:List V} {us:List Value} {zs:List V} {ws:List Value},Ax vs us->Ax zs ws->Ax (gV vs zs) (g us ws)
variable {g:List Value->List Value->List Value} {gV:List V->List V->List V}
end
structure AZ (N P:List Str) (sc:Scope):Prop where
 kind:sc.kind= .function
 co:sc.isCoroutine=false
 gen:sc.isGenerator=false
 nd:N.Nodup
 pre:N.take P.length=P
 par:∀x∈P,sc.names.lookup x=some .local\/sc.names.lookup x=some .cell
 nofree:∀y∈sc.names,y.2≠ .free
theorem O9 {kindOf:Str->Option NameKind} {x:Str}:∀{binds:List (Str×Value)} {m:Str->Option Value},(∀v,(x,v) ∉ binds)->bindL kindOf binds m x=m x
 | [],_,_=>rfl
 | (n,v)::r,m,h=>by
   unfold bindL
   rw [O9 λw hw=>h w (List.mem_cons_of_mem _ hw)]
   split
   ·have:x≠n:=by rintro rfl;exact h v List.mem_cons_self
    simp [this]
   ·rfl
theorem O7 {kindOf:Str->Option NameKind} {x:Str}:∀{binds:List (Str×Value)} {m:Str->Option Value},(∀v,(x,v) ∉ binds)->bindC kindOf binds m x=m x
 | [],_,_=>rfl
 | (n,v)::r,m,h=>by
   unfold bindC
   rw [O7 λw hw=>h w (List.mem_cons_of_mem _ hw)]
   split
   ·rfl
   ·have:x≠n:=by rintro rfl;exact h v List.mem_cons_self
    simp [this]
theorem O8 {kindOf:Str->Option NameKind} {x:Str} {v:Value}:∀{P:List Str} {vs:List Value} {i:Nat} {m:Str->Option Value},P.Nodup->P[i]? =some x->vs[i]? =some v->kindOf x=some .local->
 bindL kindOf (P.zip vs) m x=some v
 | [],_,_,_,_,h,_,_=>by simp at h
 | _::_, [],_,_,_,_,h,_=>by simp at h
 | p::P,w::vs,0,m,nd,h1,h2,hk=>by
   simp at h1 h2;subst h1;subst h2
   show bindL kindOf ((p,w)::P.zip vs) m p=_
   unfold bindL
   rw [O9 λv hv=>(List.nodup_cons.mp nd).1 (List.of_mem_zip hv).1,if_pos hk]
   simp
 | p::P,w::vs,i+1,m,nd,h1,h2,hk=>by
   show bindL kindOf ((p,w)::P.zip vs) m x=_
   unfold bindL
   exact O8 (i:=i) (List.nodup_cons.mp nd).2 (by simpa using h1) (by simpa using h2) hk
theorem O6 {kindOf:Str->Option NameKind} {x:Str} {v:Value}:∀{P:List Str} {vs:List Value} {i:Nat} {m:Str->Option Value},P.Nodup->P[i]? =some x->vs[i]? =some v->kindOf x≠some .local->
 bindC kindOf (P.zip vs) m x=some v
 | [],_,_,_,_,h,_,_=>by simp at h
 | _::_, [],_,_,_,_,h,_=>by simp at h
 | p::P,w::vs,0,m,nd,h1,h2,hk=>by
   simp at h1 h2;subst h1;subst h2
   show bindC kindOf ((p,w)::P.zip vs) m p=_
   unfold bindC
   rw [O7 λv hv=>(List.nodup_cons.mp nd).1 (List.of_mem_zip hv).1,if_neg hk]
   simp
 | p::P,w::vs,i+1,m,nd,h1,h2,hk=>by
   show bindC kindOf ((p,w)::P.zip vs) m x=_
   unfold bindC
   exact O6 (i:=i) (List.nodup_cons.mp nd).2 (by simpa using h1) (by simpa using h2) hk
def start (N:List Str) (vs:List V):St:=vs.map some++List.replicate (N.length-vs.length) none
def UW (CX:Wr) (P:Program) (w:World) (K:PySem.W.Frag) (mg:Str->Option Value) (base:Heap) (N:List Str) (qual:Str) (scope:Scope) (f:Addr) (cd:Value) (A:Around) (outer:List Env) (s:Shared) (H:Hp) (E:XK):Cx where
 prog:=P
 w:=w
 K:=K
 mg:=mg
 base:=base
 A:=A.deeper (envOfC qual scope s.heap.objs.size f cd)
 N:=N
 s₀:=s
 H₀:=H
 env:=envOfC qual scope s.heap.objs.size f cd
 outer:=outer
 stack:=envOfC qual scope s.heap.objs.size f cd::outer
 ex:= []
 calm:=true
 fn:=λ_=>true
 pn:= []
 xe:=λe s'=>wpAny (model P w) (A.deeper (envOfC qual scope s.heap.objs.size f cd)) (leaving (envOfC qual scope s.heap.objs.size f cd) e) (λ_ s''=>CX outer H s E e s'') (λe' s''=>CX outer H s E e' s'') s'
theorem SN {sc:Scope} {n:Nat} {x:Str} (h:sc.names.lookup x=some .cell):∃c,(cellsFrom n sc.names []).lookup x=some c:=by
 have q:=PySem.W.cellsFrom_some sc.names n [] (.inl h)
 exact Option.isSome_iff_exists.mp q
theorem XR {CX:Wr} {P:Program} {w:World} {K:PySem.W.Frag} {mg:Str->Option Value} {base:Heap} {N ps:List Str} {qual:Str} {scope:Scope} {f:Addr} {cd:Value} {A:Around} {outer:List Env} {s s1:Shared} {H:Hp} {E:XK} {us:List Value} {vs:List V}
 (S:AZ N ps scope) (hd:A.handled=none) (e0:OP P w K mg base A outer s H) (hl:vs.length=ps.length) (r:Ax vs us)
 (x:InCallC s s.heap.objs.size (bindL (envOfC qual scope s.heap.objs.size f cd).kindOf (ps.zip us) λ_=>none) (cellsFrom (s.heap.objs.size+1) scope.names []) (bindC (envOfC qual scope s.heap.objs.size f cd).kindOf (ps.zip us) λ_=>none) s1):
 Inv (UW CX P w K mg base N qual scope f cd A outer s H E) [] (start N vs) H s1:=by
 have hpl:ps.length<=N.length:=by have:=congrArg List.length S.pre;rw [List.length_take] at this;omega
 obtain ⟨h1,tk,rfl,hk⟩:=x.done
 have noA:∀b:Addr,b ∉ (UW CX P w K mg base N qual scope f cd A outer s H E).ex:=λb z=>absurd (show b∈([] :List Addr) from z) (by simp)
 refine ⟨⟨e0.mod,S.kind,rfl,rfl,Nat.le_refl _,λy z c h1 h2=> ?_,λy hy=> ?_,λy c _ h=> ?_,λ_=>hd,Around.frames_deeper e0.frames, .inr ⟨rfl,rfl⟩,λb z=>absurd z (noA b),e0.bs,e0.bsz,λb _ _=>noA b,λb z=>absurd z (noA b),e0.funs,e0.frf⟩,
  rfl,e0.bare,Un.kept hk,⟨_,x.toInCall.ns,λi y v h1 h2 h3=> ?_⟩,λy c h=>⟨_,x.cell y c h⟩,e0.hok.fresh (Nat.le_refl _),λy c h=> ?_,λp hp=>absurd (show p∈([] :List (Addr×Obj)) from hp) (by simp),e0.hok.kept hk, ?_⟩
 ·exact name_of_addr x.apart (PySem.mem_of_lookup h1) (PySem.mem_of_lookup h2)
 ·have hy:scope.names.lookup y=some .cell\/scope.names.lookup y=some .free:=hy
  rcases hy with hy|hy
  ·exact SN hy
  ·exact absurd rfl (S.nofree _ (PySem.mem_of_lookup hy))
 ·exact Nat.le_of_lt (x.above y c (PySem.mem_of_lookup h))
 ·have hi:i<vs.length:=by
   unfold start at h2
   by_cases hi:i<vs.length
   ·exact hi
   ·rw [List.getElem?_append_right (by simpa using hi)] at h2
    rw [List.getElem?_replicate] at h2
    split at h2 <;> cases h2
  have ha:vs[i]? =some v:=by
   unfold start at h2
   rw [List.getElem?_append_left (by simpa using hi),List.getElem?_map] at h2
   cases e:vs[i]? with
   | none=>rw [e] at h2;cases h2
   | some a=>rw [e] at h2;cases h2;rfl
  obtain ⟨u,hu,rv⟩:=r.get ha
  have hp:ps[i]? =some y:=by
   rw [<-S.pre,List.getElem?_take_of_lt (by omega)];exact h1
  have ndP:ps.Nodup:=by rw [<-S.pre];exact S.nd.sublist (List.take_sublist _ _)
  refine ⟨u,rv, ?_⟩
  rcases S.par y (List.mem_of_getElem? hp) with k|k
  ·exact .inl ⟨k,O8 ndP hp hu k⟩
  ·obtain ⟨c,e⟩:=SN (n:=s.heap.objs.size+1) k
   refine .inr ⟨.inl k,c,e, ?_⟩
   have q:=x.cell y c e
   rw [O6 ndP hp hu (by show scope.names.lookup y≠_;rw [k];decide)] at q
   exact q
 ·exact e0.hok.fresh (Nat.le_of_lt (x.above y c (PySem.mem_of_lookup h)))
 ·unfold start
  show _=N.length
  rw [List.length_append,List.length_map,List.length_replicate]
  omega
theorem jo {CX:Wr} {P:Program} {w:World} {K:PySem.W.Frag} {mg:Str->Option Value} {base:Heap} {k:Nat} {f:Addr} {name qual:Str} {params:Arguments} {body:List Stmt} {scope:Scope} {dV kV doc pm cdv ct oc:Value} {an od:Option Addr}
 {osl:Array (Option Value)} {N ps:List Str} {sp:Sp} (lk:K.lookup f=some ⟨oc,od, .func (PySem.W.fnOf name qual params body scope dV kV doc pm an cdv ct),osl⟩) (MB:PySem.W.codeIn K cdv qual=true) (S:AZ N ps scope)
 (len:∀vs H Q E,sp vs H Q E->vs.length=ps.length)
 (So:∀(A:Around) (outer:List Env) (s:Shared) (H:Hp) (vs:List V) (Q:VK) (E:XK),Room k (A.deeper (envOfC qual scope s.heap.objs.size f cdv))->sp vs H Q E->
   ∃t,Vh (UW CX P w K mg base N qual scope f cdv A outer s H E) body t/\t {nx:=λ_ H'=>Q .non H',rt:=Q} (start N vs) H):
 Az P w K mg base CX (k+1) f (PySem.W.fnOf name qual params body scope dV kV doc pm an cdv ct) ps sp:=by
 refine ⟨len,λA outer s H args us vs Q E hr e0 hb r eS=> ?_⟩
 have hl:=len _ _ _ _ eS
 have KX:K.In s.heap:=e0.mod.kin.keeps λb o e=>(e0.bs b o e).1
 have lim:s.heap.NoLimit:=e0.mod.nolimit.keeps λb o e=>(e0.bs b o e).1
 have j0:∀y∈ps.zip us,scope.names.lookup y.1=some .local\/(scope.names.lookup y.1=some .cell/\((cellsFrom (s.heap.objs.size+1) scope.names []).lookup y.1).isSome=true):=λ⟨n,v⟩ hy=>by
  rcases S.par n (List.of_mem_zip hy).1 with q|q
  ·exact .inl q
  ·exact .inr ⟨q,PySem.W.cellsFrom_some _ _ _ (.inl q)⟩
 refine codeAny_call_function hr.depth (KX _ _ lk) rfl S.co S.gen rfl (PySem.W.codeRec_of KX MB) (hb _ _ _ _ ?_)
 refine wpAny_newFunctionEnv_cells S.kind j0 λenv he s1 x=> ?_
 subst he
 refine ⟨lim.keeps x.toInCall.keep,codeAny_func ?_⟩
 obtain ⟨t,ht,hq⟩:=So A outer s H vs Q E (hr.deeper _) eS
 have I:Inv (UW CX P w K mg base N qual scope f cdv A outer s H E) [] (start N vs) H s1:=XR S hr.hd e0 hl r x
 refine wpAny_mono (ht [] s1 (start N vs) H _ I hq) (λfl s' hs=> ?_) λe s' hs=>hs
 have fin:∀{σ':St} {H':Hp} {v:V} {u:Value},Inv (UW CX P w K mg base N qual scope f cdv A outer s H E) [] σ' H' s'->RelV v u->Q v H'->CE outer P w H s Q u s':=
  λ{σ' H' v u} J rv q=>⟨v,H',J.os,J.bare,J.base,J.hok,rv,q⟩
 cases fl with
 | ret u=>
   obtain ⟨v,σ',H',J,rv,q⟩:=hs
   exact fin J rv q
 | next=>
   obtain ⟨σ',H',J,q⟩:=hs
   exact fin (v:=V.non) (u:=Value.none) J rfl q
 | brk=>
   obtain ⟨_,_,_,q⟩:=hs
   exact False.elim q
 | cont=>
   obtain ⟨_,_,_,q⟩:=hs
   exact False.elim q
end L2
namespace L2
open PySem PySem.Spec PyProof.Rows
section
variable {X:Cx} {x:Str} {p pos:Pos} {e:Expr} {es:List Expr} {t:TA} {id T:String} {r:List V->Hp->VK->Prop}
def oI (r:List V->Hp->VK->Prop) (t:TA):TE:=λσ H Q=>t σ H λvs H1=>r vs H1 Q
theorem JY (hc:Cj X (.builtin id) r) (hg:Gl X x) (hm:X.mg x=none) (hv:bootBuiltins x=some (.builtin id)) (ha:PA X (e::es) t) (hn:x≠"__name__" :=by decide) (hdb:(x==("__debug__" :Str))=false:=by decide)
 (he:starEach (e::es) X.env=(false,eval e X.env)::starEach es X.env:=by rfl) (hpl:(backTo pos (starEach es X.env)).any (·.1)=false:=by rfl):PE X (.Call (.Name x p) (e::es) [] pos) (oI r t):=by
 intro pins s σ H Q I h
 refine wpAny_Call_Name_kw (Gy I hg hm hv ?_ hn hdb)
 exact PyProof.Rows.callWith_builtin1 (BV (ha pos pins s σ H _ I h) λus s1 ⟨vs,H1,I1,r1,q1⟩=>hc pins s1 σ H1 vs us Q I1 r1 q1) he hpl
theorem HM (hc:Cj X (.type T) r) (hg:Gl X x) (hm:X.mg x=none) (hv:bootBuiltins x=some (.type T)) (ha:PA X (e::es) t) (hn:x≠"__name__" :=by decide) (hdb:(x==("__debug__" :Str))=false:=by decide)
 (he:starEach (e::es) X.env=(false,eval e X.env)::starEach es X.env:=by rfl) (hpl:(backTo pos (starEach es X.env)).any (·.1)=false:=by rfl):PE X (.Call (.Name x p) (e::es) [] pos) (oI r t):=by
 intro pins s σ H Q I h
 refine wpAny_Call_Name_kw (Gy I hg hm hv ?_ hn hdb)
 exact PyProof.Rows.callWith_type1 (BV (ha pos pins s σ H _ I h) λus s1 ⟨vs,H1,I1,r1,q1⟩=>hc pins s1 σ H1 vs us Q I1 r1 q1) he hpl
end
end L2
namespace HT
open PySem PyProof.Rows
section
open PySem.SeqAt
open PySem.AutoSeq1 (wpAny_loadPart')
open PySem.MeetsSeq PySem.MeetsSeq2 PySem.MeetsSeq3
end
section
variable {prog:Program} {w:World} {A:Around} {E:Value->Shared->Prop} {s:Shared}
theorem cat_tup {t b:Addr} {vs ws:List Value} {Q:Value->Shared->Prop} (ht:IsTup s.heap t vs.toArray) (hb:IsTup s.heap b ws.toArray) (hv:vs≠ [])
 (h1:ws= [] ->Q (.ref t) s) (h2:ws≠ [] ->Q (.ref s.heap.objs.size) {s with heap:=s.heap.push {cls:= .type "tuple",data:= .seq (vs++ws).toArray}})
 (hsz:vs.length+ws.length<=sizeLine):wpAny (model prog w) A (binaryOp .Add (.ref t) (.ref b)) Q E s:=by
 obtain ⟨⟨cls,dd,data,sl⟩,ho,hc,n,hd⟩:=id ht
 obtain ⟨⟨cls2,dd2,data2,sl2⟩,gP,OA,n2,jt⟩:=id hb
 simp only at hc hd OA jt
 subst hc hd OA jt
 have e:vs.toArray++ws.toArray=(vs++ws).toArray:=by simp
 by_cases hw:ws= []
 ·exact concat_meets ⟨_,ho,rfl⟩ ⟨_,gP,rfl⟩ noFill_tuple_add seq_tuple_add PySem.F.slot_tuple_add PySem.F.entry_tuple_add (PySem.F.args_tuple_add_2 _ _)
   (tuple_addW1 t b vs.toArray ws.toArray n n2 dd dd2 sl sl2 (by simpa using hv) (by simp [hw])) ⟨ho,gP,h1 hw⟩
 ·refine concat_meets ⟨_,ho,rfl⟩ ⟨_,gP,rfl⟩ noFill_tuple_add seq_tuple_add PySem.F.slot_tuple_add PySem.F.entry_tuple_add (PySem.F.args_tuple_add_2 _ _)
   (tuple_addW2 t b vs.toArray ws.toArray n n2 dd dd2 sl sl2 (by simpa using hv) (by simpa using hw) (by rw [List.size_toArray,List.size_toArray];exact hsz)) ⟨ho,gP, ?_⟩
  rw [e]
  exact h2 hw
def sIx (n d:Nat):Option Int->Nat
 | none=>d
 | some v=>if v<0 then (v+(n:Int)).toNat else min v.toNat n
theorem sIx_none (n d:Nat):sIx n d none=d:=rfl
theorem sIx_nat (n d k:Nat):sIx n d (some (k:Int))=min k n:=by
 show (if (k:Int)<0 then ((k:Int)+(n:Int)).toNat else min (k:Int).toNat n)=min k n
 rw [if_neg (by omega),Int.toNat_natCast]
theorem iR (n d:Nat) (hd:d<=n) (o:Option Int):sIx n d o<=n:=by
 cases o with
 | none=>exact hd
 | some v=>
   show (if v<0 then (v+(n:Int)).toNat else min v.toNat n)<=n
   by_cases hv:v<0
   ·rw [if_pos hv];omega
   ·rw [if_neg hv];exact Nat.min_le_right _ _
theorem Vr (v:Int) (n d:Nat):(if v<0 then max (v+(n:Int)) 0 else min v (n:Int))=((sIx n d (some v):Nat):Int):=by
 show (if v<0 then max (v+(n:Int)) 0 else min v (n:Int))=(((if v<0 then (v+(n:Int)).toNat else min v.toNat n):Nat):Int)
 by_cases hv:v<0
 ·simp only [if_pos hv];omega
 ·simp only [if_neg hv];omega
theorem UL (lo hi:Option Int) (n:Nat):Builtin.Slice.sliceAdjust lo hi 1 (n:Int)=(((sIx n 0 lo:Nat):Int),((sIx n n hi:Nat):Int)):=by
 have h1:¬((1:Int)<0):=by omega
 unfold Builtin.Slice.sliceAdjust
 simp only [h1,if_false]
 refine Prod.ext ?_ ?_
 ·cases lo with
  | none=>rfl
  | some v=>exact Vr v n 0
 ·cases hi with
  | none=>rfl
  | some v=>exact Vr v n n
theorem VC (i j:Nat):Builtin.Slice.slicePlaces (i:Int) (j:Int) 1=j-i:=by
 unfold Builtin.Slice.slicePlaces
 have h1:(1:Int)>0:=by omega
 simp only [h1,if_true,Int.ediv_one]
 split <;> omega
theorem N1 {v:Value} {o:Option Int} {Q:Option Int->Shared->Prop} (p:IsPart v o) (h:Q o s):wpAny (model prog w) A (Builtin.Slice.slicePartIndex v) Q E s:=by
 cases p with
 | none=>exact slicePart_none h
 | int i t=>exact slicePart_int h
theorem sliceApplied_gen {sl:Addr} {vl vu:Value} {lo hi:Option Int} {n:Nat} {Q:Int×Int×Nat->Shared->Prop} (hs:s.heap.IsSliceOf sl vl vu .none) (pl:IsPart vl lo) (pu:IsPart vu hi)
 (h:Q (((sIx n 0 lo:Nat):Int),1,sIx n n hi-sIx n 0 lo) s):wpAny (model prog w) A (Builtin.Slice.sliceApplied (.ref sl) (pure (n:Int))) Q E s:=by
 obtain ⟨os,gR,mB,jx⟩:=id hs
 unfold Builtin.Slice.sliceApplied Builtin.Slice.sliceFields
 refine wpAny_bind (wpAny_bind (wpAny_field gR jx (x:=vl) rfl (wpAny_bind (wpAny_field gR jx (x:=vu) rfl (wpAny_bind (wpAny_field gR jx (x:= .none) rfl (wpAny_pure ?_)))))))
 refine wpAny_bind (slicePart_none ?_)
 show wpAny _ _ (if ((1:Int)==0)=true then _ else _) _ _ s
 rw [if_neg (by decide)]
 refine wpAny_bind (N1 pl (wpAny_bind (N1 pu (wpAny_bind (wpAny_pure ?_)))))
 show wpAny _ _ (match Builtin.Slice.sliceAdjust lo hi 1 (n:Int) with | (lo,hi)=>pure (lo,(1:Int),Builtin.Slice.slicePlaces lo hi 1)) _ _ s
 rw [UL lo hi n]
 show wpAny _ _ (pure (((sIx n 0 lo:Nat):Int),(1:Int),Builtin.Slice.slicePlaces ((sIx n 0 lo:Nat):Int) ((sIx n n hi:Nat):Int) 1)) _ _ s
 rw [VC]
 exact wpAny_pure h
theorem Zn (xs:Array Value) (i k:Nat):((List.range k).filterMap λ(m:Nat)=>xs[((i:Int)+(m:Int)*1).toNat]?).toArray=((xs.toList.drop i).take k).toArray:=by
 have e:(λ(m:Nat)=>xs[((i:Int)+(m:Int)*1).toNat]?)=λm=>xs[i+m]? :=by
  funext m
  have:((i:Int)+(m:Int)*1).toNat=i+m:=by omega
  rw [this]
 rw [e]
 have:=pick_run xs i k
 rw [List.filterMap_map] at this
 have e2:((λx=>xs[x]?) ∘ λx=>i+x)=λm=>xs[i+m]? :=rfl
 rw [e2] at this
 rw [this]
theorem getItem_tuple_cut {t sl:Addr} {items:Array Value} {vl vu:Value} {lo hi:Option Int} {Q:Value->Shared->Prop} (ht:IsTup s.heap t items) (hs:s.heap.IsSliceOf sl vl vu .none) (pl:IsPart vl lo) (pu:IsPart vu hi)
 (hw:¬(sIx items.size 0 lo=0/\sIx items.size items.size hi=items.size))
 (h:Q (.ref s.heap.objs.size) {s with heap:=s.heap.push {cls:= .type "tuple",data:= .seq ((items.toList.drop (sIx items.size 0 lo)).take (sIx items.size items.size hi-sIx items.size 0 lo)).toArray}})
 (hsz:items.size<=sizeLine):wpAny (model prog w) A (getItem (.ref t) (.ref sl)) Q E s:=by
 have WA:sizeOk (.seq ((items.toList.drop (sIx items.size 0 lo)).take (sIx items.size items.size hi-sIx items.size 0 lo)).toArray):=by
  show ((items.toList.drop (sIx items.size 0 lo)).take (sIx items.size items.size hi-sIx items.size 0 lo)).toArray.size<=sizeLine
  rw [List.size_toArray,List.length_take,List.length_drop,Array.length_toList]
  omega
 have hj:sIx items.size items.size hi<=items.size:=iR _ _ (Nat.le_refl _) hi
 obtain ⟨os,gR,mB,jx⟩:=id hs
 have nH:s.TypeIs (.ref sl) "slice" :=⟨os,gR,mB⟩
 unfold getItem
 try with_reducible refine wpAny_holding ?_
 first | refine wpAny_bind (wpAny_pure ?_)|skip
 refine wpAny_bind (wpAny_sequenceKey ht.typeIs (by decide) ?_)
 refine wpAny_bind (wpAny_callSpecial?_slot (name:=Str.ofString "__getitem__") ht.typeIs PyProof.Rows.slot_tuple_getitem
  (wpAny_call_entry PyProof.Rows.slot_tuple_getitem ht.typeIs entry_tuple_getitem ?_ (args_tuple_getitem _ _)))
 show wpAny _ _ (Builtin.Tuple.tupleItemsOf (.ref t) >>= _) _ _ s
 refine wpAny_bind (tupleItemsOf_ ht ?_)
 refine wpAny_bind (wpAny_typeOf nH ?_)
 rw [if_pos (by decide)]
 refine wpAny_bind (sliceApplied_gen hs pl pu ?_)
 have V9:¬((((sIx items.size 0 lo:Nat):Int)==0&&(1:Int)==1&&(sIx items.size items.size hi-sIx items.size 0 lo)==items.size)=true):=by
  intro q
  rw [Bool.and_eq_true,Bool.and_eq_true] at q
  have q1:((sIx items.size 0 lo:Nat):Int)=0:=eq_of_beq q.1.1
  have q2:sIx items.size items.size hi-sIx items.size 0 lo=items.size:=eq_of_beq q.2
  exact hw ⟨by omega,by omega⟩
 show wpAny _ _ (if (((sIx items.size 0 lo:Nat):Int)==0&&(1:Int)==1&&(sIx items.size items.size hi-sIx items.size 0 lo)==items.size)=true then _ else _) _ _ s
 rw [if_neg V9,Zn]
 first
  | exact wpAny_bind (m:=Builtin.Tuple.tupleExact _) (wpAny_newObj_type (wpAny_pure ⟨_,rfl,wpAny_pure h⟩) WA)
  | exact wpAny_bind (m:=Builtin.Tuple.tupleExact _) (wpAny_newObj_type (wpAny_bind (wpAny_pure (wpAny_pure ⟨_,rfl,wpAny_pure h⟩))) WA)
  | exact wpAny_bind (wpAny_bind (m:=Builtin.Tuple.tupleExact _) (wpAny_newObj_type (wpAny_pure (wpAny_pure ⟨_,rfl,wpAny_pure h⟩)) WA))
  | exact wpAny_bind (wpAny_bind (m:=Builtin.Tuple.tupleExact _) (wpAny_newObj_type (wpAny_pure ⟨_,rfl,wpAny_pure h⟩) WA))
end
end HT
namespace L2
open PySem PySem.Spec PyProof.Rows
abbrev TO:=St->Hp->(Option Int->Hp->Prop)->Prop
def PO (X:Cx) (e:Option Expr) (t:TO):Prop:=
 ∀(pins:List (Addr×Obj)) (s:Shared) (σ:St) (H:Hp) (Q:Option Int->Hp->Prop),Inv X pins σ H s->t σ H Q->
  wpAny (model X.prog X.w) X.A (evalPart e X.env) (λu s'=>∃o H',Inv X pins σ H' s'/\IsPart u o/\Q o H') X.xe s
def dc:TO:=λ_ H Q=>Q none H
def lb (t:TE):TO:=λσ H Q=>t σ H λx H1=>∃i,x= .int i/\Q (some i) H1
section
variable {X:Cx} {e:Expr} {te:TE} {lo hi:Option Expr} {tl th:TO} {pos p2:Pos}
theorem c7:PO X none dc:=by
 intro pins s σ H Q I h
 rw [evalPart_none]
 exact wpAny_pure ⟨none,H,I, .none,h⟩
theorem c8 (h:PE X e te):PO X (some e) (lb te):=by
 intro pins s σ H Q I hw
 rw [evalPart_some]
 refine BV (h pins s σ H _ I hw) λu s1 ⟨x,H1,I1,r1,q1⟩=> ?_
 obtain ⟨i,rfl,q⟩:=q1
 obtain ⟨t,rfl⟩:=r1
 exact ⟨some i,H1,I1, .int i t,q⟩
def d9 (X:Cx) (r:V->Option Int->Option Int->Hp->VK->Prop):Prop:=
 ∀(pins:List (Addr×Obj)) (s:Shared) (σ:St) (H:Hp) (x:V) (v vl vu:Value) (lo hi:Option Int) (sl:Addr) (Q:VK),Inv X pins σ H s->RelV x v->s.heap.IsSliceOf sl vl vu .none->IsPart vl lo->IsPart vu hi->r x lo hi H Q->
  ∃T id,typeLookup (.type T) "__getitem__" =pure (some (.builtin id))/\s.TypeIs v T/\wpAny (model X.prog X.w) X.A (getItem v (.ref sl)) (EP X pins σ Q) X.xe s
theorem d9.or {r r':V->Option Int->Option Int->Hp->VK->Prop} (h:d9 X r) (h':d9 X r'):d9 X (λx lo hi H Q=>r x lo hi H Q\/r' x lo hi H Q):=by
 intro pins s σ H x v vl vu lo hi sl Q I rx hs pl pu q
 rcases q with q|q
 ·exact h pins s σ H x v vl vu lo hi sl Q I rx hs pl pu q
 ·exact h' pins s σ H x v vl vu lo hi sl Q I rx hs pl pu q
def uc (r:V->Option Int->Option Int->Hp->VK->Prop) (te:TE) (tl th:TO):TE:=λσ H Q=>te σ H λx H1=>tl σ H1 λl H2=>th σ H2 λu H3=>r x l u H3 Q
theorem Zl {r:V->Option Int->Option Int->Hp->VK->Prop} (hr:d9 X r) (he:PE X e te) (hl:PO X lo tl) (hu:PO X hi th):PE X (.Subscript e (.Slice lo hi none p2) pos) (uc r te tl th):=by
 intro pins s σ H Q I h
 refine Subscript_ (BV (he pins s σ H _ I h) λv s1 ⟨x,H1,I1,r1,q1⟩=> ?_)
 refine wpAny_Slice (BV (hl pins s1 σ H1 _ I1 q1) λvl s2 ⟨l,H2,I2,pl,q2⟩=>BV (hu pins s2 σ H2 _ I2 q2) λvu s3 ⟨u,H3,I3,pu,q3⟩=> ?_)
 rw [evalPart_none]
 refine wpAny_pure ?_
 have I4:Inv X pins σ H3 {s3 with heap:=s3.heap.push {cls:= .type "slice",data:= .fields #[vl,vu, .none] }}:=I3.kept (t':=s3.toks) λb ob q=>Heap.get?_push_of_some _ q
 obtain ⟨T,id,hT,ht,hg⟩:=hr pins {s3 with heap:=s3.heap.push {cls:= .type "slice",data:= .fields #[vl,vu, .none] }} σ H3 x v vl vu l u s3.heap.objs.size Q I4 r1 (Heap.IsSliceOf.new ..) pl pu q3
 show wpAny (model X.prog X.w) X.A (subscriptTail e (.Slice lo hi none p2) v (.ref s3.heap.objs.size)) (EP X pins σ Q) X.xe {s3 with heap:=s3.heap.push {cls:= .type "slice",data:= .fields #[vl,vu, .none] }}
 exact tail_any (ops:= [.ref s3.heap.objs.size,v]) ht hT hg (by with_unfolding_all rfl)
def OV (xs:List V) (lo hi:Option Int):List V:=(xs.drop (HT.sIx xs.length 0 lo)).take (HT.sIx xs.length xs.length hi-HT.sIx xs.length 0 lo)
theorem LL (xs:List V) (lo hi:Option Int):(OV xs lo hi).length<=xs.length:=by
 unfold OV
 rw [List.length_take,List.length_drop]
 omega
def oC (K:PySem.W.Frag):V->Option Int->Option Int->Hp->VK->Prop:=λx lo hi H Q=>∃a xs,x= .ref a/\JD K H a xs/\
 ¬(HT.sIx xs.length 0 lo=0/\HT.sIx xs.length xs.length hi=xs.length)/\∀p,H p=none->Q (.ref p) (upd H p (.tup (OV xs lo hi)))
theorem iZ:d9 X (oC X.K):=by
 intro pins s σ H x v vl vu lo hi sl Q I rx hs pl pu h
 obtain ⟨a,xs,rfl,hx,hw,q⟩:=h
 cases rx
 obtain ⟨its,r,ht,hz⟩:=I.tuple hx
 have C9:its.toArray.size=xs.length:=by rw [List.size_toArray];exact r.length.symm
 refine ⟨"tuple",_,PyProof.Rows.slot_tuple_getitem.lookup,ht.typeIs, ?_⟩
 refine HT.getItem_tuple_cut ht hs pl pu (by rw [C9];exact hw) ?_ (by rw [C9];exact hz)
 rw [C9]
 refine ⟨.ref s.heap.objs.size,_,I.laid (t':=s.toks) (o:= .tup (OV xs lo hi)) (λb ob q=>Heap.get?_push_of_some _ q) (Nat.le_refl _) ?_,rfl,q _ (I.hok.fresh (Nat.le_refl _))⟩
 exact ⟨Nat.le_trans (LL xs lo hi) hz,_,(r.drop (HT.sIx xs.length 0 lo)).take (HT.sIx xs.length xs.length hi-HT.sIx xs.length 0 lo),IsTup.new _ _⟩
def fB (K:PySem.W.Frag):R2:=λx y H Q=>∃a b xs ys,x= .ref a/\y= .ref b/\JD K H a xs/\JD K H b ys/\xs≠ [] /\xs.length+ys.length<=sizeLine/\
 (ys= [] ->Q (.ref a) H)/\(ys≠ [] ->∀p,H p=none->Q (.ref p) (upd H p (.tup (xs++ys))))
theorem Ax.nil_iff {xs:List V} {us:List Value} (r:Ax xs us):us= [] ↔xs= [] :=by
 cases r with
 | nil=>simp
 | cons _ _=>simp
theorem ci:EC X (binaryOp .Add) (fB X.K):=by
 intro pins s σ H x y v u Q I rx ry h
 obtain ⟨a,b,xs,ys,rfl,rfl,ha,hb,hx,hz,q1,q2⟩:=h
 cases rx
 cases ry
 obtain ⟨its,r1,p1,_⟩:=I.tuple ha
 obtain ⟨its2,r2,p2,_⟩:=I.tuple hb
 refine HT.cat_tup p1 p2 (λz=>hx (r1.nil_iff.mp z)) (λz=>⟨.ref a,H,I,rfl,q1 (r2.nil_iff.mp z)⟩) (λz=> ?_) (by rw [<-r1.length,<-r2.length];exact hz)
 refine ⟨.ref s.heap.objs.size,_,I.laid (t':=s.toks) (o:= .tup (xs++ys)) (λb ob q=>Heap.get?_push_of_some _ q) (Nat.le_refl _) ?_,rfl,q2 (λw=>z (r2.nil_iff.mpr w)) _ (I.hok.fresh (Nat.le_refl _))⟩
 exact ⟨by rw [List.length_append];exact hz,_,r1.append r2,IsTup.new _ _⟩
end
end L2
namespace L2
open PySem PySem.Spec PyProof.Rows
def Sx (n:Nat) (i:Int):Option Nat:=if 0<=i then (if i<n then some i.toNat else none) else if -(n:Int)<=i then some (i+n).toNat else none
def Ih {α:Type} (xs:List α) (i:Int):Option α:=(Sx xs.length i).bind λj=>xs[j]?
theorem WD {n:Nat} {i:Int} {j:Nat} (h:Sx n i=some j):seqIndex? i n=some j/\j<n/\ -(n:Int)<=i/\i<n:=by
 unfold Sx at h
 by_cases h0:0<=i
 ·rw [if_pos h0] at h
  by_cases h1:i<n
  ·rw [if_pos h1] at h
   have e:i.toNat=j:=Option.some.inj h
   exact ⟨by rw [seqIndex_of h0 h1,e],by omega,by omega,h1⟩
  ·rw [if_neg h1] at h;cases h
 ·rw [if_neg h0] at h
  by_cases h1: -(n:Int)<=i
  ·rw [if_pos h1] at h
   have e:(i+n).toNat=j:=Option.some.inj h
   exact ⟨by rw [seqIndex_neg (by omega) h1,e],by omega,h1,by omega⟩
  ·rw [if_neg h1] at h;cases h
theorem Vo {α:Type} {xs:List α} {i:Int} {v:α} (h:Ih xs i=some v):∃j,seqIndex? i xs.length=some j/\xs[j]? =some v/\j<xs.length/\ -(xs.length:Int)<=i/\i<xs.length:=by
 unfold Ih at h
 cases e:Sx xs.length i with
 | none=>rw [e] at h;cases h
 | some j=>
   rw [e] at h
   obtain ⟨h1,h2,h3,h4⟩:=WD e
   exact ⟨j,h1,h,h2,h3,h4⟩
theorem Cg {α:Type} {xs:List α} {j:Nat} {v:α} (h:xs[j]? =some v):Ih xs (j:Int)=some v:=by
 have hj:j<xs.length:=(List.getElem?_eq_some_iff.mp h).1
 have e:Sx xs.length (j:Int)=some j:=by
  unfold Sx
  rw [if_pos (by omega),if_pos (by omega)];simp
 unfold Ih;rw [e];exact h
def QI (b:Expr):Prop:=∀o i,subscripted b false o i=operate [o,i] (getItem o i)
def bH (X:Cx) (r:R2):Prop:=
 ∀(value slice:Expr) (pins:List (Addr×Obj)) (s:Shared) (σ:St) (H:Hp) (x y:V) (v u:Value) (Q:VK),Inv X pins σ H s->RelV x v->RelV y u->r x y H Q->
  subscripted slice false v u=operate [v,u] (getItem v u)->wpAny (model X.prog X.w) X.A (subscriptTail value slice v u) (EP X pins σ Q) X.xe s
def jZ (X:Cx) (id:String) (r:V->List V->Hp->VK->Prop):Prop:=
 ∀(pins:List (Addr×Obj)) (s:Shared) (σ:St) (H:Hp) (x:V) (xs:List V) (v:Value) (us:List Value) (Q:VK),Inv X pins σ H s->RelV x v->Ax xs us->r x xs H Q->
  wpAny (model X.prog X.w) X.A (call (.builtin id) (v::us)) (EP X pins σ Q) X.xe s
section
variable {X:Cx} {a b:Expr} {ta tb:TE} {pos:Pos}
theorem bH.or {r r':R2} (h:bH X r) (h':bH X r'):bH X (λx y H Q=>r x y H Q\/r' x y H Q):=by
 intro value slice pins s σ H x y v u Q I rx ry q hs
 rcases q with q|q
 ·exact h value slice pins s σ H x y v u Q I rx ry q hs
 ·exact h' value slice pins s σ H x y v u Q I rx ry q hs
theorem jZ.or {id:String} {r r':V->List V->Hp->VK->Prop} (h:jZ X id r) (h':jZ X id r'):jZ X id (λx xs H Q=>r x xs H Q\/r' x xs H Q):=by
 intro pins s σ H x xs v us Q I rx rs q
 rcases q with q|q
 ·exact h pins s σ H x xs v us Q I rx rs q
 ·exact h' pins s σ H x xs v us Q I rx rs q
theorem LU {r:R2} (hr:bH X r) (ha:PE X a ta) (hb:PE X b tb) (hs:QI b):PE X (.Subscript a b pos) (de r ta tb):=by
 intro pins s σ H Q I h
 exact Subscript_ (fo ha hb I h λv u s2 x y H2 I2 rx ry q=>hr a b pins s2 σ H2 x y v u Q I2 rx ry q (hs _ _))
def ku (K:PySem.W.Frag):R2:=λx y H Q=>∃p xs i v,x= .ref p/\y= .int i/\Fw K H p xs/\Ih xs i=some v/\Q v H
def lA (K:PySem.W.Frag):R2:=λx y H Q=>∃p xs i v,x= .ref p/\y= .int i/\JD K H p xs/\Ih xs i=some v/\Q v H
theorem Et:bH X (ku X.K):=by
 intro value slice pins s σ H x y v u Q I rx ry h hs
 obtain ⟨p,xs,i,z,rfl,rfl,hq,he,q⟩:=h
 cases rx
 obtain ⟨t,rfl⟩:=ry
 obtain ⟨its,r,pl,hz⟩:=I.list hq
 obtain ⟨j,h1,h2,h3,h4,h5⟩:=Vo he
 obtain ⟨w,ew,rw'⟩:=r.get h2
 have hl:=r.length
 have hn:=Kz
 have fin:EP X pins σ Q w s:=⟨z,H,I,rw',q⟩
 by_cases h0:0<=i
 ·have hj:i.toNat=j:=by
   rw [seqIndex_of h0 h5] at h1
   exact Option.some.inj h1
  exact item_listR pl.isList h0 (by omega) (by rw [hj];simpa using ew) fin hs
 ·have hj:(i+(its.toArray.size:Int)).toNat=j:=by
   rw [seqIndex_neg (by omega) h4] at h1
   rw [List.size_toArray,<-hl]
   exact Option.some.inj h1
  exact subscriptTail_builtinR (x:=w) pl.isList.typeIs slot_list_getitem.lookup
   (wpAny_getItem_list_neg (Q:=λr s'=>r=w/\EP X pins σ Q r s') pl.isList (by omega) (by rw [List.size_toArray] <;> omega) (by omega) (by rw [hj];simpa using ew) ⟨rfl,fin⟩) hs
theorem gY:bH X (lA X.K):=by
 intro value slice pins s σ H x y v u Q I rx ry h hs
 obtain ⟨p,xs,i,z,rfl,rfl,hq,he,q⟩:=h
 cases rx
 obtain ⟨t,rfl⟩:=ry
 obtain ⟨its,r,pl,hz⟩:=I.tuple hq
 obtain ⟨j,h1,h2,h3,h4,h5⟩:=Vo he
 obtain ⟨w,ew,rw'⟩:=r.get h2
 have hl:=r.length
 have hn:=Kz
 have fin:EP X pins σ Q w s:=⟨z,H,I,rw',q⟩
 exact subscriptTail_builtinR (x:=w) pl.typeIs slot_tuple_getitem.lookup
  (getItem_tuple (j:=j) (Q:=λr s'=>r=w/\EP X pins σ Q r s') pl (by omega) (by omega) (by rw [List.size_toArray,<-hl];exact h1) (by simpa using ew) ⟨rfl,fin⟩) hs
theorem Uu (its:List Value) (n j:Nat) (u:Value):Obj.mapSeq (·.setIfInBounds j u) {cls:= .type "list",data:= .seq its.toArray n}={cls:= .type "list",data:= .seq (its.set j u).toArray n}:=by
 simp [Obj.mapSeq]
theorem Inv.lst {pins:List (Addr×Obj)} {σ:St} {H:Hp} {s:Shared} {p:Addr} {xs:List V} (I:Inv X pins σ H s) (h:H p=some (.lst xs)):
 ∃(its:List Value) (n:Nat),Ax xs its/\s.heap.get? p=some {cls:= .type "list",data:= .seq its.toArray n}/\xs.length<=sizeLine:=by
 obtain ⟨z,its,n,r,e⟩:=I.hok p _ h
 exact ⟨its,n,r,e,z⟩
theorem Inv.lstUpd {pins:List (Addr×Obj)} {σ:St} {H:Hp} {s:Shared} {p:Addr} {xs ys:List V} {its its':List Value} {n n':Nat} {f:Obj->Obj} (I:Inv X pins σ H s) (h:H p=some (.lst xs))
 (ho:s.heap.get? p=some {cls:= .type "list",data:= .seq its.toArray n}) (hf:f {cls:= .type "list",data:= .seq its.toArray n}={cls:= .type "list",data:= .seq its'.toArray n'}) (r:Ax ys its') (hz:ys.length<=sizeLine) (t:Nat):
 Inv X pins σ (upd H p (.lst ys)) {s with heap:=s.heap.update p f,toks:=t}:=by
 have e:(s.heap.update p f).get? p=some {cls:= .type "list",data:= .seq its'.toArray n'}:=by
  rw [Heap.get?_update_self f ho (by rw [hf] <;> rfl),hf]
 refine I.write (x:=p) (e:=p) (by rw [h];trivial) (.inl rfl) (λb u hb q=>(Heap.get?_update_other _ _ (Ne.symm hb)).trans q) ⟨_,e⟩ ?_
 exact ⟨hz,its',n',r,e⟩
def lD:V->V->V->Hp->(Hp->Prop)->Prop:=λo i v H Q=>∃p xs k j,o= .ref p/\i= .int k/\H p=some (.lst xs)/\Sx xs.length k=some j/\Q (upd H p (.lst (xs.set j v)))
theorem Nz:jb X lD:=by
 intro pins s σ H o i v ov iv u Q I ro ri rv h
 obtain ⟨p,xs,k,j,rfl,rfl,hp,hj,q⟩:=h
 cases ro
 obtain ⟨t,rfl⟩:=ri
 obtain ⟨its,n,r,ho,hz⟩:=I.lst hp
 obtain ⟨h1,h2,h3,h4⟩:=WD hj
 have hl:=r.length
 have hn:=Kz
 have I':Inv X pins σ (upd H p (.lst (xs.set j v))) {s with heap:=s.heap.update p (Obj.mapSeq (·.setIfInBounds j u))}:=
  I.lstUpd hp ho (Uu its n j u) (r.set rv j) (by rw [List.length_set];exact hz) s.toks
 by_cases h0:0<=k
 ·have hk:k.toNat=j:=by
   rw [seqIndex_of h0 h4] at h1
   exact Option.some.inj h1
  exact PySem.W.ki_setAt ho h0 (by omega) (by rw [List.size_toArray,<-hl];exact h4) (by rw [hk];exact ⟨_,I',q⟩)
 ·have hk:(k+(its.toArray.size:Int)).toNat=j:=by
   rw [seqIndex_neg (by omega) h3] at h1
   rw [List.size_toArray,<-hl]
   exact Option.some.inj h1
  exact PySem.W.ki_setBack ho (by omega) (by rw [List.size_toArray,<-hl];exact h3) (by omega) (by rw [hk];exact ⟨_,I',q⟩)
theorem RU (lo hi:Option Int) (n:Nat):(sliceBounds lo hi none n).1=((HT.sIx n 0 lo:Nat):Int)/\(sliceBounds lo hi none n).2.1=((HT.sIx n n hi:Nat):Int)/\(sliceBounds lo hi none n).2.2=1:=by
 refine ⟨?_, ?_,rfl⟩
 ·cases lo with
  | none=>simp [sliceBounds,HT.sIx]
  | some i=>
    simp only [sliceBounds,HT.sIx,Option.getD_none,show (1:Int)>0 by decide,if_true]
    by_cases h:i<0
    ·simp only [h,if_true] <;> omega
    ·simp only [h,if_false] <;> omega
 ·cases hi with
  | none=>simp [sliceBounds,HT.sIx]
  | some i=>
    simp only [sliceBounds,HT.sIx,Option.getD_none,show (1:Int)>0 by decide,if_true]
    by_cases h:i<0
    ·simp only [h,if_true] <;> omega
    ·simp only [h,if_false] <;> omega
theorem Ov (its:List Value) (lo hi:Option Int):slicePick its.toArray lo hi none=((its.drop (HT.sIx its.length 0 lo)).take (HT.sIx its.length its.length hi-HT.sIx its.length 0 lo)).toArray:=by
 obtain ⟨h1,h2,h3⟩:=RU lo hi its.toArray.size
 unfold slicePick
 rw [h1,h2,h3]
 simp only [sliceRange_one,pick_run,List.size_toArray] <;> rfl
def oB (K:PySem.W.Frag):V->Option Int->Option Int->Hp->VK->Prop:=λx lo hi H Q=>∃a xs,x= .ref a/\Fw K H a xs/\∀p,H p=none->Q (.ref p) (upd H p (.lst (OV xs lo hi)))
theorem dU:d9 X (oB X.K):=by
 intro pins s σ H x v vl vu lo hi sl Q I rx hs pl pu h
 obtain ⟨a,xs,rfl,hx,q⟩:=h
 cases rx
 obtain ⟨its,r,ht,hz⟩:=I.list hx
 have C9:=r.length
 refine ⟨"list",_,slot_list_getitem.lookup,ht.isList.typeIs, ?_⟩
 refine wpAny_getItem_list_slice ht.isList hs pl pu .none (by simp) ?_ (by rw [List.size_toArray] <;> omega)
 rw [Ov,<-C9]
 refine ⟨.ref s.heap.objs.size,_,I.laid (t':=s.toks) (o:= .lst (OV xs lo hi)) (λb ob q=>Heap.get?_push_of_some _ q) (Nat.le_refl _) ?_,rfl,q _ (I.hok.fresh (Nat.le_refl _))⟩
 exact ⟨Nat.le_trans (LL xs lo hi) hz,_,0,(r.drop (HT.sIx xs.length 0 lo)).take (HT.sIx xs.length xs.length hi-HT.sIx xs.length 0 lo),Heap.get?_push_size _ rfl⟩
theorem JH:Cj X (.builtin "len") (λxs H Q=>∃p ys,xs= [.ref p] /\(Fw X.K H p ys\/JD X.K H p ys)/\Q (.int ys.length) H):=by
 intro pins s σ H xs us Q I r h
 obtain ⟨p,ys,rfl,hq,q⟩:=h
 obtain ⟨u,rfl,rx⟩:=vals1 r
 cases rx
 have hn:=Kz
 rcases hq with hq|hq
 ·obtain ⟨its,r',pl,hz⟩:=I.list hq
  have C9:=r'.length
  exact Calls.call_len_list pl.isList (by simp only [List.size_toArray] <;> omega) ⟨.int ys.length,H,I.tok _,⟨s.toks+1,by rw [List.size_toArray,C9]⟩,q⟩
 ·obtain ⟨its,r',pl,hz⟩:=I.tuple hq
  have C9:=r'.length
  exact len_tuple pl (by simp only [List.size_toArray] <;> omega) ⟨.int ys.length,H,I.tok _,⟨s.toks+1,by rw [List.size_toArray,C9]⟩,q⟩
theorem Cj.or {f:Value} {r r':List V->Hp->VK->Prop} (h:Cj X f r) (h':Cj X f r'):Cj X f (λxs H Q=>r xs H Q\/r' xs H Q):=by
 intro pins s σ H xs us Q I rs q
 rcases q with q|q
 ·exact h pins s σ H xs us Q I rs q
 ·exact h' pins s σ H xs us Q I rs q
theorem QN:Cj X (.type "list") (λxs H Q=>∃p ys,xs= [.ref p] /\(Fw X.K H p ys\/JD X.K H p ys)/\∀l,H l=none->Q (.ref l) (upd H l (.lst ys))):=by
 intro pins s σ H xs us Q I r h
 obtain ⟨p,ys,rfl,hq,q⟩:=h
 obtain ⟨u,rfl,rx⟩:=vals1 r
 cases rx
 have fin:∀(its:List Value),Ax ys its->ys.length<=sizeLine->∀(h':Heap) (c':Nat),(∀b o',s.heap.get? b=some o'->h'.get? b=some o')->
  h'.get? s.heap.objs.size=some {cls:= .type "list",dict:=none,data:= .seq its.toArray c',slots:= #[] }->EP X pins σ Q (.ref s.heap.objs.size) {s with heap:=h'}:=λits r' hz h' c' kp e=>
  ⟨.ref s.heap.objs.size,_,I.laid (t':=s.toks) kp (Nat.le_refl _) (show Cv X.prog X.w _ h' _ (.lst ys) from ⟨hz,its,c',r',e⟩),rfl,q _ (I.hok.fresh (Nat.le_refl _))⟩
 rcases hq with hq|hq
 ·obtain ⟨its,r',pl,hz⟩:=I.list hq
  have C9:=r'.length
  obtain ⟨o,ho,hc,n,hd⟩:=pl.isList
  exact call_list_seq p (.inl rfl) ho hc hd (λh' c' kp e=>fin its r' hz h' c' kp e) (by simp only [List.size_toArray] <;> omega)
 ·obtain ⟨its,r',pl,hz⟩:=I.tuple hq
  have C9:=r'.length
  obtain ⟨o,ho,hc,n,hd⟩:=pl
  exact call_list_seq p (.inr rfl) ho hc hd (λh' c' kp e=>fin its r' hz h' c' kp e) (by simp only [List.size_toArray] <;> omega)
theorem OU:Cj X (.type "tuple") (λxs H Q=>∃p ys,xs= [.ref p] /\((Fw X.K H p ys/\∀l,H l=none->Q (.ref l) (upd H l (.tup ys)))\/(JD X.K H p ys/\Q (.ref p) H))):=by
 intro pins s σ H xs us Q I r h
 obtain ⟨p,ys,rfl,h⟩:=h
 obtain ⟨u,rfl,rx⟩:=vals1 r
 cases rx
 rcases h with ⟨hq,q⟩|⟨hq,q⟩
 ·obtain ⟨its,r',pl,hz⟩:=I.list hq
  have C9:=r'.length
  refine call_tuple_list pl.isList (λh' kp=> ?_) (by simp only [List.size_toArray] <;> omega)
  have I1:Inv X pins σ H {s with heap:=h'}:=I.kept (t':=s.toks) kp
  have I2:Inv X pins σ (upd H h'.objs.size (.tup ys)) {s with heap:=h'.push {cls:= .type "tuple",data:= .seq its.toArray}}:=
   I1.laid (t':=s.toks) (λb o e=>Heap.get?_push_of_some _ e) (Nat.le_refl _) (show Cv X.prog X.w _ _ _ (.tup ys) from ⟨hz,its,r',IsTup.new _ _⟩)
  exact ⟨.ref h'.objs.size,_,I2,rfl,q _ (I1.hok.fresh (Nat.le_refl _))⟩
 ·obtain ⟨its,r',pl,hz⟩:=I.tuple hq
  exact call_tuple_same pl ⟨.ref p,H,I,rfl,q⟩
def qe (K:PySem.W.Frag) (T:String) (x:V) (H:Hp):Prop:=match x with
 | .str _=>T="str"
 | .int _=>T="int"
 | .ref p=>(T="list" /\∃xs,Fw K H p xs)\/(T="tuple" /\∃o,K.lookup p=some o/\o.cls= .type "tuple" /\o.dict=none)\/
     (T="dict" /\((∃kvs,H p=some (.dK kvs))\/∃kvs,H p=some (.dT kvs)))\/(T="set" /\∃S n,H p=some (.set S n))
 | _=>False
theorem ip {pins:List (Addr×Obj)} {σ:St} {H:Hp} {s:Shared} {T:String} {x:V} {v:Value} (I:Inv X pins σ H s) (r:RelV x v) (ty:qe X.K T x H):
 s.TypeIs v T/\∀a,v= .ref a->∃ob,s.heap.get? a=some ob/\ob.dict=none:=by
 cases x with
 | str z=>
   obtain ⟨t,rfl⟩:=r
   cases (show T="str" from ty)
   exact ⟨typeIs_str s z t,λ_ e=>nomatch e⟩
 | int i=>
   obtain ⟨t,rfl⟩:=r
   cases (show T="int" from ty)
   exact ⟨typeIs_int s i t,λ_ e=>nomatch e⟩
 | ref p=>
   cases r
   rcases ty with ⟨rfl,xs,hq⟩|⟨rfl,o,hk,hc,hd⟩|⟨rfl,hk⟩|⟨rfl,S,n,hk⟩
   ·obtain ⟨its,_,pl,_⟩:=I.list hq
    refine ⟨pl.isList.typeIs,λa e=> ?_⟩
    cases e
    obtain ⟨o,n,e,c,hd,_⟩:=pl
    exact ⟨o,e,hd⟩
   ·refine ⟨⟨o,I.kIn p o hk,hc⟩,λa e=> ?_⟩
    cases e
    exact ⟨o,I.kIn _ o hk,hd⟩
   ·have z:∃o,s.heap.get? p=some o/\o.ExactDict:=by
     rcases hk with ⟨kvs,hk⟩|⟨kvs,hk⟩
     ·obtain ⟨_,_,_,_,o,_,_,e,ex,_⟩:=I.hok p _ hk
      exact ⟨o,e,ex⟩
     ·obtain ⟨_,_,_,_,o,_,_,e,ex,_⟩:=I.hok p _ hk
      exact ⟨o,e,ex⟩
    obtain ⟨o,e,ex⟩:=z
    refine ⟨⟨o,e,ex.1⟩,λa e2=> ?_⟩
    cases e2
    exact ⟨o,e,ex.2.1⟩
   ·obtain ⟨o,_,_,_,e,ex,_⟩:=I.hok p _ hk
    refine ⟨⟨o,e,ex.1⟩,λa e2=> ?_⟩
    cases e2
    exact ⟨o,e,ex.2.1⟩
 | _=>exact False.elim ty
def qd (K:PySem.W.Frag) (T:String) (r:V->List V->Hp->VK->Prop) (to:TE) (t:TA):TE:=λσ H Q=>to σ H λx H1=>qe K T x H1/\t σ H1 λxs H2=>r x xs H2 Q
variable {o e:Expr} {es:List Expr} {to:TE} {t:TA} {name:Str} {apos cpos:Pos} {T id:String} {r:V->List V->Hp->VK->Prop}
theorem kg (pa:PlainAttrs T) (slot:Slot T name id) (nj:typeOf (.builtin id)=pure (.type "method_descriptor")) (hm:jZ X id r) (ho:PE X o to) (ha:PA X (e::es) t)
 (ZA:attributeBase o name X.env (eval o X.env)=eval o X.env:=by rfl)
 (gL:((backTo cpos (starEach (e::es) X.env)).all (λx=> !x.1)&&(backToKw cpos (keywordEach [] X.env)).all (λx=>x.1.isSome)
   && decide ((e::es).length+([] :List Keyword).length+(if ([] :List Keyword).isEmpty then 0 else 1)<30))=true:=by rfl)
 (V8:(apos.endLine==cpos.line)=true:=by rfl) (hs:starEach (e::es) X.env=(false,eval e X.env)::starEach es X.env:=by rfl) (Ul:(backTo cpos (starEach es X.env)).any (·.1)=false:=by rfl):
 PE X (.Call (.Attribute o name apos) (e::es) [] cpos) (qd X.K T r to t):=by
 intro pins s σ H Q I h
 refine wpAny_Call_method_late ZA gL V8 rfl (BV (ho pins s σ H _ I h) λv s1 ⟨x,H1,I1,r1,ty,q1⟩=> ?_)
 obtain ⟨h1,h2⟩:=ip I1 r1 ty
 refine ⟨T,id,pa,slot,nj,h1,h2, ?_⟩
 have hA:=ha cpos pins s1 σ H1 _ I1 q1
 rw [hs] at hA ⊢
 refine Calls.callWith_builtin (by show (false||(backTo cpos (starEach es X.env)).any (·.1))=false;rw [Ul] <;> rfl) (Calls.evalArgs_plain ?_)
 exact BV hA λus s2 ⟨vs,H2,I2,r2,q2⟩=>hm pins s2 σ H2 x vs v us Q I2 r1 r2 q2
end
end L2
namespace L2
open PySem PySem.Spec PyProof.Rows
def jY (X:Cx) (id:String) (r:V->List V->Hp->VK->Prop):Prop:=
 ∀(pins:List (Addr×Obj)) (s:Shared) (σ:St) (H:Hp) (x:V) (xs:List V) (v:Value) (us:List Value) (Q:VK),Inv X pins σ H s->RelV x v->Ax xs us->r x xs H Q->
  wpAny (model X.prog X.w) X.A (call (.builtin id) (v::us)) (EP X pins σ Q) X.xe s
theorem Ax.one:∀{x:V} {us:List Value},Ax [x] us->∃u,us= [u] /\RelV x u
 | _,_, .cons r .nil=>⟨_,rfl,r⟩
theorem Ax.two:∀{x y:V} {us:List Value},Ax [x,y] us->∃u v,us= [u,v] /\RelV x u/\RelV y v
 | _,_,_, .cons r (.cons q .nil)=>⟨_,_,rfl,r,q⟩
theorem Ax.zero:∀{us:List Value},Ax [] us->us= []
 | _, .nil=>rfl
theorem Ax.dropLast {xs:List V} {us:List Value} (h:Ax xs us):Ax xs.dropLast us.dropLast:=by
 induction h with
 | nil=>exact .nil
 | cons r t ih=>
   cases t with
   | nil=>exact .nil
   | cons q t'=>exact .cons r ih
theorem Ax.reverse {xs:List V} {us:List Value} (h:Ax xs us):Ax xs.reverse us.reverse:=by
 induction h with
 | nil=>exact .nil
 | cons r t ih=>rw [List.reverse_cons,List.reverse_cons];exact Ax.append ih (.cons r .nil)
section
variable {X:Cx} {pins:List (Addr×Obj)} {σ:St} {H:Hp} {s:Shared} {l b:Addr} {xs ys zs:List V}
theorem Inv.lset {its its':List Value} {n:Nat} {f:Array Value->Array Value} {t':Nat} (I:Inv X pins σ H s) (hH:H l=some (.lst xs))
 (e:s.heap.get? l=some {cls:= .type "list",data:= .seq its.toArray n}) (hf:f its.toArray=its'.toArray) (hv:Ax ys its') (hz:ys.length<=sizeLine):
 Inv X pins σ (upd H l (.lst ys)) {s with heap:=s.heap.update l (Obj.mapSeq f),toks:=t'}:=by
 have q:=PySem.IsL.update e f
 rw [hf] at q
 refine I.write (x:=l) (e:=l) (by rw [hH];exact trivial) (.inl rfl) (λb' u hb hu=>(Heap.get?_update_other s.heap (Obj.mapSeq f) (Ne.symm hb)).trans hu) ⟨_,q⟩ ?_
 exact ⟨hz,its',_,hv,q⟩
theorem Inv.lnew {its:List Value} {t':Nat} (I:Inv X pins σ H s) (hv:Ax ys its) (hz:ys.length<=sizeLine):
 Inv X pins σ (upd H s.heap.objs.size (.lst ys)) {s with heap:=s.heap.push {cls:= .type "list",data:= .seq its.toArray},toks:=t'}:=
 I.laid (λ_ _ q=>Heap.get?_push_of_some _ q) (Nat.le_refl _) ⟨hz,its,0,hv,Heap.get?_push_size _ rfl⟩
theorem Inv.fresh (I:Inv X pins σ H s):H s.heap.objs.size=none:=I.hok.fresh (Nat.le_refl _)
theorem Inv.lstM (I:Inv X pins σ H s) (hH:H l=some (.lst xs)):xs.length<=sizeLine/\∃(its:List Value) (n:Nat),Ax xs its/\xs.length=its.length/\s.heap.get? l=some {cls:= .type "list",data:= .seq its.toArray n}:=by
 obtain ⟨z,its,n,r,e⟩:=I.hok l _ hH
 exact ⟨z,its,n,r,r.length,e⟩
end
section
variable {X:Cx}
def Q9:V->List V->Hp->VK->Prop:=λx vs H Q=>∃l xs y,x= .ref l/\vs= [y] /\H l=some (.lst xs)/\xs.length<sizeLine/\Q .non (upd H l (.lst (xs ++ [y])))
theorem HJ:jY X "list.append" Q9:=by
 intro pins s σ H x vs v us Q I rx rv h
 obtain ⟨l,xs,y,rfl,rfl,hH,hz,q⟩:=h
 cases rx
 obtain ⟨u,rfl,ru⟩:=rv.one
 obtain ⟨z,its,n,r,hl,e⟩:=I.lstM hH
 refine call_meets F.slot_list_append ⟨_,e,rfl⟩ F.entry_list_append (F.args_list_append_2 _ _) (PySem.list_append l its.toArray n u (by rw [List.size_toArray];omega)) ⟨e, ?_⟩
 refine ⟨.non,_,I.lset (its':=its ++ [u]) hH e (by simp) (r.append (.cons ru .nil)) ?_,rfl,q⟩
 rw [List.length_append,List.length_singleton]
 omega
def kq:R2:=λx y H Q=>∃l b xs zs,x= .ref l/\y= .ref b/\H l=some (.lst xs)/\H b=some (.lst zs)/\xs.length+zs.length<=sizeLine/\∀p,H p=none->Q (.ref p) (upd H p (.lst (xs++zs)))
theorem hI:EC X (binaryOp .Add) kq:=by
 intro pins s σ H x y v u Q I rx ry h
 obtain ⟨l,b,xs,zs,rfl,rfl,hH,hB,hz,q⟩:=h
 cases rx
 cases ry
 obtain ⟨z,its,n,r,hl,e⟩:=I.lstM hH
 obtain ⟨z2,its2,n2,r2,nU,e2⟩:=I.lstM hB
 refine PySem.P.add_list e e2 ?_ (by rw [List.size_toArray,List.size_toArray];omega)
 have ea:its.toArray++its2.toArray=(its++its2).toArray:=by simp
 rw [ea]
 exact ⟨.ref _,_,I.lnew (t':=s.toks) (r.append r2) (by rw [List.length_append];omega),rfl,q _ I.fresh⟩
end
section
variable {prog:Program} {w:World} {A:Around} {E:Value->Shared->Prop} {s:Shared}
set_option maxRecDepth 100000 in
end
section
variable {X:Cx}
end
end L2
namespace Att
open PySem PySem.W PySem.Calls PyProof.Rows
theorem Lq {P:Params} {h:Heap}:∀(ns:List Int) (vs:List Value),WellAll P h vs (ns.map WData.int)->IntsAre vs ns:=by
 intro ns
 induction ns with
 | nil=>
   intro vs w
   rw [List.map_nil] at w
   cases w
   exact .nil
 | cons n ns ih=>
   intro vs w
   rw [List.map_cons] at w
   cases w with
   | cons a b=>
     cases a
     exact .cons _ _ (ih _ b)
theorem Xu {l:OpenLaw} {n:Nat} (hn:l.most=some n) {P:Params} {h:Heap} {args:List WData} {vals:List Value}
 (cG:l.row.toRowW.claim.pre args=true) (nk:WellAll P h vals args):
 ∃a vs ns,vals= [Value.ref a] /\args= [WData.list (ns.map WData.int)] /\h.get? a=some {cls:= .type "list",data:= .seq vs.toArray}/\IntsAre vs ns/\ns.length<=n:=by
 have uL:WShape.hasAll [] args [.list .int] =true:=(pre_splitW cG).1
 have hc:l.pre.holds [] {args:=args}=true:=(pre_splitW cG).2
 obtain ⟨d,r,rfl,h1,h2⟩:=hasAllW_cons uL
 obtain rfl:=hasAllW_nil h2
 obtain ⟨xs,rfl,h3⟩:=hasW_list h1
 obtain ⟨ns,rfl⟩:=items_int h3
 have C9:ns.length<=n:=by
  unfold OpenLaw.pre at hc
  have h4:(WTm.not (.lt (.lit (.int (n:Int))) (.len (.arg 0)))).holds [] {args:= [.list (ns.map .int)] }=true:=by
   have h4:=(holds_andW hc).1
   rw [hn] at h4
   exact h4
  have h5:=condW_of h4 (w_not (w_lt w_lit (w_len_list (w_arg rfl))))
  rw [List.length_map] at h5
  refine Nat.le_of_not_lt λq=> ?_
  have q':(n:Int)<((ns.length:Nat):Int):=by omega
  first
   | (rw [decide_eq_true q'] at h5;exact absurd h5 (by decide))
   | (simp at h5;omega)
 cases nk with
 | cons w1 w2=>
   cases w2
   cases w1 with
   | list ho XM=>exact ⟨_,_,ns,rfl,rfl,ho,Lq ns _ XM,C9⟩
theorem Xp (l:OpenLaw) (args:List WData):l.row.toRowW.claim.post args (.bool true) args=true:=
 postW_of (r:=l.row.toRowW) (X:=(true==true))
  (show WShape.has [] (.bool true) .bool=true by first | rfl|decide|simp [WShape.has,WShape.arms,WShape.armsAll])
  (show (WTm.eq .res (.lit (.bool true))).value [] {args:=args,res:=some (.bool true),after:=args}=some (.bool (true==true)) from w_eq_bool (w_res rfl) w_lit) rfl
theorem attach_call {l:OpenLaw} {n:Nat} {q:Program} {loose:List Str} {XP:(Str->Option Value)->Heap->Prop} {YP:World->Heap->Prop} {d:DefRec}
 (hn:l.most=some n) (jw:d.params.defaults= [])
 (call:∀(w:World) (s₀ s₁:Shared) (mg mb:Str->Option Value) (fa:Addr) (o:Obj) (pm cd doc:Value) (a:Addr) (vs:List Value) (ns:List Int),
   Ground q loose [] XP w s₀ mg mb s₁.heap->YP w s₁.heap->
   s₁.heap.get? fa=some o->o.data= .func (docDef d.name d.params d.body d.scope pm cd doc)->s₁.heap.CodeRec cd d.name->mg d.name=some (.ref fa)->
   s₁.heap.get? a=some {cls:= .type "list",data:= .seq vs.toArray}->IntsAre vs ns->ns.length<=n->s₁.gens= #[] ->
   codeAny (model l.prog w) callerA (.call (.ref fa) ⟨[.ref a], []⟩) (λr s'=>r= .ok (.ret (.bool true))/\OldK s₁.heap s'.heap/\s'.os=s₁.os/\AllBare s'.gens) s₁):
 WalkO q loose XP YP l.row.toRowW d [] (λf vs=>PySem.call f vs):=by
 intro w s₀ s₁ mg mb G Y fa o pm cd doc dV kV ho hd MB hD j4 hg args vals as cG uA vM nk vJ
 obtain rfl:dV= .none:=Dflts.none hD jw
 obtain rfl:kV= .none:=Dflts.noKw hD
 obtain ⟨a,vs,ns,rfl,rfl,gQ,ZC,C9⟩:=Xu hn cG nk
 refine enter_call (codeAny_mono (call w s₀ s₁ mg mb fa o pm cd doc a vs ns G Y ho (fd_plain hd) MB j4 gQ ZC C9 hg) λr s' hq=> ?_)
 obtain ⟨rfl,h2,h3,h4⟩:=hq
 exact ⟨.inl ⟨.bool true, .bool true, [],rfl,λ_=>rfl, .bool true,Xp l _,λ_=>⟨List.Pairwise.nil,λ_ hm=>(nomatch hm)⟩⟩,h2,h3,h4⟩
section
variable {prog:Program} {w:World} {A:Around} {E:Value->Shared->Prop} {s:Shared} {K:Frag}
def n5 (h:Heap) (L d:Addr):List (Addr×Obj):=(List.range h.objs.size).filterMap λa=>if a=L\/a=d then none else (h.get? a).map λo=>(a,o)
end
end Att
namespace L2
open PySem PySem.Spec PyProof.Rows
theorem Po:∀{vs:List Value} {ns:List Int},IntsAre vs ns->Ax (ns.map V.int) vs
 | _,_, .nil=> .nil
 | _,_, .cons n t h=> .cons ⟨t,rfl⟩ (Po h)
def fW (H:Hp):Prop:=∀b,H b=none\/∃o xs,H b=some (.frz o (.lst xs))
theorem ZM {P:Program} {w:World} {K:PySem.W.Frag} {mg mb:Str->Option Value} {CX:Wr} {k:Nat} {fa a:Addr} {fd:FuncData} {x:Str} {sp:Sp} {s₁:Shared} {vs:List Value} {ns:List Int}
 (KX:K.In s₁.heap) (eQ:s₁.heap.Ns mainGlobals mg) (hb:s₁.heap.Ns builtinsNs mb) (tX:∀x:Str,x≠"__name__" ->mb x=bootBuiltins x) (nV:s₁.heap.NoLimit) (hg:s₁.gens= #[])
 (ha:s₁.heap.get? a=some {cls:= .type "list",data:= .seq vs.toArray}) (hi:IntsAre vs ns) (hl:ns.length<=sizeLine) (hr:Room k callerA)
 (F:∀base:Heap,K.In base->base.Ns mainGlobals mg->Az P w K mg base CX k fa fd [x] sp) (js:∀(s:Shared) (u:Value),BindsTo s fd ⟨[u], []⟩ [(x,u)])
 (eS:∀H:Hp,fW H->Fw K H a (ns.map V.int)->sp [.ref a] H (λv _=>v= .bl true) λ_ _ _=>False)
 (nB:∀H e s',CX [] H s₁ (λ_ _ _=>False) e s'->False):
 codeAny (model P w) callerA (.call (.ref fa) ⟨[.ref a], []⟩) (λr s'=>r= .ok (.ret (.bool true))/\OldK s₁.heap s'.heap/\s'.os=s₁.os/\AllBare s'.gens) s₁:=by
 have rv:=Po hi
 have lenV:=hi.length
 have core:∀H:Hp,fW H->Fw K H a (ns.map V.int)->Ll P w H s₁.heap->(∀b,H b≠none->b=a)->(H a≠none->K.lookup a=none)->
  codeAny (model P w) callerA (.call (.ref fa) ⟨[.ref a], []⟩) (λr s'=>r= .ok (.ret (.bool true))/\OldK s₁.heap s'.heap/\s'.os=s₁.os/\AllBare s'.gens) s₁:=by
  intro H hO hS hok hA hK
  have base_of:∀{b:Addr} {o:Obj},s₁.heap.get? b=some o->H b=none->(QY s₁.heap H).get? b=some o:=λe n=>ZB e n
  have noA:∀{b:Addr} {o:Obj} {es:Array DictEntry} {ep:Nat},s₁.heap.get? b=some o->o.data= .dict es ep->H b=none:=λ{b o es ep} e d=>by
   cases q:H b with
   | none=>rfl
   | some u=>
     have e':b=a:=hA b (by rw [q];simp)
     subst e'
     rw [ha] at e;cases e
     have d':Data.seq vs.toArray _=Data.dict es ep:=d
     cases d'
  have nsK:∀{b:Addr} {m:Str->Option Value},s₁.heap.Ns b m->(QY s₁.heap H).Ns b m:=λ{b m} ⟨o,es,ep,e,d,r⟩=>⟨o,es,ep,base_of e (noA e d),d,r⟩
  have qA:K.In (QY s₁.heap H):=λb o e=>base_of (KX b o e) (by
   cases q:H b with
   | none=>rfl
   | some u=>
     have e':b=a:=hA b (by rw [q];simp)
     subst e'
     rw [hK (by rw [q];simp)] at e;cases e)
  have hM:Mod K mg (QY s₁.heap H):=⟨qA,nsK eQ,⟨mb,nsK hb,tX⟩,let ⟨mc,h1,h2⟩:=nV;⟨mc,nsK h1,h2⟩⟩
  have e0:OP P w K mg (QY s₁.heap H) callerA [] s₁ H:=⟨rfl,hM,λb o e=>cV e,Nat.le_of_eq (XN _ _),trivial,λb hb=>absurd (show b∈([] :List Addr) from hb) (by simp),hok, .of_eq hg⟩
  refine codeAny_mono ((F _ qA (nsK eQ)).run callerA [] s₁ H ⟨[.ref a], []⟩ [.ref a] [.ref a] _ _ hr e0 (js s₁ (.ref a)) (.cons rfl .nil) (eS H hO hS)) λr s' h=> ?_
  cases r with
  | error e=>exact (nB H e s' h).elim
  | ok fl=>
    cases fl with
    | next=>exact False.elim h
    | brk=>exact False.elim h
    | cont=>exact False.elim h
    | ret u=>
      obtain ⟨v,H',os,bare,un,nY,r',q⟩:=h
      have q':v= .bl true:=q
      subst q'
      obtain rfl:u=Value.bool true:=r'
      refine ⟨rfl,OldK.of_keep λb o e=> ?_,os,bare⟩
      cases q:H b with
      | none=>exact un.keep b o e q (by intro z;exact absurd (show b∈([] :List Addr) from z) (by simp)) (by simp)
      | some u=>
        rcases hO b with z|⟨ob,xs,z⟩
        ·rw [q] at z;cases z
        ·have z2:=un.frzs b ob _ z
         obtain ⟨e1,_⟩:=hok b _ z
         obtain ⟨e2,_⟩:=nY b _ z2
         rw [e] at e1;cases e1
         exact e2
 cases hk:K.lookup a with
 | some o=>
   have e:=KX a o hk
   rw [ha] at e
   cases e
   refine core (λ_=>none) (λ_=> .inl rfl) (.inr ⟨_,vs.toArray,_,hk,rfl,rfl,rfl,by rw [List.size_toArray,lenV];exact hl,by simpa using rv⟩) (λb u z=>by have z':(none:Option HO)=some u:=z;cases z') (λb z=>absurd rfl z) λz=>absurd rfl z
 | none=>
   refine core (λb=>if b=a then some (.frz {cls:= .type "list",data:= .seq vs.toArray} (.lst (ns.map V.int))) else none) (λb=> ?_) (.inl (.inr ⟨{cls:= .type "list",data:= .seq vs.toArray},if_pos rfl⟩)) (λb u z=> ?_) (λb z=> ?_) λ_=>hk
   ·by_cases hb:b=a
    ·exact .inr ⟨_,_,if_pos hb⟩
    ·exact .inl (if_neg hb)
   ·by_cases hb:b=a
    ·have z':=(if_pos hb).symm.trans z
     cases z'
     subst hb
     exact ⟨ha,by rw [List.length_map];exact hl,vs,_,rv,ha⟩
    ·have z':=(if_neg hb).symm.trans z
     cases z'
   ·by_cases hb:b=a
    ·exact hb
    ·exact absurd (if_neg hb) z
end L2
namespace L2
open PySem PySem.Spec PyProof.Rows
abbrev u9 {K:PySem.W.Frag} {h:Heap} (_:K.In h):PySem.W.Frag:=K
theorem walk_of {l:PySem.W.OpenLaw} {n k:Nat} {q:Program} {loose:List Str} {XP:(Str->Option Value)->Heap->Prop} {YP:World->Heap->Prop} {d:DefRec} {K:Params->PySem.W.Frag} {CX:World->Wr} {sp:World->Sp} {x:Str}
 (hn:l.most=some n) (uG:n<=sizeLine) (jw:d.params.defaults= []) (hr:Room k callerA)
 (hY:∀(w:World) (h:Heap),YP w h->(K w.params).In h)
 (F:∀(w:World) (mg:Str->Option Value) (fa:Addr) (h:Heap),(K w.params).In h->h.Ns mainGlobals mg->mg d.name=some (.ref fa)->
   ∃fd:FuncData,(∀(s:Shared) (u:Value),BindsTo s fd ⟨[u], []⟩ [(x,u)])/\
    ∀base:Heap,(K w.params).In base->base.Ns mainGlobals mg->Az l.prog w (K w.params) mg base (CX w) k fa fd [x] (sp w))
 (eS:∀(w:World) (H:Hp) (a:Addr) (ns:List Int),ns.length<=n->fW H->Fw (K w.params) H a (ns.map V.int)->sp w [.ref a] H (λv _=>v= .bl true) λ_ _ _=>False)
 (nB:∀(w:World) (H:Hp) (s:Shared) (e:Value) (s':Shared),CX w [] H s (λ_ _ _=>False) e s'->False):
 PySem.W.WalkO q loose XP YP l.row.toRowW d [] (λf vs=>PySem.call f vs):=by
 refine Att.attach_call hn jw λw s₀ s₁ mg mb fa o pm cd doc a vs ns G Y ho hd MB j4 gQ ZC C9 hg=> ?_
 have KX:=hY w _ Y
 obtain ⟨fd,hb,hF⟩:=F w mg fa _ KX G.T.g j4
 exact ZM KX G.T.g G.T.b G.T.builtins G.T.nolimit hg gQ ZC (Nat.le_trans C9 uG) hr hF hb (λH hO hS=>eS w H a ns C9 hO hS) λH e s'=>nB w H s₁ e s'
end L2
namespace L2
open PySem PySem.Spec PyProof.Rows
def Fz (s:Stmt):Arguments:=match s with
 | .FunctionDef _ a _ _ _ _ _ _ _ _=>a
 | _=>{posonlyargs:= [],args:= [],vararg:=none,kwonlyargs:= [],kw_defaults:= [],kwarg:=none,defaults:= [] }
def ED (s:Stmt):List Stmt:=match s with
 | .FunctionDef _ _ b _ _ _ _ _ _ _=>b
 | _=> []
def AU (s:Stmt):Scope:=match s with
 | .FunctionDef _ _ _ _ _ _ sc _ _ _=>sc
 | _=>{kind:= .function,names:= [],isGenerator:=false,isCoroutine:=false}
abbrev Cf:Wr:=λ_ _ _ _ _ _=>False
abbrev E0:XK:=λ_ _ _=>False
theorem kZ {X:Cx}:Passes Cf X E0:=λ_ _ _ _ _ _ _ h=>h.elim
structure Ck (K:PySem.W.Frag) (x qual:Str) (st:Stmt) (f:Addr) (fd:FuncData):Prop where
 ex:∃(oc:Value) (od:Option Addr) (kV doc pm:Value) (an:Option Addr) (cdv ct:Value) (osl:Array (Option Value)),
  fd=PySem.W.fnOf x qual (Fz st) (ED st) (AU st) .none kV doc pm an cdv ct/\K.lookup f=some ⟨oc,od, .func fd,osl⟩/\PySem.W.codeIn K cdv qual=true
 kp:PySem.W.keepIn K (.ref f)=true
section
variable {P:Program} {w:World} {K:PySem.W.Frag} {mg:Str->Option Value} {base:Heap}
theorem Ck.ok {x qual:Str} {st:Stmt} {f:Addr} {fd:FuncData} {N ps:List Str} {k:Nat} {sp:Sp} (F:Ck K x qual st f fd) (S:AZ N ps (AU st)) (len:∀vs H Q E,sp vs H Q E->vs.length=ps.length)
 (So:∀(cdv:Value) (A:Around) (outer:List Env) (s:Shared) (H:Hp) (vs:List V) (Q:VK) (E:XK),Room k (A.deeper (envOfC qual (AU st) s.heap.objs.size f cdv))->sp vs H Q E->
   ∃t,Vh (UW Cf P w K mg base N qual (AU st) f cdv A outer s H E).nox (ED st) t/\t {nx:=λ_ H'=>Q .non H',rt:=Q} (start N vs) H):Az P w K mg base Cf (k+1) f fd ps sp:=by
 obtain ⟨oc,od,kV,doc,pm,an,cdv,ct,osl,rfl,lk,MB⟩:=F.ex
 refine jo lk MB S len λA outer s H vs Q E hr eS=> ?_
 obtain ⟨t,h,q⟩:=So cdv A outer s H vs Q E hr eS
 exact ⟨t,h.nox,q⟩
theorem Ck.binds {x qual:Str} {st:Stmt} {f:Addr} {fd:FuncData} {ps:List Str} (F:Ck K x qual st f fd)
 (h:∀(kV doc pm:Value) (an:Option Addr) (cdv ct:Value) (us:List Value),us.length=ps.length->bindArgs (PySem.W.fnOf x qual (Fz st) (ED st) (AU st) .none kV doc pm an cdv ct) ⟨us, []⟩=pure (ps.zip us)):Binds K fd ps [] :=by
 obtain ⟨oc,od,kV,doc,pm,an,cdv,ct,osl,rfl,lk,MB⟩:=F.ex
 exact .all (h kV doc pm an cdv ct)
theorem Y1 {x qual:Str} {st:Stmt} {f:Addr} {oc:Value} {od an:Option Addr} {osl:Array (Option Value)} {kV doc pm cdv ct:Value} (l:K.lookup f=some ⟨oc,od, .func (PySem.W.fnOf x qual (Fz st) (ED st) (AU st) .none kV doc pm an cdv ct),osl⟩)
 (c:PySem.W.codeIn K cdv qual=true) (k:PySem.W.keepIn K (.ref f)=true):Ck K x qual st f (PySem.W.fnOf x qual (Fz st) (ED st) (AU st) .none kV doc pm an cdv ct):=⟨⟨oc,od,kV,doc,pm,an,cdv,ct,osl,rfl,l,c⟩,k⟩
end
section
variable {X:Cx}
theorem pv (i:Nat) {x:Str} {pos:Pos} (hN:X.N[i]? =some x:=by rfl) (hv:fg X.env.scope x:=by first | exact Or.inl rfl|exact Or.inr (Or.inl rfl)|exact Or.inr (Or.inr rfl)) (hd:(x==("__debug__" :Str))=false:=by decide)
 (MB:(x==("__classdict__" :Str))=false:=by decide):PE X (.Name x pos) (Fk i):=Q6 hN hv hd MB
end
theorem kH {c A B:Prop} [Decidable c] (h1:c->A) (h2:¬c->B):if c then A else B:=by
 by_cases h:c
 ·rw [if_pos h]
  exact h1 h
 ·rw [if_neg h]
  exact h2 h
def JB (H H':Hp):Prop:=∀b o,H b=some o->H' b=some o
theorem JB.refl (H:Hp):JB H H:=λ_ _ h=>h
theorem JB.trans {H H1 H2:Hp} (a:JB H H1) (b:JB H1 H2):JB H H2:=λc o h=>b c o (a c o h)
theorem JB.free {H H':Hp} (e:JB H H') {l:Addr} (h:H' l=Option.none):H l=Option.none:=by
 cases q:H l with
 | none=>rfl
 | some o=>
   rw [e l o q] at h
   cases h
theorem JB.seq {K:PySem.W.Frag} {H H':Hp} {a:Addr} {xs:List V} (e:JB H H') (h:Fw K H a xs):Fw K H' a xs:=by
 rcases h with (h|⟨o,h⟩)|h
 ·exact .inl (.inl (e _ _ h))
 ·exact .inl (.inr ⟨o,e _ _ h⟩)
 ·exact .inr h
end L2
section
namespace L2
open PySem PySem.Spec PyProof.Rows
theorem G0 {κ α:Type} [BEq κ] [LawfulBEq κ] {k:κ} {a:α}:∀{l:List (κ×α)},l.lookup k=some a->(k,a)∈l
 | [],h=>by simp at h
 | (n,b)::r,h=>by
   rw [List.lookup_cons] at h
   cases e:k==n with
   | true=>
     rw [e] at h
     have e':k=n:=by simpa using e
     have hb:b=a:=by simpa using h
     subst e' hb
     exact List.mem_cons_self
   | false=>
     rw [e] at h
     exact List.mem_cons_of_mem _ (G0 h)
theorem PM {κ α:Type} [BEq κ] [LawfulBEq κ] {k:κ} {a:α}:∀{l:List (κ×α)},(k,a)∈l->∃b,l.lookup k=some b
 | [],h=>nomatch h
 | (n,b)::r,h=>by
   rw [List.lookup_cons]
   cases e:k==n with
   | true=>exact ⟨b,rfl⟩
   | false=>
     rcases List.mem_cons.mp h with z|z
     ·have:k=n:=congrArg Prod.fst z
      rw [this] at e
      simp at e
     ·exact PM z
theorem Gu {env:Env} {F:Str×NameKind->List (Str×Addr)->Sem (ForInStep (List (Str×Addr)))}
 (h1:∀n r c,env.cells.lookup n=some c->F (n, .free) r=pure (.yield ((n,c)::r)))
 (h2:∀n k r,k≠NameKind.free->F (n,k) r=pure (.yield r)):
 ∀(names:List (Str×NameKind)) (acc:List (Str×Addr)),(∀x∈names,x.2= .free->∃c,env.cells.lookup x.1=some c)->
  ∃cl,(forIn names acc F:Sem _)=pure cl/\(∀p∈cl,p∈acc\/env.cells.lookup p.1=some p.2)/\(∀p∈acc,p∈cl)/\∀x∈names,x.2= .free->∃c,(x.1,c)∈cl
 | [],acc,_=>⟨acc,rfl,λp hp=> .inl hp,λp hp=>hp,λx hx=>nomatch hx⟩
 | (n,k)::r,acc,h=>by
   by_cases hk:k= .free
   ·subst hk
    obtain ⟨c,hc⟩:=h (n, .free) List.mem_cons_self rfl
    obtain ⟨cl,e,a,b,d⟩:=Gu h1 h2 r ((n,c)::acc) (λx hx=>h x (List.mem_cons_of_mem _ hx))
    refine ⟨cl, ?_,λp hp=> ?_,λp hp=>b p (List.mem_cons_of_mem _ hp),λx hx hf=> ?_⟩
    ·rw [List.forIn_cons,h1 n acc c hc]
     exact e
    ·rcases a p hp with z|z
     ·rcases List.mem_cons.mp z with z|z
      ·subst z
       exact .inr hc
      ·exact .inl z
     ·exact .inr z
    ·rcases List.mem_cons.mp hx with z|z
     ·subst z
      exact ⟨c,b _ List.mem_cons_self⟩
     ·exact d x z hf
   ·obtain ⟨cl,e,a,b,d⟩:=Gu h1 h2 r acc (λx hx=>h x (List.mem_cons_of_mem _ hx))
    refine ⟨cl, ?_,a,b,λx hx hf=> ?_⟩
    ·rw [List.forIn_cons,h2 n k acc hk]
     exact e
    ·rcases List.mem_cons.mp hx with z|z
     ·subst z
      exact absurd hf hk
     ·exact d x z hf
theorem Fx {env:Env} {scope:Scope} (h:∀x∈scope.names,x.2= .free->∃c,env.cells.lookup x.1=some c):
 ∃cl,closureFor scope env=pure cl/\(∀y c,cl.lookup y=some c->env.cells.lookup y=some c)/\∀y,(y,NameKind.free)∈scope.names->∃c,cl.lookup y=some c:=by
 obtain ⟨cl,e,a,_,d⟩:=Gu (env:=env) (F:=λx cs=>match x with | (name,kind)=>if (kind==NameKind.free)=true then do let a <-cellOf env name;pure (ForInStep.yield ((name,a)::cs)) else pure (ForInStep.yield cs))
  (λn r c hc=>by
    show (do let a <-cellOf env n;pure (ForInStep.yield ((n,a)::r)):Sem _)=_
    unfold cellOf
    rw [hc]
    rfl)
  (λn k r hk=>by
    have:(k==NameKind.free)=false:=by simpa using hk
    simp [this]) scope.names [] h
 refine ⟨cl, ?_,λy c q=> ?_,λy hy=> ?_⟩
 ·unfold closureFor
  have e2:(forIn scope.names ([] :List (Str×Addr)) λx cs=>match x with | (name,kind)=>if (kind==NameKind.free)=true then do let a <-cellOf env name;pure (ForInStep.yield ((name,a)::cs)) else pure (ForInStep.yield cs):Sem _) >>= (λr=>pure r)=pure cl:=by
   rw [e];rfl
  exact e2
 ·rcases a _ (G0 q) with z|z
  ·exact nomatch z
  ·exact z
 ·obtain ⟨c,hc⟩:=d (y, .free) hy rfl
  exact PM hc
def FE (env:Env) (sc:Scope) (cl:List (Str×Addr)) (C:Addr):Env:=
 {scope:=sc,locals:=C,globals:=env.globals,cells:=cl,qual:=env.qual,func:=none,code:=env.code,frame:=env.frame,builtins:=env.builtins}
def blk (X:Cx) (sc:Scope) (N:List Str) (cl:List (Str×Addr)) (C:Addr) (s:Shared) (H:Hp) (ex:List Addr) (pn:List (Addr×Obj)):Cx where
 prog:=X.prog
 w:=X.w
 K:=X.K
 mg:=X.mg
 base:=X.base
 A:=X.A
 N:=N
 s₀:=s
 H₀:=H
 env:=FE X.env sc cl C
 outer:=X.stack
 stack:=X.stack
 ex:=ex
 fn:=λ_=>false
 calm:=X.calm
 pn:=pn
 xe:=λ_ _=>False
section
variable {X:Cx} {pins:List (Addr×Obj)} {σ:St} {H:Hp} {s:Shared} {fp:List Addr} {sc:Scope} {N:List Str} {cl:List (Str×Addr)}
theorem Inv.notStk (I:Inv X pins σ H s) {b:Addr} (h1:b≠X.env.locals) (h2:b ∉ X.fs):b ∉ YA X.stack:=λz=>by
 rcases List.mem_cons.mp (I.stkSub b z) with e|e
 ·exact h1 e
 ·exact h2 e
theorem Inv.szLt (I:Inv X pins σ H s) {x:Str} {c:Addr} (e:X.env.cells.lookup x=some c):c<s.heap.objs.size:=by
 obtain ⟨v,q⟩:=I.cell x c e
 exact q.lt
theorem fq (I:Inv X pins σ H s) (hf:∀b∈fp,Dh X pins H b) (Dt:∀b∈fp,b<s.heap.objs.size) (hk:sc.kind= .function)
 (h1:∀y c,cl.lookup y=some c->X.env.cells.lookup y=some c) (h2:∀y,(sc.names.lookup y=some .cell\/sc.names.lookup y=some .free)->∃c,cl.lookup y=some c):
 (blk X sc N cl s.heap.objs.size s H fp (X.pn++pins)).Ok where
 mod:=I.ok.mod
 kind:=hk
 glob:=I.ok.glob
 blt:=I.ok.blt
 above:=Nat.le_refl _
 inj:=λx y c a b=>I.ok.inj x y c (h1 x c a) (h1 y c b)
 has:=λx hx=>h2 x hx
 cab:=λx c z=>nomatch z
 hd:=I.ok.hd
 frames:=I.ok.frames
 stk:= .inl rfl
 exf:=λb hb=>⟨Nat.ne_of_lt (Dt b hb),λx c e=>(hf b hb).2.2.2.2.1 x c (h1 x c e)⟩
 bs:=I.bs
 bsz:=Nat.le_trans I.ok.bsz I.sz
 noex:=λb o e hb=>by
  rcases (hf b hb).2.2.2.1 with z|z
  ·exact I.ok.noex b o e z
  ·exact absurd (Nat.lt_of_lt_of_le (Heap.lt_size (I.ok.bs b o e).1) z) (Nat.lt_irrefl _)
 exfs:=λb hb=>I.notStk (hf b hb).2.1 (hf b hb).2.2.1
 funs:=I.stack
 frf:=I.stkFree
def Bs (own:Nat) (ix:List Nat) (σ:St):St:=List.replicate own none++ix.map λi=>(σ[i]?).getD none
theorem Ko {own:Nat} {ix:List Nat} {σ:St}:(Bs own ix σ).length=own+ix.length:=by simp [Bs]
theorem Ec {own:Nat} {ix:List Nat} {σ:St} {j:Nat} {v:V} (h:(Bs own ix σ)[j]? =some (some v)):own<=j/\∃i,ix[j-own]? =some i/\σ[i]? =some (some v):=by
 unfold Bs at h
 by_cases hj:j<own
 ·rw [List.getElem?_append_left (by simpa using hj),List.getElem?_replicate] at h
  simp [hj] at h
 ·have XO:own<=j:=by omega
  rw [List.getElem?_append_right (by simpa using XO),List.length_replicate,List.getElem?_map] at h
  refine ⟨XO, ?_⟩
  cases e:ix[j-own]? with
  | none=>rw [e] at h;simp at h
  | some i=>
    rw [e] at h
    refine ⟨i,rfl, ?_⟩
    have h':(σ[i]?).getD none=some v:=by simpa using h
    cases e2:σ[i]? with
    | none=>rw [e2] at h';simp at h'
    | some o=>
      rw [e2] at h'
      have:o=some v:=by simpa using h'
      rw [this]
structure O3 (X:Cx) (sc:Scope) (own:Nat) (ix:List Nat) (N:List Str):Prop where
 len:N.length=own+ix.length
 out:∀j i,ix[j]? =some i->∃x,N[own+j]? =some x/\X.N[i]? =some x/\X.env.scope.names.lookup x=some .cell/\sc.names.lookup x=some .cell
theorem Yl {own:Nat} {ix:List Nat} {h':Heap} {m:Str->Option Value} {t':Nat} (I:Inv X pins σ H s) (hf:∀b∈fp,Dh X pins H b) (Dt:∀b∈fp,b<s.heap.objs.size) (hk:sc.kind= .function)
 (h1:∀y c,cl.lookup y=some c->X.env.cells.lookup y=some c) (h2:∀y,(sc.names.lookup y=some .cell\/sc.names.lookup y=some .free)->∃c,cl.lookup y=some c) (F:O3 X sc own ix N)
 (hn:h'.Ns s.heap.objs.size m) (k:∀b o,s.heap.get? b=some o->h'.get? b=some o):
 Inv (blk X sc N cl s.heap.objs.size s H fp (X.pn++pins)) [] (Bs own ix σ) H {s with heap:=h',toks:=t'} where
 ok:=fq I hf Dt hk h1 h2
 os:=rfl
 bare:=I.bare
 base:=Un.kept k
 loc:=by
  refine ⟨m,hn,λi x v e1 e2 e3=> ?_⟩
  obtain ⟨XO,io,ei,es⟩:=Ec e2
  obtain ⟨y,ny,ey,oy,sy⟩:=F.out _ _ ei
  have exy:x=y:=by
   have e1':N[i]? =some x:=e1
   rw [show own+(i-own)=i by omega,e1'] at ny
   exact Option.some.inj ny
  subst exy
  obtain ⟨m0,uF,nR⟩:=I.loc
  obtain ⟨u,r,l⟩:=nR io x v ey es (.inr (.inl oy))
  refine ⟨u,r, ?_⟩
  rcases l with ⟨z,_⟩|⟨_,c,ec,z⟩
  ·have z':X.env.scope.names.lookup x=some .local:=z
   rw [oy] at z'
   cases z'
  ·obtain ⟨c',ec'⟩:=h2 x (.inl sy)
   have:=h1 x c' ec'
   rw [ec] at this
   cases this
   obtain ⟨o,ho,hd⟩:=z
   exact .inr ⟨.inl sy,c,ec',o,k c o ho,hd⟩
 cell:=λx c e=>by
  obtain ⟨v,o,ho,hd⟩:=I.cell x c (h1 x c e)
  exact ⟨v,o,k c o ho,hd⟩
 free:=I.hok.fresh (Nat.le_refl _)
 freeC:=λx c e=>I.freeC x c (h1 x c e)
 pin:=λp hp=>by
  have FU:p∈X.pn++pins:=by simpa [blk] using hp
  obtain ⟨a,b,c,d,e⟩:=I.pin p FU
  exact ⟨k _ _ a,b,Nat.ne_of_lt (Heap.lt_size a),I.notStk c d,e⟩
 hok:=I.hok.kept k
 len:=by rw [Ko];exact F.len.symm
theorem Vq {own:Nat} {ix:List Nat} {σ':St} {H':Hp} {s':Shared} {pins':List (Addr×Obj)} (I:Inv X pins σ H s) (hf:∀b∈fp,Dh X pins H b) (Dt:∀b∈fp,b<s.heap.objs.size)
 (B:Inv (blk X sc N cl s.heap.objs.size s H fp (X.pn++pins)) pins' σ' H' s'):Inv X pins σ H' s':=
 I.call' (ch:=fp) B.os B.base B.hok B.bare λb hb=>⟨(hf b hb).2.2.2.1,(hf b hb).2.1,(hf b hb).2.2.2.2.1,(hf b hb).2.2.2.2.2⟩
theorem NB {H':Hp} {σ':St} {s':Shared} {C:Addr} {h':Heap} (I:Inv X pins σ H s) (hC:C=s.heap.objs.size) (I':Inv X pins σ' H' s') (hn:H' C=none) (hs:Heap.SameBut C s'.heap h'):Inv X pins σ' H' {s' with heap:=h'}:=by
 subst hC
 refine I'.turned (t':=s'.toks) (it:=s.heap.objs.size) (λb o hb e=>(hs.2 b hb).trans e) hn (Nat.ne_of_gt I.lt) (.inr I.sz) (λx c e=>Nat.ne_of_lt (I.szLt e)) λp hp=>Nat.ne_of_lt (Heap.lt_size (I.pin p hp).1)
end
def Vg (X:Cx) (ifs:List Expr) (t:TT):Prop:=
 ∀(pins:List (Addr×Obj)) (s:Shared) (σ:St) (H:Hp) (Q:Bool->Hp->Prop),Inv X pins σ H s->t σ H Q->
  wpAny (model X.prog X.w) X.A (forIn ifs true λc r=>if r=true then do let ok <-isTrue c X.env (eval c X.env);pure (ForInStep.yield ok) else pure (ForInStep.yield r)) (TP X pins σ Q) X.xe s
def oN:TT:=λ_ H Q=>Q true H
theorem cz {X:Cx}:Vg X [] oN:=λ_ _ _ H _ I h=>wpAny_tests_nil ⟨H,I,h⟩
theorem c6 {X:Cx} {c:Expr} {t:TT} (hc:PT X c t):Vg X [c] t:=λpins s σ H Q I h=>wpAny_tests_one (hc pins s σ H Q I h)
def Go (own:Nat) (g:TG):Prop:=∀v σ H Q,g v σ H Q->g v σ H λσ2 H2=>Q σ2 H2/\σ2.length=σ.length/\∀j,own<=j->σ2[j]? =σ[j]?
def Mz (own:Nat) (g:UI):Prop:=∀vs σ H Q,g vs σ H Q->g vs σ H λσ2 H2=>Q σ2 H2/\σ2.length=σ.length/\∀j,own<=j->σ2[j]? =σ[j]?
theorem bi {own i:Nat} (h:i<own):Go own (Cy i):=λv σ H Q q=>⟨q,by simp,λj hj=>List.getElem?_set_ne (by omega)⟩
theorem bj {own:Nat}:Mz own Sc:=λvs σ H Q q=>⟨q.1,q.2,rfl,λ_ _=>rfl⟩
theorem Y3 {own:Nat} {t:TG} {u:UI} (h1:Go own t) (m1:∀v σ H Q Q',(∀σ2 H2,Q σ2 H2->Q' σ2 H2)->t v σ H Q->t v σ H Q') (h2:Mz own u) (m2:∀v σ H Q Q',(∀σ2 H2,Q σ2 H2->Q' σ2 H2)->u v σ H Q->u v σ H Q'):Mz own (Es t u):=by
 intro vs σ H Q q
 obtain ⟨v,r,e,q⟩:=q
 refine ⟨v,r,e,m1 _ _ _ _ _ (λσ2 H2 z=> ?_) (h1 _ _ _ _ q)⟩
 obtain ⟨z,l,kk⟩:=z
 refine m2 _ _ _ _ _ (λσ3 H3 z3=> ?_) (h2 _ _ _ _ z)
 obtain ⟨z3,l3,k3⟩:=z3
 exact ⟨z3,l3.trans l,λj hj=>(k3 j hj).trans (kk j hj)⟩
theorem bn {i:Nat}:∀v σ H Q Q',(∀σ2 H2,Q σ2 H2->Q' σ2 H2)->Cy i v σ H Q->Cy i v σ H Q':=λ_ _ _ _ _ m q=>m _ _ q
theorem bq:∀v σ H Q Q',(∀σ2 H2,Q σ2 H2->Q' σ2 H2)->Sc v σ H Q->Sc v σ H Q':=λ_ _ _ _ _ m q=>⟨q.1,m _ _ q.2⟩
theorem Y4 {t:TG} {u:UI} (m1:∀v σ H Q Q',(∀σ2 H2,Q σ2 H2->Q' σ2 H2)->t v σ H Q->t v σ H Q') (m2:∀v σ H Q Q',(∀σ2 H2,Q σ2 H2->Q' σ2 H2)->u v σ H Q->u v σ H Q'):
 ∀v σ H Q Q',(∀σ2 H2,Q σ2 H2->Q' σ2 H2)->Es t u v σ H Q->Es t u v σ H Q':=λ_ _ _ _ _ m ⟨v,r,e,q⟩=>⟨v,r,e,m1 _ _ _ _ _ (λ_ _ z=>m2 _ _ _ _ _ m z) q⟩
def IP (J:It) (D:Addr) (σ0:St) (g:TG) (tt:TT) (te:TE) (Q:Hp->Prop) (W:Nat->Nat->Hp->Prop):Prop:=
 ∀i m H,W i m H->(J.stop i H/\Q H)\/(J.go i H/\∀x H',J.yld i H x H'->g x σ0 H' λσ2 H2=>tt σ2 H2 λok H3=>
  if ok=true then te σ2 H3 λy H4=>∃ys,H4 D=some (.lst ys)/\ys.length<sizeLine/\∃m',m'<m/\W (i+1) m' (upd H4 D (.lst (ys ++ [y]))) else ∃m',m'<m/\W (i+1) m' H3)
def Wj (wi:TI) (own:Nat) (ix:List Nat) (g:TG) (tt:TT) (te:TE):TE:=λσ H Q=>wi σ H λJ H1=>∀D,H1 D=none->
 ∃W:Nat->Nat->Hp->Prop,(∃m,W 0 m (upd H1 D (.lst [])))/\IP J D (Bs own ix σ) g tt te (Q (.ref D)) W
section
variable {X:Cx} {tg elt iter:Expr} {ifs:List Expr} {scope:Scope} {pos:Pos} {wi:TI} {own:Nat} {ix:List Nat} {N:List Str} {g:TG} {tt:TT} {te:TE}
structure KP (X:Cx) (tg elt:Expr) (ifs:List Expr) (scope:Scope) (own:Nat) (ix:List Nat) (N:List Str) (g:TG) (tt:TT) (te:TE):Prop where
 kind:scope.kind= .function
 nocell:∀y∈scope.names,y.2≠ .cell
 names:∀y∈scope.names,y.2= .local->scope.names.lookup y.1=some .local
 frees:∀y∈scope.names,y.2= .free->X.env.scope.names.lookup y.1=some .cell
 ins:O3 X (relabel scope X.env) own ix N
 keep:Go own g
 tgt:∀cl C s H ex pn,PG (blk X (relabel scope X.env) N cl C s H ex pn) tg g
 tst:∀cl C s H ex pn,Vg (blk X (relabel scope X.env) N cl C s H ex pn) ifs tt
 val:∀cl C s H ex pn,PE (blk X (relabel scope X.env) N cl C s H ex pn) elt te
theorem Ex {env:Env} {y:Str} {k:NameKind} (V9:∀y∈scope.names,y.2≠ .cell) (h:(y,k)∈(relabel scope env).names) (hk:k= .cell\/k= .free):(y,NameKind.free)∈scope.names:=by
 obtain ⟨⟨n,k'⟩,hm,e⟩:=List.mem_map.mp (show (y,k)∈scope.names.map _ from h)
 dsimp only at e
 split at e
 ·rename_i hc
  cases e
  have:k'= .free:=by
   cases k' <;> simp_all
  subst this
  exact hm
 ·cases e
  rcases hk with z|z
  ·subst z
   exact absurd rfl (V9 _ hm)
  ·subst z
   exact hm
theorem W7 {pins:List (Addr×Obj)} {σ:St} {H:Hp} {s:Shared} {fp:List Addr} {cl:List (Str×Addr)} {it:Addr} {tn:Nat->Heap->Prop} {J:It} {D:Addr} {R:Result->Shared->Prop} {Qh:Hp->Prop} {W:Nat->Nat->Hp->Prop}
 (hc:X.calm=true) (O:KP X tg elt ifs scope own ix N g tt te) (T:Ka X.prog X.w X.K tg J fp it tn) (I:Inv X pins σ H s) (hf:∀b∈fp,Dh X pins H b) (Dt:∀b∈fp,b<s.heap.objs.size)
 (hW:IP J D (Bs own ix σ) g tt te Qh W)
 (hR:∀σ' H' s',Inv (blk X (relabel scope X.env) N cl s.heap.objs.size s H fp (X.pn++pins)) [] σ' H' s'->Qh H'->R (.ok .next) s')
 (n:Nat) (s0:Shared) (h0:∃i H',Inv (blk X (relabel scope X.env) N cl s.heap.objs.size s H fp (X.pn++pins)) [] (Bs own ix σ) H' s0/\tn i s0.heap/\(∀b∈fp,H' b=none)/\W i n H'):
 codeAny (model X.prog X.w) X.A (.compLoop (.ListComp elt [⟨tg,iter,ifs,0⟩] scope pos) 0 (.ref it) (.ref D) (FE X.env (relabel scope X.env) cl s.heap.objs.size)) R s0:=by
 refine codeAny_loop rfl (λn s'=>∃i H',Inv (blk X (relabel scope X.env) N cl s.heap.objs.size s H fp (X.pn++pins)) [] (Bs own ix σ) H' s'/\tn i s'.heap/\(∀b∈fp,H' b=none)/\W i n H') (λn s1 h1=> ?_) n h0
 obtain ⟨i,H1,B1,st1,fr1,w1⟩:=h1
 generalize hY:blk X (relabel scope X.env) N cl s.heap.objs.size s H fp (X.pn++pins)=Y at *
 have eA:Y.A=X.A:=by rw [<-hY];rfl
 have eP:Y.prog=X.prog:=by rw [<-hY];rfl
 have eW:Y.w=X.w:=by rw [<-hY];rfl
 have eK:Y.K=X.K:=by rw [<-hY];rfl
 have eE:FE X.env (relabel scope X.env) cl s.heap.objs.size=Y.env:=by rw [<-hY];rfl
 have eX:Y.xe=λ_ _=>False:=by rw [<-hY];rfl
 have eC:Y.calm=true:=by rw [<-hY];exact hc
 have hg:PG Y tg g:=by rw [<-hY];exact O.tgt _ _ _ _ _ _
 have ht:Vg Y ifs tt:=by rw [<-hY];exact O.tst _ _ _ _ _ _
 have hv:PE Y elt te:=by rw [<-hY];exact O.val _ _ _ _ _ _
 have stat:∀{H':Hp},(∀b∈fp,H' b=none)->∀b∈fp,Dh Y [] H' b:=λ{H'} hn b hb=>by
  obtain ⟨_,a1,a2,a3,a4,a5⟩:=hf b hb
  refine ⟨hn b hb, ?_, ?_, ?_, ?_, ?_⟩
  ·rw [<-hY];exact Nat.ne_of_lt (Dt b hb)
  ·rw [<-hY];exact I.notStk a1 a2
  ·rw [<-hY];exact .inl hb
  ·intro x c e
   exact (B1.ok.exf b (by rw [<-hY];exact hb)).2 x c e
  ·intro p hp
   have:p∈X.pn++pins:=by rw [<-hY] at hp;simpa [blk] using hp
   exact a5 p this
 rw [eE,<-eA,<-eP,<-eW]
 show wpAny _ _ ((compTurn (.ListComp elt [⟨tg,iter,ifs,0⟩] scope pos) 0 (.ref it) (.ref D) Y.env).onRaise (λx=>do noteFrame x Y.env;theTreesLotGoes x)) _ _ s1
 refine wpAny_noted ?_
 rw [compTurn_list]
 have ff:∀{α:Type} {t:Sem α} {Q:α->Shared->Prop} {E:Value->Shared->Prop} {s:Shared},wpAny (model Y.prog Y.w) Y.A t Q Y.xe s->wpAny (model Y.prog Y.w) Y.A t Q E s:=λh=>wpAny_mono h (λ_ _ q=>q) λ_ _ z=>by rw [eX] at z;exact z.elim
 refine wpAny_bind (wpAny_standAt (wpAny_bind ?_))
 rcases hW i n H1 w1 with ⟨stop,qn⟩|⟨go,step⟩
 ·have zd:=λE=>T.done Y eP eW eK eC i [] s1 _ H1 E B1 (stat fr1) st1 stop
  rw [<-eP,<-eW] at zd
  refine BV (zd _) λr s4 ⟨hr,I4⟩=> ?_
  subst hr
  exact wpAny_pure (hR _ _ _ I4 qn)
 ·have zi:=λE=>T.item Y eP eW eK eC i [] s1 _ H1 E B1 (stat fr1) st1 go
  rw [<-eP,<-eW] at zi
  refine BV (zi _) λr s4 ⟨u,hr,h4⟩=> ?_
  subst hr
  refine wpAny_bind (BV h4 λ_ s5 ⟨x,H5,I5,r5,y5,st5,fr5⟩=> ?_)
  have I5':=I5.pinned (stat fr5) (T.obj _ _ st5)
  refine wpAny_bind (BV (ff (hg _ s5 _ H5 x u _ I5' r5 (O.keep _ _ _ _ (step x H5 y5)))) λ_ s6 ⟨σ6,H6,I6,q6,l6,k6⟩=> ?_)
  refine wpAny_bind (BV (ff (ht _ s6 σ6 H6 _ I6 q6)) λok s7 ⟨H7,I7,q7⟩=> ?_)
  have back:∀{H8:Hp} {s8:Shared} {m':Nat},Inv Y ([] ++ FI fp s5.heap) σ6 H8 s8->m'<n->W (i+1) m' H8->
   ∃m,m<n/\∃i H',Inv Y [] (Bs own ix σ) H' s8/\tn i s8.heap/\(∀b∈fp,H' b=none)/\W i m H':=λ{H8 s8 m'} I8 hm w8=>by
   refine ⟨m',hm,i+1,H8,I8.unpinned.weak l6.symm (λj v hj=> ?_),T.keep _ _ _ st5 λb hb o e=>(I8.pin (b,o) (List.mem_append_right _ (List.mem_append_right _ (Bx hb e)))).1,λb hb=> ?_,w8⟩
   ·rw [k6 j (Ec hj).1]
    exact hj
   ·obtain ⟨o,e,d⟩:=T.obj _ _ st5 b hb
    exact (I8.pin (b,o) (List.mem_append_right _ (List.mem_append_right _ (Bx hb e)))).2.1
  cases ok with
  | false=>
    obtain ⟨m',hm,w8⟩:=q7
    exact wpAny_pure ⟨rfl,back I7 hm w8⟩
  | true=>
    refine wpAny_bind (wpAny_bind (BV (ff (hv _ s7 σ6 H7 _ I7 q7)) λyv s8 ⟨y,H8,I8,r8,ys,hD,hz,m',hm,w8⟩=> ?_))
    refine wpAny_bind (BV (ff (HJ _ s8 σ6 H8 (.ref D) [y] (.ref D) [yv] (λ_ H9=>H9=upd H8 D (.lst (ys ++ [y]))) I8 rfl (.cons r8 .nil) ⟨D,ys,y,rfl,rfl,hD,hz,rfl⟩)) λ_ s9 ⟨_,H9,I9,_,e9⟩=> ?_)
    subst e9
    exact wpAny_pure (wpAny_pure ⟨rfl,back I9 hm w8⟩)
theorem SV {pins:List (Addr×Obj)} {σ:St} {H:Hp} {s:Shared} {use:Option (Value->Sem Unit)} {Q:Value->Shared->Prop} {it:Addr} {fp:List Addr} {cl:List (Str×Addr)} {tn:Nat->Heap->Prop} {J:It} {Qd:Addr->Hp->Prop}
 (hc:X.calm=true) (O:KP X tg elt ifs scope own ix N g tt te) (T:Ka X.prog X.w X.K tg J fp it tn) (I:Inv X pins σ H s) (hf:∀b∈fp,Dh X pins H b) (st:tn 0 s.heap)
 (h1:∀y c,cl.lookup y=some c->X.env.cells.lookup y=some c) (h2:∀y,(y,NameKind.free)∈scope.names->∃c,cl.lookup y=some c)
 (hq:∀D,H D=none->∃W:Nat->Nat->Hp->Prop,(∃m,W 0 m (upd H D (.lst [])))/\IP J D (Bs own ix σ) g tt te (Qd D) W)
 (hR:∀D C H' s',(∃m,s'.heap.Ns C m)->Inv X pins σ H' s'->(∀σ2 s2,Inv X pins σ2 H' s2->∀h',Heap.SameBut C s2.heap h'->Inv X pins σ2 H' {s2 with heap:=h'})->C≠X.env.locals->(∀x c,X.env.cells.lookup x=some c->C≠c)->Qd D H'->
   compPost (model X.prog X.w) X.A X.xe use Q (.ref D) C (.ok .next) s'):
 wpAny (model X.prog X.w) X.A (newList []) (λacc s₃=>wpAny (model X.prog X.w) X.A (newFunctionEnv scope X.env.globals cl [] X.env.qual none .none (some X.env)) (λcenv s₄=>
  codeAny (model X.prog X.w) X.A (.compStart (.ListComp elt [⟨tg,iter,ifs,0⟩] scope pos) 0 (.ref it) acc {cenv with scope:=relabel scope X.env}) (compPost (model X.prog X.w) X.A X.xe use Q acc cenv.locals) s₄) X.xe s₃) X.xe s:=by
 refine wpAny_newObj_type ?_ (by simp [sizeOk])
 have I3:Inv X pins σ (upd H s.heap.objs.size (.lst [])) {s with heap:=s.heap.push {cls:= .type "list",data:= .seq ([] :List Value).toArray}}:=I.lnew (t':=s.toks) .nil (Nat.zero_le _)
 have Uj:=I.fresh
 obtain ⟨W,⟨m0,w0⟩,hW⟩:=hq _ Uj
 have ZD:∀b∈fp,b<s.heap.objs.size:=λb hb=>by
  obtain ⟨o,e,_⟩:=T.obj _ _ st b hb
  exact Heap.lt_size e
 have V6:∀b∈fp,Dh X pins (upd H s.heap.objs.size (.lst [])) b:=λb hb=>by
  obtain ⟨a0,ar⟩:=hf b hb
  exact ⟨by rw [Af (Nat.ne_of_lt (ZD b hb))];exact a0,ar⟩
 generalize j8:({s with heap:=s.heap.push {cls:= .type "list",data:= .seq ([] :List Value).toArray}}:Shared)=s3 at I3
 have st3:tn 0 s3.heap:=T.keep _ _ _ st λb hb o e=>by rw [<-j8];exact Heap.get?_push_of_some _ e
 have Dt:∀b∈fp,b<s3.heap.objs.size:=λb hb=>by
  obtain ⟨o,e,_⟩:=T.obj _ _ st3 b hb
  exact Heap.lt_size e
 refine wpAny_newFunctionEnv O.nocell (by intro y hy;simp at hy) (λh₁ eQ ng=> ?_) O.kind
 have kp:∀b o,s3.heap.get? b=some o->h₁.get? b=some o:=λb o e=>ng.extBut b o (Nat.ne_of_lt (Heap.lt_size e)) (Heap.get?_push_of_some _ e)
 have jy:∀y,((relabel scope X.env).names.lookup y=some .cell\/(relabel scope X.env).names.lookup y=some .free)->∃c,cl.lookup y=some c:=λy hy=>by
  rcases hy with z|z
  ·exact h2 y (Ex O.nocell (G0 z) (.inl rfl))
  ·exact h2 y (Ex O.nocell (G0 z) (.inr rfl))
 have B:=Yl (N:=N) (t':=s3.toks+([] :List (Str×Value)).length) I3 V6 Dt (sc:=relabel scope X.env) O.kind h1 jy O.ins eQ kp
 have st4:tn 0 h₁:=T.keep _ _ _ st3 λb hb o e=>kp b o e
 have loop:∀s4:Shared,s4={s3 with heap:=h₁,toks:=s3.toks+([] :List (Str×Value)).length}->
  codeAny (model X.prog X.w) X.A (.compLoop (.ListComp elt [⟨tg,iter,ifs,0⟩] scope pos) 0 (.ref it) (.ref s.heap.objs.size) (FE X.env (relabel scope X.env) cl s3.heap.objs.size)) (compPost (model X.prog X.w) X.A X.xe use Q (.ref s.heap.objs.size) s3.heap.objs.size) s4:=by
  rintro s4 rfl
  refine W7 (cl:=cl) (Qh:=Qd s.heap.objs.size) hc O T I3 V6 Dt hW (λσ' H' s' B' q'=> ?_) m0 _ ⟨0,_,B,st4,λb hb=>(V6 b hb).1,w0⟩
  refine hR _ _ H' s' (let ⟨m,hm,_⟩:=B'.loc;⟨m,hm⟩) (Vq (own:=own) (ix:=ix) I3 V6 Dt B') (λσ2 s2 I2 h' hs=>NB I3 rfl I2 B'.free hs) (Nat.ne_of_gt I3.lt) (λx c e=>Nat.ne_of_gt (I3.szLt e)) q'
 exact codeAny_compStart_list (loop _ rfl) (T.self _ 0 _ _ _ st4 (loop _ rfl))
theorem cu (hc:X.calm=true) (hi:PI X tg iter wi) (O:KP X tg elt ifs scope own ix N g tt te) (hs:∀x,foldedSetIterable iter X.env x=pure x:=by intro _;rfl):
 PE X (.ListComp elt [⟨tg,iter,ifs,0⟩] scope pos) (Wj wi own ix g tt te):=by
 intro pins s σ H Q I h
 obtain ⟨cl,NN,h1,h2⟩:=Fx (env:=X.env) (scope:=scope) λy hy e=>I.ok.has y.1 (.inl (O.frees y hy e))
 rw [eval_ListComp]
 refine wpAny_comprehension_free (use:=none) rfl hs NN O.kind O.names (BV (hi pins s σ H _ I h) λv s1 hv=>BV hv λitv s2 cI=> ?_)
 obtain ⟨it,fp,tn,J,H2,rfl,I2,T,st2,f2,q⟩:=cI
 exact SV (Qd:=λD H'=>Q (.ref D) H') hc O T I2 f2 st2 h1 h2 q λD C H' s' hn I' gone nl nc q'=>by
  obtain ⟨m,hm⟩:=hn
  exact ⟨m,hm,λh' hs=>⟨.ref D,H',gone σ s' I' h' hs,rfl,q'⟩⟩
theorem c9 {i:Nat} {x:Str} {pos' spos:Pos} (hc:X.calm=true) (hN:X.N.Nodup) (am:X.N[i]? =some x) (hx:Loc X.env.scope x) (hi:PI X tg iter wi) (O:KP X tg elt ifs scope own ix N g tt te)
 (kA:swapsWith (.ListComp elt [⟨tg,iter,ifs,0⟩] scope pos) (some (.Name x pos')) spos.line X.env=pure true:=by rfl) (hs:∀x,foldedSetIterable iter X.env x=pure x:=by intro _;rfl)
 (hf:X.fn x=true\/X.env.scope.names.lookup x=some .local:=by first | exact .inl rfl|exact .inr rfl|assumption):
 PS X (.Assign [.Name x pos'] (.ListComp elt [⟨tg,iter,ifs,0⟩] scope pos) spos) (To (Wj wi own ix g tt te) (Cy i)):=by
 intro pins s σ H D I h
 obtain ⟨cl,NN,h1,h2⟩:=Fx (env:=X.env) (scope:=scope) λy hy e=>I.ok.has y.1 (.inl (O.frees y hy e))
 rw [exec_Assign_Name_used _ _ _ _ kA]
 refine wpAny_bind (wpAny_standAt (wpAny_bind ?_))
 show wpAny _ _ (do let _ <-comprehension (.ListComp elt [⟨tg,iter,ifs,0⟩] scope pos) scope X.env _ (newList []) false (eval iter X.env) (some (assign (.Name x pos') X.env))) _ _ s
 refine wpAny_bind (BV (wpAny_comprehension_free (use:=some (assign (.Name x pos') X.env)) (Q:=λ_ s'=>SP X pins D .next s') rfl hs NN O.kind O.names (BV (hi pins s σ H _ I h) λv s1 hv=>BV hv λitv s2 cI=> ?_)) λ_ s' hq=>wpAny_pure (wpAny_pure hq))
 obtain ⟨it,fp,tn,J,H2,rfl,I2,T,st2,f2,q⟩:=cI
 refine SV (Qd:=λD' H'=>Cy i (.ref D') σ H' D.nx) hc O T I2 f2 st2 h1 h2 q λD' C H' s' hn I' gone nl nc q'=> ?_
 obtain ⟨m,hm⟩:=hn
 show wpAny _ _ (assign (.Name x pos') X.env (.ref D')) _ _ s'
 refine wpAny_assign_Name (Pn (v:= .ref D') I' hN am hx rfl (λs4 I4 ⟨a,sb,ha⟩=> ?_) hf)
 have tT:C≠a:=by
  rcases ha with z|z
  ·rw [z];exact nl
  ·exact nc x a z
 exact ⟨m,hm.sameBut sb tT,λh' hs=>⟨_,H',gone _ s4 I4 h' hs,q'⟩⟩
end
end L2
end
section
namespace L2
open PySem PySem.Spec PyProof.Rows
theorem JV {n k:Nat} (h:n<2^k) (hk:0<k):n.log2<k:=by
 by_cases e:n=0
 ·subst e
  simpa using hk
 ·exact (Nat.log2_lt e).mpr h
theorem HH {i:Int} {k:Nat} (h:i.natAbs<2^k):Builtin.Int.intBits i<=k:=by
 unfold Builtin.Int.intBits
 by_cases e:i=0
 ·subst e;simp
 ·have e2:(i==0)=false:=by simpa using e
  rw [e2]
  simp only [Bool.false_eq_true,if_false]
  have e3:i.natAbs≠0:=by omega
  have:=(Nat.log2_lt e3).mpr h
  omega
section
variable {X:Cx}
def mX (i j:Int):Prop:=i.natAbs<2^8000/\j.natAbs<2^8000
def jT (i j:Int):Prop:=Mq i j\/mX i j
theorem HL:EC X (binaryOp .Mult) (rI jT λi j=> .int (i*j)):=hG λ_ _ _ _ _ _ _ hc q=>mul_int q (by
 rcases hc with z|z
 ·exact z.ok
 ·exact .of_le (HH z.1) (HH z.2) (by decide))
def jS (_ j:Int):Prop:=0<j/\j.natAbs<2^8000
theorem Zd:EC X (binaryOp .FloorDiv) (rI jS λi j=> .int (i/j)):=hG λi j _ _ _ _ _ hc q=>by
 have h1:(0:Int)<j:=hc.1
 refine floordiv_int (by omega) ?_ (.inl (PyProof.noPylong_of_log2 (Nat.lt_trans (JV hc.2 (by decide)) (by decide))))
 rw [Int.fdiv_eq_ediv_of_nonneg _ (Int.le_of_lt h1)]
 exact q
inductive Kd where
 | int|bl|non|str|lst|tup
 deriving DecidableEq
def tE (K:PySem.W.Frag) (x:V) (H:Hp):Kd->Prop
 | .int=>∃i,x= .int i
 | .bl=>∃b,x= .bl b
 | .non=>x= .non
 | .str=>∃z,x= .str z
 | .lst=>∃a ys,x= .ref a/\Fw K H a ys
 | .tup=>∃a ys,x= .ref a/\JD K H a ys
def Qc:Kd->String->Bool
 | .int,T=>T == "int"
 | .bl,T=>T == "bool" || T == "int"
 | .non,_=>false
 | .str,_=>false
 | .lst,T=>T == "list"
 | .tup,T=>T == "tuple"
def ZG (T:String):Prop:=T="int" \/T="bool" \/T="tuple" \/T="list"
def iM (K:PySem.W.Frag):List V->Hp->VK->Prop:=λxs H Q=>∃x T k,xs= [x, .ty T] /\ZG T/\tE K x H k/\Q (.bl (Qc k T)) H
theorem Ym:Cj X (.builtin "isinstance") (iM X.K):=by
 intro pins s σ H xs us Q I r h
 obtain ⟨x,T,k,rfl,hT,hk,q⟩:=h
 cases r with
 | cons rx rr=>
 cases rr with
 | cons rt rr=>
 cases rr
 cases rt
 have yes:Q (.bl true) H->EP X pins σ Q (.bool true) s:=λz=>⟨.bl true,H,I,rfl,z⟩
 have no:Q (.bl false) H->EP X pins σ Q (.bool false) {s with toks:=s.toks+1}:=λz=>⟨.bl false,H,I.tok _,rfl,z⟩
 cases k with
 | int=>
   obtain ⟨i,rfl⟩:=hk
   obtain ⟨t,rfl⟩:=rx
   rcases hT with rfl|rfl|rfl|rfl
   ·exact IsiPair.int_int (yes q)
   ·exact IsiPair.int_bool (no q)
   ·exact IsiPair.int_tuple (no q)
   ·exact IsiPair.int_list (no q)
 | bl=>
   obtain ⟨i,rfl⟩:=hk
   cases rx
   rcases hT with rfl|rfl|rfl|rfl
   ·exact IsiPair.bool_int (yes q)
   ·exact IsiPair.bool_bool (yes q)
   ·exact IsiPair.bool_tuple (no q)
   ·exact IsiPair.bool_list (no q)
 | non=>
   have e:x= .non:=hk
   subst e
   cases rx
   rcases hT with rfl|rfl|rfl|rfl
   ·exact IsiPair.NoneType_int (no q)
   ·exact IsiPair.NoneType_bool (no q)
   ·exact IsiPair.NoneType_tuple (no q)
   ·exact IsiPair.NoneType_list (no q)
 | str=>
   obtain ⟨i,rfl⟩:=hk
   obtain ⟨t,rfl⟩:=rx
   rcases hT with rfl|rfl|rfl|rfl
   ·exact IsiPair.str_int (no q)
   ·exact IsiPair.str_bool (no q)
   ·exact IsiPair.str_tuple (no q)
   ·exact IsiPair.str_list (no q)
 | lst=>
   obtain ⟨a,ys,rfl,hq⟩:=hk
   cases rx
   obtain ⟨its,r',pl,hz⟩:=I.list hq
   rcases hT with rfl|rfl|rfl|rfl
   ·exact IsiPair.isList_int pl.isList (λ_ _ e=>e) (no q)
   ·exact IsiPair.isList_bool pl.isList (λ_ _ e=>e) (no q)
   ·exact IsiPair.isList_tuple pl.isList (λ_ _ e=>e) (no q)
   ·exact IsiPair.isList_list pl.isList (λ_ _ e=>e) (yes q)
 | tup=>
   obtain ⟨a,ys,rfl,hq⟩:=hk
   cases rx
   obtain ⟨its,r',pl,hz⟩:=I.tuple hq
   have pl':s.heap.IsTuple a its.toArray:=pl
   rcases hT with rfl|rfl|rfl|rfl
   ·exact IsiPair.isTuple_int pl' (λ_ _ e=>e) (no q)
   ·exact IsiPair.isTuple_bool pl' (λ_ _ e=>e) (no q)
   ·exact IsiPair.isTuple_tuple pl' (λ_ _ e=>e) (yes q)
   ·exact IsiPair.isTuple_list pl' (λ_ _ e=>e) (no q)
theorem Inv.walked {pins:List (Addr×Obj)} {σ:St} {H:Hp} {s s':Shared} {o:Obj} (I:Inv X pins σ H s) (m:Moved [s.heap.objs.size] (λa b=>b=a) {s with heap:=s.heap.push o} s'):Inv X pins σ H s':=by
 obtain ⟨h',g',d',t',o'⟩:=s'
 obtain ⟨hk,hg,hd,ho,_⟩:=m
 have t0:∀b u,s.heap.get? b=some u->h'.get? b=some u:=λb u e=>hk b u (by
  intro z
  have z':b=s.heap.objs.size:=by simpa using z
  exact absurd (Heap.lt_size e) (by rw [z'];exact Nat.lt_irrefl _)) (Heap.get?_push_of_some _ e)
 have hg:g'=s.gens:=hg
 have hd:d'=s.drawn:=hd
 have ho:o'=s.os:=ho
 subst hg hd ho
 exact I.kept (t':=t') t0
def cJ (xs:List V) (k:Nat) (y:V):List V:=xs.take k++y::xs.drop k
theorem Ax.ins {xs:List V} {us:List Value} {y:V} {u:Value} (r:Ax xs us) (ry:RelV y u) (k:Nat):Ax (cJ xs k y) (us.take k++u::us.drop k):=Ax.append (r.take k) (.cons ry (r.drop k))
def RA:V->List V->Hp->VK->Prop:=λx vs H Q=>∃l xs i y,x= .ref l/\vs= [.int i,y] /\H l=some (.lst xs)/\0<=i/\i<=(xs.length:Int)/\xs.length<sizeLine/\Q .non (upd H l (.lst (cJ xs i.toNat y)))
theorem Xa:jY X "list.insert" RA:=by
 intro pins s σ H x vs v us Q I rx rv h
 obtain ⟨l,xs,i,y,rfl,rfl,hH,h0,h1,hz,q⟩:=h
 cases rx
 cases rv with
 | cons ri rr=>
 cases rr with
 | cons ry rr=>
 cases rr
 rename_i uy
 obtain ⟨t,rfl⟩:=ri
 obtain ⟨z,its,n,r,hl,e⟩:=I.lstM hH
 have V8:=Kz
 have Ss:¬(!Builtin.List.listFitsIndex i)=true:=by
  have:=fitsIndex_both (k:=i) (by omega) (by omega)
  simp [this]
 refine call_meets F.slot_list_insert ⟨_,e,rfl⟩ F.entry_list_insert (F.args_list_insert_3 _ _ _) (AutoSeq1.list_insert_list_int_val_1 l its.toArray n i t uy Ss (by rw [List.size_toArray];omega)) ⟨e, ?_⟩
 refine ⟨.non,_,I.lset (ys:=cJ xs i.toNat y) (its':=its.take i.toNat++uy::its.drop i.toNat) hH e ?_ (r.ins ry _) ?_,rfl,q⟩
 ·dsimp only
  rw [if_neg (by omega),List.size_toArray,Nat.min_eq_left (by omega)]
  apply Array.toList_inj.mp
  simp
  exact List.take_of_length_le (by simp)
 ·unfold cJ
  simp
  omega
end
end L2
end
section
namespace L2
open PySem PySem.Spec PyProof.Rows
def OQ:Bool->Heap->Addr->Addr->Nat->Prop
 | true,h,q,l,k=>h.IsListIter q l k
 | false,h,q,l,k=>h.IsTupleIter q l k
def L8:Bool->Heap->Addr->Array Value->Prop
 | true,h,l,xs=>h.IsList l xs
 | false,h,l,xs=>h.IsTuple l xs
theorem OQ.mv {b:Bool} {h h':Heap} {q l:Addr} {k:Nat} (x:OQ b h q l k) (e:∀o,h.get? q=some o->h'.get? q=some o):OQ b h' q l k:=by
 cases b with
 | true=>obtain ⟨o,a,r⟩:=x;exact ⟨o,e o a,r⟩
 | false=>obtain ⟨o,a,r⟩:=x;exact ⟨o,e o a,r⟩
theorem OQ.obj {b:Bool} {h:Heap} {q l:Addr} {k:Nat} (x:OQ b h q l k):∃o,h.get? q=some o/\∀v,o.data≠ .cell v:=by
 cases b with
 | true=>
   obtain ⟨o,a,_,d⟩:=x
   exact ⟨o,a,λv z=>by rw [d] at z;cases z⟩
 | false=>
   obtain ⟨o,a,_,d⟩:=x
   exact ⟨o,a,λv z=>by rw [d] at z;cases z⟩
theorem L8.mv {b:Bool} {h h':Heap} {l:Addr} {xs:Array Value} (x:L8 b h l xs) (e:∀o,h.get? l=some o->h'.get? l=some o):L8 b h' l xs:=by
 cases b with
 | true=>obtain ⟨o,a,r⟩:=x;exact ⟨o,e o a,r⟩
 | false=>obtain ⟨o,a,r⟩:=x;exact ⟨o,e o a,r⟩
section
variable {prog:Program} {w:World} {A:Around} {E:Value->Shared->Prop} {s:Shared}
theorem JK {b:Bool} {q l:Addr} {k:Nat} {xs:Array Value} {x:Value} {Q:Value->Shared->Prop} (hq:OQ b s.heap q l k) (hl:L8 b s.heap l xs) (hx:xs[k]? =some x)
 (hQ:∀h',OQ b h' q l (k+1)->Heap.SameBut q s.heap h'->Q x {s with heap:=h'}):wpAny (model prog w) A (Builtin.SmallTypes.nextOf (.ref q)) Q E s:=by
 cases b with
 | true=>exact wpAny_nextOf_list_item hq hl hx hQ
 | false=>
   have gT:s.heap.IsTupleIter q l k:=hq
   obtain ⟨oq,gq,cq,dq⟩:=id gT
   obtain ⟨ol,gl,_,nl,dl⟩:=hl
   unfold Builtin.SmallTypes.nextOf
   refine wpAny_bind (wpAny_callSpecial?_slot (name:=Str.ofString "__next__") gT.typeIs F.slot_tuple_iterator_next (wpAny_call_entry F.slot_tuple_iterator_next gT.typeIs F.entry_tuple_iterator_next ?_ (F.args_tuple_iterator_next_1 _)))
   show wpAny _ _ (field (.ref q) 0 >>= _) _ _ _
   refine wpAny_bind (wpAny_field gq dq (x:= .ref l) rfl ?_)
   show wpAny _ _ (if (Value.ref l==Value.none)=true then _ else _) _ _ _
   rw [if_neg (by intro z;cases z)]
   show wpAny _ _ (field (.ref q) 1 >>= _) _ _ _
   refine wpAny_bind (wpAny_field gq dq (x:= .int k 0) rfl ?_)
   show wpAny _ _ (seqItems? (.ref l) >>= _) _ _ _
   refine wpAny_bind (wpAny_seqItems gl dl ?_)
   simp only [Int.toNat_natCast,hx]
   refine wpAny_bind (wpAny_setField gq dq (by simp) (wpAny_pure ⟨x,rfl,wpAny_pure (hQ _ ?_ (Heap.SameBut.update ..))⟩))
   refine ⟨_,Heap.get?_update_self _ gq (Obj.isFreed_of_fields (Obj.data_mapFields dq _)),(Obj.cls_mapFields ..).trans cq, ?_⟩
   rw [Obj.data_mapFields dq]
   simp [rawInt]
theorem Kv {b:Bool} {q l:Addr} {k:Nat} {xs:Array Value} {Q:Value->Shared->Prop} (hh:A.handled=none) (hq:OQ b s.heap q l k) (hl:L8 b s.heap l xs) (hx:xs[k]? =none)
 (hE:∀h' e,Heap.ExtBut q s.heap h'->(∃o,h'.get? e=some o/\o.cls= .type "StopIteration")->E (.ref e) {s with heap:=h'}):wpAny (model prog w) A (Builtin.SmallTypes.nextOf (.ref q)) Q E s:=by
 cases b with
 | true=>exact wpAny_nextOf_list_end hh hq hl hx hE
 | false=>
   have gT:s.heap.IsTupleIter q l k:=hq
   obtain ⟨oq,gq,cq,dq⟩:=id gT
   obtain ⟨ol,gl,_,nl,dl⟩:=hl
   unfold Builtin.SmallTypes.nextOf
   refine wpAny_bind (wpAny_callSpecial?_slot (name:=Str.ofString "__next__") gT.typeIs F.slot_tuple_iterator_next (wpAny_call_entry F.slot_tuple_iterator_next gT.typeIs F.entry_tuple_iterator_next ?_ (F.args_tuple_iterator_next_1 _)))
   show wpAny _ _ (field (.ref q) 0 >>= _) _ _ _
   refine wpAny_bind (wpAny_field gq dq (x:= .ref l) rfl ?_)
   show wpAny _ _ (if (Value.ref l==Value.none)=true then _ else _) _ _ _
   rw [if_neg (by intro z;cases z)]
   show wpAny _ _ (field (.ref q) 1 >>= _) _ _ _
   refine wpAny_bind (wpAny_field gq dq (x:= .int k 0) rfl ?_)
   show wpAny _ _ (seqItems? (.ref l) >>= _) _ _ _
   refine wpAny_bind (wpAny_seqItems gl dl ?_)
   simp only [Int.toNat_natCast,hx]
   refine wpAny_bind (wpAny_rule (wpAny_bind (wpAny_setField gq dq (by simp) ?_)))
   refine wpAny_bind (m:=newExc (.type "StopIteration") []) ?_
   simp only [newExc,newTuple]
   refine wpAny_bind (wpAny_newObj_type ?_ (by size_fits))
   refine wpAny_bind (m:=firstArgMember _ _) (wpAny_of_eq (a:=Value.none) (by first | rfl|(simp only [firstArgMember];rfl)) (wpAny_newObj_type ?_ (by size_fits)))
   simp only [raiseNew]
   refine wpAny_bind (wpAny_handled ?_)
   first | rw [show A.in1.handled=none from hh] | rw [hh]
   exact wpAny_bind (wpAny_pure (wpAny_throw (hE _ _ (((Heap.SameBut.update ..).extBut.push _).push _) ⟨_,Heap.get?_push_size _ rfl,rfl⟩)))
structure fh (b c:Bool) (z TI TO i j l m:Addr) (k:Nat) (f:Value) (h:Heap):Prop where
 zip:IsZip h z TI TO f
 its:IsPair h TI (.ref i) (.ref j)
 own:∃x y,IsPair h TO x y
 one:OQ b h i l k
 two:OQ c h j m k
theorem fh.mv {b c:Bool} {z TI TO i j l m:Addr} {k:Nat} {f:Value} {h h':Heap} (Z:fh b c z TI TO i j l m k f h) (e:∀p∈ [z,TI,TO,i,j],∀o,h.get? p=some o->h'.get? p=some o):fh b c z TI TO i j l m k f h':=by
 obtain ⟨a1,a2,⟨x,y,a3⟩,a4,a5⟩:=Z
 exact ⟨e z (by simp) _ a1,e TI (by simp) _ a2,⟨x,y,e TO (by simp) _ a3⟩,a4.mv (e i (by simp)),a5.mv (e j (by simp))⟩
variable {b c:Bool} {z TI TO i j l m:Addr} {k:Nat} {xs ys:Array Value}
theorem lp {x y:Value} {Q:Value->Shared->Prop} (D:ZipApart z TI TO i j l m) (Z:fh b c z TI TO i j l m k .none s.heap) (hl:L8 b s.heap l xs) (hm:L8 c s.heap m ys) (hx:xs[k]? =some x) (hy:ys[k]? =some y)
 (hQ:∀h',IsZip h' z TI TO (rawInt s.heap.objs.size)->IsPair h' TI (.ref i) (.ref j)->IsPair h' TO x y->OQ b h' i l (k+1)->OQ c h' j m (k+1)->IsPair h' s.heap.objs.size x y->
   (∀p o,p≠z->p≠TO->p≠i->p≠j->s.heap.get? p=some o->h'.get? p=some o)->Q (.ref s.heap.objs.size) {s with heap:=h'}):
 wpAny (model prog w) A (Builtin.«zip.__next__» ⟨[.ref z], []⟩) (λfin s'=>∃v,fin= .done (.ret v)/\Q v s') E s:=by
 obtain ⟨zz,zi,⟨x0,y0,zo⟩,z1,z2⟩:=Z
 show wpAny _ _ (field (.ref z) 2 >>= _) _ _ _
 refine wpAny_bind (wpAny_field zz rfl (x:= .bool false) rfl ?_)
 show wpAny _ _ (field (.ref z) 3 >>= _) _ _ _
 refine wpAny_bind (wpAny_field zz rfl (x:= .ref TI) rfl (wpAny_bind (wpAny_seqItems zi rfl ?_)))
 refine wpAny_bind (m:=Builtin.SmallTypes.ownedTupleIsFree (.ref z)) ?_
 unfold Builtin.SmallTypes.ownedTupleIsFree
 refine wpAny_bind (wpAny_field zz rfl (x:= .none) rfl (wpAny_pure ?_))
 simp only [if_true]
 refine wpAny_bind (wpAny_rule (wpAny_bind (wpAny_field zz rfl (x:= .ref TO) rfl (wpAny_bind (wpAny_setField_rec zz (by simp) λg1 e1 b1=> ?_)))))
 have e1:IsZip g1 z TI TO .ellipsis:=e1
 refine wpAny_bind ?_
 simp only [List.zipIdx_cons,List.zipIdx_nil,List.forIn_cons,List.forIn_nil]
 refine wpAny_bind (wpAny_bind (wpAny_onRaise ?_))
 refine wpAny_bind (m:=Builtin.SmallTypes.nextOf (.ref i)) (JK (z1.mv λo=>b1.extBut _ o D.i1z) (hl.mv λo=>b1.extBut _ o D.l1z) hx λg2 e2 b2=>wpAny_pure ?_)
 have o2:IsPair g2 TO x0 y0:=b2.extBut _ _ D.TOi1 (b1.extBut _ _ D.TOz zo)
 refine wpAny_bind (wpAny_seqItems o2 rfl (wpAny_bind (wpAny_updateSeq_pair o2 λg3 o3 b3=>wpAny_bind (wpAny_letGo (wpAny_pure ?_)))))
 have o3:IsPair g3 TO x y0:=o3
 refine wpAny_bind (wpAny_bind (wpAny_onRaise ?_))
 refine wpAny_bind (m:=Builtin.SmallTypes.nextOf (.ref j)) (JK (((z2.mv λo=>b1.extBut _ o D.i2z).mv λo=>b2.extBut _ o D.i12.symm).mv λo=>b3.extBut _ o D.TOi2.symm)
  (((hm.mv λo=>b1.extBut _ o D.l2z).mv λo=>b2.extBut _ o D.l2i1).mv λo=>b3.extBut _ o D.l2TO) hy λg4 e4 b4=>wpAny_pure ?_)
 have o4:IsPair g4 TO x y0:=b4.extBut _ _ D.TOi2 o3
 refine wpAny_bind (wpAny_seqItems o4 rfl (wpAny_bind (wpAny_updateSeq_pair o4 λg5 o5 b5=>wpAny_bind (wpAny_letGo (wpAny_pure (wpAny_pure ?_))))))
 have o5:IsPair g5 TO x y:=o5
 refine wpAny_bind (wpAny_seqItems o5 rfl (wpAny_bind (wpAny_newTuple ?_)))
 have sz:g5.objs.size=s.heap.objs.size:=by rw [b5.1,b4.1,b3.1,b2.1,b1.1]
 have k5:IsZip g5 z TI TO .ellipsis:=b5.extBut _ _ D.TOz.symm (b4.extBut _ _ D.i2z.symm (b3.extBut _ _ D.TOz.symm (b2.extBut _ _ D.i1z.symm e1)))
 have all5:∀p o,p≠z->p≠TO->p≠i->p≠j->s.heap.get? p=some o->g5.get? p=some o:=λp o q1 q2 q3 q4 e=>
  b5.extBut _ _ q2 (b4.extBut _ _ q4 (b3.extBut _ _ q2 (b2.extBut _ _ q3 (b1.extBut _ _ q1 e))))
 have one5:OQ b g5 i l (k+1):=((e2.mv λo=>b3.extBut _ o D.TOi1.symm).mv λo=>b4.extBut _ o D.i12).mv λo=>b5.extBut _ o D.TOi1.symm
 have two5:OQ c g5 j m (k+1):=e4.mv λo=>b5.extBut _ o D.TOi2.symm
 have zlt:z<g5.objs.size:=Heap.lt_size k5
 refine wpAny_bind (m:=Builtin.SmallTypes.ownedTupleHandOut (.ref z) (.ref g5.objs.size)) ?_
 unfold Builtin.SmallTypes.ownedTupleHandOut
 have k6:IsZip (g5.push {cls:= .type "tuple",data:= .seq #[x,y] }) z TI TO .ellipsis:=Heap.get?_push_of_some _ k5
 refine wpAny_bind (wpAny_setField_rec k6 (by simp) λg7 k7 b7=> ?_)
 have k7:IsZip g7 z TI TO (rawInt g5.objs.size):=k7
 refine wpAny_setField_rec k7 (by simp) λg8 k8 b8=> ?_
 have k8:IsZip g8 z TI TO (rawInt g5.objs.size):=k8
 have up:∀p o,p≠z->g5.get? p=some o->g8.get? p=some o:=λp o q e=>b8.extBut _ _ q (b7.extBut _ _ q (Heap.get?_push_of_some _ e))
 have new8:IsPair g8 g5.objs.size x y:=b8.extBut _ _ (Nat.ne_of_gt zlt) (b7.extBut _ _ (Nat.ne_of_gt zlt) (Heap.get?_push_size _ rfl))
 rw [sz] at k8 new8
 refine wpAny_pure ⟨_,rfl, ?_⟩
 show Q (.ref g5.objs.size) _
 rw [sz]
 exact hQ g8 k8 (up _ _ D.TIz (all5 _ _ D.TIz D.TITO D.TIi1 D.TIi2 zi)) (up _ _ D.TOz o5) (one5.mv λo=>up _ o D.i1z) (two5.mv λo=>up _ o D.i2z) new8 λp o q1 q2 q3 q4 e=>up p o q1 (all5 p o q1 q2 q3 q4 e)
theorem pX {Q:Fin->Shared->Prop} (hh:A.handled=none) (D:ZipApart z TI TO i j l m) (Z:fh b c z TI TO i j l m k .none s.heap) (hl:L8 b s.heap l xs) (hm:L8 c s.heap m ys) (gK:xs[k]? =none\/ys[k]? =none)
 (hE:∀h' e,(∀p o,p≠z->p≠TO->p≠i->p≠j->s.heap.get? p=some o->h'.get? p=some o)->(∃o,h'.get? e=some o/\o.cls= .type "StopIteration")->E (.ref e) {s with heap:=h'}):
 wpAny (model prog w) A (Builtin.«zip.__next__» ⟨[.ref z], []⟩) Q E s:=by
 obtain ⟨zz,zi,⟨x0,y0,zo⟩,z1,z2⟩:=Z
 show wpAny _ _ (field (.ref z) 2 >>= _) _ _ _
 refine wpAny_bind (wpAny_field zz rfl (x:= .bool false) rfl ?_)
 show wpAny _ _ (field (.ref z) 3 >>= _) _ _ _
 refine wpAny_bind (wpAny_field zz rfl (x:= .ref TI) rfl (wpAny_bind (wpAny_seqItems zi rfl ?_)))
 refine wpAny_bind (m:=Builtin.SmallTypes.ownedTupleIsFree (.ref z)) ?_
 unfold Builtin.SmallTypes.ownedTupleIsFree
 refine wpAny_bind (wpAny_field zz rfl (x:= .none) rfl (wpAny_pure ?_))
 simp only [if_true]
 refine wpAny_bind (wpAny_rule (wpAny_bind (wpAny_field zz rfl (x:= .ref TO) rfl (wpAny_bind (wpAny_setField_rec zz (by simp) λg1 e1 b1=> ?_)))))
 have e1:IsZip g1 z TI TO .ellipsis:=e1
 refine wpAny_bind ?_
 simp only [List.zipIdx_cons,List.zipIdx_nil,List.forIn_cons,List.forIn_nil]
 refine wpAny_bind (wpAny_bind (wpAny_onRaise ?_))
 cases hx:xs[k]? with
 | none=>
   refine wpAny_bind (m:=Builtin.SmallTypes.nextOf (.ref i)) (Kv hh (z1.mv λo=>b1.extBut _ o D.i1z) (hl.mv λo=>b1.extBut _ o D.l1z) hx λg2 e b2 he=> ?_)
   obtain ⟨oe,ge,ce⟩:=he
   have k2:IsZip g2 z TI TO .ellipsis:=b2 _ _ D.i1z.symm e1
   have ez:e≠z:=λq=>by subst q;rw [k2] at ge;cases ge;simp at ce
   refine wpAny_setField_rec k2 (by simp) λg3 _ b3=>hE g3 e (λp o q1 _ q3 _ q=>b3.extBut _ _ q1 (b2 _ _ q3 (b1.extBut _ _ q1 q))) ⟨oe,b3.extBut _ _ ez ge,ce⟩
 | some x=>
   have hy:ys[k]? =none:=by
    rcases gK with q|q
    ·rw [hx] at q;cases q
    ·exact q
   refine wpAny_bind (m:=Builtin.SmallTypes.nextOf (.ref i)) (JK (z1.mv λo=>b1.extBut _ o D.i1z) (hl.mv λo=>b1.extBut _ o D.l1z) hx λg2 e2 b2=>wpAny_pure ?_)
   have o2:IsPair g2 TO x0 y0:=b2.extBut _ _ D.TOi1 (b1.extBut _ _ D.TOz zo)
   refine wpAny_bind (wpAny_seqItems o2 rfl (wpAny_bind (wpAny_updateSeq_pair o2 λg3 o3 b3=>wpAny_bind (wpAny_letGo (wpAny_pure ?_)))))
   refine wpAny_bind (wpAny_bind (wpAny_onRaise ?_))
   refine wpAny_bind (m:=Builtin.SmallTypes.nextOf (.ref j)) (Kv hh (((z2.mv λo=>b1.extBut _ o D.i2z).mv λo=>b2.extBut _ o D.i12.symm).mv λo=>b3.extBut _ o D.TOi2.symm)
    (((hm.mv λo=>b1.extBut _ o D.l2z).mv λo=>b2.extBut _ o D.l2i1).mv λo=>b3.extBut _ o D.l2TO) hy λg4 e b4 he=> ?_)
   obtain ⟨oe,ge,ce⟩:=he
   have k4:IsZip g4 z TI TO .ellipsis:=b4 _ _ D.i2z.symm (b3.extBut _ _ D.TOz.symm (b2.extBut _ _ D.i1z.symm e1))
   have ez:e≠z:=λq=>by subst q;rw [k4] at ge;cases ge;simp at ce
   refine wpAny_setField_rec k4 (by simp) λg5 _ b5=>hE g5 e (λp o q1 q2 q3 q4 q=>b5.extBut _ _ q1 (b4 _ _ q4 (b3.extBut _ _ q2 (b2.extBut _ _ q3 (b1.extBut _ _ q1 q))))) ⟨oe,b5.extBut _ _ ez ge,ce⟩
end
def XT (b:Bool) (l:Addr):Obj:={cls:= .type (match b with | true=>"list_iterator" | false=>"tuple_iterator"),data:= .fields #[.ref l, .int 0 0] }
abbrev zA (b:Bool) (h:Heap) (l:Addr):Heap:=h.push (XT b l)
abbrev zB (b c:Bool) (h:Heap) (l m:Addr):Heap:=(zA b h l).push (XT c m)
abbrev zC (b c:Bool) (h:Heap) (l m:Addr):Heap:=(zB b c h l m).push {cls:= .type "tuple",data:= .seq #[.ref h.objs.size, .ref (zA b h l).objs.size] }
abbrev zD (b c:Bool) (h:Heap) (l m:Addr):Heap:=(zC b c h l m).push {cls:= .type "tuple",data:= .seq #[.none, .none] }
abbrev zF (b c:Bool) (h:Heap) (l m:Addr):Heap:=(zD b c h l m).push {cls:= .type "zip",data:= .fields #[.none, .bool false, .bool false, .ref (zB b c h l m).objs.size, .ref (zC b c h l m).objs.size] }
theorem Up {prog:Program} {w:World} {A:Around} {E:Value->Shared->Prop} {h:Heap} {g:Array GenState} {d:Drawn} {tk:Nat} {os:OsState} {b:Bool} {l:Addr} {xs:Array Value} {Q:Value->Shared->Prop} (hl:L8 b h l xs)
 (q:Q (.ref h.objs.size) ⟨h.push (XT b l),g,d,tk,os⟩):wpAny (model prog w) A (pyIter (.ref l)) Q E ⟨h,g,d,tk,os⟩:=by
 cases b with
 | true=>exact wpAny_pyIter_list (s:=⟨h,g,d,tk,os⟩) hl q
 | false=>exact wpAny_pyIter_tuple (s:=⟨h,g,d,tk,os⟩) hl q
theorem X7 (b c:Bool) (l m:Addr) (xs ys:Array Value):Meets (Builtin.«zip.__new__» ⟨[.type "zip", .ref l, .ref m], []⟩) (λ_ R s=>L8 b s.heap l xs/\L8 c s.heap m ys/\R (.ok (.ret (.ref (zD b c s.heap l m).objs.size))) {s with heap:=zF b c s.heap l m}):=
 .of_wp λprog w A R s h=>by
   obtain ⟨hp,g,d,tk,os⟩:=s
   obtain ⟨hl,hm,h⟩:=h
   have nh:=sub_zip
   have nS:L8 b hp l xs:=hl
   have nW:L8 c (hp.push (XT b l)) m ys:=hm.mv λo e=>Heap.get?_push_of_some _ e
   wp_walk using Up nS,Up nW
   exact ⟨_,rfl,h⟩
section
variable {prog:Program} {w:World} {A:Around} {E:Value->Shared->Prop} {s:Shared} {b c:Bool} {l m:Addr} {xs ys:Array Value}
theorem ZK {h:Heap} {q:Addr} (e:h.get? q=some (XT b l)):OQ b h q l 0:=by
 cases b with
 | true=>exact ⟨_,e,rfl,rfl⟩
 | false=>exact ⟨_,e,rfl,rfl⟩
theorem iy (hl:L8 b s.heap l xs) (hm:L8 c s.heap m ys) {Q:Value->Shared->Prop}
 (h:∀h',fh b c (s.heap.objs.size+4) (s.heap.objs.size+2) (s.heap.objs.size+3) s.heap.objs.size (s.heap.objs.size+1) l m 0 .none h'->(∀p o,s.heap.get? p=some o->h'.get? p=some o)->Q (.ref (s.heap.objs.size+4)) {s with heap:=h'}):
 wpAny (model prog w) A (call (.type "zip") [.ref l, .ref m]) Q E s:=by
 refine callType_new F.called_zip (by decide) (F.typeCall_zip_2 _ _) (F.newCall_zip_2 _ _) (λobj=>F.args_object_init_3 obj _ _) F.entry_zip_new (X7 b c l m xs ys) ⟨hl,hm, ?_⟩
 have n1:(zA b s.heap l).objs.size=s.heap.objs.size+1:=Heap.size_push ..
 have n2:(zB b c s.heap l m).objs.size=s.heap.objs.size+2:=by rw [Heap.size_push,n1]
 have n3:(zC b c s.heap l m).objs.size=s.heap.objs.size+3:=by rw [Heap.size_push,n2]
 have n4:(zD b c s.heap l m).objs.size=s.heap.objs.size+4:=by rw [Heap.size_push,n3]
 have p5:(zF b c s.heap l m).get? (zD b c s.heap l m).objs.size=some _:=Heap.get?_push_size _ rfl
 have p4:(zF b c s.heap l m).get? (zC b c s.heap l m).objs.size=some _:=Heap.get?_push_of_some _ (Heap.get?_push_size _ rfl)
 have p3:(zF b c s.heap l m).get? (zB b c s.heap l m).objs.size=some _:=Heap.get?_push_of_some _ (Heap.get?_push_of_some _ (Heap.get?_push_size _ rfl))
 have p2:(zF b c s.heap l m).get? (zA b s.heap l).objs.size=some (XT c m):=Heap.get?_push_of_some _ (Heap.get?_push_of_some _ (Heap.get?_push_of_some _ (Heap.get?_push_size _ rfl)))
 have p1:(zF b c s.heap l m).get? s.heap.objs.size=some (XT b l):=Heap.get?_push_of_some _ (Heap.get?_push_of_some _ (Heap.get?_push_of_some _ (Heap.get?_push_of_some _ (Heap.get?_push_size _ rfl))))
 rw [n2,n3,n4] at p5
 rw [n1,n2] at p3
 rw [n3] at p4
 rw [n1] at p2
 show _/\_
 rw [n4]
 exact ⟨⟨_,p5,rfl⟩,h _ ⟨p5,p3,⟨_,_,p4⟩,ZK p1,ZK p2⟩ λp o e=>Heap.get?_push_of_some _ (Heap.get?_push_of_some _ (Heap.get?_push_of_some _ (Heap.get?_push_of_some _ (Heap.get?_push_of_some _ e))))⟩
end
def Sq (K:PySem.W.Frag):Bool->Hp->Addr->List V->Prop
 | true,H,a,xs=>Fw K H a xs
 | false,H,a,xs=>JD K H a xs
section
variable {X:Cx} {pins:List (Addr×Obj)} {σ:St} {H:Hp} {s:Shared} {a:Addr} {ys xs:List V} {b:Bool} {h':Heap}
theorem Inv.sq (I:Inv X pins σ H s) (h:Sq X.K b H a xs):∃its:List Value,Ax xs its/\L8 b s.heap a its.toArray/\xs.length<=sizeLine:=by
 cases b with
 | true=>
   obtain ⟨its,r,p,z⟩:=I.list h
   exact ⟨its,r,p.isList,z⟩
 | false=>
   obtain ⟨its,r,p,z⟩:=I.tuple h
   exact ⟨its,r,p,z⟩
theorem Inv.sq_inj (I:Inv X pins σ H s) (h:Sq X.K b H a xs) (h2:Sq X.K b H a ys):xs=ys:=by
 cases b with
 | true=>exact I.list_inj h h2
 | false=>exact I.tuple_inj h h2
theorem Inv.turnedL {ch:List Addr} {t':Nat} (I:Inv X pins σ H s) (MC:∀p∈ch,Dh X pins H p) (k:∀p o,p ∉ ch->s.heap.get? p=some o->h'.get? p=some o):Inv X pins σ H {s with heap:=h',toks:=t'}:=by
 have nit:∀p u,H p=some u->p ∉ ch:=λp u e z=>by rw [(MC p z).1] at e;cases e
 refine I.step (g':=s.gens) (d':=s.drawn) (ch:=ch) (λp hp=>⟨(MC p hp).2.2.2.1,(MC p hp).2.1,(MC p hp).2.2.2.2.1,(MC p hp).2.2.2.2.2⟩) (λp o _ _ hc e _=>k p o hc e) (λp o _ _ hc e _=>⟨o.slots,k p o hc e⟩)
  (λ_ _ _ _ n=>n) (λp o hc e=>⟨o,k p o hc e⟩) (λ_ _ e=>e) (λ_ _ _ e=>e) (λp ps e=>⟨#[],by rw [e];simp⟩) (λm hm=> ?_) (λp u e=> ?_) I.bare
 ·obtain ⟨o,es,ep,ho,r⟩:=hm
  exact ⟨o,es,ep,k _ o (λz=>(MC _ z).2.1 rfl) ho,r⟩
 ·refine (I.hok p u e).stay (λq v hq e2=>k q v ?_ e2) (λ_ q=>q) λ_ _ q=>q
  rcases hq with z|z
  ·rw [z];exact nit p u e
  ·exact nit q _ z
theorem Inv.turnedN {ch:List Addr} {t':Nat} {n:Addr} {o:HO} (I:Inv X pins σ H s) (MC:∀p∈ch,Dh X pins H p) (Dt:∀p∈ch,p<s.heap.objs.size) (k:∀p o,p ∉ ch->s.heap.get? p=some o->h'.get? p=some o) (hn:s.heap.objs.size<=n)
 (new:Cv X.prog X.w (upd H n o) h' n o):Inv X pins σ (upd H n o) {s with heap:=h',toks:=t'}:=by
 have I1:Inv X pins σ H {s with heap:=h',toks:=t'}:=I.turnedL MC k
 have Uj:H n=none:=I.hok.fresh hn
 have hx:∀p u,s.heap.get? p=some u->p≠n:=λp u e=>Nat.ne_of_lt (Nat.lt_of_lt_of_le (Heap.lt_size e) hn)
 refine I.step (g':=s.gens) (d':=s.drawn) (ch:=ch) (λp hp=>⟨(MC p hp).2.2.2.1,(MC p hp).2.1,(MC p hp).2.2.2.2.1,(MC p hp).2.2.2.2.2⟩) (λp o _ _ hc e _=>k p o hc e) (λp o _ _ hc e _=>⟨o.slots,k p o hc e⟩)
  (λp u _ e z=>by rw [Af (hx p u e)];exact z) (λp o hc e=>⟨o,k p o hc e⟩) (λp xs e=>by rw [Af (As e Uj)];exact e) (λp o xs e=>by rw [Af (As e Uj)];exact e)
  (λp ps e=>⟨#[],by rw [Af (As e Uj),e];simp⟩) (λm hm=> ?_) (λp u e=> ?_) I.bare
 ·obtain ⟨o,es,ep,ho,r⟩:=hm
  exact ⟨o,es,ep,k _ o (λz=>(MC _ z).2.1 rfl) ho,r⟩
 ·by_cases hp:p=n
  ·subst hp
   rw [Ah] at e
   cases e
   exact new
  ·rw [Af hp] at e
   exact (I1.hok p u e).stay (λ_ _ _ q=>q) (λq hq=>by rw [Af (As hq Uj)];exact hq) λq xs hq=>by rw [Af (As hq Uj)];exact hq
end
def mj (K:PySem.W.Frag) (b c:Bool) (l m:Addr):It:=
 ⟨λi H=>∃xs ys x y,Sq K b H l xs/\Sq K c H m ys/\xs[i]? =some x/\ys[i]? =some y,
  λi H v H'=>∃T x y,v= .ref T/\H T=none/\H'=upd H T (.tup [x,y])/\(∀xs,Sq K b H l xs->xs[i]? =some x)/\∀ys,Sq K c H m ys->ys[i]? =some y,
  λi H=>∃xs ys,Sq K b H l xs/\Sq K c H m ys/\(xs.length<=i\/ys.length<=i)⟩
theorem aa {P:Program} {w:World} {K:PySem.W.Frag} {es:List Expr} {x1:Nat} {pos:Pos} {b c:Bool} {z TI TO i j l m:Addr} (D:ZipApart z TI TO i j l m):
 Ka P w K (.Tuple es x1 pos) (mj K b c l m) [z,TI,TO,i,j] z (λk h=>fh b c z TI TO i j l m k .none h) where
 mem:=by simp
 obj:=λk h Z p hp=>by
  have FU:p=z\/p=TI\/p=TO\/p=i\/p=j:=by simpa using hp
  rcases FU with e|e|e|e|e
  ·subst e;exact ⟨_,Z.zip,λv q=>nomatch q⟩
  ·subst e;exact ⟨_,Z.its,λv q=>nomatch q⟩
  ·subst e;obtain ⟨x,y,q⟩:=Z.own;exact ⟨_,q,λv q=>nomatch q⟩
  ·subst e;exact Z.one.obj
  ·subst e;exact Z.two.obj
 keep:=λk h h' Z e=>Z.mv e
 item:=by
  intro X hP hw hK hc k pins s σ H E I hf Z hg
  subst hP hw hK
  obtain ⟨xs,ys,x,y,hl,hm,hx,hy⟩:=hg
  obtain ⟨us,ru,su,_⟩:=I.sq hl
  obtain ⟨vs,rv,sv,_⟩:=I.sq hm
  obtain ⟨u,hu,rx⟩:=ru.get hx
  obtain ⟨v,hv,ry⟩:=rv.get hy
  have hT:s.TypeIs (.ref z) "zip" :=⟨_,Z.zip,rfl⟩
  unfold pyNext
  refine wpAny_bind (wpAny_attempt (wpAny_callSpecial?_slot (name:=Str.ofString "__next__") hT F.slot_zip_next (wpAny_call_entry F.slot_zip_next hT F.entry_zip_next
   (lp D Z su sv (x:=u) (y:=v) (by simpa using hu) (by simpa using hv) λh1 a1 a2 a3 a4 a5 a6 a7=>wpAny_pure ?_) (F.args_zip_next_1 _))))
  refine ⟨_,rfl,wpAny_letOwnedTupleGo_zip (s:={s with heap:=h1}) a1 λh2 c1 c2=> ?_⟩
  have nT:∀p∈ [z,TI,TO,i,j],p<s.heap.objs.size:=λp hp=>by
   have FU:p=z\/p=TI\/p=TO\/p=i\/p=j:=by simpa using hp
   rcases FU with e|e|e|e|e
   ·subst e;exact Heap.lt_size Z.zip
   ·subst e;exact Heap.lt_size Z.its
   ·subst e;obtain ⟨x,y,q⟩:=Z.own;exact Heap.lt_size q
   ·subst e;obtain ⟨o,q,_⟩:=Z.one.obj;exact Heap.lt_size q
   ·subst e;obtain ⟨o,q,_⟩:=Z.two.obj;exact Heap.lt_size q
  have c2':∀p o,p≠z->h1.get? p=some o->h2.get? p=some o:=λp o q e=>c2.extBut _ _ q e
  have kp:∀p o,p ∉ [z,TI,TO,i,j] ->s.heap.get? p=some o->h2.get? p=some o:=λp o hp e=>by
   have FU:p≠z/\p≠TI/\p≠TO/\p≠i/\p≠j:=by simpa using hp
   exact c2' p o FU.1 (a7 p o FU.1 FU.2.2.1 FU.2.2.2.1 FU.2.2.2.2 e)
  have nu:s.heap.objs.size≠z:=Nat.ne_of_gt (nT z (by simp))
  have I2:Inv X pins σ (upd H s.heap.objs.size (.tup [x,y])) {s with heap:=h2,toks:=s.toks}:=I.turnedN hf nT kp (Nat.le_refl _)
   ⟨(by show 2<=sizeLine;decide), [u,v], .cons rx (.cons ry .nil),⟨_,c2' _ _ nu a6,rfl,_,rfl⟩⟩
  have Uj:H s.heap.objs.size=none:=I.fresh
  refine ⟨.ref s.heap.objs.size,upd H s.heap.objs.size (.tup [x,y]),I2,rfl,⟨_,x,y,rfl,Uj,rfl,λxs' h'=> ?_,λys' h'=> ?_⟩, ?_,λp hp=> ?_⟩
  ·rw [I.sq_inj h' hl];exact hx
  ·rw [I.sq_inj h' hm];exact hy
  ·exact ⟨c1,c2' _ _ D.TIz a2,⟨_,_,c2' _ _ D.TOz a3⟩,a4.mv λo=>c2' _ o D.i1z,a5.mv λo=>c2' _ o D.i2z⟩
  ·rw [Af (Nat.ne_of_lt (nT p hp))]
   exact (hf p hp).1
 done:=by
  intro X hP hw hK hc k pins s σ H E I hf Z hg
  subst hP hw hK
  obtain ⟨xs,ys,hl,hm,he⟩:=hg
  obtain ⟨us,ru,su,_⟩:=I.sq hl
  obtain ⟨vs,rv,sv,_⟩:=I.sq hm
  have e1:=ru.length
  have e2:=rv.length
  have gK:us.toArray[k]? =none\/vs.toArray[k]? =none:=by
   rcases he with q|q
   ·exact .inl (by simp;omega)
   ·exact .inr (by simp;omega)
  have hT:s.TypeIs (.ref z) "zip" :=⟨_,Z.zip,rfl⟩
  unfold pyNext
  refine wpAny_bind (wpAny_attempt (wpAny_callSpecial?_slot (name:=Str.ofString "__next__") hT F.slot_zip_next (wpAny_call_entry F.slot_zip_next hT F.entry_zip_next
   (pX (I.ok.hd hc) D Z su sv gK λh1 e hk he=> ?_) (F.args_zip_next_1 _))))
  obtain ⟨o,ho,gJ⟩:=he
  refine wpAny_bind (wpAny_isInstance (T:="StopIteration") (b:=true) ⟨o,ho,gJ⟩ isSubtype_stop (wpAny_pure ⟨rfl, ?_⟩))
  exact I.turnedL (t':=s.toks) hf λp o hp e=>by
   have FU:p≠z/\p≠TI/\p≠TO/\p≠i/\p≠j:=by simpa using hp
   exact hk p o FU.1 FU.2.2.1 FU.2.2.2.1 FU.2.2.2.2 e
 self:=λ_ _ _ _ _ Z h=>wpAny_pyIter_zip Z.zip h
section
variable {X:Cx}
end
end L2
end
section
namespace L2
open PySem PySem.Spec PyProof.Rows
structure Has (P:Program) (w:World) (K:PySem.W.Frag) (mg:Str->Option Value) (base:Heap) (k:Nat) (x:Str) (ps:List Str) (sp:Sp):Prop where
 ex:∃f fd,mg x=some (.ref f)/\PySem.W.keepIn K (.ref f)=true/\Binds K fd ps [] /\Az P w K mg base Cf k f fd ps sp
theorem Has.mono {P:Program} {w:World} {K:PySem.W.Frag} {mg:Str->Option Value} {base:Heap} {j k:Nat} {x:Str} {ps:List Str} {sp:Sp} (h:Has P w K mg base j x ps sp) (hk:j<=k):Has P w K mg base k x ps sp:=by
 obtain ⟨f,fd,a,b,c,d⟩:=h.ex
 exact ⟨f,fd,a,b,c,d.mono hk⟩
section
variable {X:Cx} {x:Str} {p pos:Pos} {e:Expr} {es:List Expr} {t:TA} {k:Nat} {ps:List Str} {sp:Sp}
theorem iC (D:Has X.prog X.w X.K X.mg X.base k x ps sp) (hr:Room k X.A) (hg:Gl X x) (ha:PA X (e::es) t)
 (hs:starEach (e::es) X.env=(false,eval e X.env)::starEach es X.env:=by rfl) (hpl:(backTo pos (starEach es X.env)).any (·.1)=false:=by rfl) (hd:(x==("__debug__" :Str))=false:=by decide):
 PE X (.Call (.Name x p) (e::es) [] pos) (fE sp [] E0 t):=by
 obtain ⟨f,fd,mG,kG,bG,G⟩:=D.ex
 exact cr G hr hg mG kG bG .nil kZ ha (hdb:=hd) (he:=hs) (hpl:=hpl)
end
section
variable {X:Cx} {tg elt:Expr} {ifs:List Expr} {scope:Scope} {own:Nat} {ix:List Nat} {N:List Str} {g:TG} {tt:TT} {te:TE}
def NH (X:Cx) (sc:Scope) (own:Nat) (ix:List Nat) (N:List Str):Bool:=
 (List.range ix.length).all λj=>match ix[j]? with
   | none=>false
   | some i=>match N[own+j]?,X.N[i]? with
     | some x,some y=>decide (x=y)&&decide (X.env.scope.names.lookup x=some .cell)&&decide (sc.names.lookup x=some .cell)
     | _,_=>false
theorem SZ {sc:Scope} (h1:N.length=own+ix.length) (h2:NH X sc own ix N=true):O3 X sc own ix N:=by
 refine ⟨h1,λj i hj=> ?_⟩
 have Dt:j<ix.length:=(List.getElem?_eq_some_iff.mp hj).1
 have h:=List.all_eq_true.mp h2 j (List.mem_range.mpr Dt)
 rw [hj] at h
 dsimp only at h
 cases e1:N[own+j]? with
 | none=>rw [e1] at h;simp at h
 | some x=>
   cases e2:X.N[i]? with
   | none=>rw [e1,e2] at h;simp at h
   | some y=>
     rw [e1,e2] at h
     simp only [Bool.and_eq_true,decide_eq_true_eq] at h
     obtain ⟨⟨h3,h4⟩,h5⟩:=h
     subst h3
     exact ⟨x,rfl,rfl,h4,h5⟩
theorem Vs (h1:scope.kind= .function) (h2:(scope.names.all λy=> !decide (y.2= .cell))=true) (h3:(scope.names.all λy=> !decide (y.2= .local)||decide (scope.names.lookup y.1=some .local))=true)
 (h4:(scope.names.all λy=> !decide (y.2= .free)||decide (X.env.scope.names.lookup y.1=some .cell))=true) (h5:N.length=own+ix.length) (h6:NH X (relabel scope X.env) own ix N=true) (hk:Go own g)
 (tgt:∀cl C s H ex pn,PG (blk X (relabel scope X.env) N cl C s H ex pn) tg g)
 (tst:∀cl C s H ex pn,Vg (blk X (relabel scope X.env) N cl C s H ex pn) ifs tt)
 (val:∀cl C s H ex pn,PE (blk X (relabel scope X.env) N cl C s H ex pn) elt te):KP X tg elt ifs scope own ix N g tt te:=by
 refine ⟨h1,λy hy e=> ?_,λy hy e=> ?_,λy hy e=> ?_,SZ h5 h6,hk,tgt,tst,val⟩
 ·have:=List.all_eq_true.mp h2 y hy
  simp [e] at this
 ·have:=List.all_eq_true.mp h3 y hy
  simpa [e] using this
 ·have:=List.all_eq_true.mp h4 y hy
  simpa [e] using this
end
theorem JB.new {H:Hp} {p:Addr} {o:HO} (h:H p=none):JB H (upd H p o):=λb u q=>by rw [Af (As q h)];exact q
def az (p:Addr) (H H':Hp):Prop:=∀b o,b≠p->H b=some o->H' b=some o
theorem az.refl {p:Addr} {H:Hp}:az p H H:=λ_ _ _ h=>h
theorem az.trans {p:Addr} {H H1 H2:Hp} (a:az p H H1) (b:az p H1 H2):az p H H2:=λc o n h=>b c o n (a c o n h)
theorem JB.but {p:Addr} {H H1:Hp} (a:JB H H1):az p H H1:=λc o _ h=>a c o h
theorem az.upd {p:Addr} {H:Hp} {o:HO}:az p H (upd H p o):=λb u n q=>by rw [Af n];exact q
end L2
end
section
namespace PL
open PySem PySem.Spec PyProof.Rows L2
inductive PV where
 | non|bl (b:Bool)|int (i:Int)|str (x:Str)|ty (n:String)
 | tup (xs:List PV)|lst (xs:List PV)|tape|scr (ns:List Int)|dct (kvs:List (FK×Int))
def Eb (H:Hp) (p:Addr):Prop:=∃d x:Int,H p=some (.lst [.int d, .int x])/\0<=d/\0<=x/\x<2147483647
def KW (o:HO):Prop:=(∀vs,o≠ .tup vs)/\∀q u,o≠ .frz q u
theorem KW.lst {xs:List V}:KW (.lst xs):=⟨(λ_ e=>nomatch e),(λ_ _ e=>nomatch e)⟩
theorem Eb.mut {H:Hp} {p:Addr} (h:Eb H p):∃o,H p=some o/\KW o:=by
 obtain ⟨d,x,e,_⟩:=h
 exact ⟨_,e,KW.lst⟩
def l0 (K:PySem.W.Frag) (H:Hp) (a:Addr) (xs:List V):Prop:=H a=some (.tup xs)\/∃(o:Obj) (its:Array Value) (n:Nat),K.lookup a=some o/\o.cls= .type "tuple" /\o.data= .seq its n/\its.size<=sizeLine/\Ax xs its.toList
theorem l0.sq {K:PySem.W.Frag} {H:Hp} {a:Addr} {xs:List V} (h:l0 K H a xs):JD K H a xs:=h.elim (λz=> .inl (.inl z)) .inr
def Bz (kvs:List (FK×Int)):List (FK×V):=kvs.map λp=>(p.1,V.int p.2)
mutual
inductive CB (K:PySem.W.Frag) (T M:Addr->Prop) (H:Hp):V->PV->Prop where
 | non:CB K T M H .non .non
 | bl (b:Bool):CB K T M H (.bl b) (.bl b)
 | int (i:Int):CB K T M H (.int i) (.int i)
 | str (x:Str):CB K T M H (.str x) (.str x)
 | ty (n:String):CB K T M H (.ty n) (.ty n)
 | tup {a:Addr} {vs:List V} {xs:List PV} (h:l0 K H a vs) (r:A0 K T M H vs xs):CB K T M H (.ref a) (.tup xs)
 | lst {a:Addr} {vs:List V} {xs:List PV} (h:H a=some (.lst vs)) (t:¬T a) (m:¬M a) (r:A0 K T M H vs xs):CB K T M H (.ref a) (.lst xs)
 | tape {a:Addr} (t:T a):CB K T M H (.ref a) .tape
 | dct {a:Addr} {kvs:List (FK×Int)} (h:H a=some (.dN K (Bz kvs))) (t:¬T a) (m:¬M a):CB K T M H (.ref a) (.dct kvs)
 | scr {a:Addr} {ns:List Int} (h:(Rd H a (.lst (ns.map V.int))/\¬T a/\¬M a)\/∀H,Fw K H a (ns.map V.int)):CB K T M H (.ref a) (.scr ns)
inductive A0 (K:PySem.W.Frag) (T M:Addr->Prop) (H:Hp):List V->List PV->Prop where
 | nil:A0 K T M H [] []
 | cons {v:V} {x:PV} {vs:List V} {xs:List PV} (h:CB K T M H v x) (t:A0 K T M H vs xs):A0 K T M H (v::vs) (x::xs)
end
structure GZ (T M:Addr->Prop) (H:Hp):Prop where
 tp:∀a,T a->Eb H a
 mu:∀a,M a->∃o,H a=some o/\KW o
theorem GZ.noTup {T M:Addr->Prop} {H:Hp} (v:GZ T M H) {a:Addr} {vs:List V} (r:Rd H a (.tup vs)):¬T a/\¬M a:=by
 have go:∀o,H a=some o->KW o->False:=λo e m=>by
  rcases r with r|⟨q,r⟩
  ·rw [e] at r;cases r;exact m.1 _ rfl
  ·rw [e] at r;cases r;exact m.2 _ _ rfl
 exact ⟨λt=>let ⟨o,e,m⟩:=(v.tp a t).mut;go o e m,λt=>let ⟨o,e,m⟩:=v.mu a t;go o e m⟩
structure Mv (K:PySem.W.Frag) (T M:Addr->Prop) (H:Hp) (T' M':Addr->Prop) (H':Hp):Prop where
 va:GZ T M H
 keep:∀b o,¬T b->¬M b->H b=some o->H' b=some o
 sub:∀b,T b->T' b
 tn:∀b,H b≠none->T' b->T b
 mn:∀b,H b≠none->M' b->M b
theorem WO {H:Hp} {a:Addr} {u:HO} (r:Rd H a u):H a≠none:=by
 rcases r with r|⟨o,r⟩ <;> rw [r] <;> exact λe=>nomatch e
theorem lE {H H':Hp} {a:Addr} {u:HO} (r:Rd H a u) (k:∀o,H a=some o->H' a=some o):Rd H' a u:=by
 rcases r with r|⟨o,r⟩
 ·exact .inl (k _ r)
 ·exact .inr ⟨o,k _ r⟩
section
variable {K:PySem.W.Frag} {T M T' M':Addr->Prop} {H H':Hp}
mutual
theorem CB.mv (m:Mv K T M H T' M' H'):∀{v:V} {x:PV},CB K T M H v x->CB K T' M' H' v x
 | _,_, .non=> .non
 | _,_, .bl b=> .bl b
 | _,_, .int i=> .int i
 | _,_, .str x=> .str x
 | _,_, .ty n=> .ty n
 | _,_, .tup (a:=a) (vs:=vs) h r=>by
   refine .tup (vs:=vs) ?_ (A0.mv m r)
   rcases h with h|h
   ·obtain ⟨t,u⟩:=m.va.noTup (.inl h)
    exact .inl (m.keep _ _ t u h)
   ·exact .inr h
 | _,_, .lst (a:=a) h t u r=> .lst (m.keep _ _ t u h) (λz=>t (m.tn a (by rw [h];exact λe=>nomatch e) z)) (λz=>u (m.mn a (by rw [h];exact λe=>nomatch e) z)) (A0.mv m r)
 | _,_, .tape t=> .tape (m.sub _ t)
 | _,_, .dct (a:=a) h t u=> .dct (m.keep _ _ t u h) (λz=>t (m.tn a (by rw [h];exact λe=>nomatch e) z)) (λz=>u (m.mn a (by rw [h];exact λe=>nomatch e) z))
 | _,_, .scr (a:=a) (.inl ⟨h,t,u⟩)=> .scr (.inl ⟨lE h λo e=>m.keep _ o t u e,λz=>t (m.tn a (WO h) z),λz=>u (m.mn a (WO h) z)⟩)
 | _,_, .scr (.inr h)=> .scr (.inr h)
theorem A0.mv (m:Mv K T M H T' M' H'):∀{vs:List V} {xs:List PV},A0 K T M H vs xs->A0 K T' M' H' vs xs
 | _,_, .nil=> .nil
 | _,_, .cons h t=> .cons (CB.mv m h) (A0.mv m t)
end
end
theorem A0.length {K:PySem.W.Frag} {T M:Addr->Prop} {H:Hp}:∀{vs:List V} {xs:List PV},A0 K T M H vs xs->vs.length=xs.length
 | _,_, .nil=>rfl
 | _,_, .cons _ t=>by simp [t.length]
theorem A0.get {K:PySem.W.Frag} {T M:Addr->Prop} {H:Hp}:∀{vs:List V} {xs:List PV} {i:Nat} {x:PV},A0 K T M H vs xs->xs[i]? =some x->∃v,vs[i]? =some v/\CB K T M H v x
 | _,_,_,_, .nil,e=>by simp at e
 | _,_,0,_, .cons h _,e=>by simp at e;subst e;exact ⟨_,rfl,h⟩
 | _,_,i+1,x, .cons _ t,e=>by
   obtain ⟨u,h1,h2⟩:=A0.get (i:=i) (x:=x) t (by simpa using e)
   exact ⟨u,by simpa using h1,h2⟩
theorem A0.get' {K:PySem.W.Frag} {T M:Addr->Prop} {H:Hp} {vs:List V} {xs:List PV} {i:Nat} {v:V} (h:A0 K T M H vs xs) (e:vs[i]? =some v):∃x,xs[i]? =some x/\CB K T M H v x:=by
 have hl:=h.length
 have hi:i<vs.length:=(List.getElem?_eq_some_iff.mp e).1
 obtain ⟨w,e2,r⟩:=h.get (i:=i) (x:=xs[i]'(by omega)) (List.getElem?_eq_getElem (by omega))
 rw [e] at e2;cases e2
 exact ⟨_,List.getElem?_eq_getElem (by omega),r⟩
theorem A0.append {K:PySem.W.Frag} {T M:Addr->Prop} {H:Hp}:∀{vs ws:List V} {xs ys:List PV},A0 K T M H vs xs->A0 K T M H ws ys->A0 K T M H (vs++ws) (xs++ys)
 | _,_,_,_, .nil,s=>s
 | _,_,_,_, .cons h t,s=> .cons h (t.append s)
theorem A0.take {K:PySem.W.Frag} {T M:Addr->Prop} {H:Hp}:∀{vs:List V} {xs:List PV} (n:Nat),A0 K T M H vs xs->A0 K T M H (vs.take n) (xs.take n)
 | _,_,0,_=> .nil
 | _,_,_+1, .nil=> .nil
 | _,_,n+1, .cons r t=> .cons r (t.take n)
theorem A0.drop {K:PySem.W.Frag} {T M:Addr->Prop} {H:Hp}:∀{vs:List V} {xs:List PV} (n:Nat),A0 K T M H vs xs->A0 K T M H (vs.drop n) (xs.drop n)
 | _,_,0,r=>r
 | _,_,_+1, .nil=> .nil
 | _,_,n+1, .cons _ t=>t.drop n
theorem A0.set {K:PySem.W.Frag} {T M:Addr->Prop} {H:Hp} {v:V} {x:PV} (r:CB K T M H v x):∀{vs:List V} {xs:List PV} (i:Nat),A0 K T M H vs xs->A0 K T M H (vs.set i v) (xs.set i x)
 | _,_,_, .nil=> .nil
 | _,_,0, .cons _ t=> .cons r t
 | _,_,i+1, .cons q t=> .cons q (A0.set r i t)
theorem A0.nil_iff {K:PySem.W.Frag} {T M:Addr->Prop} {H:Hp} {vs:List V} {xs:List PV} (h:A0 K T M H vs xs):vs= [] ↔xs= [] :=by
 cases h <;> simp
theorem A0.reverse {K:PySem.W.Frag} {T M:Addr->Prop} {H:Hp} {vs:List V} {xs:List PV} (h:A0 K T M H vs xs):A0 K T M H vs.reverse xs.reverse:=by
 induction vs generalizing xs with
 | nil=>cases h;exact .nil
 | cons v vs ih=>
   cases h with
   | cons h t=>rw [List.reverse_cons,List.reverse_cons];exact (ih t).append (.cons h .nil)
structure DT (T:Addr->Prop) (H:Hp) (T':Addr->Prop) (H':Hp):Prop where
 keep:∀b o,¬T b->H b=some o->H' b=some o
 sub:∀b,T b->T' b
 new:∀b,T' b->T b\/H b=none
 tp:∀a,T' a->Eb H' a
theorem DT.refl {T:Addr->Prop} {H:Hp} (h:∀a,T a->Eb H a):DT T H T H:=⟨λ_ _ _ e=>e,λ_ e=>e,λ_ e=> .inl e,h⟩
theorem DT.some {T T':Addr->Prop} {H H':Hp} (s:DT T H T' H') {b:Addr} (h:H b≠none):H' b≠none:=by
 by_cases t:T b
 ·obtain ⟨o,e,_⟩:=(s.tp b (s.sub b t)).mut
  rw [e];exact λe=>nomatch e
 ·cases e:H b with
  | none=>exact absurd e h
  | some o=>rw [s.keep b o t e];exact λe=>nomatch e
theorem DT.none {T T':Addr->Prop} {H H':Hp} (s:DT T H T' H') {b:Addr} (h:H' b=none):H b=none:=by
 cases e:H b with
 | none=>rfl
 | some o=>exact absurd h (s.some (by rw [e];exact λe=>nomatch e))
theorem DT.trans {T T1 T2:Addr->Prop} {H H1 H2:Hp} (a:DT T H T1 H1) (b:DT T1 H1 T2 H2):DT T H T2 H2 where
 keep:=λc o t e=>b.keep c o (λz=>(a.new c z).elim t λn=>by rw [n] at e;cases e) (a.keep c o t e)
 sub:=λc t=>b.sub c (a.sub c t)
 new:=λc t=>(b.new c t).elim (λz=>a.new c z) λz=> .inr (a.none z)
 tp:=b.tp
theorem DT.lay {T:Addr->Prop} {H:Hp} {p:Addr} {o:HO} (h:∀a,T a->Eb H a) (hp:H p=Option.none):DT T H T (upd H p o) where
 keep:=λb u _ e=>by rw [Af (As e hp)];exact e
 sub:=λ_ t=>t
 new:=λ_ t=> .inl t
 tp:=λa t=>by
  obtain ⟨d,x,e,z⟩:=h a t
  exact ⟨d,x,by rw [Af (As e hp)];exact e,z⟩
theorem DT.mv {K:PySem.W.Frag} {T T' M:Addr->Prop} {H H':Hp} (s:DT T H T' H') (v:GZ T M H):Mv K T M H T' M H' where
 va:=v
 keep:=λb o t _ e=>s.keep b o t e
 sub:=s.sub
 tn:=λb n t=>(s.new b t).elim id λz=>absurd z n
 mn:=λ_ _ z=>z
theorem GZ.stp {T T' M:Addr->Prop} {H H':Hp} (v:GZ T M H) (s:DT T H T' H') (d:∀a,M a->¬T a):GZ T' M H':=
 ⟨s.tp,λa m=>let ⟨o,e,q⟩:=v.mu a m;⟨o,s.keep a o (d a m) e,q⟩⟩
theorem CB.stp {K:PySem.W.Frag} {T T' M:Addr->Prop} {H H':Hp} {v:V} {x:PV} (r:CB K T M H v x) (s:DT T H T' H') (va:GZ T M H):CB K T' M H' v x:=r.mv (s.mv va)
theorem A0.stp {K:PySem.W.Frag} {T T' M:Addr->Prop} {H H':Hp} {v:List V} {x:List PV} (r:A0 K T M H v x) (s:DT T H T' H') (va:GZ T M H):A0 K T' M H' v x:=r.mv (s.mv va)
theorem Mv.anti {K:PySem.W.Frag} {T M M':Addr->Prop} {H:Hp} (v:GZ T M H) (h:∀a,M' a->M a):Mv K T M H T M' H:=⟨v,λ_ _ _ _ e=>e,λ_ t=>t,λ_ _ t=>t,λb _ t=>h b t⟩
inductive AV where
 | val (x:PV)
 | own (xs:List PV)
abbrev BC:=List (Option AV)
structure Cn where
 T:Addr->Prop
 H:Hp
 M:Addr->Prop
def Cn.add (B:Cn) (p:Addr):Cn:=⟨B.T,B.H,λa=>B.M a\/a=p⟩
def Cz (σ:L2.St) (τ:BC) (p:Addr):Prop:=∃(i:Nat) (xs:List PV),τ[i]? =some (some (.own xs))/\σ[i]? =some (some (.ref p))
def mt (B:Cn) (σ:L2.St) (τ:BC) (p:Addr):Prop:=B.M p\/Cz σ τ p
structure SR (K:PySem.W.Frag) (B:Cn) (T:Addr->Prop) (H:Hp) (σ:L2.St) (τ:BC):Prop where
 len:σ.length=τ.length
 val:∀(i:Nat) (x:PV),τ[i]? =some (some (.val x))->∃v,σ[i]? =some (some v)/\CB K T (mt B σ τ) H v x
 own:∀(i:Nat) (xs:List PV),τ[i]? =some (some (.own xs))->∃p vs,σ[i]? =some (some (.ref p))/\H p=some (.lst vs)/\A0 K T (mt B σ τ) H vs xs/\B.H p=none/\¬T p/\¬B.M p
 dist:∀(i j:Nat) (xs ys:List PV) (p:Addr),τ[i]? =some (some (.own xs))->τ[j]? =some (some (.own ys))->σ[i]? =some (some (.ref p))->σ[j]? =some (some (.ref p))->i=j
 tp:∀a,T a->Eb H a
 bm:∀a,B.M a->∃o,H a=some o/\KW o
 bt:∀a,B.M a->¬T a
 st:DT B.T B.H T H
section
variable {K:PySem.W.Frag} {B:Cn} {T T':Addr->Prop} {H H':Hp} {σ:L2.St} {τ:BC}
theorem SR.ownH (s:SR K B T H σ τ) {p:Addr} (o:Cz σ τ p):∃vs,H p=some (.lst vs)/\B.H p=none/\¬T p/\¬B.M p:=by
 obtain ⟨i,xs,h1,h2⟩:=o
 obtain ⟨q,vs,e,h,_,b,t,m⟩:=s.own i xs h1
 rw [h2] at e;cases e
 exact ⟨vs,h,b,t,m⟩
theorem SR.va (s:SR K B T H σ τ):GZ T (mt B σ τ) H:=⟨s.tp,λa m=>m.elim (s.bm a) λo=>let ⟨vs,h,_⟩:=s.ownH o;⟨_,h,KW.lst⟩⟩
theorem SR.nt (s:SR K B T H σ τ) {a:Addr} (m:mt B σ τ a):¬T a:=m.elim (s.bt a) λo=>let ⟨_,_,_,t,_⟩:=s.ownH o;t
theorem SR.stp (s:SR K B T H σ τ) (p:DT T H T' H'):SR K B T' H' σ τ where
 len:=s.len
 val:=λi x e=>let ⟨v,h,r⟩:=s.val i x e;⟨v,h,r.stp p s.va⟩
 own:=λi xs e=>by
  obtain ⟨q,vs,e1,h,r,b,t,m⟩:=s.own i xs e
  exact ⟨q,vs,e1,p.keep _ _ t h,r.stp p s.va,b,(λz=>(p.new q z).elim t λn=>by rw [n] at h;cases h),m⟩
 dist:=s.dist
 tp:=p.tp
 bm:=λa m=>let ⟨o,e,q⟩:=s.bm a m;⟨o,p.keep a o (s.bt a m) e,q⟩
 bt:=λa m z=>by
  obtain ⟨o,e,_⟩:=s.bm a m
  exact (p.new a z).elim (s.bt a m) λn=>by rw [n] at e;cases e
 st:=s.st.trans p
theorem SR.add {p:Addr} {o:HO} (s:SR K B T H σ τ) (q:DT T H T' H') (hn:H p=none) (ho:H' p=some o) (hm:KW o) (ht:¬T' p):SR K (B.add p) T' H' σ τ:=by
 have s':=s.stp q
 have mv:Mv K T (mt B σ τ) H T' (mt (B.add p) σ τ) H':=⟨s.va,λb o t _ e=>q.keep b o t e,q.sub,λb n t=>(q.new b t).elim id λz=>absurd z n,λb n z=>by
  rcases z with (z|z)|z
  ·exact .inl z
  ·subst z;exact absurd hn n
  ·exact .inr z⟩
 refine ⟨s.len,λi x e=> ?_,λi xs e=> ?_,s.dist,s'.tp,λa m=> ?_,λa m=> ?_,s'.st⟩
 ·obtain ⟨v,h,r⟩:=s.val i x e
  exact ⟨v,h,r.mv mv⟩
 ·obtain ⟨a,vs,e1,h,r,b,t,m⟩:=s.own i xs e
  obtain ⟨a',vs',e1',h',_,b',t',m'⟩:=s'.own i xs e
  rw [e1] at e1';cases e1'
  rw [q.keep _ _ t h] at h';cases h'
  refine ⟨a,vs,e1,q.keep _ _ t h,r.mv mv,b,t',λz=> ?_⟩
  rcases z with z|z
  ·exact m z
  ·subst z;rw [hn] at h;cases h
 ·rcases m with m|m
  ·exact s'.bm a m
  ·subst m;exact ⟨o,ho,hm⟩
 ·rcases m with m|m
  ·exact s'.bt a m
  ·subst m;exact ht
theorem SR.drop {p:Addr} (s:SR K (B.add p) T H σ τ):SR K B T H σ τ:=by
 have mv:Mv K T (mt (B.add p) σ τ) H T (mt B σ τ) H:= .anti s.va λa m=>m.elim (λz=> .inl (.inl z)) .inr
 refine ⟨s.len,λi x e=>let ⟨v,h,r⟩:=s.val i x e;⟨v,h,r.mv mv⟩,λi xs e=> ?_,s.dist,s.tp,λa m=>s.bm a (.inl m),λa m=>s.bt a (.inl m),s.st⟩
 obtain ⟨a,vs,e1,h,r,b,t,m⟩:=s.own i xs e
 exact ⟨a,vs,e1,h,r.mv mv,b,t,λz=>m (.inl z)⟩
end
def bZ:Option AV->Option AV
 | some (.own xs)=>some (.val (.lst xs))
 | o=>o
def frz (τ:BC):BC:=τ.map bZ
theorem V2 {τ:BC} {i:Nat}:(frz τ)[i]? =(τ[i]?).map bZ:=by simp [frz]
theorem bg {τ:BC} {i:Nat} {x:PV} (h:(frz τ)[i]? =some (some (.val x))):τ[i]? =some (some (.val x))\/∃xs,x= .lst xs/\τ[i]? =some (some (.own xs)):=by
 rw [V2] at h
 cases e:τ[i]? with
 | none=>rw [e] at h;cases h
 | some o=>
   rw [e] at h
   cases o with
   | none=>cases h
   | some a=>
     cases a with
     | val y=>cases h;exact .inl rfl
     | own xs=>cases h;exact .inr ⟨xs,rfl,rfl⟩
theorem QP {τ:BC} {i:Nat} {xs:List PV}:(frz τ)[i]? ≠some (some (.own xs)):=by
 rw [V2]
 cases e:τ[i]? with
 | none=>exact λz=>nomatch z
 | some o=>
   cases o with
   | none=>exact λz=>nomatch z
   | some a=>cases a <;> exact λz=>nomatch z
theorem TK {σ:L2.St} {τ:BC} {p:Addr}:¬Cz σ (frz τ) p:=λ⟨_,_,h,_⟩=>QP h
section
variable {K:PySem.W.Frag} {B:Cn} {T T':Addr->Prop} {H H':Hp} {σ:L2.St} {τ:BC}
theorem SR.frz (s:SR K B T H σ τ):SR K B T H σ (frz τ):=by
 have mv:Mv K T (mt B σ τ) H T (mt B σ (PL.frz τ)) H:= .anti s.va λa m=>m.elim .inl λz=>absurd z TK
 refine ⟨by simp [PL.frz,s.len],λi x e=> ?_,λi xs e=>absurd e QP,λi j xs ys p e=>absurd e QP,s.tp,s.bm,s.bt,s.st⟩
 rcases bg e with e'|⟨xs,e0,e'⟩
 ·obtain ⟨v,h,r⟩:=s.val i x e'
  exact ⟨v,h,r.mv mv⟩
 ·subst e0
  obtain ⟨p,vs,e1,h,r,b,t,m⟩:=s.own i xs e'
  exact ⟨.ref p,e1, .lst h t (λz=>z.elim m TK) (r.mv mv)⟩
end
mutual
def ZW:PV->Bool
 | .lst _=>false
 | .tape=>false
 | .scr _=>false
 | .dct _=>false
 | .tup xs=>cT xs
 | _=>true
def cT:List PV->Bool
 | [] =>true
 | x::xs=>ZW x&&cT xs
end
section
variable {K:PySem.W.Frag} {T M M':Addr->Prop} {H:Hp}
mutual
theorem CB.free:∀{v:V} {x:PV},ZW x=true->CB K T M H v x->CB K T M' H v x
 | _,_,_, .non=> .non
 | _,_,_, .bl b=> .bl b
 | _,_,_, .int i=> .int i
 | _,_,_, .str x=> .str x
 | _,_,_, .ty n=> .ty n
 | _,_,n, .tup h r=> .tup h (A0.free (by rw [ZW] at n;exact n) r)
 | _,_,n, .lst _ _ _ _=>by rw [ZW] at n;cases n
 | _,_,n, .tape _=>by rw [ZW] at n;cases n
 | _,_,n, .scr _=>by rw [ZW] at n;cases n
 | _,_,n, .dct _ _ _=>by rw [ZW] at n;cases n
theorem A0.free:∀{vs:List V} {xs:List PV},cT xs=true->A0 K T M H vs xs->A0 K T M' H vs xs
 | _,_,_, .nil=> .nil
 | _,_,n, .cons h t=>by
   rw [cT,Bool.and_eq_true] at n
   exact .cons (CB.free n.1 h) (A0.free n.2 t)
end
end
end PL
end
section
namespace PL
open PySem PySem.Spec PyProof.Rows L2
abbrev AE:=BC->(PV->Prop)->Prop
abbrev AT:=BC->(Bool->Prop)->Prop
abbrev AA:=BC->(List PV->Prop)->Prop
abbrev AF:=List PV->(PV->Prop)->Prop
def Ri:BC->Nat->Option AV
 | [],_=>none
 | x::_,0=>x
 | _::r,n+1=>Ri r n
theorem NV:∀{τ:BC} {i:Nat} {a:AV},Ri τ i=some a->τ[i]? =some (some a)
 | [],_,_,h=>by simp [Ri] at h
 | x::_,0,_,h=>by simpa [Ri] using h
 | _::r,n+1,a,h=>by
   have:=NV (τ:=r) (i:=n) (a:=a) (by simpa [Ri] using h)
   simpa using this
def ao (x:PV) (R:Int->Prop):Prop:=match x with | .int i=>R i|_=>False
def Xl (x y:PV) (R:Int->Int->Prop):Prop:=match x,y with | .int i, .int j=>R i j|_,_=>False
def gy (x:PV) (R:Bool->Prop):Prop:=match x with | .bl b=>R b|_=>False
def ap (o:Option PV) (R:PV->Prop):Prop:=match o with | some z=>R z|none=>False
theorem g6 {o:Option PV} {R:PV->Prop} (h:ap o R):∃z,o=some z/\R z:=by
 cases o <;> first | exact ⟨_,rfl,h⟩|exact h.elim
def TJ (x:PV) (R:List PV->Prop):Prop:=match x with | .tup xs=>R xs | .lst xs=>R xs|_=>False
theorem Q2 {x:PV} {R:Int->Prop} (h:ao x R):∃i,x= .int i/\R i:=by
 cases x <;> first | exact ⟨_,rfl,h⟩|exact h.elim
theorem MG {x y:PV} {R:Int->Int->Prop} (h:Xl x y R):∃i j,x= .int i/\y= .int j/\R i j:=by
 cases x <;> cases y <;> first | exact ⟨_,_,rfl,rfl,h⟩|exact h.elim
theorem U6 {x:PV} {R:Bool->Prop} (h:gy x R):∃b,x= .bl b/\R b:=by
 cases x <;> first | exact ⟨_,rfl,h⟩|exact h.elim
theorem IW {x:PV} {R:List PV->Prop} (h:TJ x R):∃xs,(x= .tup xs\/x= .lst xs)/\R xs:=by
 cases x <;> first | exact ⟨_, .inl rfl,h⟩|exact ⟨_, .inr rfl,h⟩|exact h.elim
theorem CB.toI {K:PySem.W.Frag} {T M:Addr->Prop} {H:Hp} {v:V} {i:Int} (r:CB K T M H v (.int i)):v= .int i:=by cases r;rfl
theorem CB.toB {K:PySem.W.Frag} {T M:Addr->Prop} {H:Hp} {v:V} {i:Bool} (r:CB K T M H v (.bl i)):v= .bl i:=by cases r;rfl
def Fv (K:PySem.W.Frag) (t:TE) (a:AE):Prop:=∀(B:Cn) (T:Addr->Prop) (σ:L2.St) (τ:BC) (H:Hp) (Q:VK) (AQ:PV->Prop),SR K B T H σ τ->a τ AQ->
 (∀v x T' H',DT T H T' H'->CB K T' (mt B σ τ) H' v x->AQ x->Q v H')->t σ H Q
def Ln (K:PySem.W.Frag) (t:TT) (a:AT):Prop:=∀(B:Cn) (T:Addr->Prop) (σ:L2.St) (τ:BC) (H:Hp) (Q:Bool->Hp->Prop) (AQ:Bool->Prop),SR K B T H σ τ->a τ AQ->
 (∀b T' H',DT T H T' H'->AQ b->Q b H')->t σ H Q
def fZ (K:PySem.W.Frag) (t:TA) (a:AA):Prop:=∀(B:Cn) (T:Addr->Prop) (σ:L2.St) (τ:BC) (H:Hp) (Q:List V->Hp->Prop) (AQ:List PV->Prop),SR K B T H σ τ->a τ AQ->
 (∀vs xs T' H',DT T H T' H'->A0 K T' (mt B σ τ) H' vs xs->AQ xs->Q vs H')->t σ H Q
def Ye (K:PySem.W.Frag) (t:TE) (a:AA):Prop:=∀(B:Cn) (T:Addr->Prop) (σ:L2.St) (τ:BC) (H:Hp) (Q:VK) (AQ:List PV->Prop),SR K B T H σ τ->a τ AQ->
 (∀p vs xs T' H',DT T H T' H'->SR K (B.add p) T' H' σ τ->H p=none->H' p=some (.lst vs)->¬T' p->A0 K T' (mt (B.add p) σ τ) H' vs xs->AQ xs->Q (.ref p) H')->t σ H Q
def SE (X:Cx) (e:Expr) (a:AE):Prop:=∃t,PE X e t/\Fv X.K t a
def Rg (X:Cx) (e:Expr) (a:AT):Prop:=∃t,PT X e t/\Ln X.K t a
def SW (X:Cx) (e:Expr) (a:AT):Prop:=∃t,PW X e t/\Ln X.K t a
def SA (X:Cx) (es:List Expr) (a:AA):Prop:=∃t,PA X es t/\fZ X.K t a
def SF (X:Cx) (e:Expr) (a:AA):Prop:=∃t,PE X e t/\Ye X.K t a
abbrev Ig:=PV->PV->(PV->Prop)->Prop
def B8 (K:PySem.W.Frag) (r:R2) (f:Ig):Prop:=∀(T M:Addr->Prop) (H:Hp) (u v:V) (x y:PV) (Q:VK) (AQ:PV->Prop),GZ T M H->CB K T M H u x->CB K T M H v y->f x y AQ->
 (∀w z T' H',DT T H T' H'->CB K T' M H' w z->AQ z->Q w H')->r u v H Q
def Hl (K:PySem.W.Frag) (r:List V->Hp->VK->Prop) (f:AF):Prop:=∀(T M:Addr->Prop) (H:Hp) (us:List V) (xs:List PV) (Q:VK) (AQ:PV->Prop),GZ T M H->A0 K T M H us xs->f xs AQ->
 (∀w z T' H',DT T H T' H'->CB K T' M H' w z->AQ z->Q w H')->r us H Q
section
variable {X:Cx} {a b c:Expr} {es:List Expr} {pos:Pos} {ta tb:AE} {tA tB':AT}
def aV (i:Nat):AE:=λτ Q=>match Ri τ i with | some (.val x)=>Q x|_=>False
theorem jh {i:Nat} {τ:BC} {Q:PV->Prop} (h:aV i τ Q):∃x,τ[i]? =some (some (.val x))/\Q x:=by
 unfold aV at h
 cases e:Ri τ i with
 | none=>rw [e] at h;exact h.elim
 | some z=>
   rw [e] at h
   cases z with
   | own xs=>exact h.elim
   | val x=>exact ⟨x,NV e,h⟩
theorem AJ (i:Nat) {x:Str} {pos:Pos} (hN:X.N[i]? =some x:=by rfl) (hv:fg X.env.scope x:=by first | exact Or.inl rfl|exact Or.inr (Or.inl rfl)|exact Or.inr (Or.inr rfl)) (hd:(x==("__debug__" :Str))=false:=by decide)
 (MB:(x==("__classdict__" :Str))=false:=by decide):SE X (.Name x pos) (aV i):=by
 refine ⟨_,Q6 hN hv hd MB,λB T σ τ H Q AQ s h k=> ?_⟩
 obtain ⟨x,e,q⟩:=jh h
 obtain ⟨v,e1,r⟩:=s.val i x e
 exact ⟨v,e1,k v x T H (.refl s.tp) r q⟩
def aC (x:PV):AE:=λ_ Q=>Q x
theorem WZ {v:V} {x:PV} (h:∀T M H,CB X.K T M H v x):Fv X.K (tC v) (aC x):=λB T σ τ H Q AQ s h' k=>k v x T H (.refl s.tp) (h _ _ _) h'
theorem AH {i:Int} {j pos}:SE X (.Constant (.int i) j pos) (aC (.int i)):=⟨_,BA,WZ λ_ _ _=> .int i⟩
theorem HA {i:Bool} {j pos}:SE X (.Constant (.bool i) j pos) (aC (.bl i)):=⟨_,kb,WZ λ_ _ _=> .bl i⟩
theorem B4 {j pos}:SE X (.Constant .none j pos) (aC .non):=⟨_,Zk,WZ λ_ _ _=> .non⟩
theorem Tf {x:Str} {n:String} {u:Value} {pos:Pos} (hg:Gl X x) (hm:X.mg x=none) (hv:bootBuiltins x=some u) (r:RelV (.ty n) u) (hn:x≠"__name__" :=by decide) (hd:(x==("__debug__" :Str))=false:=by decide):SE X (.Name x pos) (aC (.ty n)):=
 ⟨_,cn (v:= .ty n) hg hm hv r hn hd,WZ λ_ _ _=> .ty n⟩
def AX (f:Ig) (ta tb:AE):AE:=λτ Q=>ta τ λx=>tb τ λy=>f x y Q
theorem RQ {r:R2} {f:Ig} {t u:TE} (hr:B8 X.K r f) (ha:Fv X.K t ta) (hb:Fv X.K u tb):Fv X.K (de r t u) (AX f ta tb):=by
 intro B T σ τ H Q AQ s h k
 refine ha B T σ τ H _ _ s h λv x T1 H1 s1 r1 h1=> ?_
 refine hb B T1 σ τ H1 _ _ (s.stp s1) h1 λw y T2 H2 s2 r2 h2=> ?_
 have s':=(s.stp s1).stp s2
 exact hr T2 _ H2 v w x y Q AQ s'.va (r1.stp s2 (s.stp s1).va) r2 h2 λw z T3 H3 s3 r3 q=>k w z T3 H3 ((s1.trans s2).trans s3) r3 q
theorem Ad {op:Operator} {r:R2} {f:Ig} (ho:EC X (binaryOp op) r/\B8 X.K r f) (ha:SE X a ta) (hb:SE X b tb):SE X (.BinOp a op b pos) (AX f ta tb):=
 let ⟨_,p,s⟩:=ha;let ⟨_,p',s'⟩:=hb;⟨_,CA ho.1 p p',RQ ho.2 s s'⟩
theorem FM {op:CmpOp} {r:R2} {f:Ig} (ho:EC X (compareOp op) r/\B8 X.K r f) (ha:SE X a ta) (hb:SE X b tb) (hm:behindInMarks op b=false):SE X (.Compare a [op] [b] pos) (AX f ta tb):=
 let ⟨_,p,s⟩:=ha;let ⟨_,p',s'⟩:=hb;⟨_,WL ho.1 p p' hm,RQ ho.2 s s'⟩
theorem lQ {r:R2} {f:Ig} (ho:bH X r/\B8 X.K r f) (ha:SE X a ta) (hb:SE X b tb) (hs:QI b):SE X (.Subscript a b pos) (AX f ta tb):=
 let ⟨_,p,s⟩:=ha;let ⟨_,p',s'⟩:=hb;⟨_,LU ho.1 p p' hs,RQ ho.2 s s'⟩
def fI (g:Int->Int->PV):Ig:=λx y Q=>Xl x y λi j=>Q (g i j)
def jn (C:Int->Int->Prop) (g:Int->Int->PV):Ig:=λx y Q=>Xl x y λi j=>C i j/\Q (g i j)
theorem WY {g:Int->Int->V} {g':Int->Int->PV} (hg:∀i j T M H,CB X.K T M H (g i j) (g' i j)):B8 X.K (PQ g) (fI g'):=by
 intro T M H u v x y Q AQ va ru rv h k
 obtain ⟨i,j,rfl,rfl,q⟩:=MG h
 exact ⟨i,j,ru.toI,rv.toI,k _ _ T H (.refl va.tp) (hg i j T M H) q⟩
theorem VO {C:Int->Int->Prop} {g:Int->Int->V} {g':Int->Int->PV} (hg:∀i j T M H,CB X.K T M H (g i j) (g' i j)):B8 X.K (rI C g) (jn C g'):=by
 intro T M H u v x y Q AQ va ru rv h k
 obtain ⟨i,j,rfl,rfl,c,q⟩:=MG h
 exact ⟨i,j,ru.toI,rv.toI,c,k _ _ T H (.refl va.tp) (hg i j T M H) q⟩
abbrev jm:Ig:=fI λi j=> .int (i+j)
abbrev Gw:Ig:=fI λi j=> .int (i-j)
abbrev X9:Ig:=fI λi j=> .bl (decide (i<j))
abbrev fy:Ig:=fI λi j=> .bl (decide (j<i))
abbrev i8:Ig:=fI λi j=> .bl (decide (j<=i))
theorem Cp:EC X (binaryOp .Sub) (PQ λi j=> .int (i-j))/\B8 X.K (PQ λi j=> .int (i-j)) Gw:=⟨U8,WY λi j _ _ _=> .int _⟩
theorem HB:EC X (compareOp .Lt) (PQ λi j=> .bl (decide (i<j)))/\B8 X.K (PQ λi j=> .bl (decide (i<j))) X9:=⟨e8,WY λi j _ _ _=> .bl _⟩
theorem Tk:EC X (compareOp .Gt) (PQ λi j=> .bl (decide (j<i)))/\B8 X.K (PQ λi j=> .bl (decide (j<i))) fy:=⟨e7,WY λi j _ _ _=> .bl _⟩
theorem Tj:EC X (compareOp .GtE) (PQ λi j=> .bl (decide (j<=i)))/\B8 X.K (PQ λi j=> .bl (decide (j<=i))) i8:=⟨e6,WY λi j _ _ _=> .bl _⟩
structure MulOk (i j:Int):Prop where
 l:i.natAbs<2^1000000
 r:j.natAbs<2^1000000
theorem ck:EC X (binaryOp .Mult) (rI MulOk λi j=> .int (i*j)):=hG λ_ _ _ _ _ _ _ hc q=>mul_int q (.of_le (HH hc.l) (HH hc.r) (by decide))
abbrev Co:Ig:=jn MulOk λi j=> .int (i*j)
theorem BH:EC X (binaryOp .Mult) (rI MulOk λi j=> .int (i*j))/\B8 X.K (rI MulOk λi j=> .int (i*j)) Co:=⟨ck,VO λi j _ _ _=> .int _⟩
structure R8 (i j:Int):Prop where
 ne:j≠0
 lt:j.natAbs<2^8900
theorem Ze:EC X (binaryOp .FloorDiv) (rI R8 λi j=> .int (i.fdiv j)):=hG λi j _ _ _ _ _ hc q=>
 floordiv_int hc.ne q (.inl (PyProof.noPylong_of_log2 (Nat.lt_trans (JV hc.lt (by decide)) (by decide))))
abbrev QO:Ig:=jn R8 λi j=> .int (i.fdiv j)
theorem FA:EC X (binaryOp .FloorDiv) (rI R8 λi j=> .int (i.fdiv j))/\B8 X.K (rI R8 λi j=> .int (i.fdiv j)) QO:=⟨Ze,VO λi j _ _ _=> .int _⟩
abbrev Yz:Ig:=jn (λ_ j=>j≠0) λi j=> .int (i.fmod j)
theorem aK:EC X (binaryOp .Mod) (rI (λ_ j=>j≠0) λi j=> .int (i.fmod j))/\B8 X.K (rI (λ_ j=>j≠0) λi j=> .int (i.fmod j)) Yz:=⟨cj,VO λi j _ _ _=> .int _⟩
def mC:PV->Bool | .non=>true|_=>false
def UZ:Ig:=λx y Q=>match y with | .non=>Q (.bl (mC x))|_=>False
def LM:Ig:=λx y Q=>match y with | .non=>Q (.bl (!mC x))|_=>False
theorem WC {K:PySem.W.Frag} {T M:Addr->Prop} {H:Hp} {v:V} {x:PV} (r:CB K T M H v x):decide (v= .non)=mC x:=by cases r <;> simp [mC]
theorem RV:EC X (compareOp .Is) (λx y H Q=>y= .non/\Q (.bl (decide (x= .non))) H)/\B8 X.K (λx y H Q=>y= .non/\Q (.bl (decide (x= .non))) H) UZ:=by
 refine ⟨hU,λT M H u v x y Q AQ va ru rv h k=> ?_⟩
 cases y <;> first | exact h.elim|skip
 cases rv
 refine ⟨rfl, ?_⟩
 rw [WC ru]
 exact k _ _ T H (.refl va.tp) (.bl _) h
theorem MP:EC X (compareOp .IsNot) (λx y H Q=>y= .non/\Q (.bl (!decide (x= .non))) H)/\B8 X.K (λx y H Q=>y= .non/\Q (.bl (!decide (x= .non))) H) LM:=by
 refine ⟨WI,λT M H u v x y Q AQ va ru rv h k=> ?_⟩
 cases y <;> first | exact h.elim|skip
 cases rv
 refine ⟨rfl, ?_⟩
 rw [WC ru]
 exact k _ _ T H (.refl va.tp) (.bl _) h
def Ai:Ig:=λx y Q=>TJ x λxs=>ao y λi=>ap (Ih xs i) Q
theorem Vp {K:PySem.W.Frag} {T M:Addr->Prop} {H:Hp} {vs:List V} {xs:List PV} {i:Int} {z:PV} (r:A0 K T M H vs xs) (h:Ih xs i=some z):∃v,Ih vs i=some v/\CB K T M H v z:=by
 unfold Ih at h ⊢
 rw [r.length]
 cases e:Sx xs.length i with
 | none=>rw [e] at h;cases h
 | some j=>
   rw [e] at h
   exact r.get h
def k9 (K:PySem.W.Frag):R2:=λx y H Q=>ku K x y H Q\/lA K x y H Q
theorem lT:bH X (k9 X.K)/\B8 X.K (k9 X.K) Ai:=by
 refine ⟨Et.or gY,λT M H u v x y Q AQ va ru rv h k=> ?_⟩
 obtain ⟨xs,hx,h1⟩:=IW h
 obtain ⟨i,rfl,h2⟩:=Q2 h1
 cases rv.toI
 obtain ⟨z,e,q⟩:=g6 h2
 rcases hx with rfl|rfl
 ·cases ru with
  | tup hq r=>
    obtain ⟨w,ew,rw'⟩:=Vp r e
    exact .inr ⟨_,_,i,w,rfl,rfl,hq.sq,ew,k w z T H (.refl va.tp) rw' q⟩
 ·cases ru with
  | lst hq t m r=>
    obtain ⟨w,ew,rw'⟩:=Vp r e
    exact .inl ⟨_,_,i,w,rfl,rfl, .inl (.inl hq),ew,k w z T H (.refl va.tp) rw' q⟩
def M6 (f:PV->(PV->Prop)->Prop) (ta:AE):AE:=λτ Q=>ta τ λx=>f x Q
def FF (x:PV) (Q:PV->Prop):Prop:=ao x λi=>Q (.int (-i))
theorem CF (ha:SE X a ta):SE X (.UnaryOp .USub a pos) (M6 FF ta):=by
 obtain ⟨t,p,s⟩:=ha
 refine ⟨_,kh ir p,λB T σ τ H Q AQ sr h k=>s B T σ τ H _ _ sr h λv x T1 H1 s1 r1 h1=> ?_⟩
 obtain ⟨i,rfl,q⟩:=Q2 h1
 exact ⟨i,r1.toI,k _ _ T1 H1 s1 (.int _) q⟩
def fz (x:PV) (Q:PV->Prop):Prop:=gy x λi=>Q (.bl (!i))
theorem iV (ha:SE X a ta):SE X (.UnaryOp .Not a pos) (M6 fz ta):=by
 obtain ⟨t,p,s⟩:=ha
 refine ⟨_,iD p,λB T σ τ H Q AQ sr h k=>s B T σ τ H _ _ sr h λv x T1 H1 s1 r1 h1=> ?_⟩
 obtain ⟨i,rfl,q⟩:=U6 h1
 exact ⟨i,r1.toB,k _ _ T1 H1 s1 (.bl _) q⟩
def Yh (ta tb:AE):AE:=λτ Q=>ta τ λx=>gy x λc=>if c=true then tb τ Q else Q (.bl false)
theorem VM {op} (h:SE X a ta):SE X (.BoolOp op [a] pos) ta:=let ⟨_,p,s⟩:=h;⟨_,iE p,s⟩
theorem VJ {rest:List Expr} (ha:SE X a ta) (hb:SE X (.BoolOp .And (b::rest) pos) tb):SE X (.BoolOp .And (a::b::rest) pos) (Yh ta tb):=by
 obtain ⟨t,p,s⟩:=ha
 obtain ⟨t',p',s'⟩:=hb
 refine ⟨_,iB p p',λB T σ τ H Q AQ sr h k=>s B T σ τ H _ _ sr h λv x T1 H1 s1 r1 h1=> ?_⟩
 obtain ⟨i,rfl,q⟩:=U6 h1
 refine ⟨i,r1.toB, ?_⟩
 cases i with
 | true=>rw [if_pos rfl] at q ⊢;exact s' B T1 σ τ H1 _ _ (sr.stp s1) q λw y T2 H2 s2 r2 h2=>k w y T2 H2 (s1.trans s2) r2 h2
 | false=>rw [if_neg Bool.false_ne_true] at q ⊢;exact k _ _ T1 H1 s1 (.bl _) q
def Ar (ta:AE):AT:=λτ Q=>ta τ λx=>gy x Q
theorem RR {t:TE} (s:Fv X.K t ta):Ln X.K (aW t) (Ar ta):=λB T σ τ H Q AQ sr h k=>s B T σ τ H _ _ sr h λv x T1 H1 s1 r1 h1=>by
 obtain ⟨i,rfl,q⟩:=U6 h1
 exact ⟨i,r1.toB,k _ T1 H1 s1 q⟩
theorem aQ {op:CmpOp} {r:R2} {f:Ig} (ho:EC X (compareOp op) r/\B8 X.K r f) (ha:SE X a ta) (hb:SE X b tb) (hm:behindInMarks op b=false):Rg X (.Compare a [op] [b] pos) (Ar (AX f ta tb)):=
 let ⟨_,p,s⟩:=ha;let ⟨_,p',s'⟩:=hb;⟨_,MI ho.1 p p' hm,RR (RQ ho.2 s s')⟩
theorem A5 {e:Expr} (h:SE X e ta) (he:∀whole,isTrue e X.env whole=(do let v <-whole;standAt e.pos;holding [v] (truthy v)):=by intro _;rfl):Rg X e (Ar ta):=
 let ⟨_,p,s⟩:=h;⟨_,iJ p he,RR s⟩
def DG (t:AT):AT:=λτ Q=>t τ λc=>Q (!c)
def Gq (t u:AT):AT:=λτ Q=>t τ λc=>if c=true then u τ Q else Q false
def Gr (t u:AT):AT:=λτ Q=>t τ λc=>if c=true then Q true else u τ Q
theorem CO (ha:Rg X a tA):Rg X (.UnaryOp .Not a pos) (DG tA):=by
 obtain ⟨t,p,s⟩:=ha
 exact ⟨_,iI p,λB T σ τ H Q AQ sr h k=>s B T σ τ H _ _ sr h λv T1 H1 s1 h1=>k _ T1 H1 s1 h1⟩
theorem FB (ha:Rg X a tA):SW X (.BoolOp .And [a] pos) tA:=let ⟨_,p,s⟩:=ha;⟨_,dB p,s⟩
theorem FR (ha:Rg X a tA):SW X (.BoolOp .Or [a] pos) tA:=let ⟨_,p,s⟩:=ha;⟨_,iL p,s⟩
theorem HE {rest:List Expr} (ha:Rg X a tA) (hb:SW X (.BoolOp .And (b::rest) pos) tB'):SW X (.BoolOp .And (a::b::rest) pos) (Gq tA tB'):=by
 obtain ⟨t,p,s⟩:=ha
 obtain ⟨t',p',s'⟩:=hb
 refine ⟨_,iK p p',λB T σ τ H Q AQ sr h k=>s B T σ τ H _ _ sr h λi T1 H1 s1 q=> ?_⟩
 cases i with
 | true=>rw [if_pos rfl] at q ⊢;exact s' B T1 σ τ H1 _ _ (sr.stp s1) q λb T2 H2 s2 h2=>k b T2 H2 (s1.trans s2) h2
 | false=>rw [if_neg Bool.false_ne_true] at q ⊢;exact k _ T1 H1 s1 q
theorem Ej {rest:List Expr} (ha:Rg X a tA) (hb:SW X (.BoolOp .Or (b::rest) pos) tB'):SW X (.BoolOp .Or (a::b::rest) pos) (Gr tA tB'):=by
 obtain ⟨t,p,s⟩:=ha
 obtain ⟨t',p',s'⟩:=hb
 refine ⟨_,ko p p',λB T σ τ H Q AQ sr h k=>s B T σ τ H _ _ sr h λi T1 H1 s1 q=> ?_⟩
 cases i with
 | false=>rw [if_neg Bool.false_ne_true] at q ⊢;exact s' B T1 σ τ H1 _ _ (sr.stp s1) q λb T2 H2 s2 h2=>k b T2 H2 (s1.trans s2) h2
 | true=>rw [if_pos rfl] at q ⊢;exact k _ T1 H1 s1 q
theorem GY (h:SW X a tA):Rg X a tA:=let ⟨_,p,s⟩:=h;⟨_,p.pt,s⟩
def eB (t:AT) (ta tb:AE):AE:=λτ Q=>t τ λc=>if c=true then ta τ Q else tb τ Q
theorem Pf (hc:Rg X c tA) (ha:SE X a ta) (hb:SE X b tb):SE X (.IfExp c a b pos) (eB tA ta tb):=by
 obtain ⟨t,p,s⟩:=hc
 obtain ⟨t1,p1,s1'⟩:=ha
 obtain ⟨t2,p2,s2'⟩:=hb
 refine ⟨_,Zi p p1 p2,λB T σ τ H Q AQ sr h k=>s B T σ τ H _ _ sr h λi T1 H1 s1 q=> ?_⟩
 cases i with
 | true=>rw [if_pos rfl] at q ⊢;exact s1' B T1 σ τ H1 _ _ (sr.stp s1) q λw y T2 H2 s2 r2 h2=>k w y T2 H2 (s1.trans s2) r2 h2
 | false=>rw [if_neg Bool.false_ne_true] at q ⊢;exact s2' B T1 σ τ H1 _ _ (sr.stp s1) q λw y T2 H2 s2 r2 h2=>k w y T2 H2 (s1.trans s2) r2 h2
def AL:AA:=λ_ Q=>Q []
def AB (ta:AE) (r:AA):AA:=λτ Q=>ta τ λx=>r τ λxs=>Q (x::xs)
theorem Eg:SA X [] AL:=⟨_,FH,λB T σ τ H Q AQ sr h k=>k [] [] T H (.refl sr.tp) .nil h⟩
theorem Bf {e:Expr} {r:AA} (ha:SE X e ta) (hr:SA X es r) (hs:starEach (e::es) X.env=(false,eval e X.env)::starEach es X.env:=by rfl):SA X (e::es) (AB ta r):=by
 obtain ⟨t,p,s⟩:=ha
 obtain ⟨t',p',s'⟩:=hr
 refine ⟨_,CC p p' hs,λB T σ τ H Q AQ sr h k=>s B T σ τ H _ _ sr h λv x T1 H1 s1 r1 h1=> ?_⟩
 exact s' B T1 σ τ H1 _ _ (sr.stp s1) h1 λvs xs T2 H2 s2 r2 h2=>k _ _ T2 H2 (s1.trans s2) (.cons (r1.stp s2 (sr.stp s1).va) r2) h2
def BF (r:AA):AE:=λτ Q=>r τ λxs=>xs.length<=sizeLine/\Q (.tup xs)
theorem Ae {x1} {r:AA} (h:SA X es r):SE X (.Tuple es x1 pos) (BF r):=by
 obtain ⟨t,p,s⟩:=h
 refine ⟨_,Ng p,λB T σ τ H Q AQ sr h k=>s B T σ τ H _ _ sr h λvs xs T1 H1 s1 r1 h1=>⟨by rw [r1.length];exact h1.1,λq hq=> ?_⟩⟩
 have l:=DT.lay (o:= .tup vs) (sr.stp s1).tp hq
 exact k _ _ T1 _ (s1.trans l) (.tup (.inl Ah) (r1.stp l (sr.stp s1).va)) h1.2
def D2 (r:AA):AA:=λτ Q=>r τ λxs=>xs.length<=sizeLine/\Q xs
theorem Ql {K:PySem.W.Frag} {B:Cn} {T:Addr->Prop} {H:Hp} {σ:L2.St} {τ:BC} {p:Addr} {vs:List V} {xs:List PV} (sr:SR K B T H σ τ) (hq:H p=none) (r:A0 K T (mt B σ τ) H vs xs):
 DT T H T (upd H p (.lst vs))/\SR K (B.add p) T (upd H p (.lst vs)) σ τ/\¬T p/\A0 K T (mt (B.add p) σ τ) (upd H p (.lst vs)) vs xs:=by
 have l:=DT.lay (o:= .lst vs) sr.tp hq
 have nt:¬T p:=λz=>by obtain ⟨o,e,_⟩:=(sr.tp p z).mut;rw [hq] at e;cases e
 refine ⟨l,sr.add l hq Ah KW.lst nt,nt,r.mv ⟨sr.va,λb o t _ e=>l.keep b o t e,l.sub,λb n t=>t,λb n z=> ?_⟩⟩
 rcases z with (z|z)|z
 ·exact .inl z
 ·subst z;exact absurd hq n
 ·exact .inr z
theorem Bg {r:AA} (h:SA X es r):SF X (.List es pos) (D2 r):=by
 obtain ⟨t,p,s⟩:=h
 refine ⟨_,Zj p,λB T σ τ H Q AQ sr h k=>s B T σ τ H _ _ sr h λvs xs T1 H1 s1 r1 h1=>⟨by rw [r1.length];exact h1.1,λq hq=> ?_⟩⟩
 obtain ⟨l,sr2,nt,r2⟩:=Ql (sr.stp s1) hq r1
 exact k q vs xs T1 _ (s1.trans l) sr2 (s1.none hq) Ah nt r2 h1.2
def GW (r:AA):AE:=λτ Q=>r τ λxs=>Q (.lst xs)
theorem aG {t:TE} {r:AA} (s:Ye X.K t r):Fv X.K t (GW r):=λB T σ τ H Q AQ sr h k=>s B T σ τ H _ _ sr h λp vs xs T1 H1 s1 sr1 hn hp nt r1 h1=>by
 have ho:¬Cz σ τ p:=λo=>by obtain ⟨_,e,_⟩:=sr.ownH o;rw [hn] at e;cases e
 have hb:¬B.M p:=λo=>by obtain ⟨_,e,_⟩:=sr.bm p o;rw [hn] at e;cases e
 exact k _ _ T1 H1 s1 (.lst hp nt (λz=>z.elim hb ho) (r1.mv (.anti sr1.va λa m=>m.elim (λz=> .inl (.inl z)) .inr))) h1
theorem DM {r:AA} (h:SF X a r):SE X a (GW r):=let ⟨_,p,s⟩:=h;⟨_,p,aG s⟩
def BJ (K:PySem.W.Frag) (n:Nat) (F:AF):Sp:=λvs H Q _=>∃(T M:Addr->Prop) (xs:List PV) (AQ:PV->Prop),GZ T M H/\(∀a,M a->¬T a)/\A0 K T M H vs xs/\xs.length=n/\F xs AQ/\
 ∀v x T' H',DT T H T' H'->CB K T' M H' v x->AQ x->Q v H'
def AN (n:Nat) (F:AF) (r:AA):AE:=λτ Q=>r τ λxs=>xs.length=n/\F xs Q
theorem AK {x:Str} {p:Pos} {e:Expr} {k n:Nat} {ps:List Str} {F:AF} {r:AA} (D:Has X.prog X.w X.K X.mg X.base k x ps (BJ X.K n F)) (hr:Room k X.A) (hg:Gl X x) (ha:SA X (e::es) r)
 (hs:starEach (e::es) X.env=(false,eval e X.env)::starEach es X.env:=by rfl) (hpl:(backTo pos (starEach es X.env)).any (·.1)=false:=by rfl) (hd:(x==("__debug__" :Str))=false:=by decide):
 SE X (.Call (.Name x p) (e::es) [] pos) (AN n F r):=by
 obtain ⟨t,pa,s⟩:=ha
 refine ⟨_,iC D hr hg pa hs hpl hd,λB T σ τ H Q AQ sr h k=>s B T σ τ H _ _ sr h λvs xs T1 H1 s1 r1 h1=> ?_⟩
 rw [List.append_nil]
 exact ⟨T1,_,xs,AQ,(sr.stp s1).va,λa m=>(sr.stp s1).nt m,r1,h1.1,h1.2,λv x T2 H2 s2 r2 q=>k v x T2 H2 (s1.trans s2) r2 q⟩
def Fd (f:AF) (r:AA):AE:=λτ Q=>r τ λxs=>f xs Q
theorem aF {rr:List V->Hp->VK->Prop} {f:AF} {t:TA} {r:AA} (hr:Hl X.K rr f) (s:fZ X.K t r):Fv X.K (oI rr t) (Fd f r):=λB T σ τ H Q AQ sr h k=>s B T σ τ H _ _ sr h λvs xs T1 H1 s1 r1 h1=>
 hr T1 _ H1 vs xs Q AQ (sr.stp s1).va r1 h1 λw z T2 H2 s2 r2 q=>k w z T2 H2 (s1.trans s2) r2 q
theorem A3 {id:String} {x:Str} {p:Pos} {e:Expr} {rr:List V->Hp->VK->Prop} {f:AF} {r:AA} (hc:Cj X (.builtin id) rr/\Hl X.K rr f) (hg:Gl X x) (hm:X.mg x=none) (hv:bootBuiltins x=some (.builtin id)) (ha:SA X (e::es) r)
 (hn:x≠"__name__" :=by decide) (hdb:(x==("__debug__" :Str))=false:=by decide) (he:starEach (e::es) X.env=(false,eval e X.env)::starEach es X.env:=by rfl) (hpl:(backTo pos (starEach es X.env)).any (·.1)=false:=by rfl):
 SE X (.Call (.Name x p) (e::es) [] pos) (Fd f r):=by
 obtain ⟨t,pa,s⟩:=ha
 exact ⟨_,JY hc.1 hg hm hv pa hn hdb he hpl,aF hc.2 s⟩
theorem Bp {T:String} {x:Str} {p:Pos} {e:Expr} {rr:List V->Hp->VK->Prop} {f:AF} {r:AA} (hc:Cj X (.type T) rr/\Hl X.K rr f) (hg:Gl X x) (hm:X.mg x=none) (hv:bootBuiltins x=some (.type T)) (ha:SA X (e::es) r)
 (hn:x≠"__name__" :=by decide) (hdb:(x==("__debug__" :Str))=false:=by decide) (he:starEach (e::es) X.env=(false,eval e X.env)::starEach es X.env:=by rfl) (hpl:(backTo pos (starEach es X.env)).any (·.1)=false:=by rfl):
 SE X (.Call (.Name x p) (e::es) [] pos) (Fd f r):=by
 obtain ⟨t,pa,s⟩:=ha
 exact ⟨_,HM hc.1 hg hm hv pa hn hdb he hpl,aF hc.2 s⟩
end
end PL
end
section
namespace PL
open PySem PySem.Spec PyProof.Rows L2
section
variable {X:Cx}
theorem Cq {K:PySem.W.Frag} {T M:Addr->Prop} {H:Hp} {v:V} {xs:List PV} (r:CB K T M H v (.tup xs)):∃a vs,v= .ref a/\JD K H a vs/\A0 K T M H vs xs:=by
 cases r with
 | tup h r=>exact ⟨_,_,rfl,h.sq,r⟩
theorem aM {K:PySem.W.Frag} {T M:Addr->Prop} {H:Hp} {v:V} {xs:List PV} (r:CB K T M H v (.tup xs)):∃a vs,v= .ref a/\l0 K H a vs/\A0 K T M H vs xs:=by
 cases r with
 | tup h r=>exact ⟨_,_,rfl,h,r⟩
theorem Dq {K:PySem.W.Frag} {T M:Addr->Prop} {H:Hp} {v:V} {xs:List PV} (r:CB K T M H v (.lst xs)):∃a vs,v= .ref a/\H a=some (.lst vs)/\¬T a/\¬M a/\A0 K T M H vs xs:=by
 cases r with
 | lst h t m r=>exact ⟨_,_,rfl,h,t,m,r⟩
theorem Z9 {K:PySem.W.Frag} {T M:Addr->Prop} {H:Hp} {v:V} {ns:List Int} (r:CB K T M H v (.scr ns)):∃a,v= .ref a/\Fw K H a (ns.map V.int):=by
 cases r with
 | scr h=>
   rcases h with ⟨h,_,_⟩|h
   ·exact ⟨_,rfl, .inl h⟩
   ·exact ⟨_,rfl,h H⟩
def Fg:AF:=λxs Q=>match xs with | [.tup ys] =>Q (.int ys.length) | [.lst ys] =>Q (.int ys.length) | [.scr ns] =>Q (.int ns.length)|_=>False
def lB (K:PySem.W.Frag):List V->Hp->VK->Prop:=λxs H Q=>∃p ys,xs= [.ref p] /\(Fw K H p ys\/JD K H p ys)/\Q (.int ys.length) H
theorem D9:Cj X (.builtin "len") (lB X.K)/\Hl X.K (lB X.K) Fg:=by
 refine ⟨JH,λT M H us xs Q AQ va r h k=> ?_⟩
 unfold Fg at h
 split at h <;> first | exact h.elim|skip
 ·rename_i ys
  cases r with | cons r t=>cases t;obtain ⟨a,vs,rfl,hq,r⟩:=Cq r;refine ⟨a,vs,rfl, .inr hq, ?_⟩;rw [r.length];exact k _ _ T H (.refl va.tp) (.int _) h
 ·rename_i ys
  cases r with | cons r t=>cases t;obtain ⟨a,vs,rfl,hq,_,_,r⟩:=Dq r;refine ⟨a,vs,rfl, .inl (.inl (.inl hq)), ?_⟩;rw [r.length];exact k _ _ T H (.refl va.tp) (.int _) h
 ·rename_i ns
  cases r with | cons r t=>cases t;obtain ⟨a,rfl,hq⟩:=Z9 r;refine ⟨a,_,rfl, .inl hq, ?_⟩;rw [List.length_map];exact k _ _ T H (.refl va.tp) (.int _) h
def QQ:AF:=λxs Q=>match xs with | [.int i] =>Q (.int i.natAbs)|_=>False
theorem K6:Cj X (.builtin "abs") (λxs H Q=>∃i,xs= [.int i] /\Q (.int (if i<0 then -i else i)) H)/\Hl X.K (λxs H Q=>∃i,xs= [.int i] /\Q (.int (if i<0 then -i else i)) H) QQ:=by
 refine ⟨NC,λT M H us xs Q AQ va r h k=> ?_⟩
 unfold QQ at h
 split at h <;> first | exact h.elim|skip
 rename_i i
 cases r with
 | cons r t=>
   cases t
   cases r
   refine ⟨i,rfl, ?_⟩
   rw [show (if i<0 then -i else i)=(i.natAbs:Int) by split <;> omega]
   exact k _ _ T H (.refl va.tp) (.int _) h
def jp (g:Int->Int->Int):AF:=λxs Q=>match xs with | [.int i, .int j] =>Q (.int (g i j))|_=>False
theorem iY {g g':Int->Int->Int} (hg:∀i j,g i j=g' i j):Hl X.K (λxs H Q=>∃i j,xs= [.int i, .int j] /\Q (.int (g i j)) H) (jp g'):=by
 intro T M H us xs Q AQ va r h k
 unfold jp at h
 split at h <;> first | exact h.elim|skip
 rename_i i j
 cases r with
 | cons r t=>
   cases t with
   | cons r2 t=>
     cases t;cases r;cases r2
     refine ⟨i,j,rfl, ?_⟩
     rw [hg]
     exact k _ _ T H (.refl va.tp) (.int _) h
theorem iU (hc:X.calm=true):Cj X (.builtin "min") (λxs H Q=>∃i j,xs= [.int i, .int j] /\Q (.int (if j<i then j else i)) H)/\Hl X.K (λxs H Q=>∃i j,xs= [.int i, .int j] /\Q (.int (if j<i then j else i)) H) (jp min):=
 ⟨W3 hc,iY λi j=>by split <;> omega⟩
def Uc:AF:=λxs Q=>match xs with | [.int i] =>Q (.int i) | [.bl k] =>Q (.int (if k then 1 else 0))|_=>False
theorem RK:Cj X (.type "int") (λxs H Q=>(∃i,xs= [.int i] /\Q (.int i) H)\/∃k,xs= [.bl k] /\Q (.int (if k then 1 else 0)) H)/\Hl X.K (λxs H Q=>(∃i,xs= [.int i] /\Q (.int i) H)\/∃k,xs= [.bl k] /\Q (.int (if k then 1 else 0)) H) Uc:=by
 refine ⟨PB,λT M H us xs Q AQ va r h k=> ?_⟩
 unfold Uc at h
 split at h <;> first | exact h.elim|skip
 ·cases r with | cons r t=>cases t;cases r;exact .inl ⟨_,rfl,k _ _ T H (.refl va.tp) (.int _) h⟩
 ·cases r with | cons r t=>cases t;cases r;exact .inr ⟨_,rfl,k _ _ T H (.refl va.tp) (.int _) h⟩
def D7:AF:=λxs Q=>match xs with | [.tup ys] =>Q (.tup ys) | [.lst ys] =>Q (.tup ys)|_=>False
def Zv (K:PySem.W.Frag):List V->Hp->VK->Prop:=λxs H Q=>∃p ys,xs= [.ref p] /\((Fw K H p ys/\∀l,H l=none->Q (.ref l) (upd H l (.tup ys)))\/(JD K H p ys/\Q (.ref p) H))
theorem D4:Cj X (.type "tuple") (Zv X.K)/\Hl X.K (Zv X.K) D7:=by
 refine ⟨OU,λT M H us xs Q AQ va r h k=> ?_⟩
 unfold D7 at h
 split at h <;> first | exact h.elim|skip
 ·cases r with | cons r t=>cases t;obtain ⟨a,vs,rfl,hq,r'⟩:=aM r;exact ⟨a,vs,rfl, .inr ⟨hq.sq,k _ _ T H (.refl va.tp) (.tup hq r') h⟩⟩
 ·cases r with
  | cons r t=>
    cases t
    obtain ⟨a,vs,rfl,hq,_,_,r'⟩:=Dq r
    refine ⟨a,vs,rfl, .inl ⟨.inl (.inl hq),λl hl=> ?_⟩⟩
    have s:=DT.lay (o:= .tup vs) va.tp hl
    exact k _ _ T _ s (.tup (.inl Ah) (r'.stp s va)) h
def V3 (xs:List PV) (Q:List PV->Prop):Prop:=match xs with | [.tup ys] =>Q ys | [.lst ys] =>Q ys|_=>False
def Vi (r:AA):AA:=λτ Q=>r τ λxs=>V3 xs Q
theorem WW {x:Str} {p pos:Pos} {e:Expr} {es:List Expr} {r:AA} (hg:Gl X x) (hm:X.mg x=none) (hv:bootBuiltins x=some (.type "list")) (ha:SA X (e::es) r)
 (hn:x≠"__name__" :=by decide) (hdb:(x==("__debug__" :Str))=false:=by decide) (he:starEach (e::es) X.env=(false,eval e X.env)::starEach es X.env:=by rfl) (hpl:(backTo pos (starEach es X.env)).any (·.1)=false:=by rfl):
 SF X (.Call (.Name x p) (e::es) [] pos) (Vi r):=by
 obtain ⟨t,pa,s⟩:=ha
 refine ⟨_,HM QN hg hm hv pa hn hdb he hpl,λB T σ τ H Q AQ sr h k=>s B T σ τ H _ _ sr h λvs xs T1 H1 s1 r1 h1=> ?_⟩
 have go:∀(ws:List V) (ys:List PV),A0 X.K T1 (mt B σ τ) H1 ws ys->AQ ys->∀l,H1 l=none->Q (.ref l) (upd H1 l (.lst ws)):=λws ys rr q l hl=>by
  obtain ⟨l2,sr2,nt,r2⟩:=Ql (sr.stp s1) hl rr
  exact k l ws ys T1 _ (s1.trans l2) sr2 (s1.none hl) Ah nt r2 q
 unfold V3 at h1
 split at h1 <;> first | exact h1.elim|skip
 ·cases r1 with | cons r t=>cases t;obtain ⟨a,ws,rfl,hq,r'⟩:=Cq r;exact ⟨a,ws,rfl, .inr hq,go ws _ r' h1⟩
 ·cases r1 with | cons r t=>cases t;obtain ⟨a,ws,rfl,hq,_,_,r'⟩:=Dq r;exact ⟨a,ws,rfl, .inl (.inl (.inl hq)),go ws _ r' h1⟩
def kdOf:PV->Option Kd
 | .non=>some .non | .bl _=>some .bl | .int _=>some .int | .str _=>some .str | .tup _=>some .tup | .lst _=>some .lst | .tape=>none | .scr _=>none | .ty _=>none | .dct _=>none
def Sa:AF:=λxs Q=>match xs with | [x, .ty T] =>ZG T/\(match kdOf x with | some k=>Q (.bl (Qc k T))|none=>False)|_=>False
theorem Nq:Cj X (.builtin "isinstance") (iM X.K)/\Hl X.K (iM X.K) Sa:=by
 refine ⟨Ym,λT M H us xs Q AQ va r h k=> ?_⟩
 unfold Sa at h
 split at h <;> first | exact h.elim|skip
 rename_i x ty
 obtain ⟨ht,h⟩:=h
 cases r with
 | cons r t=>
   cases t with
   | cons r2 t=>
     cases t;cases r2
     cases r with
     | non=>exact ⟨_,_, .non,rfl,ht,rfl,k _ _ T H (.refl va.tp) (.bl _) h⟩
     | bl b=>exact ⟨_,_, .bl,rfl,ht,⟨_,rfl⟩,k _ _ T H (.refl va.tp) (.bl _) h⟩
     | int b=>exact ⟨_,_, .int,rfl,ht,⟨_,rfl⟩,k _ _ T H (.refl va.tp) (.bl _) h⟩
     | str b=>exact ⟨_,_, .str,rfl,ht,⟨_,rfl⟩,k _ _ T H (.refl va.tp) (.bl _) h⟩
     | ty b=>exact h.elim
     | tup hq _=>exact ⟨_,_, .tup,rfl,ht,⟨_,_,rfl,hq.sq⟩,k _ _ T H (.refl va.tp) (.bl _) h⟩
     | lst hq _ _ _=>exact ⟨_,_, .lst,rfl,ht,⟨_,_,rfl, .inl (.inl hq)⟩,k _ _ T H (.refl va.tp) (.bl _) h⟩
     | tape _=>exact h.elim
     | scr _=>exact h.elim
     | dct _ _ _=>exact h.elim
def WV:PV->PV->Option Bool
 | .non, .non=>some true | .non, .int _=>some false | .int _, .non=>some false | .non, .bl _=>some false | .bl _, .non=>some false | .non, .str _=>some false | .str _, .non=>some false
 | .int i, .int j=>some (decide (i=j)) | .bl i, .bl j=>some (decide (i=j)) | .str i, .str j=>some (decide (i=j))
 | .int _, .str _=>some false | .str _, .int _=>some false | .bl _, .str _=>some false | .str _, .bl _=>some false
 | _,_=>none
theorem Te {K:PySem.W.Frag} {T M:Addr->Prop} {H:Hp} {u v:V} {x y:PV} {b:Bool} (r:CB K T M H u x) (r2:CB K T M H v y) (e:WV x y=some b):dJ u v=true/\decide (u=v)=b:=by
 cases r <;> cases r2 <;> simp [WV] at e <;> subst e <;> simp [dJ]
def dj:PV->Option Bool
 | .non=>some false | .bl b=>some b | .int i=>some (i != 0) | .tup xs=>some (!xs.isEmpty) | .lst xs=>some (!xs.isEmpty)|_=>none
def fi (ta:AE):AT:=λτ Q=>ta τ λx=>match dj x with | some b=>Q b|none=>False
theorem JQ {K:PySem.W.Frag} {T M:Addr->Prop} {H:Hp} {vs:List V} {xs:List PV} (r:A0 K T M H vs xs):vs.isEmpty=xs.isEmpty:=by cases r <;> rfl
theorem ic {a:Expr} {ta:AE} (ha:SE X a ta) (he:∀whole,isTrue a X.env whole=(do let v <-whole;standAt a.pos;holding [v] (truthy v)):=by intro _;rfl):Rg X a (fi ta):=by
 obtain ⟨t,p,s⟩:=ha
 refine ⟨_,Zr p he,λB T σ τ H Q AQ sr h k=>s B T σ τ H _ _ sr h λv x T1 H1 s1 r1 h1=> ?_⟩
 cases e:dj x with
 | none=>rw [e] at h1;exact h1.elim
 | some b=>
   rw [e] at h1
   refine ⟨b, ?_,k b T1 H1 s1 h1⟩
   cases r1 <;> simp [dj] at e
   ·exact e
   ·exact e.symm
   ·exact e.symm
   ·rename_i hq rr;exact .inr (.inl ⟨_,hq.sq,by rw [JQ rr,e];simp⟩)
   ·rename_i hq _ _ rr;exact .inl ⟨_, .inl (.inl hq),by rw [JQ rr,e];simp⟩
end
end PL
end
section
namespace PL
open PySem PySem.Spec PyProof.Rows L2
structure Ga where
 nx:BC->Prop
 rt:PV->Prop
 bk:BC->Prop
 ct:BC->Prop
abbrev AS:=Ga->BC->Prop
structure FC (T:Addr->Prop) (H:Hp) (σ:L2.St) (τ:BC) (T':Addr->Prop) (H':Hp) (σ':L2.St) (τ':BC):Prop where
 keep:∀b o,¬T b->¬Cz σ τ b->H b=some o->H' b=some o
 sub:∀b,T b->T' b
 new:∀b,T' b->T b\/H b=none
 own:∀b,Cz σ' τ' b->Cz σ τ b\/H b=none
 some:∀b,H b≠none->H' b≠none
section
variable {K:PySem.W.Frag} {B:Cn} {T T' T1 T2:Addr->Prop} {H H' H1 H2:Hp} {σ σ' σ1 σ2:L2.St} {τ τ' τ1 τ2:BC}
theorem FC.refl:FC T H σ τ T H σ τ:=⟨λ_ _ _ _ e=>e,λ_ t=>t,λ_ t=> .inl t,λ_ o=> .inl o,λ_ h=>h⟩
theorem FC.trans (a:FC T H σ τ T1 H1 σ1 τ1) (b:FC T1 H1 σ1 τ1 T2 H2 σ2 τ2):FC T H σ τ T2 H2 σ2 τ2 where
 keep:=λc o t w e=>b.keep c o (λz=>(a.new c z).elim t λn=>by rw [n] at e;cases e) (λz=>(a.own c z).elim w λn=>by rw [n] at e;cases e) (a.keep c o t w e)
 sub:=λc t=>b.sub c (a.sub c t)
 new:=λc t=>(b.new c t).elim (λz=>a.new c z) λz=> .inr (by
  cases e:H c with
  | none=>rfl
  | some o=>exact absurd z (a.some c (by rw [e];exact λe=>nomatch e)))
 own:=λc t=>(b.own c t).elim (λz=>a.own c z) λz=> .inr (by
  cases e:H c with
  | none=>rfl
  | some o=>exact absurd z (a.some c (by rw [e];exact λe=>nomatch e)))
 some:=λc h=>b.some c (a.some c h)
theorem DT.prog (s:DT T H T' H'):FC T H σ τ T' H' σ τ:=⟨λb o t _ e=>s.keep b o t e,s.sub,s.new,λ_ o=> .inl o,λ_ h=>s.some h⟩
theorem FC.less (h:∀b,Cz σ' τ' b->Cz σ τ b):FC T H σ τ T H σ' τ':=⟨λ_ _ _ _ e=>e,λ_ t=>t,λ_ t=> .inl t,λb o=> .inl (h b o),λ_ h=>h⟩
structure ER (K:PySem.W.Frag) (B:Cn) (T:Addr->Prop) (H:Hp) (σ:L2.St) (τ:BC) (D:Mu) (AD:Ga):Prop where
 nx:∀T' H' σ' τ',FC T H σ τ T' H' σ' τ'->SR K B T' H' σ' τ'->AD.nx τ'->D.nx σ' H'
 bk:∀T' H' σ' τ',FC T H σ τ T' H' σ' τ'->SR K B T' H' σ' τ'->AD.bk τ'->D.bk σ' H'
 ct:∀T' H' σ' τ',FC T H σ τ T' H' σ' τ'->SR K B T' H' σ' τ'->AD.ct τ'->D.ct σ' H'
 rt:∀v x T' H',DT B.T B.H T' H'->CB K T' B.M H' v x->AD.rt x->D.rt v H'
theorem ER.shift {D:Mu} {AD:Ga} (e:ER K B T H σ τ D AD) (p:FC T H σ τ T1 H1 σ1 τ1):ER K B T1 H1 σ1 τ1 D AD:=
 ⟨λ_ _ _ _ q=>e.nx _ _ _ _ (p.trans q),λ_ _ _ _ q=>e.bk _ _ _ _ (p.trans q),λ_ _ _ _ q=>e.ct _ _ _ _ (p.trans q),e.rt⟩
end
def Yf (K:PySem.W.Frag) (t:TS) (a:AS):Prop:=∀(B:Cn) (T:Addr->Prop) (σ:L2.St) (τ:BC) (H:Hp) (D:Mu) (AD:Ga),SR K B T H σ τ->a AD τ->ER K B T H σ τ D AD->t D σ H
def SS (X:Cx) (st:Stmt) (a:AS):Prop:=∃t,PS X st t/\Yf X.K t a
def bJ (X:Cx) (st:List Stmt) (a:AS):Prop:=∃t,Vh X st t/\Yf X.K t a
theorem Ba {α:Type} {l:List α} {i j:Nat} {x y:α} (h:(l.set i x)[j]? =some y):(j=i/\y=x/\i<l.length)\/(j≠i/\l[j]? =some y):=by
 by_cases e:j=i
 ·subst e
  rw [List.getElem?_set] at h
  simp at h
  obtain ⟨h1,h2⟩:=h
  exact .inl ⟨rfl,h2.symm,h1⟩
 ·rw [List.getElem?_set_ne (λz=>e z.symm)] at h
  exact .inr ⟨e,h⟩
section
variable {K:PySem.W.Frag} {B:Cn} {T:Addr->Prop} {H:Hp} {σ:L2.St} {τ:BC}
theorem DJ {i:Nat} {v:V} {x:PV} {b:Addr} (h:Cz (σ.set i (some v)) (τ.set i (some (.val x))) b):Cz σ τ b:=by
 obtain ⟨j,xs,h1,h2⟩:=h
 rcases Ba h1 with ⟨_,e,_⟩|⟨n,bw⟩
 ·cases e
 ·rw [List.getElem?_set_ne (λz=>n z.symm)] at h2
  exact ⟨j,xs,bw,h2⟩
theorem SR.set {i:Nat} {v:V} {x:PV} (s:SR K B T H σ τ) (r:CB K T (mt B σ τ) H v x):SR K B T H (σ.set i (some v)) (τ.set i (some (.val x))):=by
 have mv:Mv K T (mt B σ τ) H T (mt B (σ.set i (some v)) (τ.set i (some (.val x)))) H:= .anti s.va λa m=>m.elim .inl λz=> .inr (DJ z)
 refine ⟨by simp [s.len],λj y e=> ?_,λj ys e=> ?_,λj k ys zs p e1 e2 e3 e4=> ?_,s.tp,s.bm,s.bt,s.st⟩
 ·rcases Ba e with ⟨rfl,e',hl⟩|⟨n,e'⟩
  ·cases e'
   refine ⟨v,by rw [List.getElem?_set];simp [s.len,hl],r.mv mv⟩
  ·obtain ⟨w,hw,rw'⟩:=s.val j y e'
   exact ⟨w,by rw [List.getElem?_set_ne (λz=>n z.symm)];exact hw,rw'.mv mv⟩
 ·rcases Ba e with ⟨_,e',_⟩|⟨n,e'⟩
  ·cases e'
  ·obtain ⟨p,vs,h1,h2,h3,h4⟩:=s.own j ys e'
   exact ⟨p,vs,by rw [List.getElem?_set_ne (λz=>n z.symm)];exact h1,h2,h3.mv mv,h4⟩
 ·rcases Ba e1 with ⟨_,e',_⟩|⟨n,e1'⟩
  ·cases e'
  ·rcases Ba e2 with ⟨_,e',_⟩|⟨n2,e2'⟩
   ·cases e'
   ·rw [List.getElem?_set_ne (λz=>n z.symm)] at e3
    rw [List.getElem?_set_ne (λz=>n2 z.symm)] at e4
    exact s.dist j k ys zs p e1' e2' e3 e4
theorem LS {i:Nat} {p:Addr} {xs:List PV} {b:Addr} (h:Cz (σ.set i (some (.ref p))) (τ.set i (some (.own xs))) b):Cz σ τ b\/b=p:=by
 obtain ⟨j,ys,h1,h2⟩:=h
 rcases Ba h1 with ⟨rfl,e,_⟩|⟨n,bw⟩
 ·rcases Ba h2 with ⟨_,e',_⟩|⟨n,_⟩
  ·cases e';exact .inr rfl
  ·exact absurd rfl n
 ·rw [List.getElem?_set_ne (λz=>n z.symm)] at h2
  exact .inl ⟨j,ys,bw,h2⟩
theorem SR.take {i:Nat} {p:Addr} {vs:List V} {xs:List PV} (s:SR K (B.add p) T H σ τ) (hp:H p=some (.lst vs)) (nt:¬T p) (no:¬Cz σ τ p) (nb:¬B.M p) (b0:B.H p=none) (r:A0 K T (mt (B.add p) σ τ) H vs xs):
 SR K B T H (σ.set i (some (.ref p))) (τ.set i (some (.own xs))):=by
 have mv:Mv K T (mt (B.add p) σ τ) H T (mt B (σ.set i (some (.ref p))) (τ.set i (some (.own xs)))) H:= .anti s.va λa m=>by
  rcases m with m|m
  ·exact .inl (.inl m)
  ·rcases LS m with z|z
   ·exact .inr z
   ·exact .inl (.inr z)
 refine ⟨by simp [s.len],λj y e=> ?_,λj ys e=> ?_,λj k ys zs q e1 e2 e3 e4=> ?_,s.tp,λa m=>s.bm a (.inl m),λa m=>s.bt a (.inl m),s.st⟩
 ·rcases Ba e with ⟨_,e',_⟩|⟨n,e'⟩
  ·cases e'
  ·obtain ⟨w,hw,rw'⟩:=s.val j y e'
   exact ⟨w,by rw [List.getElem?_set_ne (λz=>n z.symm)];exact hw,rw'.mv mv⟩
 ·rcases Ba e with ⟨rfl,e',hl⟩|⟨n,e'⟩
  ·cases e'
   exact ⟨p,vs,by rw [List.getElem?_set];simp [s.len,hl],hp,r.mv mv,b0,nt,nb⟩
  ·obtain ⟨q,ws,h1,h2,h3,h4,h5,h6⟩:=s.own j ys e'
   exact ⟨q,ws,by rw [List.getElem?_set_ne (λz=>n z.symm)];exact h1,h2,h3.mv mv,h4,h5,λz=>h6 (.inl z)⟩
 ·rcases Ba e1 with ⟨a1,_,_⟩|⟨n,e1'⟩
  ·rcases Ba e2 with ⟨a2,_,_⟩|⟨n2,e2'⟩
   ·rw [a1,a2]
   ·subst a1
    rw [List.getElem?_set_ne (λz=>n2 z.symm)] at e4
    rcases Ba e3 with ⟨_,e',_⟩|⟨n,_⟩
    ·cases e';exact absurd ⟨k,zs,e2',e4⟩ no
    ·exact absurd rfl n
  ·rw [List.getElem?_set_ne (λz=>n z.symm)] at e3
   rcases Ba e2 with ⟨a2,_,_⟩|⟨n2,e2'⟩
   ·subst a2
    rcases Ba e4 with ⟨_,e',_⟩|⟨n,_⟩
    ·cases e';exact absurd ⟨j,ys,e1',e3⟩ no
    ·exact absurd rfl n
   ·rw [List.getElem?_set_ne (λz=>n2 z.symm)] at e4
    exact s.dist j k ys zs q e1' e2' e3 e4
theorem SR.write {i:Nat} {p:Addr} {ws vs:List V} {xs ys:List PV} (s:SR K B T H σ τ) (ht:τ[i]? =some (some (.own xs))) (hs:σ[i]? =some (some (.ref p))) (hp:H p=some (.lst ws)) (r:A0 K T (mt B σ τ) H vs ys):
 SR K B T (upd H p (.lst vs)) σ (τ.set i (some (.own ys)))/\FC T H σ τ T (upd H p (.lst vs)) σ (τ.set i (some (.own ys))):=by
 obtain ⟨p',ws',e1,e2,r0,b0,nt,nb⟩:=s.own i xs ht
 rw [hs] at e1;cases e1
 have cH:σ.set i (some (.ref p))=σ:=by
  apply List.ext_getElem?
  intro k
  by_cases hk:i=k
  ·subst hk
   rw [List.getElem?_set,hs]
   simp [(List.getElem?_eq_some_iff.mp hs).1]
  ·rw [List.getElem?_set_ne hk]
 have owp:Cz σ τ p:=⟨i,xs,ht,hs⟩
 have ow:∀b,Cz σ (τ.set i (some (.own ys))) b->Cz σ τ b:=λb h=>by
  obtain ⟨j,zs,h1,h2⟩:=h
  rcases Ba h1 with ⟨rfl,e,_⟩|⟨n,bw⟩
  ·exact ⟨j,xs,ht,h2⟩
  ·exact ⟨j,zs,bw,h2⟩
 have mv:Mv K T (mt B σ τ) H T (mt B σ (τ.set i (some (.own ys)))) (upd H p (.lst vs)):=⟨s.va,λb o _ m e=>by
  rw [Af (λz=>m (by subst z;exact .inr owp))];exact e,λ_ t=>t,λ_ _ t=>t,λb _ m=>m.elim .inl λz=> .inr (ow b z)⟩
 refine ⟨⟨by simp [s.len],λj y e=> ?_,λj zs e=> ?_,λj k zs us q h1 h2 h3 h4=> ?_,λa t=> ?_,λa m=> ?_,s.bt, ?_⟩,⟨λb o t w e=>by rw [Af (λz=>w (by subst z;exact owp))];exact e,λ_ t=>t,λ_ t=> .inl t,λb o=> .inl (ow b o),λb h=> ?_⟩⟩
 ·rcases Ba e with ⟨_,e',_⟩|⟨n,e'⟩
  ·cases e'
  ·obtain ⟨v,h,rr⟩:=s.val j y e'
   exact ⟨v,h,rr.mv mv⟩
 ·rcases Ba e with ⟨rfl,e',_⟩|⟨n,e'⟩
  ·cases e'
   exact ⟨p,vs,hs,Ah,r.mv mv,b0,nt,nb⟩
  ·obtain ⟨q,us,h1,h2,h3,h4⟩:=s.own j zs e'
   have hq:q≠p:=λz=>by subst z;exact n (s.dist j i zs xs q e' ht h1 hs)
   exact ⟨q,us,h1,by rw [Af hq];exact h2,h3.mv mv,h4⟩
 ·rcases Ba h1 with ⟨rfl,_,_⟩|⟨n,bw⟩
  ·rcases Ba h2 with ⟨rfl,_,_⟩|⟨n2,l8⟩
   ·rfl
   ·exact s.dist _ k xs us q ht l8 h3 h4
  ·rcases Ba h2 with ⟨rfl,_,_⟩|⟨n2,l8⟩
   ·exact s.dist j _ zs xs q bw ht h3 h4
   ·exact s.dist j k zs us q bw l8 h3 h4
 ·obtain ⟨d,x,e,z⟩:=s.tp a t
  exact ⟨d,x,by rw [Af (λw=>by subst w;exact nt t)];exact e,z⟩
 ·obtain ⟨o,e,z⟩:=s.bm a m
  exact ⟨o,by rw [Af (λw=>by subst w;exact nb m)];exact e,z⟩
 ·refine ⟨λb o t e=> ?_,s.st.sub,s.st.new,λa t=> ?_⟩
  ·rw [Af (λw=>by subst w;rw [b0] at e;cases e)];exact s.st.keep b o t e
  ·obtain ⟨d,x,e,z⟩:=s.tp a t
   exact ⟨d,x,by rw [Af (λw=>by subst w;exact nt t)];exact e,z⟩
 ·by_cases z:b=p
  ·subst z;rw [Ah];exact λe=>nomatch e
  ·rw [Af z];exact h
end
section
variable {X:Cx} {st:Stmt} {rest:List Stmt} {e:Expr} {pos:Pos} {a b:AS} {ta:AE}
def Wz (ta:AE):AE:=λτ Q=>ta (frz τ) λx=>ZW x=true/\Q x
theorem VL (h:SE X e ta):SE X e (Wz ta):=by
 obtain ⟨t,p,s⟩:=h
 refine ⟨t,p,λB T σ τ H Q AQ sr h k=>s B T σ (frz τ) H _ _ sr.frz h λv x T1 H1 s1 r1 h1=> ?_⟩
 exact k v x T1 H1 s1 (r1.free h1.1) h1.2
def SH (tt:AT):AT:=λτ Q=>tt (frz τ) Q
theorem aP {tt:AT} (h:Rg X e tt):Rg X e (SH tt):=by
 obtain ⟨t,p,s⟩:=h
 exact ⟨t,p,λB T σ τ H Q AQ sr h k=>s B T σ (frz τ) H _ _ sr.frz h λb T1 H1 s1 h1=>k b T1 H1 s1 h1⟩
def BB:AS:=λD τ=>D.nx τ
def Ab (a b:AS):AS:=λD τ=>a {D with nx:=b D} τ
theorem Au:bJ X [] BB:=⟨_,MH,λB T σ τ H D AD sr h er=>er.nx T H σ τ .refl sr h⟩
theorem AM (h1:SS X st a) (h2:bJ X rest b):bJ X (st::rest) (Ab a b):=by
 obtain ⟨t,p,s⟩:=h1
 obtain ⟨t',p',s'⟩:=h2
 exact ⟨_,Bu p p',λB T σ τ H D AD sr h er=>s B T σ τ H _ _ sr h ⟨λT' H' σ' τ' q sr' h'=>s' B T' σ' τ' H' D AD sr' h' (er.shift q),er.bk,er.ct,er.rt⟩⟩
theorem AR (h1:SS X st a):bJ X [st] a:=let ⟨_,p,s⟩:=h1;⟨_,Ew p,s⟩
def Ao (ta:AE):AS:=λD τ=>ta (frz τ) D.rt
theorem AY (h:SE X e ta):SS X (.Return (some e) pos) (Ao ta):=by
 obtain ⟨t,p,s⟩:=h
 refine ⟨_,Ni p,λB T σ τ H D AD sr h er=>s B T σ (frz τ) H _ _ sr.frz h λv x T1 H1 s1 r1 h1=> ?_⟩
 exact er.rt v x T1 H1 (sr.st.trans s1) (r1.mv (.anti (sr.frz.stp s1).va λa m=> .inl m)) h1
def Bj (c:AT) (a b:AS):AS:=λD τ=>c τ λk=>if k=true then a D τ else b D τ
theorem A7 {c:Expr} {x y:List Stmt} {tc:AT} (hc:Rg X c tc) (ha:bJ X x a) (hb:bJ X y b):SS X (.If c x y pos) (Bj tc a b):=by
 obtain ⟨t,p,s⟩:=hc
 obtain ⟨t1,p1,s1'⟩:=ha
 obtain ⟨t2,p2,s2'⟩:=hb
 refine ⟨_,WM p p1 p2,λB T σ τ H D AD sr h er=>s B T σ τ H _ _ sr h λk T1 H1 s1 h1=> ?_⟩
 cases k with
 | true=>rw [if_pos rfl] at h1 ⊢;exact s1' B T1 σ τ H1 D AD (sr.stp s1) h1 (er.shift s1.prog)
 | false=>rw [if_neg Bool.false_ne_true] at h1 ⊢;exact s2' B T1 σ τ H1 D AD (sr.stp s1) h1 (er.shift s1.prog)
abbrev AG:=PV->BC->(BC->Prop)->Prop
abbrev T8:=List PV->BC->(BC->Prop)->Prop
def JC (K:PySem.W.Frag) (g:TG) (ag:AG):Prop:=∀(B:Cn) (T:Addr->Prop) (σ:L2.St) (τ:BC) (H:Hp) (v:V) (x:PV) (Q:L2.St->Hp->Prop) (AQ:BC->Prop),SR K B T H σ τ->CB K T (mt B σ τ) H v x->ag x τ AQ->
 (∀σ' τ',SR K B T H σ' τ'->(∀b,Cz σ' τ' b->Cz σ τ b)->AQ τ'->Q σ' H)->g v σ H Q
def O4 (K:PySem.W.Frag) (g:UI) (ag:T8):Prop:=∀(B:Cn) (T:Addr->Prop) (σ:L2.St) (τ:BC) (H:Hp) (vs:List V) (xs:List PV) (Q:L2.St->Hp->Prop) (AQ:BC->Prop),SR K B T H σ τ->A0 K T (mt B σ τ) H vs xs->ag xs τ AQ->
 (∀σ' τ',SR K B T H σ' τ'->(∀b,Cz σ' τ' b->Cz σ τ b)->AQ τ'->Q σ' H)->g vs σ H Q
def SG (X:Cx) (tg:Expr) (ag:AG):Prop:=∃g,PG X tg g/\JC X.K g ag
def lw (X:Cx) (tg:List Expr) (ag:T8):Prop:=∃g,i5 X tg g/\O4 X.K g ag
def Aw (i:Nat):AG:=λx τ Q=>Q (τ.set i (some (.val x)))
theorem RP {K:PySem.W.Frag} {i:Nat}:JC K (Cy i) (Aw i):=λB T σ τ H v x Q AQ sr r h k=>k _ _ (sr.set r) (λb o=>DJ o) h
theorem HX {i:Nat} {x:Str} (hN:X.N.Nodup) (hi:X.N[i]? =some x) (hx:Loc X.env.scope x) (hf:X.fn x=true\/X.env.scope.names.lookup x=some .local:=by first | exact .inl rfl|exact .inr rfl|assumption):SG X (.Name x pos) (Aw i):=
 ⟨_,JZ hN hi hx hf,RP⟩
def CS:T8:=λxs τ Q=>match xs with | [] =>Q τ|_=>False
def Ak (g:AG) (r:T8):T8:=λxs τ Q=>match xs with | x::t=>g x τ λτ'=>r t τ' Q | [] =>False
theorem Ti {K:PySem.W.Frag}:O4 K Sc CS:=λB T σ τ H vs xs Q AQ sr r h k=>by
 cases r with
 | nil=>exact ⟨rfl,k σ τ sr (λ_ o=>o) h⟩
 | cons _ _=>exact h.elim
theorem Ph {K:PySem.W.Frag} {g:TG} {gs:UI} {ag:AG} {ags:T8} (h1:JC K g ag) (h2:O4 K gs ags):O4 K (Es g gs) (Ak ag ags):=λB T σ τ H vs xs Q AQ sr r h k=>by
 cases r with
 | nil=>exact h.elim
 | cons r t=>
   refine ⟨_,_,rfl,h1 B T σ τ H _ _ _ _ sr r h λσ1 τ1 sr1 o1 q1=> ?_⟩
   exact h2 B T σ1 τ1 H _ _ Q AQ sr1 (t.mv (.anti sr.va λa m=>m.elim .inl λz=> .inr (o1 a z))) q1 λσ2 τ2 sr2 o2 q2=>k σ2 τ2 sr2 (λb o=>o1 b (o2 b o)) q2
theorem Ci:lw X [] CS:=⟨_,Q7,Ti⟩
theorem Am {es:List Expr} {ag:AG} {ags:T8} (h1:SG X e ag) (h2:lw X es ags) (hs:(assignEach (e::es) X.env).map (·.2)=assign e X.env::(assignEach es X.env).map (·.2):=by rfl):lw X (e::es) (Ak ag ags):=
 let ⟨_,p,s⟩:=h1;let ⟨_,p',s'⟩:=h2;⟨_,G1 p p' hs,Ph s s'⟩
def Ay (ta:AE) (g:AG):AS:=λD τ=>ta τ λx=>g x τ D.nx
theorem RN {K:PySem.W.Frag} {t:TE} {g:TG} {ag:AG} (s:Fv K t ta) (s':JC K g ag):Yf K (To t g) (Ay ta ag):=λB T σ τ H D AD sr h er=>s B T σ τ H _ _ sr h λv x T1 H1 s1 r1 h1=>
 s' B T1 σ τ H1 v x _ _ (sr.stp s1) r1 h1 λσ2 τ2 sr2 o2 q2=>er.nx T1 H1 σ2 τ2 (s1.prog.trans (.less o2)) sr2 q2
theorem RY {tg:Expr} {ag:AG} (he:SE X e ta) (hg:SG X tg ag) (hs:swapsWithSole [tg] e pos.line X.env=pure false:=by rfl) (hw:swappedStores [tg] e X.env=pure none:=by rfl)
 (h1:(assignEach [tg] X.env).map (·.2)= [assign tg X.env] :=by rfl):SS X (.Assign [tg] e pos) (Ay ta ag):=
 let ⟨_,p,s⟩:=he;let ⟨_,p',s'⟩:=hg;⟨_,Q8 p p' hs hw h1,RN s s'⟩
theorem HC {i:Nat} {x:Str} {pos':Pos} (hN:X.N.Nodup) (hi:X.N[i]? =some x) (hx:Loc X.env.scope x) (he:SE X e ta) (hs:swapsWith e (some (.Name x pos')) pos.line X.env=pure false:=by rfl) (hf:X.fn x=true\/X.env.scope.names.lookup x=some .local:=by first | exact .inl rfl|exact .inr rfl|assumption):
 SS X (.Assign [.Name x pos'] e pos) (Ay ta (Aw i)):=let ⟨_,p,s⟩:=he;⟨_,FJ hN hi hx p hs hf,RN s RP⟩
def Kb (r:AA) (i:Nat):AS:=λD τ=>r τ λxs=>D.nx (τ.set i (some (.own xs)))
theorem dQ {K:PySem.W.Frag} {t:TE} {r:AA} {i:Nat} (s:Ye K t r):Yf K (To t (Cy i)) (Kb r i):=λB T σ τ H D AD sr h er=>s B T σ τ H _ _ sr h λp vs xs T1 H1 s1 sr1 hn hp nt r1 h1=>by
 have no:¬Cz σ τ p:=λo=>by obtain ⟨_,e,_⟩:=sr.ownH o;rw [hn] at e;cases e
 have nb:¬B.M p:=λo=>by obtain ⟨_,e,_⟩:=sr.bm p o;rw [hn] at e;cases e
 refine er.nx T1 H1 _ _ ⟨λb o t _ e=>s1.keep b o t e,s1.sub,s1.new,λb o=> ?_,λb h=>s1.some h⟩ (sr1.take hp nt no nb (sr.st.none hn) r1) h1
 rcases LS o with z|z
 ·exact .inl z
 ·subst z;exact .inr hn
theorem FO {i:Nat} {x:Str} {pos':Pos} {r:AA} (hN:X.N.Nodup) (hi:X.N[i]? =some x) (hx:Loc X.env.scope x) (he:SF X e r) (hs:swapsWith e (some (.Name x pos')) pos.line X.env=pure false:=by rfl) (hf:X.fn x=true\/X.env.scope.names.lookup x=some .local:=by first | exact .inl rfl|exact .inr rfl|assumption):
 SS X (.Assign [.Name x pos'] e pos) (Kb r i):=let ⟨_,p,s⟩:=he;⟨_,FJ hN hi hx p hs hf,dQ s⟩
def OS (i j:Nat) (r:AA):AS:=λD τ=>r τ λxs=>match xs with | [x,y] =>D.nx ((τ.set i (some (.val x))).set j (some (.val y)))|_=>False
theorem K9 {i j:Nat} {x y:Str} {c d:Expr} {r:AA} {px py pt:Pos} {kt k2 pt2} (hc:X.calm=true) (hN:X.N.Nodup) (hi:X.N[i]? =some x) (hj:X.N[j]? =some y) (nO:i≠j)
 (hx:X.env.scope.names.lookup x=some .local) (hy:X.env.scope.names.lookup y=some .local) (ha:SA X [c,d] r)
 (hw:swappedStores [.Tuple [.Name x px, .Name y py] kt pt] (.Tuple [c,d] k2 pt2) X.env=pure (some [x,y]))
 (hs:swapsWithSole [.Tuple [.Name x px, .Name y py] kt pt] (.Tuple [c,d] k2 pt2) pos.line X.env=pure false:=by rfl):
 SS X (.Assign [.Tuple [.Name x px, .Name y py] kt pt] (.Tuple [c,d] k2 pt2) pos) (OS i j r):=by
 obtain ⟨t,p,s⟩:=ha
 refine ⟨_,iG hc hN hi hj nO hx hy p hw hs,λB T σ τ H D AD sr h er=>s B T σ τ H _ _ sr h λvs xs T1 H1 s1 r1 h1=> ?_⟩
 cases r1 with
 | nil=>exact h1.elim
 | cons ra ta=>
   cases ta with
   | nil=>exact h1.elim
   | cons rb tb=>
     cases tb with
     | cons _ _=>exact h1.elim
     | nil=>
       have sr1:=sr.stp s1
       refine ⟨_,_,rfl,er.nx T1 H1 _ _ ?_ ((sr1.set (i:=i) ra).set (i:=j) (rb.mv (.anti sr1.va λa m=>m.elim .inl λz=> .inr (DJ z)))) h1⟩
       exact s1.prog.trans (.less λb o=>DJ (DJ o))
def UJ (i:Nat) (f:Ig) (ta:AE):AS:=λD τ=>match Ri τ i with | some (.val x)=>ta τ λy=>f x y λz=>D.nx (τ.set i (some (.val z)))|_=>False
theorem aN {i:Nat} {x:Str} {op:Operator} {ti:jd} {f:Ig} {pos':Pos} (hN:X.N.Nodup) (hi:X.N[i]? =some x) (hx:Loc X.env.scope x) (he:SE X e ta) (ho:i6 X op ti/\B8 X.K ti f) (hf:X.fn x=true\/X.env.scope.names.lookup x=some .local:=by first | exact .inl rfl|exact .inr rfl|assumption):
 SS X (.AugAssign (.Name x pos') op e pos) (UJ i f ta):=by
 obtain ⟨t,p,s⟩:=he
 refine ⟨_,iF hN hi hx p ho.1 hf,λB T σ τ H D AD sr h er=> ?_⟩
 unfold UJ at h
 split at h <;> first | exact h.elim|skip
 rename_i y ey
 obtain ⟨v,ev,rv⟩:=sr.val i y (NV ey)
 refine ⟨v,ev,s B T σ τ H _ _ sr h λw z T1 H1 s1 r1 h1=> ?_⟩
 refine ho.2 T1 _ H1 v w y z _ _ (sr.stp s1).va (rv.stp s1 sr.va) r1 h1 λu q T2 H2 s2 r2 h2=> ?_
 exact er.nx T2 H2 _ _ ((s1.trans s2).prog.trans (.less λb o=>DJ o)) (((sr.stp s1).stp s2).set r2) h2
theorem iW:i6 X .Add (nw λi j=>i+j)/\B8 X.K (nw λi j=>i+j) jm:=⟨gW,λT M H u v x y Q AQ va ru rv h k=>by
 obtain ⟨i,j,rfl,rfl,q⟩:=MG h
 exact ⟨i,j,ru.toI,rv.toI,k _ _ T H (.refl va.tp) (.int _) q⟩⟩
def M5 (i:Nat) (τ:BC) (R:List PV->Prop):Prop:=match Ri τ i with | some (.own xs)=>R xs|_=>False
theorem Vj {i:Nat} {τ:BC} {R:List PV->Prop} (h:M5 i τ R):∃xs,τ[i]? =some (some (.own xs))/\R xs:=by
 unfold M5 at h
 cases e:Ri τ i with
 | none=>rw [e] at h;exact h.elim
 | some z=>
   rw [e] at h
   cases z with
   | val x=>exact h.elim
   | own xs=>exact ⟨xs,NV e,h⟩
abbrev fX:=List PV->List PV->(List PV->Prop)->Prop
def bK (K:PySem.W.Frag) (r:V->List V->Hp->VK->Prop) (f:fX):Prop:=∀(T M:Addr->Prop) (H:Hp) (l:Addr) (ws vs:List V) (xs ys:List PV) (Q:VK) (AQ:List PV->Prop),H l=some (.lst ws)->A0 K T M H ws xs->A0 K T M H vs ys->f xs ys AQ->
 (∀ws' xs',A0 K T M H ws' xs'->AQ xs'->Q .non (upd H l (.lst ws')))->r (.ref l) vs H Q
def EA (i:Nat) (f:fX) (r:AA):AS:=λD τ=>M5 i τ λxs=>r τ λys=>f xs ys λzs=>D.nx (τ.set i (some (.own zs)))
theorem aI {K:PySem.W.Frag} {i:Nat} {rr:V->List V->Hp->VK->Prop} {f:fX} {t:TA} {r:AA} (hm:bK K rr f) (s:fZ K t r):Yf K (fF (qd K "list" rr (Fk i) t)) (EA i f r):=λB T σ τ H D AD sr h er=>by
 obtain ⟨xs,e,h⟩:=Vj h
 obtain ⟨p,vs,e1,hp,r1,b0,nt,nb⟩:=sr.own i xs e
 refine ⟨.ref p,e1, .inl ⟨rfl,vs, .inl (.inl hp)⟩,s B T σ τ H _ _ sr h λus ys T1 H1 s1 r2 h2=> ?_⟩
 have sr1:=sr.stp s1
 refine hm T1 (mt B σ τ) H1 p vs us xs ys _ _ (s1.keep _ _ nt hp) (r1.stp s1 sr.va) r2 h2 λws' zs r3 h3=> ?_
 obtain ⟨sr3,pr3⟩:=sr1.write (i:=i) (xs:=xs) e e1 (s1.keep _ _ nt hp) r3
 exact er.nx T1 _ _ _ (s1.prog.trans pr3) sr3 h3
theorem C3 {i:Nat} {x name:Str} {es:List Expr} {id:String} {rr:V->List V->Hp->VK->Prop} {f:fX} {r:AA} {p apos cpos:Pos} (slot:Slot "list" name id) (nj:typeOf (.builtin id)=pure (.type "method_descriptor")) (hm:jY X id rr/\bK X.K rr f) (ha:SA X (e::es) r)
 (hN:X.N[i]? =some x:=by rfl) (hv:fg X.env.scope x:=by first | exact Or.inl rfl|exact Or.inr (Or.inl rfl)|exact Or.inr (Or.inr rfl)) (hd:(x==("__debug__" :Str))=false:=by decide) (MB:(x==("__classdict__" :Str))=false:=by decide)
 (ZA:attributeBase (.Name x p) name X.env (eval (.Name x p) X.env)=eval (.Name x p) X.env:=by rfl)
 (gL:((backTo cpos (starEach (e::es) X.env)).all (λx=> !x.1)&&(backToKw cpos (keywordEach [] X.env)).all (λx=>x.1.isSome)
   && decide ((e::es).length+([] :List Keyword).length+(if ([] :List Keyword).isEmpty then 0 else 1)<30))=true:=by rfl)
 (V8:(apos.endLine==cpos.line)=true:=by rfl) (hs:starEach (e::es) X.env=(false,eval e X.env)::starEach es X.env:=by rfl) (Ul:(backTo cpos (starEach es X.env)).any (·.1)=false:=by rfl)
 (kA:swapsWith (.Call (.Attribute (.Name x p) name apos) (e::es) [] cpos) none pos.line X.env=pure false:=by rfl):
 SS X (.Expr (.Call (.Attribute (.Name x p) name apos) (e::es) [] cpos) pos) (EA i f r):=by
 obtain ⟨t,pa,s⟩:=ha
 exact ⟨_,dA (kg PySem.F.plainAttrs_list slot nj hm.1 (Q6 hN hv hd MB) pa ZA gL V8 hs Ul) kA,aI hm.2 s⟩
def JW:fX:=λxs ys Q=>match ys with | [y] =>xs.length<sizeLine/\Q (xs ++ [y])|_=>False
theorem CN:jY X "list.append" Q9/\bK X.K Q9 JW:=by
 refine ⟨HJ,λT M H l ws vs xs ys Q AQ hl r1 r2 h k=> ?_⟩
 unfold JW at h
 split at h <;> first | exact h.elim|skip
 cases r2 with
 | cons ry t=>
   cases t
   exact ⟨l,ws,_,rfl,rfl,hl,by rw [r1.length];exact h.1,k _ _ (r1.append (.cons ry .nil)) h.2⟩
def ZS:fX:=λxs ys Q=>match ys with | [.int i,y] =>(0<=i/\i<=(xs.length:Int)/\xs.length<sizeLine)/\Q (xs.take i.toNat++y::xs.drop i.toNat)|_=>False
theorem Pi:jY X "list.insert" RA/\bK X.K RA ZS:=by
 refine ⟨Xa,λT M H l ws vs xs ys Q AQ hl r1 r2 h k=> ?_⟩
 unfold ZS at h
 split at h <;> first | exact h.elim|skip
 cases r2 with
 | cons ri t=>
   cases t with
   | cons ry t=>
     cases t;cases ri
     obtain ⟨⟨h1,h2,h3⟩,h4⟩:=h
     exact ⟨l,ws,_,_,rfl,rfl,hl,h1,by rw [r1.length];exact h2,by rw [r1.length];exact h3,k _ _ ((r1.take _).append (.cons ry (r1.drop _))) h4⟩
def cg (o:Option Nat) (R:Nat->Prop):Prop:=match o with | some j=>R j|none=>False
theorem gz {o:Option Nat} {R:Nat->Prop} (h:cg o R):∃z,o=some z/\R z:=by
 cases o <;> first | exact ⟨_,rfl,h⟩|exact h.elim
def bN (i:Nat) (ti ta:AE):AS:=λD τ=>ta τ λy=>M5 i τ λxs=>ti τ λk=>ao k λk=>cg (Sx xs.length k) λj=>D.nx (τ.set i (some (.own (xs.set j y))))
theorem aO {i:Nat} {x:Str} {ix:Expr} {ti:AE} {p tpos:Pos} (hi:SE X ix ti) (he:SE X e ta) (hN:X.N[i]? =some x:=by rfl) (hv:fg X.env.scope x:=by first | exact Or.inl rfl|exact Or.inr (Or.inl rfl)|exact Or.inr (Or.inr rfl)) (hd:(x==("__debug__" :Str))=false:=by decide) (MB:(x==("__classdict__" :Str))=false:=by decide)
 (ha:∀v,assign (.Subscript (.Name x p) ix tpos) X.env v=(do
   let ov <-holding [v] (eval (.Name x p) X.env)
   let iv <-holding [v,ov] (eval ix X.env)
   standAt tpos
   holding [v,ov,iv] (setItem ov iv v)
   release [v,ov,iv] []):=by intro _;rfl)
 (hs:swapsWithSole [.Subscript (.Name x p) ix tpos] e pos.line X.env=pure false:=by rfl) (hw:swappedStores [.Subscript (.Name x p) ix tpos] e X.env=pure none:=by rfl)
 (h1:(assignEach [.Subscript (.Name x p) ix tpos] X.env).map (·.2)= [assign (.Subscript (.Name x p) ix tpos) X.env] :=by rfl):SS X (.Assign [.Subscript (.Name x p) ix tpos] e pos) (bN i ti ta):=by
 obtain ⟨t,pt,s⟩:=hi
 obtain ⟨t',pt',s'⟩:=he
 refine ⟨_,Q8 pt' (VB (Q6 hN hv hd MB) pt Nz ha) hs hw h1,λB T σ τ H D AD sr h er=>s' B T σ τ H _ _ sr h λv y T1 H1 s1 r1 h1=> ?_⟩
 have sr1:=sr.stp s1
 obtain ⟨xs,e,h1⟩:=Vj h1
 obtain ⟨q,vs,e1,hp,r2,b0,nt,nb⟩:=sr1.own i xs e
 refine ⟨.ref q,e1,s B T1 σ τ H1 _ _ sr1 h1 λw k T2 H2 s2 r3 h3=> ?_⟩
 obtain ⟨k,rfl,h3⟩:=Q2 h3
 obtain ⟨j,ej,h3⟩:=gz h3
 cases r3.toI
 have sr2:=sr1.stp s2
 obtain ⟨sr4,pr4⟩:=sr2.write (i:=i) (xs:=xs) e e1 (s2.keep _ _ nt hp) (((r2.stp s2 sr1.va)).set (r1.stp s2 sr1.va) j)
 exact ⟨q,vs,k,j,rfl,rfl,s2.keep _ _ nt hp,by rw [r2.length];exact ej,er.nx T2 _ _ _ ((s1.trans s2).prog.trans pr4) sr4 h3⟩
end
end PL
end
section
namespace PL
open PySem PySem.Spec PyProof.Rows L2
section
variable {X:Cx} {st:Stmt} {e:Expr} {pos:Pos} {a b:AS} {ta:AE}
def Tt (c:AT) (b:AS) (D:Ga):Nat->BC->Prop
 | 0,_=>False
 | n+1,τ=>c (frz τ) λk=>if k=true then b {D with nx:=Tt c b D n,ct:=Tt c b D n,bk:=D.nx} τ else D.nx τ
def Kg (c:AT) (b:AS):AS:=λD τ=>∃n,Tt c b D n τ
theorem Jy {c:Expr} {body:List Stmt} {tc:AT} (hp:PassesOwn (model X.prog X.w) X.A X.env X.xe) (hc:Rg X c tc) (hb:bJ X body b):SS X (.While c body [] pos) (Kg tc b):=by
 obtain ⟨t,p,s⟩:=hc
 obtain ⟨t',p',s'⟩:=hb
 refine ⟨_,Zq hp p p',λB T σ τ H D AD sr h er=> ?_⟩
 obtain ⟨n,h⟩:=h
 refine ⟨λm σ1 H1=>∃T1 τ1,SR X.K B T1 H1 σ1 τ1/\FC T H σ τ T1 H1 σ1 τ1/\Tt tc b AD m τ1,⟨n,T,τ,sr, .refl,h⟩, ?_⟩
 rintro m σ1 H1 ⟨T1,τ1,sr1,pr1,h1⟩
 cases m with
 | zero=>exact h1.elim
 | succ m=>
   refine s B T1 σ1 (frz τ1) H1 _ _ sr1.frz h1 λk T2 H2 s2 h2=> ?_
   have sr2:=sr1.stp s2
   have er2:=(er.shift pr1).shift s2.prog
   cases k with
   | false=>rw [if_neg Bool.false_ne_true] at h2 ⊢;exact er2.nx T2 H2 σ1 τ1 .refl sr2 h2
   | true=>
     rw [if_pos rfl] at h2 ⊢
     refine ⟨λσ' H'=>∃T' τ',SR X.K B T' H' σ' τ'/\FC T H σ τ T' H' σ' τ'/\Tt tc b AD m τ',λσ' H' q=>⟨m,Nat.lt_succ_self m,q⟩, ?_⟩
     exact s' B T2 σ1 τ1 H2 _ _ sr2 h2 ⟨λT' H' σ' τ' q sr' h'=>⟨T',τ',sr',(pr1.trans s2.prog).trans q,h'⟩,er2.nx,λT' H' σ' τ' q sr' h'=>⟨T',τ',sr',(pr1.trans s2.prog).trans q,h'⟩,er.rt⟩
abbrev AI:=BC->(List PV->Prop)->Prop
structure UG (K:PySem.W.Frag) (M:Addr->Prop) (J:It) (xs:List PV) (T:Addr->Prop) (H:Hp):Prop where
 go:∀i y,xs[i]? =some y->J.go i H
 yld:∀i y v H',xs[i]? =some y->J.yld i H v H'->DT T H T H'/\CB K T M H' v y
 stop:∀i,xs.length<=i->J.stop i H
def Vf (T:Addr->Prop) (H H2:Hp):Prop:=∀b o,¬T b->H b=some o->H2 b=some o
def Wy (K:PySem.W.Frag) (s:Bool) (wi:TI) (ai:AI):Prop:=∀(B:Cn) (T:Addr->Prop) (σ:L2.St) (τ:BC) (H:Hp) (R:It->Hp->Prop) (AQ:List PV->Prop),SR K B T H σ τ->ai τ AQ->
 (∀J xs T' H',DT T H T' H'->(∀M2 T2 H2,Mv K T' (mt B σ τ) H' T2 M2 H2->GZ T2 M2 H2->(s=true\/Vf T' H' H2)->UG K M2 J xs T2 H2)->AQ xs->R J H')->wi σ H R
def SI (X:Cx) (tg iter:Expr) (s:Bool) (ai:AI):Prop:=∃wi,PI X tg iter wi/\Wy X.K s wi ai
def kE (K:PySem.W.Frag) (tl:TE):TI:=λσ H R=>tl σ H λx H1=>∃a,x= .ref a/\(((∃xs,Fw K H1 a xs)/\R (md K a) H1)\/((∃xs,JD K H1 a xs)/\R (me K a) H1))
theorem Zm {tg l:Expr} {tl:TE} (hl:PE X l tl):PI X tg l (kE X.K tl):=by
 intro pins s σ H R I h
 refine BV (hl pins s σ H _ I h) λv s1 ⟨x,H1,I1,r1,q1⟩=> ?_
 obtain ⟨a,e,q⟩:=q1
 subst e
 cases r1
 rcases q with ⟨⟨xs,hq⟩,q⟩|⟨⟨xs,hq⟩,q⟩
 ·obtain ⟨its,rv,p,hz⟩:=I1.list hq
  refine wpAny_pyIter_list p.isList ?_
  refine ⟨s1.heap.objs.size, [s1.heap.objs.size],_,_,H1,rfl,I1.kept (t':=s1.toks) λb o e=>Heap.get?_push_of_some _ e,X2 a _,⟨_,Heap.get?_push_size _ rfl,rfl,rfl⟩,λb hb=> ?_,q⟩
  have e:b=s1.heap.objs.size:=by simpa using hb
  subst e
  exact I1.fpOk (Nat.le_refl _) (I1.hok.fresh (Nat.le_refl _))
 ·obtain ⟨its,rv,p,hz⟩:=I1.tuple hq
  refine wpAny_pyIter_tuple (show s1.heap.IsTuple a its.toArray from p) ?_
  refine ⟨s1.heap.objs.size, [s1.heap.objs.size],_,_,H1,rfl,I1.kept (t':=s1.toks) λb o e=>Heap.get?_push_of_some _ e,VZ a _,⟨_,Heap.get?_push_size _ rfl,rfl,rfl⟩,λb hb=> ?_,q⟩
  have e:b=s1.heap.objs.size:=by simpa using hb
  subst e
  exact I1.fpOk (Nat.le_refl _) (I1.hok.fresh (Nat.le_refl _))
def M7 (ta:AE):AI:=λτ Q=>ta τ λx=>TJ x Q
theorem ZI {K:PySem.W.Frag} {T M:Addr->Prop} {H:Hp} {a:Addr} {xs:List PV} (va:GZ T M H) (r:CB K T M H (.ref a) (.tup xs)):UG K M (me K a) xs T H:=by
 obtain ⟨a',vs,e,hq,rs⟩:=Cq r
 cases e
 refine ⟨λi y h=> ?_,λi y v H' h yl=> ?_,λi h=>⟨vs,hq,by rw [rs.length];exact h⟩⟩
 ·obtain ⟨v,hv,_⟩:=rs.get h
  exact ⟨vs,v,hq,hv⟩
 ·obtain ⟨rfl,yl⟩:=yl
  obtain ⟨z,hz,rz⟩:=rs.get' (yl vs hq)
  rw [h] at hz;cases hz
  exact ⟨.refl va.tp,rz⟩
theorem ZH {K:PySem.W.Frag} {T M:Addr->Prop} {H:Hp} {a:Addr} {vs:List V} {xs:List PV} (va:GZ T M H) (hq:H a=some (.lst vs)) (rs:A0 K T M H vs xs):UG K M (md K a) xs T H:=by
 have Qa:Fw K H a vs:= .inl (.inl hq)
 refine ⟨λi y h=> ?_,λi y v H' h yl=> ?_,λi h=>⟨vs,Qa,by rw [rs.length];exact h⟩⟩
 ·obtain ⟨v,hv,_⟩:=rs.get h
  exact ⟨vs,v,Qa,hv⟩
 ·obtain ⟨rfl,yl⟩:=yl
  obtain ⟨z,hz,rz⟩:=rs.get' (yl vs Qa)
  rw [h] at hz;cases hz
  exact ⟨.refl va.tp,rz⟩
theorem FN {tg:Expr} (h:SE X e ta):SI X tg e true (M7 ta):=by
 obtain ⟨t,p,s⟩:=h
 refine ⟨_,Zm p,λB T σ τ H R AQ sr h k=>s B T σ τ H _ _ sr h λv x T1 H1 s1 r1 h1=> ?_⟩
 obtain ⟨xs,hx,q⟩:=IW h1
 rcases hx with rfl|rfl
 ·obtain ⟨a,vs,rfl,hq,rs⟩:=Cq r1
  refine ⟨a,rfl, .inr ⟨⟨vs,hq⟩,k _ xs T1 H1 s1 (λM2 T2 H2 mv va _=>ZI va (r1.mv mv)) q⟩⟩
 ·obtain ⟨a,vs,rfl,hq,nt,nm,rs⟩:=Dq r1
  refine ⟨a,rfl, .inl ⟨⟨vs, .inl (.inl hq)⟩,k _ xs T1 H1 s1 (λM2 T2 H2 mv va _=> ?_) q⟩⟩
  obtain ⟨a',vs',e',Qa,_,_,rs'⟩:=Dq (r1.mv mv)
  cases e'
  exact ZH va Qa rs'
def rng (lo:Int) (n:Nat):List PV:=(List.range n).map λ(k:Nat)=> .int (lo+(k:Int))
theorem Sw {K:PySem.W.Frag} {T M:Addr->Prop} {H:Hp} {lo:Int} {n:Nat} (va:GZ T M H):UG K M (jX lo n) (rng lo n) T H:=by
 have hl:(rng lo n).length=n:=by simp [rng]
 refine ⟨λi y h=> ?_,λi y v H' h yl=> ?_,λi h=>by rw [hl] at h;exact h⟩
 ·have:=(List.getElem?_eq_some_iff.mp h).1
  rw [hl] at this
  exact this
 ·obtain ⟨rfl,rfl⟩:=yl
  have hi:=(List.getElem?_eq_some_iff.mp h).1
  rw [hl] at hi
  have:y= .int (lo+(i:Int)):=by
   simp [rng,List.getElem?_range hi] at h
   exact h.symm
  subst this
  exact ⟨.refl va.tp, .int _⟩
def SJ (r:AA):AI:=λτ Q=>r τ λxs=>match xs with | [.int j] =>(-(2^62)<=j/\j<2^62)/\Q (rng 0 j.toNat)|_=>False
def bO (r:AA):AI:=λτ Q=>r τ λxs=>match xs with | [.int i, .int j] =>(-(2^62)<=i/\i<2^62/\ -(2^62)<=j/\j<2^62)/\Q (rng i (j-i).toNat)|_=>False
theorem Pg {tg c:Expr} {r:AA} {p:Pos} (hg:Gl X "range") (hm:X.mg "range" =none) (ha:SA X [c] r) (hs:starEach [c] X.env= [(false,eval c X.env)] :=by rfl):SI X tg (.Call (.Name "range" p) [c] [] pos) true (SJ r):=by
 obtain ⟨t,pa,s⟩:=ha
 refine ⟨_,Xm hg hm pa hs,λB T σ τ H R AQ sr h k=>s B T σ τ H _ _ sr h λvs xs T1 H1 s1 r1 h1=> ?_⟩
 split at h1 <;> first | exact h1.elim|skip
 cases r1 with
 | cons r t=>
   cases t;cases r
   exact ⟨_,rfl,h1.1.1,h1.1.2,k _ _ T1 H1 s1 (λM2 T2 H2 mv va _=>Sw va) h1.2⟩
theorem fC {tg c d:Expr} {r:AA} {p:Pos} (hg:Gl X "range") (hm:X.mg "range" =none) (ha:SA X [c,d] r) (hs:starEach [c,d] X.env= [(false,eval c X.env),(false,eval d X.env)] :=by rfl) (Rh:starEach [d] X.env= [(false,eval d X.env)] :=by rfl):
 SI X tg (.Call (.Name "range" p) [c,d] [] pos) true (bO r):=by
 obtain ⟨t,pa,s⟩:=ha
 refine ⟨_,Xn hg hm pa hs Rh,λB T σ τ H R AQ sr h k=>s B T σ τ H _ _ sr h λvs xs T1 H1 s1 r1 h1=> ?_⟩
 split at h1 <;> first | exact h1.elim|skip
 cases r1 with
 | cons r t=>
   cases t with
   | cons r' t=>
     cases t;cases r;cases r'
     exact ⟨_,_,rfl,h1.1,k _ _ T1 H1 s1 (λM2 T2 H2 mv va _=>Sw va) h1.2⟩
def En (xs ys:List PV):List PV:=List.zipWith (λx y=> .tup [x,y]) xs ys
def kF (K:PySem.W.Frag) (ta:TA):TI:=λσ H R=>ta σ H λvs H1=>∃b c l m,vs= [.ref l, .ref m] /\(∃xs,Sq K b H1 l xs)/\(∃ys,Sq K c H1 m ys)/\R (mj K b c l m) H1
theorem cx {e f:Expr} {ta:TA} {p pos tpos:Pos} {es:List Expr} {x1:Nat} (hg:Gl X "zip") (hm:X.mg "zip" =none) (ha:PA X [e,f] ta)
 (hs:starEach [e,f] X.env= [(false,eval e X.env),(false,eval f X.env)] :=by rfl) (Rh:starEach [f] X.env= [(false,eval f X.env)] :=by rfl):
 PI X (.Tuple es x1 tpos) (.Call (.Name "zip" p) [e,f] [] pos) (kF X.K ta):=by
 intro pins s σ H R I h
 refine Call_ (Gy I hg hm boot_zip (PyProof.Rows.callWith_type1 (BV (ha pos pins s σ H _ I h) λus s1 ⟨vs,H1,I1,r1,q1⟩=> ?_) (by rw [hs,Rh]) (by rw [Rh];rfl)))
 obtain ⟨b,c,l,m,rfl,⟨xs,hl⟩,⟨ys,gN⟩,q⟩:=q1
 cases r1 with
 | cons r rr=>
 cases rr with
 | cons r' rr=>
 cases rr
 cases r
 cases r'
 obtain ⟨us,ru,su,_⟩:=I1.sq hl
 obtain ⟨vs,rv,sv,_⟩:=I1.sq gN
 have llt:l<s1.heap.objs.size:=by cases b <;> (obtain ⟨o,e,_⟩:=su;exact Heap.lt_size e)
 have mlt:m<s1.heap.objs.size:=by cases c <;> (obtain ⟨o,e,_⟩:=sv;exact Heap.lt_size e)
 refine iy su sv λh1 Z kp=>wpAny_pyIter_zip Z.zip ?_
 refine ⟨_,_,_,_,H1,rfl,I1.kept (t':=s1.toks) kp,aa (zipApart_new llt mlt),Z,λp hp=> ?_,q⟩
 have FU:s1.heap.objs.size<=p:=by
  have gS:p=s1.heap.objs.size+4\/p=s1.heap.objs.size+2\/p=s1.heap.objs.size+3\/p=s1.heap.objs.size\/p=s1.heap.objs.size+1:=by simpa using hp
  rcases gS with e|e|e|e|e <;> (rw [e];omega)
 exact I1.fpOk FU (I1.hok.fresh FU)
def ji:PV->Bool | .lst _=>true|_=>false
theorem We {K:PySem.W.Frag} {T M:Addr->Prop} {H:Hp} {v:V} {x:PV} {xs:List PV} (hx:x= .tup xs\/x= .lst xs) (r:CB K T M H v x):∃a vs,v= .ref a/\Sq K (ji x) H a vs/\A0 K T M H vs xs:=by
 rcases hx with rfl|rfl
 ·obtain ⟨a,vs,rfl,hq,rs⟩:=Cq r
  exact ⟨a,vs,rfl,hq,rs⟩
 ·obtain ⟨a,vs,rfl,hq,_,_,rs⟩:=Dq r
  exact ⟨a,vs,rfl, .inl (.inl hq),rs⟩
theorem ZJ {K:PySem.W.Frag} {T M:Addr->Prop} {H:Hp} {l m:Addr} {x y:PV} {xs ys:List PV} (va:GZ T M H) (hx:x= .tup xs\/x= .lst xs) (hy:y= .tup ys\/y= .lst ys) (r:CB K T M H (.ref l) x) (r2:CB K T M H (.ref m) y):
 UG K M (mj K (ji x) (ji y) l m) (En xs ys) T H:=by
 obtain ⟨_,vs,e,hq,rs⟩:=We hx r
 cases e
 obtain ⟨_,ws,e,Qb,rs2⟩:=We hy r2
 cases e
 have hz:∀i z,(En xs ys)[i]? =some z->∃a b,xs[i]? =some a/\ys[i]? =some b/\z=PV.tup [a,b] :=λi z h=>by
  unfold En at h
  rw [List.getElem?_zipWith] at h
  cases e1:xs[i]? with
  | none=>rw [e1] at h;cases h
  | some a=>
    cases e2:ys[i]? with
    | none=>rw [e1,e2] at h;cases h
    | some b=>rw [e1,e2] at h;cases h;exact ⟨a,b,by first | rfl|exact e1,by first | rfl|exact e2,rfl⟩
 refine ⟨λi z h=> ?_,λi z v H' h yl=> ?_,λi h=>⟨vs,ws,hq,Qb, ?_⟩⟩
 ·obtain ⟨a,b,ha,hb,_⟩:=hz i z h
  obtain ⟨u,hu,_⟩:=rs.get ha
  obtain ⟨w,hw,_⟩:=rs2.get hb
  exact ⟨vs,ws,u,w,hq,Qb,hu,hw⟩
 ·obtain ⟨a,b,ha,hb,rfl⟩:=hz i z h
  obtain ⟨p,u,w,rfl,hn,rfl,hu,hw⟩:=yl
  obtain ⟨a',jq,ra⟩:=rs.get' (hu vs hq)
  obtain ⟨b',jr,rb⟩:=rs2.get' (hw ws Qb)
  rw [ha] at jq;cases jq
  rw [hb] at jr;cases jr
  have st:=DT.lay (o:= .tup [u,w]) va.tp hn
  exact ⟨st, .tup (.inl Ah) (.cons (ra.stp st va) (.cons (rb.stp st va) .nil))⟩
 ·rw [rs.length,rs2.length]
  have:(En xs ys).length=min xs.length ys.length:=by simp [En]
  omega
def eF (r:AA):AI:=λτ Q=>r τ λls=>match ls with | [x,y] =>TJ x λxs=>TJ y λys=>Q (En xs ys)|_=>False
theorem Xw {e f:Expr} {r:AA} {p pos tpos:Pos} {es:List Expr} {x1:Nat} (hg:Gl X "zip") (hm:X.mg "zip" =none) (ha:SA X [e,f] r)
 (hs:starEach [e,f] X.env= [(false,eval e X.env),(false,eval f X.env)] :=by rfl) (Rh:starEach [f] X.env= [(false,eval f X.env)] :=by rfl):
 SI X (.Tuple es x1 tpos) (.Call (.Name "zip" p) [e,f] [] pos) true (eF r):=by
 obtain ⟨t,pa,s⟩:=ha
 refine ⟨_,cx hg hm pa hs Rh,λB T σ τ H R AQ sr h k=>s B T σ τ H _ _ sr h λvs xs T1 H1 s1 r1 h1=> ?_⟩
 split at h1 <;> first | exact h1.elim|skip
 rename_i x y
 obtain ⟨xs,hx,h2⟩:=IW h1
 obtain ⟨ys,hy,h3⟩:=IW h2
 cases r1 with
 | cons ra t=>
   cases t with
   | cons rb t=>
     cases t
     obtain ⟨l,us,rfl,hq,rs⟩:=We hx ra
     obtain ⟨m,ws,rfl,Qb,rs2⟩:=We hy rb
     exact ⟨ji x,ji y,l,m,rfl,⟨us,hq⟩,⟨ws,Qb⟩,k _ _ T1 H1 s1 (λM2 T2 H2 mv va _=>ZJ va hx hy (ra.mv mv) (rb.mv mv)) h3⟩
def Cc (g:AG) (b:AS) (D:Ga):List PV->BC->Prop
 | [],τ=>D.nx τ
 | x::r,τ=>g x τ λτ1=>b {D with nx:=Cc g b D r,ct:=Cc g b D r,bk:=D.nx} τ1
def FD (ai:AI) (g:AG) (b:AS):AS:=λD τ=>ai τ λxs=>Cc g b D xs τ
theorem FC.mvv {K:PySem.W.Frag} {B:Cn} {T T':Addr->Prop} {H H':Hp} {σ σ':L2.St} {τ τ':BC} (s:SR K B T H σ τ) (p:FC T H σ τ T' H' σ' τ'):Mv K T (mt B σ τ) H T' (mt B σ' τ') H':=
 ⟨s.va,λb o t m e=>p.keep b o t (λz=>m (.inr z)) e,p.sub,λb n t=>(p.new b t).elim id λz=>absurd z n,λb n m=>m.elim .inl λz=>(p.own b z).elim .inr λz=>absurd z n⟩
theorem CG {tg iter:Expr} {body:List Stmt} {ai:AI} {g:AG} (hp:PassesOwn (model X.prog X.w) X.A X.env X.xe) (hc:X.calm=true) (hi:SI X tg iter true ai) (hg:SG X tg g) (hb:bJ X body b)
 (hs:∀x,foldedSetIterable iter X.env x=pure x:=by intro _;rfl):SS X (.For tg iter body [] pos) (FD ai g b):=by
 obtain ⟨wi,pi,si⟩:=hi
 obtain ⟨tg',pg,sg⟩:=hg
 obtain ⟨tb,pb,sb⟩:=hb
 refine ⟨_,Zo hp hc pi pg pb hs,λB T σ τ H D AD sr h er=>si B T σ τ H _ _ sr h λJ xs T1 H1 s1 walk h1=> ?_⟩
 have sr1:=sr.stp s1
 refine ⟨λi m σ2 H2=>m=xs.length-i/\∃T2 τ2,SR X.K B T2 H2 σ2 τ2/\FC T1 H1 σ τ T2 H2 σ2 τ2/\Cc g b AD (xs.drop i) τ2,⟨_,rfl,T1,τ,sr1, .refl,h1⟩, ?_⟩
 rintro i m σ2 H2 ⟨rfl,T2,τ2,sr2,pr2,h2⟩
 have w:=walk _ T2 H2 (pr2.mvv sr1) sr2.va (.inl rfl)
 have er2:=(er.shift s1.prog).shift pr2
 by_cases Dt:i<xs.length
 ·have Su:xs[i]? =some xs[i] :=List.getElem?_eq_getElem Dt
  rw [List.drop_eq_getElem_cons Dt] at h2
  refine .inr ⟨w.go i _ Su,λσ' H'=>∃T' τ',SR X.K B T' H' σ' τ'/\FC T1 H1 σ τ T' H' σ' τ'/\Cc g b AD (xs.drop (i+1)) τ',λσ' H' ⟨T',τ',q1,q2,q3⟩=>⟨_,by omega,rfl,T',τ',q1,q2,q3⟩,λv H3 yl=> ?_⟩
  obtain ⟨s3,r3⟩:=w.yld i _ v H3 Su yl
  have sr3:=sr2.stp s3
  refine sg B T2 σ2 τ2 H3 v _ _ _ sr3 r3 h2 λσ4 τ4 sr4 o4 h4=> ?_
  have pr4:FC T1 H1 σ τ T2 H3 σ4 τ4:=(pr2.trans s3.prog).trans (.less o4)
  have er4:=(er.shift s1.prog).shift pr4
  exact sb B T2 σ4 τ4 H3 _ _ sr4 h4 ⟨λT' H' σ' τ' q sr' h'=>⟨T',τ',sr',pr4.trans q,h'⟩,er4.nx,λT' H' σ' τ' q sr' h'=>⟨T',τ',sr',pr4.trans q,h'⟩,er.rt⟩
 ·rw [List.drop_eq_nil_of_le (by omega)] at h2
  exact .inl ⟨w.stop i (by omega),er2.nx T2 H2 σ2 τ2 .refl sr2 h2⟩
def W1:Option AV->Option AV|some (.val x)=>some (.val x)|_=>none
def JG (own:Nat) (ix:List Nat) (τ:BC):BC:=List.replicate own none++ix.map λi=>W1 (Ri τ i)
def Cm (g:AG) (t:AT) (te:AE) (τ0:BC) (Q:List PV->Prop):List PV->List PV->Prop
 | [],acc=>Q acc
 | x::r,acc=>g x τ0 λτ1=>t τ1 λok=>if ok=true then te τ1 λy=>Cm g t te τ0 Q r (acc ++ [y]) else Cm g t te τ0 Q r acc
def Cw (ai:AI) (own:Nat) (ix:List Nat) (g:AG) (t:AT) (te:AE):AA:=λτ Q=>ai τ λxs=>xs.length<sizeLine/\Cm g t te (JG own ix τ) Q xs []
theorem Yj {own:Nat} {ix:List Nat} {τ:BC} {j:Nat} {x:PV} (h:(JG own ix τ)[j]? =some (some (.val x))):own<=j/\∃i,ix[j-own]? =some i/\τ[i]? =some (some (.val x)):=by
 unfold JG at h
 by_cases hj:j<own
 ·rw [List.getElem?_append_left (by simpa using hj),List.getElem?_replicate,if_pos hj] at h
  cases h
 ·rw [List.getElem?_append_right (by simpa using hj),List.length_replicate,List.getElem?_map] at h
  cases e:ix[j-own]? with
  | none=>rw [e] at h;cases h
  | some i=>
    rw [e] at h
    refine ⟨by omega,i,rfl,NV ?_⟩
    cases e2:Ri τ i with
    | none=>simp [e2,W1] at h
    | some z=>cases z <;> simp [e2,W1] at h;subst h;rfl
theorem Ff {own:Nat} {ix:List Nat} {τ:BC} {j:Nat} {xs:List PV}:(JG own ix τ)[j]? ≠some (some (.own xs)):=λh=>by
 unfold JG at h
 by_cases hj:j<own
 ·rw [List.getElem?_append_left (by simpa using hj),List.getElem?_replicate,if_pos hj] at h
  cases h
 ·rw [List.getElem?_append_right (by simpa using hj),List.length_replicate,List.getElem?_map] at h
  cases e:ix[j-own]? with
  | none=>rw [e] at h;cases h
  | some i=>
    rw [e] at h
    cases e2:Ri τ i with
    | none=>simp [e2,W1] at h
    | some z=>cases z <;> simp [e2,W1] at h
def Cn.blk (B:Cn) (σ:L2.St) (τ:BC) (D:Addr):Cn:=⟨B.T,B.H,λa=>mt B σ τ a\/a=D⟩
theorem SR.blk {K:PySem.W.Frag} {B:Cn} {T T':Addr->Prop} {H H':Hp} {σ:L2.St} {τ:BC} {D:Addr} {ws:List V} {own:Nat} {ix:List Nat} (s:SR K B T H σ τ) (q:DT T H T' H') (hn:H D=none) (hd:H' D=some (.lst ws)) (nt:¬T' D):
 SR K (B.blk σ τ D) T' H' (Bs own ix σ) (JG own ix τ):=by
 have s':=s.stp q
 have mv:Mv K T (mt B σ τ) H T' (mt (B.blk σ τ D) (Bs own ix σ) (JG own ix τ)) H':=⟨s.va,λb o t _ e=>q.keep b o t e,q.sub,λb n t=>(q.new b t).elim id λz=>absurd z n,λb n z=>by
  rcases z with (z|z)|⟨_,_,z,_⟩
  ·exact z
  ·subst z;exact absurd hn n
  ·exact absurd z Ff⟩
 refine ⟨by simp [Bs,JG],λj x e=> ?_,λj xs e=>absurd e Ff,λj k xs ys p e=>absurd e Ff,s'.tp,λa m=> ?_,λa m=> ?_,s'.st⟩
 ·obtain ⟨hj,i,hi,e'⟩:=Yj e
  obtain ⟨v,hv,r⟩:=s.val i x e'
  refine ⟨v, ?_,r.mv mv⟩
  unfold Bs
  rw [List.getElem?_append_right (by simpa using hj),List.length_replicate,List.getElem?_map,hi]
  simp [hv]
 ·rcases m with m|m
  ·exact s'.va.mu a m
  ·subst m;exact ⟨_,hd,KW.lst⟩
 ·rcases m with m|m
  ·exact s'.nt m
  ·subst m;exact nt
def d8 (X:Cx) (ifs:List Expr) (t:AT):Prop:=∃tt,Vg X ifs tt/\Ln X.K tt t
def Fe:AT:=λ_ Q=>Q true
theorem CU:d8 X [] Fe:=⟨_,cz,λB T σ τ H Q AQ sr h k=>k true T H (.refl sr.tp) h⟩
theorem RM {c:Expr} {t:AT} (h:Rg X c t):d8 X [c] t:=let ⟨_,p,s⟩:=h;⟨_,c6 p,s⟩
theorem N0 {K:PySem.W.Frag} {s:Bool} {wi:TI} {ai:AI} {own:Nat} {ix:List Nat} {g:TG} {ag:AG} {tt:TT} {at':AT} {te:TE} (hi:Wy K s wi ai) (hg:JC K g ag) (ht:Ln K tt at') (he:Fv K te ta):
 Ye K (Wj wi own ix g tt te) (Cw ai own ix ag at' ta):=by
 intro B T σ τ H Q AQ sr h k
 refine hi B T σ τ H _ _ sr h λJ xs T1 H1 s1 walk h1 D hD=> ?_
 obtain ⟨hl,h1⟩:=h1
 have sr1:=sr.stp s1
 have nt1:¬T1 D:=λz=>by obtain ⟨o,e,_⟩:=(sr1.tp D z).mut;rw [hD] at e;cases e
 have lay:=DT.lay (o:= .lst []) sr1.tp hD
 refine ⟨λi m H2=>m=xs.length-i/\∃T2 vs acc,DT T1 H1 T2 H2/\H2 D=some (.lst vs)/\¬T2 D/\A0 K T2 (λa=>mt B σ τ a\/a=D) H2 vs acc/\acc.length<=i/\Cm ag at' ta (JG own ix τ) AQ (xs.drop i) acc,
  ⟨_,rfl,T1, [], [],lay,Ah,nt1, .nil,Nat.le_refl _,h1⟩, ?_⟩
 rintro i m H2 ⟨rfl,T2,vs,acc,s2,b9,nt2,r2,cC,h2⟩
 have srb:=sr1.blk (own:=own) (ix:=ix) s2 hD b9 nt2
 have va2:GZ T2 (λa=>mt B σ τ a\/a=D) H2:=⟨srb.tp,srb.bm⟩
 have w:=walk (λa=>mt B σ τ a\/a=D) T2 H2 ⟨sr1.va,λb o t _ e=>s2.keep b o t e,s2.sub,λb n t=>(s2.new b t).elim id λz=>absurd z n,λb n z=>z.elim id λz=>by subst z;exact absurd hD n⟩ va2 (.inr s2.keep)
 by_cases Dt:i<xs.length
 ·have Su:xs[i]? =some xs[i] :=List.getElem?_eq_getElem Dt
  rw [List.drop_eq_getElem_cons Dt] at h2
  refine .inr ⟨w.go i _ Su,λv H3 yl=> ?_⟩
  obtain ⟨s3,r3⟩:=w.yld i _ v H3 Su yl
  have sr3:=srb.stp s3
  refine hg _ T2 _ _ H3 v _ _ _ sr3 (r3.mv (.anti ⟨sr3.tp,sr3.bm⟩ λa z=>z.elim id λ⟨_,_,z,_⟩=>absurd z Ff)) h2 λσ4 τ4 sr4 o4 h4=> ?_
  refine ht _ T2 σ4 τ4 H3 _ _ sr4 h4 λok T5 H5 s5 h5=> ?_
  have sr5:=sr4.stp s5
  have gH:=s3.keep D _ nt2 b9
  have cA:=s5.keep D _ nt2 gH
  have nt5:¬T5 D:=λz=>(s5.new D z).elim nt2 λn=>by rw [n] at gH;cases gH
  have r5:=(r2.stp s3 va2).stp s5 ⟨sr3.tp,sr3.bm⟩
  cases ok with
  | false=>
    rw [if_neg Bool.false_ne_true] at h5 ⊢
    exact ⟨_,by omega,rfl,T5,vs,acc,(s2.trans s3).trans s5,cA,nt5,r5,by omega,h5⟩
  | true=>
    rw [if_pos rfl] at h5 ⊢
    refine he _ T5 σ4 τ4 H5 _ _ sr5 h5 λvy y T6 H6 s6 r6 h6=> ?_
    have sr6:=sr5.stp s6
    have nD:=s6.keep D _ nt5 cA
    have nt6:¬T6 D:=λz=>(s6.new D z).elim nt5 λn=>by rw [n] at cA;cases cA
    have va6:GZ T6 (λa=>mt B σ τ a\/a=D) H6:=⟨sr6.tp,sr6.bm⟩
    have r7:=r5.stp s6 ⟨sr5.tp,sr5.bm⟩
    have s7:=((s2.trans s3).trans s5).trans s6
    have tp8:∀a,T6 a->Eb (upd H6 D (.lst (vs ++ [vy]))) a:=λa t=>by
     obtain ⟨d,x,e,z⟩:=sr6.tp a t
     exact ⟨d,x,by rw [Af (λw=>by subst w;exact nt6 t)];exact e,z⟩
    have mv8:Mv K T6 (λa=>mt B σ τ a\/a=D) H6 T6 (λa=>mt B σ τ a\/a=D) (upd H6 D (.lst (vs ++ [vy]))):=⟨va6,λb o _ m e=>by rw [Af (λw=>m (.inr w))];exact e,λ_ t=>t,λ_ _ t=>t,λ_ _ z=>z⟩
    refine ⟨vs,nD,by rw [r2.length];omega,_,(by omega:xs.length-(i+1)<xs.length-i),rfl,T6,vs ++ [vy],acc ++ [y],⟨λb o t e=> ?_,s7.sub,s7.new,tp8⟩,Ah,nt6,(r7.append (.cons (r6.mv (.anti sr6.va λa z=> .inl z)) .nil)).mv mv8,by simp;omega,h6⟩
    rw [Af (As e hD)]
    exact s7.keep b o t e
 ·rw [List.drop_eq_nil_of_le (by omega)] at h2
  refine .inl ⟨w.stop i (by omega), ?_⟩
  exact k D vs acc T2 H2 (s1.trans s2) (sr1.add s2 hD b9 KW.lst nt2) (s1.none hD) b9 nt2 (r2.mv (.anti va2 λa z=>by
   rcases z with (z|z)|z
   ·exact .inl (.inl z)
   ·exact .inr z
   ·exact .inl (.inr z))) h2
structure YL (X:Cx) (tg elt:Expr) (ifs:List Expr) (scope:Scope) (own:Nat) (ix:List Nat) (N:List Str) (g:AG) (t:AT) (te:AE):Prop where
 ex:∃g' t' te',KP X tg elt ifs scope own ix N g' t' te'/\JC X.K g' g/\Ln X.K t' t/\Fv X.K te' te
theorem DZ {tg elt iter:Expr} {ifs:List Expr} {scope:Scope} {own:Nat} {ix:List Nat} {N:List Str} {g:AG} {t:AT} {s:Bool} {ai:AI} (hc:X.calm=true) (hi:SI X tg iter s ai) (O:YL X tg elt ifs scope own ix N g t ta) (hs:∀x,foldedSetIterable iter X.env x=pure x:=by intro _;rfl):
 SF X (.ListComp elt [⟨tg,iter,ifs,0⟩] scope pos) (Cw ai own ix g t ta):=by
 obtain ⟨wi,pi,si⟩:=hi
 obtain ⟨g',t',te',O,sg,st,se⟩:=O.ex
 exact ⟨_,cu hc pi O hs,N0 si sg st se⟩
theorem N5 {i:Nat} {x:Str} {pos' spos:Pos} {tg elt iter:Expr} {ifs:List Expr} {scope:Scope} {own:Nat} {ix:List Nat} {N:List Str} {g:AG} {t:AT} {s:Bool} {ai:AI} (hc:X.calm=true) (hN:X.N.Nodup) (am:X.N[i]? =some x) (hx:Loc X.env.scope x) (hi:SI X tg iter s ai) (O:YL X tg elt ifs scope own ix N g t ta)
 (kA:swapsWith (.ListComp elt [⟨tg,iter,ifs,0⟩] scope pos) (some (.Name x pos')) spos.line X.env=pure true:=by rfl) (hs:∀x,foldedSetIterable iter X.env x=pure x:=by intro _;rfl)
 (hf:X.fn x=true\/X.env.scope.names.lookup x=some .local:=by first | exact .inl rfl|exact .inr rfl|assumption):
 SS X (.Assign [.Name x pos'] (.ListComp elt [⟨tg,iter,ifs,0⟩] scope pos) spos) (Ay (GW (Cw ai own ix g t ta)) (Aw i)):=by
 obtain ⟨wi,pi,si⟩:=hi
 obtain ⟨g',t',te',O,sg,st,se⟩:=O.ex
 exact ⟨_,c9 hc hN am hx pi O kA hs hf,RN (aG (N0 si sg st se)) RP⟩
end
def LA (N:Nat) (xs:List PV):BC:=xs.map (λx=>some (.val x))++List.replicate (N-xs.length) none
def Av (N:Nat) (b:AS):AF:=λxs Q=>b {nx:=λ_=>Q .non,rt:=Q,bk:=λ_=>False,ct:=λ_=>False} (LA N xs)
theorem aR {K:PySem.W.Frag} {T M:Addr->Prop} {H:Hp} {N:List Str} {vs:List V} {xs:List PV} (va:GZ T M H) (mt':∀a,M a->¬T a) (r:A0 K T M H vs xs):SR K ⟨T,H,M⟩ T H (start N vs) (LA N.length xs):=by
 have no:∀(j:Nat) (ys:List PV),(LA N.length xs)[j]? ≠some (some (.own ys)):=λj ys h=>by
  unfold LA at h
  by_cases hj:j<xs.length
  ·rw [List.getElem?_append_left (by simpa using hj),List.getElem?_map,List.getElem?_eq_getElem hj] at h
   cases h
  ·rw [List.getElem?_append_right (by simpa using hj),List.getElem?_replicate] at h
   split at h <;> cases h
 refine ⟨by simp [L2.start,LA,r.length],λj x h=> ?_,λj ys h=>absurd h (no j ys),λj k ys zs p h=>absurd h (no j ys),va.tp,va.mu,mt', .refl va.tp⟩
 unfold LA at h
 by_cases hj:j<xs.length
 ·rw [List.getElem?_append_left (by simpa using hj),List.getElem?_map,List.getElem?_eq_getElem hj] at h
  cases h
  obtain ⟨v,hv,rv⟩:=r.get (List.getElem?_eq_getElem hj)
  refine ⟨v, ?_,rv.mv (.anti va λa m=>m.elim id λ⟨_,_,z,_⟩=>absurd z (no _ _))⟩
  unfold L2.start
  rw [List.getElem?_append_left (by rw [List.length_map,r.length];exact hj),List.getElem?_map,hv]
  rfl
 ·rw [List.getElem?_append_right (by simpa using hj),List.getElem?_replicate] at h
  split at h <;> cases h
section
variable {P:Program} {w:World} {K:PySem.W.Frag} {mg:Str->Option Value} {base:Heap}
theorem Aa {x qual:Str} {st:Stmt} {f:Addr} {fd:FuncData} {N ps:List Str} {k n:Nat} {b:AS} (F:Ck K x qual st f fd) (S:AZ N ps (AU st)) (hn:n=ps.length)
 (So:∀(cdv:Value) (A:Around) (outer:List Env) (s:Shared) (H:Hp) (E:XK),Room k (A.deeper (envOfC qual (AU st) s.heap.objs.size f cdv))->
   bJ (UW Cf P w K mg base N qual (AU st) f cdv A outer s H E).nox (ED st) b):Az P w K mg base Cf (k+1) f fd ps (BJ K n (Av N.length b)):=by
 refine F.ok S (λvs H Q E h=> ?_) (λcdv A outer s H vs Q E hr h=> ?_)
 ·obtain ⟨T,M,xs,AQ,_,_,r,hl,_⟩:=h
  rw [r.length,hl,hn]
 ·obtain ⟨T,M,xs,AQ,va,mt',r,hl,hF,hQ⟩:=h
  obtain ⟨t,p,sm⟩:=So cdv A outer s H E hr
  refine ⟨t,p,sm ⟨T,H,M⟩ T _ _ H _ _ (aR va mt' r) hF ⟨λT' H' σ' τ' _ sr q=> ?_,λ_ _ _ _ _ _ q=>q.elim,λ_ _ _ _ _ _ q=>q.elim,λv x T' H' s' r' q=>hQ v x T' H' s' r' q⟩⟩
  exact hQ _ _ T' H' sr.st .non q
end
end PL
end
section
namespace PL
open PySem PySem.Spec PyProof.Rows L2
section
variable {X:Cx}
theorem Yq {prog:Program} {w:World} {A:Around} {E:Value->Shared->Prop} {s:Shared} {t b:Addr} {ws:List Value} {Q:Value->Shared->Prop} (ht:IsTup s.heap t #[]) (hb:IsTup s.heap b ws.toArray) (h0:Q (.ref b) s):wpAny (model prog w) A (binaryOp .Add (.ref t) (.ref b)) Q E s:=by
 obtain ⟨⟨cls,dd,data,sl⟩,ho,hc,n,hd⟩:=id ht
 obtain ⟨⟨cls2,dd2,data2,sl2⟩,gP,OA,n2,jt⟩:=id hb
 simp only at hc hd OA jt
 subst hc hd OA jt
 exact concat_meets ⟨_,ho,rfl⟩ ⟨_,gP,rfl⟩ noFill_tuple_add seq_tuple_add PySem.F.slot_tuple_add PySem.F.entry_tuple_add (PySem.F.args_tuple_add_2 _ _)
  (tuple_addW0 t b #[] ws.toArray n n2 dd dd2 sl sl2 (by simp)) ⟨ho,gP,h0⟩
def Zt (K:PySem.W.Frag):R2:=λx y H Q=>∃a b ys,x= .ref a/\y= .ref b/\JD K H a [] /\JD K H b ys/\Q (.ref b) H
theorem Zc:EC X (binaryOp .Add) (Zt X.K):=by
 intro pins s σ H x y v u Q I rx ry h
 obtain ⟨a,b,ys,rfl,rfl,ha,hb,q⟩:=h
 cases rx
 cases ry
 obtain ⟨its,r1,p1,_⟩:=I.tuple ha
 obtain ⟨its2,r2,p2,_⟩:=I.tuple hb
 cases r1
 exact Yq p1 p2 ⟨.ref b,H,I,rfl,q⟩
def fA (K:PySem.W.Frag):R2:=λx y H Q=>((PQ (λi j=>V.int (i+j)) x y H Q\/kq x y H Q)\/fB K x y H Q)\/Zt K x y H Q
def BY:Ig:=λx y Q=>match x,y with
 | .int i, .int j=>Q (.int (i+j))
 | .lst xs, .lst ys=>xs.length+ys.length<=sizeLine/\Q (.lst (xs++ys))
 | .tup xs, .tup ys=>xs.length+ys.length<=sizeLine/\Q (.tup (xs++ys))
 | _,_=>False
theorem A8:EC X (binaryOp .Add) (fA X.K)/\B8 X.K (fA X.K) BY:=by
 refine ⟨((IX.or hI).or ci).or Zc,λT M H u v x y Q AQ va ru rv h k=> ?_⟩
 unfold BY at h
 split at h <;> first | exact h.elim|skip
 ·exact .inl (.inl (.inl ⟨_,_,ru.toI,rv.toI,k _ _ T H (.refl va.tp) (.int _) h⟩))
 ·obtain ⟨a,vs,rfl,hq,nt,nm,rs⟩:=Dq ru
  obtain ⟨b,ws,rfl,Qb,nt2,nm2,rs2⟩:=Dq rv
  refine .inl (.inl (.inr ⟨a,b,vs,ws,rfl,rfl,hq,Qb,by rw [rs.length,rs2.length];exact h.1,λp hp=> ?_⟩))
  have st:=DT.lay (o:= .lst (vs++ws)) va.tp hp
  have np:¬T p:=λz=>by obtain ⟨o,e,_⟩:=(va.tp p z).mut;rw [hp] at e;cases e
  have nq:¬M p:=λz=>by obtain ⟨o,e,_⟩:=va.mu p z;rw [hp] at e;cases e
  exact k _ _ T _ st (.lst Ah np nq ((rs.append rs2).stp st va)) h.2
 ·obtain ⟨a,vs,rfl,hq,rs⟩:=Cq ru
  obtain ⟨b,ws,rfl,Qb,rs2⟩:=Cq rv
  by_cases e:vs= []
  ·subst e
   cases rs
   exact .inr ⟨a,b,ws,rfl,rfl,hq,Qb,k _ _ T H (.refl va.tp) rv (by simpa using h.2)⟩
  ·refine .inl (.inr ⟨a,b,vs,ws,rfl,rfl,hq,Qb,e,by rw [rs.length,rs2.length];exact h.1,λz=> ?_,λz p hp=> ?_⟩)
   ·subst z
    cases rs2
    exact k _ _ T H (.refl va.tp) ru (by simpa using h.2)
   ·have st:=DT.lay (o:= .tup (vs++ws)) va.tp hp
    exact k _ _ T _ st (.tup (.inl Ah) ((rs.append rs2).stp st va)) h.2
theorem He {prog:Program} {w:World} {A:Around} {E:Value->Shared->Prop} {s:Shared} {t sl:Addr} {items:Array Value} {vl vu:Value} {lo hi:Option Int} {Q:Value->Shared->Prop} (ht:IsTup s.heap t items) (hs:s.heap.IsSliceOf sl vl vu .none) (pl:IsPart vl lo) (pu:IsPart vu hi)
 (hw:HT.sIx items.size 0 lo=0/\HT.sIx items.size items.size hi=items.size)
 (h:Q (.ref t) s):wpAny (model prog w) A (getItem (.ref t) (.ref sl)) Q E s:=by
 obtain ⟨os,gR,mB,jx⟩:=id hs
 have nH:s.TypeIs (.ref sl) "slice" :=⟨os,gR,mB⟩
 obtain ⟨ot,vL,vH,nt,vI⟩:=id ht
 unfold getItem
 try with_reducible refine wpAny_holding ?_
 first | refine wpAny_bind (wpAny_pure ?_)|skip
 refine wpAny_bind (wpAny_sequenceKey ht.typeIs (by decide) ?_)
 refine wpAny_bind (wpAny_callSpecial?_slot (name:=Str.ofString "__getitem__") ht.typeIs PyProof.Rows.slot_tuple_getitem
  (wpAny_call_entry PyProof.Rows.slot_tuple_getitem ht.typeIs entry_tuple_getitem ?_ (args_tuple_getitem _ _)))
 show wpAny _ _ (Builtin.Tuple.tupleItemsOf (.ref t) >>= _) _ _ s
 refine wpAny_bind (tupleItemsOf_ ht ?_)
 refine wpAny_bind (wpAny_typeOf nH ?_)
 rw [if_pos (by decide)]
 refine wpAny_bind (HT.sliceApplied_gen hs pl pu ?_)
 have nr:((((HT.sIx items.size 0 lo:Nat):Int)==0&&(1:Int)==1&&(HT.sIx items.size items.size hi-HT.sIx items.size 0 lo)==items.size)=true):=by
  rw [hw.1,hw.2]
  simp
 show wpAny _ _ (if (((HT.sIx items.size 0 lo:Nat):Int)==0&&(1:Int)==1&&(HT.sIx items.size items.size hi-HT.sIx items.size 0 lo)==items.size)=true then _ else _) _ _ s
 rw [if_pos nr]
 unfold Builtin.Tuple.tupleIsExact
 simp only [bind_assoc,pure_bind]
 refine wpAny_bind (wpAny_typeOf ht.typeIs ?_)
 rw [if_pos (by decide)]
 exact wpAny_bind (wpAny_rule (wpAny_pure ⟨_,rfl,wpAny_pure h⟩))
def oD (K:PySem.W.Frag):V->Option Int->Option Int->Hp->VK->Prop:=λx lo hi H Q=>∃a xs,x= .ref a/\JD K H a xs/\
 (HT.sIx xs.length 0 lo=0/\HT.sIx xs.length xs.length hi=xs.length)/\Q (.ref a) H
theorem dW:d9 X (oD X.K):=by
 intro pins s σ H x v vl vu lo hi sl Q I rx hs pl pu h
 obtain ⟨a,xs,rfl,hx,hw,q⟩:=h
 cases rx
 obtain ⟨its,r,ht,hz⟩:=I.tuple hx
 have C9:its.toArray.size=xs.length:=by rw [List.size_toArray];exact r.length.symm
 refine ⟨"tuple",_,PyProof.Rows.slot_tuple_getitem.lookup,ht.typeIs, ?_⟩
 exact He ht hs pl pu (by rw [C9];exact hw) ⟨.ref a,H,I,rfl,q⟩
def Hd (xs:List PV) (lo hi:Option Int):List PV:=(xs.drop (HT.sIx xs.length 0 lo)).take (HT.sIx xs.length xs.length hi-HT.sIx xs.length 0 lo)
theorem Vt {K:PySem.W.Frag} {T M:Addr->Prop} {H:Hp} {vs:List V} {xs:List PV} (r:A0 K T M H vs xs) (lo hi:Option Int):A0 K T M H (OV vs lo hi) (Hd xs lo hi):=by
 unfold OV Hd
 rw [r.length]
 exact (r.drop _).take _
abbrev AO:=BC->(Option Int->Prop)->Prop
def mr (K:PySem.W.Frag) (t:TO) (a:AO):Prop:=∀(B:Cn) (T:Addr->Prop) (σ:L2.St) (τ:BC) (H:Hp) (Q:Option Int->Hp->Prop) (AQ:Option Int->Prop),SR K B T H σ τ->a τ AQ->
 (∀o T' H',DT T H T' H'->AQ o->Q o H')->t σ H Q
def SO (X:Cx) (e:Option Expr) (a:AO):Prop:=∃t,PO X e t/\mr X.K t a
def Vm:AO:=λ_ Q=>Q none
def Vn (ta:AE):AO:=λτ Q=>ta τ λx=>ao x λi=>Q (some i)
theorem YD:SO X none Vm:=⟨_,c7,λB T σ τ H Q AQ sr h k=>k _ T H (.refl sr.tp) h⟩
theorem YE {e:Expr} {ta:AE} (h:SE X e ta):SO X (some e) (Vn ta):=by
 obtain ⟨t,p,s⟩:=h
 refine ⟨_,c8 p,λB T σ τ H Q AQ sr h k=>s B T σ τ H _ _ sr h λv x T1 H1 s1 r1 h1=> ?_⟩
 obtain ⟨i,rfl,q⟩:=Q2 h1
 exact ⟨i,r1.toI,k _ T1 H1 s1 q⟩
@[irreducible] def Vz (x:PV) (lo hi:Option Int) (Q:PV->Prop):Prop:=match x with | .tup xs=>Q (.tup (Hd xs lo hi)) | .lst xs=>Q (.lst (Hd xs lo hi))|_=>False
theorem HY {xs:List PV} {lo hi:Option Int} {Q:PV->Prop} (h:Q (.tup (Hd xs lo hi))):Vz (.tup xs) lo hi Q:=by unfold Vz;exact h
theorem EN {xs:List PV} {lo hi:Option Int} {Q:PV->Prop} (h:Q (.lst (Hd xs lo hi))):Vz (.lst xs) lo hi Q:=by unfold Vz;exact h
def Vk (ta:AE) (l h:AO):AE:=λτ Q=>ta τ λx=>l τ λlo=>h τ λhi=>Vz x lo hi Q
theorem GV {e:Expr} {lo hi:Option Expr} {p2 pos:Pos} {ta:AE} {l h:AO} (he:SE X e ta) (hl:SO X lo l) (hh:SO X hi h):SE X (.Subscript e (.Slice lo hi none p2) pos) (Vk ta l h):=by
 obtain ⟨t,p,s⟩:=he
 obtain ⟨t1,p1,s1'⟩:=hl
 obtain ⟨t2,p2',s2'⟩:=hh
 refine ⟨_,Zl ((dU.or iZ).or dW) p p1 p2',λB T σ τ H Q AQ sr h k=>s B T σ τ H _ _ sr h λv x T1 H1 s1 r1 h1=> ?_⟩
 refine s1' B T1 σ τ H1 _ _ (sr.stp s1) h1 λlo T2 H2 s2 h2=> ?_
 refine s2' B T2 σ τ H2 _ _ ((sr.stp s1).stp s2) h2 λhi T3 H3 s3 h3=> ?_
 have sr3:=((sr.stp s1).stp s2).stp s3
 have r3:=(r1.stp s2 (sr.stp s1).va).stp s3 ((sr.stp s1).stp s2).va
 have s123:=(s1.trans s2).trans s3
 unfold Vz at h3
 split at h3 <;> first | exact h3.elim|skip
 ·obtain ⟨a,vs,rfl,hq,rs⟩:=Cq r3
  by_cases hw:HT.sIx vs.length 0 lo=0/\HT.sIx vs.length vs.length hi=vs.length
  ·refine .inr ⟨a,vs,rfl,hq,hw,k _ _ T3 H3 s123 r3 ?_⟩
   rename_i xs
   have:Hd xs lo hi=xs:=by
    unfold Hd
    rw [<-rs.length,hw.1,hw.2,rs.length]
    simp
   rw [this] at h3
   exact h3
  ·refine .inl (.inr ⟨a,vs,rfl,hq,hw,λq Qa=> ?_⟩)
   have st:=DT.lay (o:= .tup (OV vs lo hi)) sr3.tp Qa
   exact k _ _ T3 _ (s123.trans st) (.tup (.inl Ah) ((Vt rs lo hi).stp st sr3.va)) h3
 ·obtain ⟨a,vs,rfl,hq,nt,nm,rs⟩:=Dq r3
  refine .inl (.inl ⟨a,vs,rfl, .inl (.inl hq),λq Qa=> ?_⟩)
  have st:=DT.lay (o:= .lst (OV vs lo hi)) sr3.tp Qa
  have np:¬T3 q:=λz=>by obtain ⟨o,e,_⟩:=(sr3.tp q z).mut;rw [Qa] at e;cases e
  have nq:¬mt B σ τ q:=λz=>by obtain ⟨o,e,_⟩:=sr3.va.mu q z;rw [Qa] at e;cases e
  exact k _ _ T3 _ (s123.trans st) (.lst Ah np nq ((Vt rs lo hi).stp st sr3.va)) h3
end
def BX:AF:=λxs Q=>match xs with | [.tape, .int m] =>(0<m/\m<4611686018427387904)/\∀r,0<=r->r<m->Q (.int r)|_=>False
def Mx:AF:=λxs Q=>match xs with | [.scr ns, .int k] =>(0<=k/\k<=1000)/\Q .tape|_=>False
end PL
end
section
namespace PL
open PySem PySem.Spec PyProof.Rows L2
def jV (g:TG):Prop:=∀v σ H Q Q',(∀σ2 H2,Q σ2 H2->Q' σ2 H2)->g v σ H Q->g v σ H Q'
def fR (g:UI):Prop:=∀v σ H Q Q',(∀σ2 H2,Q σ2 H2->Q' σ2 H2)->g v σ H Q->g v σ H Q'
def SK (own:Nat) (X:Cx) (tg:Expr) (ag:AG):Prop:=∃g,PG X tg g/\JC X.K g ag/\Go own g/\jV g
def ly (own:Nat) (X:Cx) (tg:List Expr) (ag:T8):Prop:=∃g,i5 X tg g/\O4 X.K g ag/\Mz own g/\fR g
section
variable {X:Cx} {pos:Pos} {own:Nat}
theorem Wb {i:Nat} {x:Str} (hN:X.N.Nodup) (hi:X.N[i]? =some x) (hx:Loc X.env.scope x) (hk:i<own) (hf:X.fn x=true\/X.env.scope.names.lookup x=some .local:=by first | exact .inl rfl|exact .inr rfl|assumption):SK own X (.Name x pos) (Aw i):=
 ⟨_,JZ hN hi hx hf,RP,bi hk,bn⟩
theorem RT:ly own X [] CS:=⟨_,Q7,Ti,bj,bq⟩
theorem Fj {e:Expr} {es:List Expr} {ag:AG} {ags:T8} (h1:SK own X e ag) (h2:ly own X es ags) (hs:(assignEach (e::es) X.env).map (·.2)=assign e X.env::(assignEach es X.env).map (·.2):=by rfl):ly own X (e::es) (Ak ag ags):=
 let ⟨_,p,s,k,m⟩:=h1;let ⟨_,p',s',k',m'⟩:=h2;⟨_,G1 p p' hs,Ph s s',Y3 k m k' m',Y4 m m'⟩
end
def gD (K:PySem.W.Frag) (own:Nat) (ag:AG):TG:=λv σ H Q=>∃(B:Cn) (T:Addr->Prop) (τ:BC) (x:PV) (AQ:BC->Prop),SR K B T H σ τ/\CB K T (mt B σ τ) H v x/\ag x τ AQ/\
 ∀σ' τ',SR K B T H σ' τ'->(∀b,Cz σ' τ' b->Cz σ τ b)->AQ τ'->(σ'.length=σ.length/\∀j,own<=j->σ'[j]? =σ[j]?)->Q σ' H
def jF (K:PySem.W.Frag) (a:AT):TT:=λσ H Q=>∃(B:Cn) (T:Addr->Prop) (τ:BC) (AQ:Bool->Prop),SR K B T H σ τ/\a τ AQ/\∀b T' H',DT T H T' H'->AQ b->Q b H'
def i7 (K:PySem.W.Frag) (a:AE):TE:=λσ H Q=>∃(B:Cn) (T:Addr->Prop) (τ:BC) (AQ:PV->Prop),SR K B T H σ τ/\a τ AQ/\∀v x T' H',DT T H T' H'->CB K T' (mt B σ τ) H' v x->AQ x->Q v H'
theorem MN {K:PySem.W.Frag} {own:Nat} {ag:AG}:JC K (gD K own ag) ag:=λB T σ τ H v x Q AQ sr r h k=>⟨B,T,τ,x,AQ,sr,r,h,λσ' τ' s o q _=>k σ' τ' s o q⟩
theorem JS {K:PySem.W.Frag} {own:Nat} {ag:AG}:Go own (gD K own ag):=λv σ H Q ⟨B,T,τ,x,AQ,sr,r,h,k⟩=>⟨B,T,τ,x,AQ,sr,r,h,λσ' τ' s o q z=>⟨k σ' τ' s o q z,z⟩⟩
theorem MO {K:PySem.W.Frag} {a:AT}:Ln K (jF K a) a:=λB T σ τ H Q AQ sr h k=>⟨B,T,τ,AQ,sr,h,k⟩
theorem RO {K:PySem.W.Frag} {a:AE}:Fv K (i7 K a) a:=λB T σ τ H Q AQ sr h k=>⟨B,T,τ,AQ,sr,h,k⟩
section
variable {X:Cx}
theorem SK.of {own:Nat} {tg:Expr} {ag:AG} (h:SK own X tg ag):PG X tg (gD X.K own ag):=by
 obtain ⟨g,p,s,k,m⟩:=h
 intro pins sh σ H v u Q I r hw
 obtain ⟨B,T,τ,x,AQ,sr,rx,h,c⟩:=hw
 have h1:g v σ H λσ' H'=>H'=H/\∃τ',SR X.K B T H σ' τ'/\(∀b,Cz σ' τ' b->Cz σ τ b)/\AQ τ':=s B T σ τ H v x _ AQ sr rx h λσ' τ' s o q=>⟨rfl,τ',s,o,q⟩
 have h2:=k v σ H _ h1
 refine p pins sh σ H v u Q I r (m v σ H _ _ (λσ2 H2 q=> ?_) h2)
 obtain ⟨⟨rfl,τ',s',o',q'⟩,z⟩:=q
 exact c σ2 τ' s' o' q' z
theorem d8.of {ifs:List Expr} {a:AT} (h:d8 X ifs a):Vg X ifs (jF X.K a):=by
 obtain ⟨t,p,s⟩:=h
 intro pins sh σ H Q I hw
 obtain ⟨B,T,τ,AQ,sr,h,c⟩:=hw
 exact p pins sh σ H Q I (s B T σ τ H Q AQ sr h c)
theorem SE.of {e:Expr} {a:AE} (h:SE X e a):PE X e (i7 X.K a):=by
 obtain ⟨t,p,s⟩:=h
 intro pins sh σ H Q I hw
 obtain ⟨B,T,τ,AQ,sr,h,c⟩:=hw
 exact p pins sh σ H Q I (s B T σ τ H Q AQ sr h c)
theorem DU {tg elt:Expr} {ifs:List Expr} {scope:Scope} {own:Nat} {ix:List Nat} {N:List Str} {g:AG} {t:AT} {te:AE} (h1:scope.kind= .function) (h2:(scope.names.all λy=> !decide (y.2= .cell))=true) (h3:(scope.names.all λy=> !decide (y.2= .local)||decide (scope.names.lookup y.1=some .local))=true)
 (h4:(scope.names.all λy=> !decide (y.2= .free)||decide (X.env.scope.names.lookup y.1=some .cell))=true) (h5:N.length=own+ix.length) (h6:NH X (relabel scope X.env) own ix N=true)
 (tgt:∀cl C s H ex pn,SK own (blk X (relabel scope X.env) N cl C s H ex pn) tg g)
 (tst:∀cl C s H ex pn,d8 (blk X (relabel scope X.env) N cl C s H ex pn) ifs t)
 (val:∀cl C s H ex pn,SE (blk X (relabel scope X.env) N cl C s H ex pn) elt te):YL X tg elt ifs scope own ix N g t te:=
 ⟨gD X.K own g,jF X.K t,i7 X.K te,Vs h1 h2 h3 h4 h5 h6 JS (λcl C s H ex pn=>(tgt cl C s H ex pn).of) (λcl C s H ex pn=>(tst cl C s H ex pn).of) (λcl C s H ex pn=>(val cl C s H ex pn).of),MN,MO,RO⟩
end
end PL
end
section
namespace PL
open PySem PySem.Spec PyProof.Rows L2
mutual
def pd:PV->PyData
 | .bl b=> .bool b
 | .int i=> .int i
 | .str x=> .str x
 | .tup xs=> .tuple (OC xs)
 | .lst xs=> .list (OC xs)
 | _=> .none
def OC:List PV->List PyData
 | [] => []
 | x::xs=>pd x::OC xs
end
mutual
def ET:Nat->PV->Bool
 | _, .non=>true
 | _, .bl _=>true
 | _, .int _=>true
 | _, .str x=>PyData.strOk x
 | n+1, .tup xs=>IU n xs
 | n+1, .lst xs=>IU n xs
 | _,_=>false
def IU:Nat->List PV->Bool
 | _, [] =>true
 | n,x::xs=>ET n x&&IU n xs
end
mutual
theorem HK:∀(n:Nat) (x:PV),ET n x=true->(pd x).canLay0=true/\(pd x).depth<=n/\(pd x).hasDict=false
 | n, .non,_=>⟨rfl,Nat.zero_le _,rfl⟩
 | n, .bl _,_=>⟨rfl,Nat.zero_le _,rfl⟩
 | n, .int _,_=>⟨rfl,Nat.zero_le _,rfl⟩
 | n, .str x,h=>⟨by simpa [pd,PyData.canLay0,ET] using h,Nat.zero_le _,rfl⟩
 | 0, .tup xs,h=>by simp [ET] at h
 | 0, .lst xs,h=>by simp [ET] at h
 | n+1, .tup xs,h=>by
   obtain ⟨a,b,c⟩:=JX n xs (by simpa [ET] using h)
   exact ⟨by simpa [pd,PyData.canLay0] using a,by simpa [pd,PyData.depth] using b,by simpa [pd,PyData.hasDict] using c⟩
 | n+1, .lst xs,h=>by
   obtain ⟨a,b,c⟩:=JX n xs (by simpa [ET] using h)
   exact ⟨by simpa [pd,PyData.canLay0] using a,by simpa [pd,PyData.depth] using b,by simpa [pd,PyData.hasDict] using c⟩
 | n, .tape,h=>by simp [ET] at h
 | n, .scr _,h=>by simp [ET] at h
 | n, .ty _,h=>by simp [ET] at h
theorem JX:∀(n:Nat) (xs:List PV),IU n xs=true->PyData.canLayAll0 (OC xs)=true/\PyData.depthAll (OC xs)<=n/\PyData.hasDictAll (OC xs)=false
 | n, [],_=>⟨rfl,Nat.zero_le _,rfl⟩
 | n,x::xs,h=>by
   simp only [IU,Bool.and_eq_true] at h
   obtain ⟨a,b,c⟩:=HK n x h.1
   obtain ⟨a',b',c'⟩:=JX n xs h.2
   exact ⟨by simp [OC,PyData.canLayAll0,a,a'],by simp only [OC,PyData.depthAll];omega,by simp [OC,PyData.hasDictAll,c,c']⟩
end
section
variable {X:Cx} {pins:List (Addr×Obj)} {σ:L2.St} {H:Hp} {s:Shared}
mutual
theorem D3 (I:Inv X pins σ H s) {T M:Addr->Prop}:∀(n:Nat) {x:PV} {v:V} {u:Value},CB X.K T M H v x->ET n x=true->RelV v u->∃as,Reads s.heap u (pd x) as
 | _,_,_,_, .non,_,r=>by cases r;exact ⟨_, .none⟩
 | _,_,_,_, .bl b,_,r=>by cases r;exact ⟨_, .bool b⟩
 | _,_,_,_, .int i,_,r=>by obtain ⟨t,rfl⟩:=r;exact ⟨_, .int i t⟩
 | _,_,_,_, .str x,_,r=>by obtain ⟨t,rfl⟩:=r;exact ⟨_, .str x t⟩
 | _,_,_,_, .ty n,h,r=>by simp [ET] at h
 | 0,_,_,_, .tup hq rs,h,r=>by simp [ET] at h
 | 0,_,_,_, .lst hq t m rs,h,r=>by simp [ET] at h
 | n+1,_,_,_, .tup hq rs,h,r=>by
   cases r
   obtain ⟨its,rv,⟨o,ho,hc,k,hd⟩,_⟩:=I.tuple hq.sq
   obtain ⟨as,ra⟩:=G3 I n rs (by simpa [ET] using h) rv
   exact ⟨_, .tuple ho hc hd (by simpa using ra)⟩
 | n+1,_,_,_, .lst hq t m rs,h,r=>by
   cases r
   obtain ⟨its,rv,⟨o,k,ho,hc,_,hd⟩,_⟩:=I.list (Fw.of hq)
   obtain ⟨as,ra⟩:=G3 I n rs (by simpa [ET] using h) rv
   exact ⟨_, .list ho hc hd (by simpa using ra)⟩
 | _,_,_,_, .tape _,h,r=>by simp [ET] at h
 | _,_,_,_, .scr _,h,r=>by simp [ET] at h
theorem G3 (I:Inv X pins σ H s) {T M:Addr->Prop}:∀(n:Nat) {xs:List PV} {vs:List V} {us:List Value},A0 X.K T M H vs xs->IU n xs=true->Ax vs us->∃as,ReadsAll s.heap us (OC xs) as
 | _,_,_,_, .nil,_,r=>by cases r;exact ⟨_, .nil⟩
 | n,_,_,_, .cons h t,hk,r=>by
   simp only [IU,Bool.and_eq_true] at hk
   cases r with
   | cons r rr=>
     obtain ⟨as,ra⟩:=D3 I n h hk.1 r
     obtain ⟨bs,rb⟩:=G3 I n t hk.2 rr
     exact ⟨_, .cons ra rb⟩
end
end
section
variable {X:Cx}
def fx (x y:PV):Bool:=PyData.eqv (pd x) (pd y)
def dC (K:PySem.W.Frag) (neg:Bool):R2:=λu v H Q=>∃(T M:Addr->Prop) (x y:PV),CB K T M H u x/\CB K T M H v y/\ET 30 x=true/\ET 30 y=true/\Q (.bl (if neg then !fx x y else fx x y)) H
theorem hJ {k:Nat} (hr:Room k X.A):EC X (compareOp .Eq) (dC X.K false):=by
 intro pins s σ H u v uu vv Q I ru rv h
 obtain ⟨T,M,x,y,rx,ry,kx,ky,q⟩:=h
 obtain ⟨as,ra⟩:=D3 I 30 rx kx ru
 obtain ⟨bs,rb⟩:=D3 I 30 ry ky rv
 obtain ⟨a1,a2,_⟩:=HK 30 x kx
 obtain ⟨b1,b2,_⟩:=HK 30 y ky
 exact SeqAt.compareEq_reads ra rb a1 b1 (by have:=hr.un;omega) ⟨.bl _,H,I,rfl,q⟩
theorem hV {k:Nat} (hr:Room k X.A):EC X (compareOp .NotEq) (dC X.K true):=by
 intro pins s σ H u v uu vv Q I ru rv h
 obtain ⟨T,M,x,y,rx,ry,kx,ky,q⟩:=h
 obtain ⟨as,ra⟩:=D3 I 30 rx kx ru
 obtain ⟨bs,rb⟩:=D3 I 30 ry ky rv
 obtain ⟨a1,a2,_⟩:=HK 30 x kx
 obtain ⟨b1,b2,_⟩:=HK 30 y ky
 exact SeqAt.compareNe_reads ra rb a1 b1 (by have:=hr.un;omega) ⟨.bl _,H,I,rfl,q⟩
def NF:Ig:=λx y Q=>match WV x y with | some b=>Q (.bl b)|none=>(ET 30 x=true/\ET 30 y=true)/\Q (.bl (fx x y))
def XA:Ig:=λx y Q=>match WV x y with | some b=>Q (.bl (!b))|none=>(ET 30 x=true/\ET 30 y=true)/\Q (.bl (!fx x y))
def kr (K:PySem.W.Frag):R2:=λx y H Q=>qb x y H Q\/dC K false x y H Q
def lC (K:PySem.W.Frag):R2:=λx y H Q=>qc x y H Q\/dC K true x y H Q
theorem Dc {k:Nat} (hr:Room k X.A):EC X (compareOp .Eq) (kr X.K)/\B8 X.K (kr X.K) NF:=by
 refine ⟨kX.or (hJ hr),λT M H u v x y Q AQ va ru rv h k=> ?_⟩
 unfold NF at h
 split at h
 ·rename_i b e
  obtain ⟨h1,h2⟩:=Te ru rv e
  refine .inl ⟨h1, ?_⟩
  rw [h2]
  exact k _ _ T H (.refl va.tp) (.bl _) h
 ·exact .inr ⟨T,M,x,y,ru,rv,h.1.1,h.1.2,k _ _ T H (.refl va.tp) (.bl _) h.2⟩
theorem Pj {k:Nat} (hr:Room k X.A):EC X (compareOp .NotEq) (lC X.K)/\B8 X.K (lC X.K) XA:=by
 refine ⟨kY.or (hV hr),λT M H u v x y Q AQ va ru rv h k=> ?_⟩
 unfold XA at h
 split at h
 ·rename_i b e
  obtain ⟨h1,h2⟩:=Te ru rv e
  refine .inl ⟨h1, ?_⟩
  rw [h2]
  exact k _ _ T H (.refl va.tp) (.bl _) h
 ·exact .inr ⟨T,M,x,y,ru,rv,h.1.1,h.1.2,k _ _ T H (.refl va.tp) (.bl _) h.2⟩
structure fY (x:PV):Prop where
 ok:ET 30 x=true
 sh:(pd x).showable=true
 sz:(pd x).shown.length<=sizeLine
end
end PL
end
section
namespace PL
open PySem PySem.Spec PyProof.Rows L2
section
variable {prog:Program} {w:World} {A:Around} {E:Value->Shared->Prop} {s:Shared}
theorem LQ {h:Heap} {l:Addr} {items:Array Value} (hl:h.IsList l items) (o:Obj):(h.push o).IsList l items:=by
 obtain ⟨ob,e,r⟩:=hl
 exact ⟨ob,Heap.get?_push_of_some _ e,r⟩
theorem PJ {it t:Addr} {items:Array Value} (YB:t≠it):∀(n i:Nat) (s:Shared) (Q:List Value->Shared->Prop),s.heap.IsListIter it t i->s.heap.IsList t items->i+n<=items.size->
 (∀h',h'.IsListIter it t (i+n)->Heap.SameBut it s.heap h'->Q ((items.toList.drop i).take n) {s with heap:=h'})->wpAny (model prog w) A (draw (.ref it) n) Q E s
 | 0,i,s,Q,hit,_,_,hQ=>by
   show wpAny _ _ (pure []) Q E s
   exact wpAny_pure (by simpa using hQ s.heap hit (Heap.SameBut.refl ..))
 | n+1,i,s,Q,hit,ht,XO,hQ=>by
   have Dt:i<items.size:=by omega
   show wpAny _ _ (pyNext (.ref it) >>= _) Q E s
   refine wpAny_bind (wpAny_pyNext_list_item hit ht (x:=items[i]) (by simp [Dt]) λh₁ hit₁ hs₁=> ?_)
   refine wpAny_bind (wpAny_holding (PJ YB n (i+1) _ _ hit₁ (ht.extBut hs₁.extBut YB) (by omega) λh₂ hit₂ hs₂=>wpAny_pure ?_))
   have hd:items.toList.drop i=items[i] :: items.toList.drop (i+1):=by simp [List.drop_eq_getElem_cons,Dt]
   have:=hQ h₂ (by rw [show i+(n+1)=i+1+n by omega];exact hit₂) (hs₁.trans hs₂)
   rw [hd,List.take_succ_cons] at this
   exact this
theorem LC {t:Addr} {items:Array Value} {Q:List Value->Shared->Prop} (hh:A.handled=none) (ht:s.heap.IsList t items)
 (hQ:∀h',Heap.ExtBut s.heap.objs.size s.heap h'->Q items.toList {s with heap:=h'}):wpAny (model prog w) A (unpackItems (.ref t) items.size none) Q E s:=by
 have Dt:t≠s.heap.objs.size:=by obtain ⟨o,ho,_⟩:=ht;exact Nat.ne_of_lt (Heap.lt_size ho)
 unfold unpackItems
 refine wpAny_bind ?_
 ·unfold notIterableAtAll
  refine wpAny_bind (wpAny_specialOf ht.typeIs slot_list_iter.lookup ?_)
  refine wpAny_pure ?_
  simp only [Bool.false_eq_true,if_false]
  refine wpAny_bind (wpAny_holding (wpAny_pyIter_list ht ?_))
  refine wpAny_bind (wpAny_holding (PJ Dt items.size 0 _ _ ⟨_,Heap.get?_push_size _ rfl,rfl,rfl⟩ (LQ ht _) (by omega) λh₁ hit₁ hs₁=> ?_))
  have XM:List.take items.size (List.drop 0 items.toList)=items.toList:=by
   rw [List.drop_zero];exact List.take_of_length_le (by simp)
  rw [XM]
  rw [if_neg (by simp)]
  have ht₁:h₁.IsList t items:=(LQ ht _).extBut hs₁.extBut Dt
  refine wpAny_bind (wpAny_holding (wpAny_pyNext_list_end hh hit₁ ht₁ (by simp) λh₂ he₂=> ?_))
  simp only [Option.isSome_none,Bool.false_eq_true,if_false]
  refine wpAny_pure (hQ h₂ λb o hb e=>he₂ b o hb (hs₁.extBut b o hb (Heap.get?_push_of_some _ e)))
theorem JF {env:Env} {elts:List Expr} {x1} {pos:Pos} {t:Addr} {items:Array Value} {Q:Unit->Shared->Prop} (hh:A.handled=none) (ht:s.heap.IsList t items)
 (hn:(assignEach elts env).length=items.size) (j9:(assignEach elts env).findIdx? (·.1)=none)
 (h:∀h',Heap.ExtBut s.heap.objs.size s.heap h'->wpAny (model prog w) A (assignInOrder ((assignEach elts env).map (·.2)) items.toList) Q E {s with heap:=h'}):
 wpAny (model prog w) A (assign (.Tuple elts x1 pos) env (.ref t)) Q E s:=by
 rw [assign_Tuple]
 refine wpAny_bind (wpAny_standAt ?_)
 unfold unpack
 rw [hn,j9]
 exact wpAny_bind (wpAny_holding (LC hh ht h))
end
section
variable {X:Cx} {pos:Pos}
def XB (K:PySem.W.Frag) (n:Nat) (t:UI):TG:=λv σ H Q=>∃a xs,v= .ref a/\(JD K H a xs\/Fw K H a xs)/\xs.length=n/\t xs σ H Q
theorem VA {es:List Expr} {k:Nat} {t:UI} {n:Nat} (hc:X.calm=true) (h:i5 X es t)
 (hn:(assignEach es X.env).length=n:=by rfl) (Um:(assignEach es X.env).findIdx? (·.1)=none:=by rfl):PG X (.Tuple es k pos) (XB X.K n t):=by
 intro pins s σ H v u Q I r hw
 obtain ⟨a,xs,e1,hq,hl,hw⟩:=hw
 subst e1
 cases r
 rcases hq with hq|hq
 ·obtain ⟨its,rv,ht,hz⟩:=I.tuple hq
  refine assign_Tuple_tuple (I.ok.hd hc) ht (by simp [hn,<-hl,rv.length]) Um λh' hx=> ?_
  have I1:Inv X pins σ H {s with heap:=h'}:=I.kept (t':=s.toks) λb o e=>hx b o (Nat.ne_of_lt (Heap.lt_size e)) e
  exact h pins _ σ H xs _ Q I1 (by simpa using rv) hw
 ·obtain ⟨its,rv,ht,hz⟩:=I.list hq
  refine JF (I.ok.hd hc) ht.isList (by simp [hn,<-hl,rv.length]) Um λh' hx=> ?_
  have I1:Inv X pins σ H {s with heap:=h'}:=I.kept (t':=s.toks) λb o e=>hx b o (Nat.ne_of_lt (Heap.lt_size e)) e
  exact h pins _ σ H xs _ Q I1 (by simpa using rv) hw
def L9 (n:Nat) (r:T8):AG:=λx τ Q=>TJ x λxs=>xs.length=n/\r xs τ Q
theorem aH {K:PySem.W.Frag} {n:Nat} {gs:UI} {ags:T8} (s:O4 K gs ags):JC K (XB K n gs) (L9 n ags):=λB T σ τ H v x Q AQ sr r h k=>by
 obtain ⟨xs,hx,h⟩:=IW h
 rcases hx with rfl|rfl
 ·obtain ⟨p,vs,rfl,hq,r'⟩:=Cq r
  exact ⟨p,vs,rfl, .inl hq,by rw [r'.length];exact h.1,s B T σ τ H vs _ Q AQ sr r' h.2 k⟩
 ·obtain ⟨p,vs,rfl,hq,nt,nm,r'⟩:=Dq r
  exact ⟨p,vs,rfl, .inr (.inl (.inl hq)),by rw [r'.length];exact h.1,s B T σ τ H vs _ Q AQ sr r' h.2 k⟩
theorem Dn {es:List Expr} {k:Nat} {ags:T8} {n:Nat} (hc:X.calm=true) (h:lw X es ags) (hn:(assignEach es X.env).length=n:=by rfl) (Um:(assignEach es X.env).findIdx? (·.1)=none:=by rfl):SG X (.Tuple es k pos) (L9 n ags):=
 let ⟨_,p,s⟩:=h;⟨_,VA hc p hn Um,aH s⟩
theorem gG {own:Nat} {K:PySem.W.Frag} {n:Nat} {t:UI} (h:Mz own t):Go own (XB K n t):=λv σ H Q ⟨a,xs,e,h1,h2,h3⟩=>⟨a,xs,e,h1,h2,h xs σ H Q h3⟩
theorem VP {own:Nat} {es:List Expr} {k:Nat} {ags:T8} {n:Nat} (hc:X.calm=true) (h:ly own X es ags) (hn:(assignEach es X.env).length=n:=by rfl) (Um:(assignEach es X.env).findIdx? (·.1)=none:=by rfl):SK own X (.Tuple es k pos) (L9 n ags):=
 let ⟨_,p,s,kp,m⟩:=h;⟨_,VA hc p hn Um,aH s,gG kp,λv σ H Q Q' z ⟨a,xs,e,h1,h2,h3⟩=>⟨a,xs,e,h1,h2,m _ _ _ _ _ z h3⟩⟩
theorem gX:i6 X .Mult (λx y H Q=>∃i j,x= .int i/\y= .int j/\MulOk i j/\Q (.int (i*j)) H):=by
 intro pins s σ H x y v u Q I r1 r2 h
 obtain ⟨i,j,e1,e2,c,q⟩:=h
 subst e1;subst e2
 obtain ⟨t,rfl⟩:=r1
 obtain ⟨t',rfl⟩:=r2
 exact AutoIntOps.imul_0 (show (Made.int (i*j)).post _ _ from ⟨.int _,H,I.tok _,⟨_,rfl⟩,q⟩) (.of_le (HH c.l) (HH c.r) (by decide))
theorem iX:i6 X .Mult (λx y H Q=>∃i j,x= .int i/\y= .int j/\MulOk i j/\Q (.int (i*j)) H)/\B8 X.K (λx y H Q=>∃i j,x= .int i/\y= .int j/\MulOk i j/\Q (.int (i*j)) H) Co:=⟨gX,λT M H u v x y Q AQ va ru rv h k=>by
 obtain ⟨i,j,rfl,rfl,c,q⟩:=MG h
 exact ⟨i,j,ru.toI,rv.toI,c,k _ _ T H (.refl va.tp) (.int _) q⟩⟩
end
end PL
end
section
namespace PL
open PySem PySem.Spec PyProof.Rows L2
theorem N2 {i:Int} (a:0<=i) (b:i<2147483647): -(2^64)<i/\i<2^64:=⟨by omega,by omega⟩
theorem tH (b:Bool):(0:Int)<=(if b=true then 1 else 0):=by cases b <;> decide
theorem p7 (b:Bool): -(2^64)<(if b=true then (1:Int) else 0)/\(if b=true then (1:Int) else 0)<2^64:=by cases b <;> decide
theorem aY {T:Addr->Prop} {H:Hp} {p:Addr} {d x:Int} (tp:∀a,T a->Eb H a) (t:T p) (d0:0<=d) (x0:0<=x) (x1:x<2147483647):DT T H T (upd H p (.lst [.int d, .int x])) where
 keep:=λb o n e=>by rw [Af (λz=>n (by subst z;exact t))];exact e
 sub:=λ_ t=>t
 new:=λ_ t=> .inl t
 tp:=λa ta=>by
  by_cases z:a=p
  ·subst z;exact ⟨d,x,Ah,d0,x0,x1⟩
  ·obtain ⟨d',x',e,q⟩:=tp a ta
   exact ⟨d',x',by rw [Af z];exact e,q⟩
theorem aX {T:Addr->Prop} {H:Hp} {p:Addr} {d x:Int} (tp:∀a,T a->Eb H a) (hp:H p=none) (d0:0<=d) (x0:0<=x) (x1:x<2147483647):DT T H (λb=>T b\/b=p) (upd H p (.lst [.int d, .int x])) where
 keep:=λb o n e=>by rw [Af (As e hp)];exact e
 sub:=λ_ t=> .inl t
 new:=λb t=>t.elim .inl λz=> .inr (by subst z;exact hp)
 tp:=λa ta=>by
  by_cases z:a=p
  ·subst z;exact ⟨d,x,Ah,d0,x0,x1⟩
  ·rcases ta with ta|ta
   ·obtain ⟨d',x',e,q⟩:=tp a ta
    exact ⟨d',x',by rw [Af z];exact e,q⟩
   ·exact absurd ta z
theorem law_sp {K:PySem.W.Frag} {H:Hp} {a:Addr} {ns:List Int} {F:AF} (hS:Fw K H a (ns.map V.int)) (h:F [.scr ns] λx=>x= .bl true):BJ K 1 F [.ref a] H (λv _=>v= .bl true) λ_ _ _=>False:=by
 refine ⟨λ_=>False,λ_=>False, [.scr ns],_,⟨λ_ z=>z.elim,λ_ z=>z.elim⟩,λ_ z=>z.elim, .cons (.scr ?_) .nil,rfl,h,λv x T' H' _ r e=> ?_⟩
 ·rcases hS with h|h
  ·exact .inl ⟨h,id,id⟩
  ·exact .inr λH=> .inr h
 ·subst e;cases r;rfl
theorem JL {g:AG} {b:AS} {D:Ga} (Pv:List PV->BC->Prop) (hd:∀τ,Pv [] τ->D.nx τ)
 (hs:∀x r τ (R:BC->Prop),(∀τ,Pv r τ->R τ)->Pv (x::r) τ->g x τ λτ1=>b {D with nx:=R,ct:=R,bk:=D.nx} τ1):
 ∀xs τ,Pv xs τ->Cc g b D xs τ
 | [],τ,h=>hd τ h
 | x::r,τ,h=>hs x r τ _ (λτ2 h2=>JL Pv hd hs r τ2 h2) h
theorem Vb {c:AT} {b:AS} {D:Ga} (Pv:Nat->BC->Prop) (h0:∀τ,¬Pv 0 τ)
 (hs:∀n τ (R:BC->Prop),(∀τ,Pv n τ->R τ)->Pv (n+1) τ->c (frz τ) λk=>if k=true then b {D with nx:=R,ct:=R,bk:=D.nx} τ else D.nx τ):
 ∀n τ,Pv n τ->Tt c b D n τ
 | 0,τ,h=>absurd h (h0 τ)
 | n+1,τ,h=>hs n τ _ (λτ2 h2=>Vb Pv h0 hs n τ2 h2) h
theorem Jc (lo:Int) (n:Nat):rng lo (n+1)= .int lo::rng (lo+1) n:=by
 unfold rng
 rw [List.range_succ_eq_map,List.map_cons,List.map_map]
 congr 1
 ·simp
 ·apply List.map_congr_left
  intro k _
  simp only [Function.comp]
  congr 1
  omega
theorem VE (lo:Int) (n:Nat):(rng lo n).length=n:=by simp [rng]
end PL
end
section
namespace PL
open PySem L2 PyProof.Rows
def fr (r:Rat):PV:= .tup [.int r.num, .int (r.den:Int)]
theorem Em {b:Bool} {A B:Prop} (h1:b=true->A) (h2:b=false->B):if b=true then A else B:=by
 cases b with
 | true=>rw [if_pos rfl];exact h1 rfl
 | false=>rw [if_neg Bool.false_ne_true];exact h2 rfl
structure Bd (n:Nat) (r:Rat):Prop where
 top:r.num.natAbs<2^n
 bot:r.den<2^n
theorem Bd.botI {n:Nat} {r:Rat} (b:Bd n r):(r.den:Int).natAbs<2^n:=by simpa using b.bot
theorem Nh {m n:Nat} (h:m<=n):2^m<=2^n:=Nat.pow_le_pow_right (by decide) h
theorem Bd.mono {m n:Nat} {r:Rat} (b:Bd m r) (h:m<=n):Bd n r:=⟨Nat.lt_of_lt_of_le b.top (Nh h),Nat.lt_of_lt_of_le b.bot (Nh h)⟩
theorem ZU {a b m n:Nat} (ha:a<2^m) (hb:b<2^n):a*b<2^(m+n):=by
 rw [Nat.pow_add]
 exact Nat.mul_lt_mul_of_lt_of_le ha (Nat.le_of_lt hb) (Nat.pos_of_ne_zero (by intro z;rw [z] at hb;omega)) |> λh=>h
theorem BQ {a b:Int} {m n:Nat} (ha:a.natAbs<2^m) (hb:b.natAbs<2^n):(a*b).natAbs<2^(m+n):=by
 rw [Int.natAbs_mul];exact ZU ha hb
theorem Vl {a b:Int} {n:Nat} (ha:a.natAbs<2^n) (hb:b.natAbs<2^n):(a+b).natAbs<2^(n+1):=by
 rw [Nat.pow_succ];omega
theorem RZ {a b:Int} {n:Nat} (ha:a.natAbs<2^n) (hb:b.natAbs<2^n):(a-b).natAbs<2^(n+1):=by
 rw [Nat.pow_succ];omega
theorem Ap {a m n:Nat} (h:a<2^m) (hm:m<=n):a<2^n:=Nat.lt_of_lt_of_le h (Nh hm)
theorem MulOk.of {a b:Int} {m n:Nat} (ha:a.natAbs<2^m) (hb:b.natAbs<2^n) (hm:m<=1000000:=by omega) (hn:n<=1000000:=by omega):MulOk a b:=⟨Ap ha hm,Ap hb hn⟩
theorem UY (t b:Int):(Rat.divInt t b).num.natAbs<=t.natAbs:=by
 rw [Rat.num_divInt]
 by_cases h:b=0
 ·subst h;simp
 ·have e:(b.gcd t:Int) ∣ b.sign*t:=Int.dvd_trans (Int.gcd_dvd_right ..) (Int.dvd_mul_left ..)
  rw [Int.natAbs_ediv_of_dvd e,Int.natAbs_mul]
  refine Nat.le_trans (Nat.div_le_self _ _) ?_
  rw [Int.natAbs_sign_of_ne_zero h]
  omega
theorem UX (t b:Int) (h:b≠0):(Rat.divInt t b).den<=b.natAbs:=by
 rw [Rat.den_divInt,if_neg h]
 exact Nat.div_le_self _ _
theorem Bd.divInt {n:Nat} {t b:Int} (h:b≠0) (ht:t.natAbs<2^n) (hb:b.natAbs<2^n):Bd n (Rat.divInt t b):=
 ⟨Nat.lt_of_le_of_lt (UY t b) ht,Nat.lt_of_le_of_lt (UX t b h) hb⟩
theorem BO (a:Rat):(a.den:Int)≠0:=by have:=a.den_pos;omega
theorem IM (a b:Rat):a+b=Rat.divInt (a.num*b.den+b.num*a.den) (a.den*b.den):=by
 have h:=Rat.divInt_add_divInt a.num b.num (BO a) (BO b)
 rw [Rat.num_divInt_den,Rat.num_divInt_den] at h
 exact h
theorem Ib (a b:Rat):a-b=Rat.divInt (a.num*b.den-b.num*a.den) (a.den*b.den):=by
 have h:=Rat.divInt_sub_divInt a.num b.num (BO a) (BO b)
 rw [Rat.num_divInt_den,Rat.num_divInt_den] at h
 exact h
theorem IT (a b:Rat):a*b=Rat.divInt (a.num*b.num) (a.den*b.den):=by
 have h:=Rat.divInt_mul_divInt a.num b.num (d₁:=a.den) (d₂:=b.den)
 rw [Rat.num_divInt_den,Rat.num_divInt_den] at h
 exact h
theorem F0 (a b:Rat):a/b=Rat.divInt (a.num*b.den) (a.den*b.num):=by
 rw [Rat.div_def,Rat.inv_def]
 have h:=Rat.divInt_mul_divInt a.num b.den (d₁:=a.den) (d₂:=b.num)
 rw [Rat.num_divInt_den] at h
 exact h
theorem DA {a b:Int} (ha:a≠0) (hb:b≠0):a*b≠0:=Int.mul_ne_zero ha hb
theorem Qq {b:Rat} (h:b≠0):b.num≠0:=λz=>h (Rat.num_eq_zero.mp z)
theorem Bd.add {m n:Nat} {a b:Rat} (ha:Bd m a) (hb:Bd n b):Bd (m+n+1) (a+b):=by
 rw [IM]
 refine .divInt (DA (BO a) (BO b)) (Vl (BQ ha.top (by simpa using hb.bot)) ?_) ?_
 ·rw [Nat.add_comm m n];exact BQ hb.top (by simpa using ha.bot)
 ·exact Ap (BQ (by simpa using ha.bot) (by simpa using hb.bot)) (by omega)
theorem Bd.sub {m n:Nat} {a b:Rat} (ha:Bd m a) (hb:Bd n b):Bd (m+n+1) (a-b):=by
 rw [Ib]
 refine .divInt (DA (BO a) (BO b)) (RZ (BQ ha.top (by simpa using hb.bot)) ?_) ?_
 ·rw [Nat.add_comm m n];exact BQ hb.top (by simpa using ha.bot)
 ·exact Ap (BQ (by simpa using ha.bot) (by simpa using hb.bot)) (by omega)
theorem Bd.mul {m n:Nat} {a b:Rat} (ha:Bd m a) (hb:Bd n b):Bd (m+n) (a*b):=by
 rw [IT]
 exact .divInt (DA (BO a) (BO b)) (BQ ha.top hb.top) (BQ (by simpa using ha.bot) (by simpa using hb.bot))
theorem Bd.div {m n:Nat} {a b:Rat} (h:b≠0) (ha:Bd m a) (hb:Bd n b):Bd (m+n) (a/b):=by
 rw [F0]
 exact .divInt (DA (BO a) (Qq h)) (BQ ha.top (by simpa using hb.bot)) (BQ (by simpa using ha.bot) hb.top)
theorem Bd.neg {n:Nat} {a:Rat} (ha:Bd n a):Bd n (-a):=⟨by show (-a.num).natAbs<_;rw [Int.natAbs_neg];exact ha.top,ha.bot⟩
theorem Y0 (n:Int):fr (n:Rat)= .tup [.int n, .int 1] :=by simp [fr]
theorem Bd.int {n:Int} {k:Nat} (h:n.natAbs<2^k) (hk:1<=k):Bd k (n:Rat):=⟨by simpa using h,by simp;omega⟩
def YI:AS:=
 (Ab (Kg (Ar (AX XA (aV 1) (aC (.int 0)))) (OS 0 1 (AB (aV 1) (AB (AX Yz (aV 0) (aV 1)) AL))))
   (Ao (aV 0)))
def Gi:AF:=Av 2 YI
theorem LK (x y:Nat) (Q:PV->Prop) (h:Q (.int (Nat.gcd x y:Nat))):Gi [.int x, .int y] Q:=by
 have go:∀y x:Nat,∀D:Ga,D.nx [some (.val (.int (Nat.gcd x y:Nat))),some (.val (.int 0))] ->∃n,Tt (Ar (AX XA (aV 1) (aC (.int 0)))) (OS 0 1 (AB (aV 1) (AB (AX Yz (aV 0) (aV 1)) AL))) D n [some (.val (.int x)),some (.val (.int y))] :=by
  intro y
  induction y using Nat.strongRecOn with
  | _ y ih=>
    intro x D hD
    by_cases hy:y=0
    ·subst hy
     refine ⟨1, ?_⟩
     rw [Nat.gcd_zero_right] at hD
     exact hD
    ·obtain ⟨n,hn⟩:=ih (x % y) (Nat.mod_lt _ (by omega)) y D (by rw [Nat.gcd_comm y,<-Nat.gcd_rec,Nat.gcd_comm y];exact hD)
     refine ⟨n+1, ?_⟩
     refine Em (b:= !decide ((y:Int)=0)) (λ_=> ?_) (λz=> ?_)
     ·have e2:(x:Int).fmod (y:Int)=((x % y:Nat):Int):=by
       rw [Int.fmod_eq_emod_of_nonneg _ (by omega)];simp
      refine ⟨by omega, ?_⟩
      rw [<-e2] at hn
      exact hn
     ·have:(y:Int)=0:=by simpa using z
      omega
 obtain ⟨n,hn⟩:=go y x {nx:=λτ=>Ao (aV 0) {nx:=λ_=>Q .non,rt:=Q,bk:=λ_=>False,ct:=λ_=>False} τ,rt:=Q,bk:=λ_=>False,ct:=λ_=>False} h
 exact ⟨n,hn⟩
def Wo:AS:=
 (Ab (Bj (Ar (AX X9 (aV 1) (aC (.int 0)))) (Ay (M6 FF (aV 2)) (Aw 2)) BB)
   (Ao (BF (AB (AX QO (aV 0) (aV 2)) (AB (AX QO (aV 1) (aV 2)) AL)))))
def fM:AS:=
 (Ab (Ay (AN 2 Gi (AB (Fd QQ (AB (aV 0) AL)) (AB (Fd QQ (AB (aV 1) AL)) AL))) (Aw 2))
   Wo)
def Gk:AF:=Av 3 fM
theorem Zf (t b:Int) (hb:b≠0):∀s:Int,s=(if b<0 then -(Nat.gcd t.natAbs b.natAbs:Int) else (Nat.gcd t.natAbs b.natAbs:Int))->s≠0/\t.fdiv s=(Rat.divInt t b).num/\b.fdiv s=((Rat.divInt t b).den:Int):=by
 intro s hs
 have g0:0<Nat.gcd t.natAbs b.natAbs:=Nat.gcd_pos_of_pos_right _ (by omega)
 have eg:b.gcd t=Nat.gcd t.natAbs b.natAbs:=by rw [Int.gcd_eq_natAbs_gcd_natAbs,Nat.gcd_comm]
 have d1:(Nat.gcd t.natAbs b.natAbs:Int) ∣ t:=by rw [<-Int.dvd_natAbs];exact Int.ofNat_dvd.mpr (Nat.gcd_dvd_left ..)
 have d2:(Nat.gcd t.natAbs b.natAbs:Int) ∣ b:=by rw [<-Int.dvd_natAbs];exact Int.ofNat_dvd.mpr (Nat.gcd_dvd_right ..)
 have d1':s ∣ t:=by rw [hs];split <;> first | exact Int.neg_dvd.mpr d1|exact d1
 have d2':s ∣ b:=by rw [hs];split <;> first | exact Int.neg_dvd.mpr d2|exact d2
 refine ⟨by rw [hs];split <;> omega, ?_, ?_⟩
 ·rw [Int.fdiv_eq_ediv_of_dvd d1',Rat.num_divInt,eg,hs]
  by_cases h:b<0
  ·rw [if_pos h,Int.sign_eq_neg_one_of_neg h,Int.ediv_neg]
   have:(-1:Int)*t= -t:=by omega
   rw [this,Int.neg_ediv_of_dvd d1]
  ·rw [if_neg h,Int.sign_eq_one_of_pos (by omega),Int.one_mul]
 ·rw [Int.fdiv_eq_ediv_of_dvd d2',Rat.den_divInt,if_neg hb,eg,hs]
  by_cases h:b<0
  ·rw [if_pos h,Int.ediv_neg]
   have:(b.natAbs:Int)= -b:=by omega
   rw [Int.natCast_ediv,this,Int.neg_ediv_of_dvd d2]
  ·rw [if_neg h]
   have:(b.natAbs:Int)=b:=by omega
   rw [Int.natCast_ediv,this]
theorem Fa (t b:Int) (hb:b≠0) (hB:b.natAbs<2^8900) (Q:PV->Prop) (h:Q (fr (Rat.divInt t b))):Gk [.int t, .int b] Q:=by
 have g0:0<Nat.gcd t.natAbs b.natAbs:=Nat.gcd_pos_of_pos_right _ (by omega)
 have gl:Nat.gcd t.natAbs b.natAbs<2^8900:=Nat.lt_of_le_of_lt (Nat.le_of_dvd (by omega) (Nat.gcd_dvd_right ..)) hB
 obtain ⟨s0,e1,e2⟩:=Zf t b hb _ rfl
 refine ⟨rfl,LK _ _ _ ?_⟩
 refine Em (b:=decide (b<0)) (λz=> ?_) (λz=> ?_)
 ·have z':b<0:=of_decide_eq_true z
  rw [if_pos z'] at s0 e1 e2
  refine ⟨⟨s0,by rw [Int.natAbs_neg];exact gl⟩,⟨s0,by rw [Int.natAbs_neg];exact gl⟩,(show 2<=sizeLine by decide), ?_⟩
  unfold fr at h
  rw [<-e1,<-e2] at h
  exact h
 ·have z':¬b<0:=of_decide_eq_false z
  rw [if_neg z'] at s0 e1 e2
  refine ⟨⟨s0,gl⟩,⟨s0,gl⟩,(show 2<=sizeLine by decide), ?_⟩
  unfold fr at h
  rw [<-e1,<-e2] at h
  exact h
theorem Bd.mt {n:Nat} {a b:Rat} (ha:Bd 4000 a) (hb:Bd 4000 b):MulOk a.num b.den/\MulOk b.num a.den/\MulOk a.den b.den/\MulOk a.num b.num/\MulOk a.den b.num:=
 ⟨.of ha.top (by simpa using hb.bot), .of hb.top (by simpa using ha.bot), .of (by simpa using ha.bot) (by simpa using hb.bot), .of ha.top hb.top, .of (by simpa using ha.bot) hb.top⟩
theorem PF {a b:Rat} (ha:Bd 4000 a) (hb:Bd 4000 b):((a.den:Int)*(b.den:Int)).natAbs<2^8900:=Ap (BQ (a:=(a.den:Int)) (by simpa using ha.bot) (by simpa using hb.bot)) (by omega)
def fN:AS:=
 (Ao (AN 2 Gk (AB (AX BY (AX Co (AX Ai (aV 0) (aC (.int 0))) (AX Ai (aV 1) (aC (.int 1)))) (AX Co (AX Ai (aV 1) (aC (.int 0))) (AX Ai (aV 0) (aC (.int 1))))) (AB (AX Co (AX Ai (aV 0) (aC (.int 1))) (AX Ai (aV 1) (aC (.int 1)))) AL))))
def IJ:AF:=Av 2 fN
theorem O2 {a b:Rat} (ha:Bd 4000 a) (hb:Bd 4000 b) {Q:PV->Prop} (h:Q (fr (a+b))):IJ [fr a,fr b] Q:=by
 obtain ⟨m1,m2,m3,_⟩:=Bd.mt (n:=0) ha hb
 refine ⟨m1,m2,m3,rfl,Fa _ _ (DA (BO a) (BO b)) (PF ha hb) _ ?_⟩
 rw [IM] at h
 exact h
def ax:AS:=
 (Ao (AN 2 Gk (AB (AX Gw (AX Co (AX Ai (aV 0) (aC (.int 0))) (AX Ai (aV 1) (aC (.int 1)))) (AX Co (AX Ai (aV 1) (aC (.int 0))) (AX Ai (aV 0) (aC (.int 1))))) (AB (AX Co (AX Ai (aV 0) (aC (.int 1))) (AX Ai (aV 1) (aC (.int 1)))) AL))))
def Dr:AF:=Av 2 ax
theorem Df {a b:Rat} (ha:Bd 4000 a) (hb:Bd 4000 b) {Q:PV->Prop} (h:Q (fr (a-b))):Dr [fr a,fr b] Q:=by
 obtain ⟨m1,m2,m3,_⟩:=Bd.mt (n:=0) ha hb
 refine ⟨m1,m2,m3,rfl,Fa _ _ (DA (BO a) (BO b)) (PF ha hb) _ ?_⟩
 rw [Ib] at h
 exact h
def ay:AS:=
 (Ao (AN 2 Gk (AB (AX Co (AX Ai (aV 0) (aC (.int 0))) (AX Ai (aV 1) (aC (.int 0)))) (AB (AX Co (AX Ai (aV 0) (aC (.int 1))) (AX Ai (aV 1) (aC (.int 1)))) AL))))
def Ft:AF:=Av 2 ay
theorem My {a b:Rat} (ha:Bd 4000 a) (hb:Bd 4000 b) {Q:PV->Prop} (h:Q (fr (a*b))):Ft [fr a,fr b] Q:=by
 obtain ⟨_,_,m3,m4,_⟩:=Bd.mt (n:=0) ha hb
 refine ⟨m4,m3,rfl,Fa _ _ (DA (BO a) (BO b)) (PF ha hb) _ ?_⟩
 rw [IT] at h
 exact h
def fL:AS:=
 (Ao (AN 2 Gk (AB (AX Co (AX Ai (aV 0) (aC (.int 0))) (AX Ai (aV 1) (aC (.int 1)))) (AB (AX Co (AX Ai (aV 0) (aC (.int 1))) (AX Ai (aV 1) (aC (.int 0)))) AL))))
def KS:AF:=Av 2 fL
theorem KU {a b:Rat} (h0:b≠0) (ha:Bd 4000 a) (hb:Bd 4000 b) {Q:PV->Prop} (h:Q (fr (a/b))):KS [fr a,fr b] Q:=by
 obtain ⟨m1,_,_,_,m5⟩:=Bd.mt (n:=0) ha hb
 refine ⟨m1,m5,rfl,Fa _ _ (DA (BO a) (Qq h0)) (Ap (BQ (a:=(a.den:Int)) (by simpa using ha.bot) hb.top) (by omega)) _ ?_⟩
 rw [F0] at h
 exact h
def Mc:AS:=
 (Ab (Ay (AX Gw (aC (.int 1)) (AX Co (aC (.int 2)) (Fd Uc (AB (AX X9 (aV 1) (aC (.int 0))) AL)))) (Aw 2))
   (Ao (BF (AB (AX QO (AX Co (aV 2) (aV 0)) (aV 3)) (AB (AX QO (AX Co (aV 2) (aV 1)) (aV 3)) AL)))))
def Mb:AS:=
 (Ab (Kg (Ar (AX fy (aV 4) (aC (.int 0)))) (OS 3 4 (AB (aV 4) (AB (AX Yz (aV 3) (aV 4)) AL))))
   Mc)
def Rl:AS:=
 (Ab (OS 3 4 (AB (Fd QQ (AB (aV 0) AL)) (AB (Fd QQ (AB (aV 1) AL)) AL)))
   Mb)
def A1:AF:=Av 5 Rl
theorem Qi (t b:Int) (hb:b≠0):∀s:Int,s=(if b<0 then -1 else 1)->(s*t).fdiv (Nat.gcd t.natAbs b.natAbs:Int)=(Rat.divInt t b).num/\(s*b).fdiv (Nat.gcd t.natAbs b.natAbs:Int)=((Rat.divInt t b).den:Int):=by
 intro s hs
 have g0:0<Nat.gcd t.natAbs b.natAbs:=Nat.gcd_pos_of_pos_right _ (by omega)
 have eg:b.gcd t=Nat.gcd t.natAbs b.natAbs:=by rw [Int.gcd_eq_natAbs_gcd_natAbs,Nat.gcd_comm]
 have es:b.sign=s:=by
  rw [hs];split
  ·rename_i h;exact Int.sign_eq_neg_one_of_neg h
  ·exact Int.sign_eq_one_of_pos (by omega)
 rw [Rat.num_divInt,Rat.den_divInt,if_neg hb,eg,es,Int.fdiv_eq_ediv_of_nonneg _ (by omega),Int.fdiv_eq_ediv_of_nonneg _ (by omega)]
 refine ⟨rfl, ?_⟩
 rw [Int.natCast_ediv]
 congr 1
 rw [hs];split <;> omega
theorem Bk (t b:Int) (hb:b≠0) (hT:t.natAbs<2^900000) (hB:b.natAbs<2^8900) {Q:PV->Prop} (h:Q (fr (Rat.divInt t b))):A1 [.int t, .int b] Q:=by
 have g0:0<Nat.gcd t.natAbs b.natAbs:=Nat.gcd_pos_of_pos_right _ (by omega)
 have gl:Nat.gcd t.natAbs b.natAbs<2^8900:=Nat.lt_of_le_of_lt (Nat.le_of_dvd (by omega) (Nat.gcd_dvd_right ..)) hB
 have sg:(1:Int)-2*(if decide (b<0)=true then 1 else 0)=(if b<0 then -1 else 1):=by
  by_cases z:b<0 <;> simp [z]
 obtain ⟨e1,e2⟩:=Qi t b hb _ sg
 have go:∀y x:Nat,∀D:Ga,∀u v w,D.nx [u,v,w,some (.val (.int (Nat.gcd x y:Nat))),some (.val (.int 0))] ->∃n,Tt (Ar (AX fy (aV 4) (aC (.int 0)))) (OS 3 4 (AB (aV 4) (AB (AX Yz (aV 3) (aV 4)) AL))) D n [u,v,w,some (.val (.int x)),some (.val (.int y))] :=by
  intro y
  induction y using Nat.strongRecOn with
  | _ y ih=>
    intro x D u v w hD
    by_cases hy:y=0
    ·subst hy
     refine ⟨1, ?_⟩
     rw [Nat.gcd_zero_right] at hD
     exact hD
    ·obtain ⟨n,hn⟩:=ih (x % y) (Nat.mod_lt _ (by omega)) y D u v w (by rw [Nat.gcd_comm y,<-Nat.gcd_rec,Nat.gcd_comm y];exact hD)
     refine ⟨n+1, ?_⟩
     refine Em (b:=decide (0<(y:Int))) (λ_=> ?_) (λz=> ?_)
     ·have e2:(x:Int).fmod (y:Int)=((x % y:Nat):Int):=by
       rw [Int.fmod_eq_emod_of_nonneg _ (by omega)];simp
      refine ⟨by omega, ?_⟩
      rw [<-e2] at hn
      exact hn
     ·have:¬(0:Int)<y:=of_decide_eq_false z
      omega
 refine go b.natAbs t.natAbs _ (some (.val (.int t))) (some (.val (.int b))) none ?_
 have one:(1:Int).natAbs<2^1:=by decide
 have sb:((1:Int)-2*(if decide (b<0)=true then 1 else 0)).natAbs<2^1:=by rw [sg];split <;> decide
 refine ⟨.of (m:=2) (n:=1) (by decide) (by split <;> decide), .of sb hT,⟨by omega,gl⟩, .of sb hB,⟨by omega,gl⟩,(show 2<=sizeLine by decide), ?_⟩
 unfold fr at h
 rw [<-e1,<-e2] at h
 exact h
theorem Ch {m:Int} {Q:PV->Prop} (m0:0<m) (m1:m<4611686018427387904) (h:∀r,0<=r->r<m->Q (.int r)):BX [.tape, .int m] Q:=⟨⟨m0,m1⟩,h⟩
mutual
def uS:Nat->PV->Bool
 | 0,_=>false
 | _+1, .non=>true
 | _+1, .bl _=>true
 | _+1, .int _=>true
 | n+1, .tup xs=>kT n xs&&decide (xs.length<sizeLine)
 | _+1,_=>false
def kT:Nat->List PV->Bool
 | _, [] =>true
 | n,x::xs=>uS n x&&kT n xs
end
theorem dZ {t:Int} {n:Nat} (h:t.natAbs<2^n) (hn:n<=900000:=by omega):t.natAbs<2^900000:=Ap h hn
section
variable {a b:Rat} {Q:PV->Prop}
theorem gi (ha:Bd 4000 a) (hb:Bd 4000 b) (h:Q (fr (a+b))):A1 [.int (a.num*b.den+b.num*a.den), .int (a.den*b.den)] Q:=
 Bk _ _ (DA (BO a) (BO b)) (dZ (Vl (n:=8000) (BQ ha.top hb.botI) (BQ hb.top ha.botI))) (PF ha hb) (by rw [<-IM];exact h)
theorem gm (ha:Bd 4000 a) (hb:Bd 4000 b) (h:Q (fr (a-b))):A1 [.int (a.num*b.den-b.num*a.den), .int (a.den*b.den)] Q:=
 Bk _ _ (DA (BO a) (BO b)) (dZ (RZ (n:=8000) (BQ ha.top hb.botI) (BQ hb.top ha.botI))) (PF ha hb) (by rw [<-Ib];exact h)
theorem gk (ha:Bd 4000 a) (hb:Bd 4000 b) (h:Q (fr (a*b))):A1 [.int (a.num*b.num), .int (a.den*b.den)] Q:=
 Bk _ _ (DA (BO a) (BO b)) (dZ (BQ ha.top hb.top)) (PF ha hb) (by rw [<-IT];exact h)
theorem gj (h0:b≠0) (ha:Bd 4000 a) (hb:Bd 4000 b) (h:Q (fr (a/b))):A1 [.int (a.num*b.den), .int (a.den*b.num)] Q:=
 Bk _ _ (DA (BO a) (Qq h0)) (dZ (BQ ha.top (by simpa using hb.bot))) (Ap (BQ (a:=(a.den:Int)) (by simpa using ha.bot) hb.top) (by omega)) (by rw [<-F0];exact h)
end
theorem Re {n:Int} {Q:PV->Prop} (h:Q (fr (n:Rat))):Q (.tup [.int n, .int 1]):=by rw [<-Y0];exact h
theorem Bd.part {t b:Int} {n:Nat} (h:b≠0) (ht:t.natAbs<2^n) (hb:b.natAbs<2^n):Bd n (Rat.divInt t b):= .divInt h ht hb
theorem lz {a b:Nat} (h:Nat.ble a b=true:=by rfl):a<=b:=Nat.le_of_ble_eq_true h
structure Sh (d n:Nat) (x:PV):Prop where
 ok:ET d x=true
 sh:(pd x).showable=true
 sz:(pd x).shown.length<=n
mutual
theorem NW:∀{d e:Nat} (x:PV),d<=e->ET d x=true->ET e x=true
 | _,_, .non,_,_=>by simp [ET]
 | _,_, .bl _,_,_=>by simp [ET]
 | _,_, .int _,_,_=>by simp [ET]
 | _,_, .str x,_,h=>by simpa [ET] using h
 | 0,_, .tup xs,_,h=>by simp [ET] at h
 | 0,_, .lst xs,_,h=>by simp [ET] at h
 | d+1,0, .tup xs,h,_=>by omega
 | d+1,0, .lst xs,h,_=>by omega
 | d+1,e+1, .tup xs,h,k=>by simp only [ET] at k ⊢;exact K2 xs (by omega) k
 | d+1,e+1, .lst xs,h,k=>by simp only [ET] at k ⊢;exact K2 xs (by omega) k
 | _,_, .tape,_,h=>by simp [ET] at h
 | _,_, .scr _,_,h=>by simp [ET] at h
 | _,_, .dct _,_,h=>by simp [ET] at h
 | _,_, .ty _,_,h=>by simp [ET] at h
theorem K2:∀{d e:Nat} (xs:List PV),d<=e->IU d xs=true->IU e xs=true
 | _,_, [],_,_=>by simp [IU]
 | _,_,x::xs,h,k=>by
   simp only [IU,Bool.and_eq_true] at k ⊢
   exact ⟨NW x h k.1,K2 xs h k.2⟩
end
theorem Sh.mono {d n e m:Nat} {x:PV} (s:Sh d n x) (h1:d<=e) (h2:n<=m):Sh e m x:=⟨NW x h1 s.ok,s.sh,Nat.le_trans s.sz h2⟩
theorem Sh.go {d n:Nat} {x:PV} (s:Sh d n x) (h1:d<=30:=by omega) (h2:n<=16777216:=by omega):fY x:=⟨NW x h1 s.ok,s.sh,Nat.le_trans s.sz h2⟩
theorem Sh.int {i:Int} (h:i.natAbs<2^1900):Sh 0 1902 (.int i):=by
 refine ⟨rfl, ?_, ?_⟩
 ·show decide (i.natAbs.log2<1920)=true
  exact decide_eq_true (Nat.lt_trans (JV h (by decide)) (by decide))
 ·show (Str.ofString (toString i)).length<=1902
  rw [PySem.ofString_length]
  exact Nat.le_trans (int_text_length_le (k:=1900) (by decide) (JV h (by decide))) (by decide)
theorem NX {d:Nat}:∀{xs:List PV},(∀x∈xs,ET d x=true)->IU d xs=true
 | [],_=>rfl
 | x::xs,h=>by
   simp only [IU,Bool.and_eq_true]
   exact ⟨h x (by simp),NX λy hy=>h y (by simp [hy])⟩
theorem VN:∀{xs:List PV},(∀x∈xs,(pd x).showable=true)->PyData.showableAll (OC xs)=true
 | [],_=>rfl
 | x::xs,h=>by
   simp only [OC,PyData.showableAll,Bool.and_eq_true]
   exact ⟨h x (by simp),VN λy hy=>h y (by simp [hy])⟩
theorem Rc {n:Nat}:∀{xs:List PV},(∀x∈xs,(pd x).shown.length<=n)->((PyData.shownAll (OC xs)).map (·.length)).sum<=xs.length*n
 | [],_=>by simp [OC,PyData.shownAll]
 | x::xs,h=>by
   simp only [OC,PyData.shownAll,List.map_cons,List.sum_cons,List.length_cons]
   have h1:=h x (by simp)
   have h2:=Rc (n:=n) (xs:=xs) λy hy=>h y (by simp [hy])
   rw [Nat.succ_mul];omega
theorem GD:∀(xs:List PV),(PyData.shownAll (OC xs)).length=xs.length
 | [] =>rfl
 | x::xs=>by simp [OC,PyData.shownAll,GD xs]
theorem Sh.tup {d n:Nat} {xs:List PV} (h:∀x∈xs,Sh d n x):Sh (d+1) (xs.length*(n+2)+3) (.tup xs):=by
 refine ⟨by simp only [ET];exact NX λx hx=>(h x hx).ok,by simp only [pd,PyData.showable];exact VN λx hx=>(h x hx).sh, ?_⟩
 have h1:=Rc (n:=n) (xs:=xs) λx hx=>(h x hx).sz
 have h2:=tupleText_len_le (PyData.shownAll (OC xs))
 rw [GD] at h2
 simp only [pd,PyData.shown]
 rw [Nat.mul_add]
 omega
theorem Sh.lst {d n:Nat} {xs:List PV} (h:∀x∈xs,Sh d n x):Sh (d+1) (xs.length*(n+2)+3) (.lst xs):=by
 refine ⟨by simp only [ET];exact NX λx hx=>(h x hx).ok,by simp only [pd,PyData.showable];exact VN λx hx=>(h x hx).sh, ?_⟩
 have h1:=Rc (n:=n) (xs:=xs) λx hx=>(h x hx).sz
 have h2:=listText_len_le (PyData.shownAll (OC xs))
 rw [GD] at h2
 simp only [pd,PyData.shown]
 rw [Nat.mul_add]
 omega
theorem n8 {α:Type} {P:α->Prop} {a b:α} (ha:P a) (hb:P b):∀x∈ [a,b],P x:=λx hx=>by
 simp only [List.mem_cons,List.not_mem_nil,or_false] at hx
 rcases hx with rfl|rfl
 ·exact ha
 ·exact hb
theorem kK {α:Type} {P:α->Prop} {a b c:α} (ha:P a) (hb:P b) (hc:P c):∀x∈ [a,b,c],P x:=λx hx=>by
 simp only [List.mem_cons,List.not_mem_nil,or_false] at hx
 rcases hx with rfl|rfl|rfl
 ·exact ha
 ·exact hb
 ·exact hc
theorem kM {α:Type} {P:α->Prop} {a b c d:α} (ha:P a) (hb:P b) (hc:P c) (hd:P d):∀x∈ [a,b,c,d],P x:=λx hx=>by
 simp only [List.mem_cons,List.not_mem_nil,or_false] at hx
 rcases hx with rfl|rfl|rfl|rfl
 ·exact ha
 ·exact hb
 ·exact hc
 ·exact hd
theorem Sh.fr {r:Rat} (h:Bd 1900 r):Sh 1 4000 (fr r):=(Sh.tup (n8 (Sh.int h.top) (Sh.int h.botI))).mono (by omega) lz
theorem Yy (a b:Rat):fx (fr a) (fr b)=decide (a=b):=by
 show (PyData.eqvAll [.int a.num, .int a.den] [.int b.num, .int b.den])=_
 simp only [PyData.eqvAll,PyData.eqv]
 by_cases h:a=b
 ·subst h;simp
 ·have:¬(a.num=b.num/\(a.den:Int)=b.den):=λz=>h (Rat.ext z.1 (by omega))
  rw [decide_eq_false h]
  simp only [Bool.and_true,Bool.and_eq_false_iff,beq_eq_false_iff_ne]
  by_cases h1:a.num=b.num
  ·exact .inr λz=>this ⟨h1,z⟩
  ·exact .inl h1
theorem WH (d:Nat) (a:Rat):ET (d+1) (fr a)=true:=rfl
theorem e5 {a b:Rat}:decide (a.num*(b.den:Int)<b.num*(a.den:Int))=decide (a<b):=by
 rw [decide_eq_decide];exact (Rat.lt_iff a b).symm
def YH:AS:=
 (Ao (AX X9 (AX Co (AX Ai (aV 0) (aC (.int 0))) (AX Ai (aV 1) (aC (.int 1)))) (AX Co (AX Ai (aV 1) (aC (.int 0))) (AX Ai (aV 0) (aC (.int 1))))))
def Ag:AF:=Av 2 YH
section
variable {a b:Rat} {Q:PV->Prop}
theorem Bi (ha:Bd 4000 a) (hb:Bd 4000 b) (h:Q (.bl (decide (a<b)))):Ag [fr a,fr b] Q:=by
 obtain ⟨m1,m2,_⟩:=Bd.mt (n:=0) ha hb
 refine ⟨m1,m2, ?_⟩
 rw [<-e5] at h
 exact h
def Rk:AS:=
 (Ao (AX X9 (AX Co (AX Ai (aV 0) (aC (.int 0))) (AX Ai (aV 1) (aC (.int 1)))) (AX Co (AX Ai (aV 1) (aC (.int 0))) (AX Ai (aV 0) (aC (.int 1))))))
def SB:AF:=Av 2 Rk
def UA:AS:=
 (Ao (AN 2 A1 (AB (AX BY (AX Co (AX Ai (aV 0) (aC (.int 0))) (AX Ai (aV 1) (aC (.int 1)))) (AX Co (AX Ai (aV 1) (aC (.int 0))) (AX Ai (aV 0) (aC (.int 1))))) (AB (AX Co (AX Ai (aV 0) (aC (.int 1))) (AX Ai (aV 1) (aC (.int 1)))) AL))))
def BS:AF:=Av 2 UA
theorem Ct (ha:Bd 4000 a) (hb:Bd 4000 b) (h:Q (fr (a+b))):BS [fr a,fr b] Q:=by
 obtain ⟨m1,m2,m3,_⟩:=Bd.mt (n:=0) ha hb
 exact ⟨m1,m2,m3,rfl,gi ha hb h⟩
def T9:AS:=
 (Ao (AN 2 A1 (AB (AX Gw (AX Co (AX Ai (aV 0) (aC (.int 0))) (AX Ai (aV 1) (aC (.int 1)))) (AX Co (AX Ai (aV 1) (aC (.int 0))) (AX Ai (aV 0) (aC (.int 1))))) (AB (AX Co (AX Ai (aV 0) (aC (.int 1))) (AX Ai (aV 1) (aC (.int 1)))) AL))))
def A9:AF:=Av 2 T9
theorem CL (ha:Bd 4000 a) (hb:Bd 4000 b) (h:Q (fr (a-b))):A9 [fr a,fr b] Q:=by
 obtain ⟨m1,m2,m3,_⟩:=Bd.mt (n:=0) ha hb
 exact ⟨m1,m2,m3,rfl,gm ha hb h⟩
def Me:AS:=
 (Ao (AN 2 A1 (AB (AX Co (AX Ai (aV 0) (aC (.int 0))) (AX Ai (aV 1) (aC (.int 0)))) (AB (AX Co (AX Ai (aV 0) (aC (.int 1))) (AX Ai (aV 1) (aC (.int 1)))) AL))))
def BL:AF:=Av 2 Me
theorem CP (ha:Bd 4000 a) (hb:Bd 4000 b) (h:Q (fr (a*b))):BL [fr a,fr b] Q:=by
 obtain ⟨m1,m2,m3,m4,_⟩:=Bd.mt (n:=0) ha hb
 exact ⟨m4,m3,rfl,gk ha hb h⟩
def Pr:AS:=
 (Ao (AN 2 A1 (AB (AX Co (AX Ai (aV 0) (aC (.int 0))) (AX Ai (aV 1) (aC (.int 1)))) (AB (AX Co (AX Ai (aV 0) (aC (.int 1))) (AX Ai (aV 1) (aC (.int 0)))) AL))))
def Be:AF:=Av 2 Pr
theorem GN (h0:b≠0) (ha:Bd 4000 a) (hb:Bd 4000 b) (h:Q (fr (a/b))):Be [fr a,fr b] Q:=by
 obtain ⟨m1,m2,m3,m4,m5⟩:=Bd.mt (n:=0) ha hb
 exact ⟨m1,m5,rfl,gj h0 ha hb h⟩
end
theorem m9 {t b:Int} (ht:0<t) (hb:0<b):0<Rat.divInt t b:=by
 rw [Rat.lt_iff]
 have h1:=Rat.num_divInt t b
 show (0:Int)*_<_*1
 rw [Int.zero_mul,Int.mul_one,h1,Int.sign_eq_one_of_pos hb,Int.one_mul]
 have g:0<(b.gcd t:Int):=by have:=Int.gcd_pos_of_ne_zero_left t (show b≠0 by omega);omega
 exact Int.ediv_pos_of_pos_of_dvd ht (by omega) (Int.gcd_dvd_right ..)
theorem Ia {t b:Int} {Q:PV->Prop} (k:Nat) (hb:b≠0) (ht:t.natAbs<2^k) (qD:b.natAbs<2^k) (hk:k<=2000) (h:Bd k (Rat.divInt t b)->Q (fr (Rat.divInt t b))):A1 [.int t, .int b] Q:=
 Bk t b hb (Ap ht (by omega)) (Ap qD (by omega)) (h (.part hb ht qD))
def Mul (D N:Nat) (a:Rat):Prop:=0<D/\∃k:Int,a=Rat.divInt k D/\k.natAbs<=N
theorem Mul.bd {D N n:Nat} {a:Rat} (h:Mul D N a) (h1:N<2^n) (h2:D<2^n):Bd n a:=by
 obtain ⟨h0,k,rfl,hk⟩:=h
 exact .divInt (by omega) (by omega) (by simpa using h2)
theorem Mul.part {t b:Int} {c:Nat} (hb:0<b) (hc:0<c) {N:Nat} (h:(t*c).natAbs<=N):Mul (b.toNat*c) N (Rat.divInt t b):=by
 refine ⟨Nat.mul_pos (by omega) hc,t*c, ?_,h⟩
 have e:((b.toNat*c:Nat):Int)=b*c:=by rw [Int.natCast_mul];congr 1;omega
 rw [e,(Rat.divInt_eq_divInt_iff (by omega) (DA (by omega) (by omega)))]
 rw [Int.mul_comm b,Int.mul_assoc]
theorem Mul.add {D N M:Nat} {a b:Rat} (ha:Mul D N a) (hb:Mul D M b):Mul D (N+M) (a+b):=by
 obtain ⟨h0,k,rfl,hk⟩:=ha
 obtain ⟨_,l,rfl,hl⟩:=hb
 refine ⟨h0,k+l, ?_,by omega⟩
 rw [Rat.divInt_add_divInt _ _ (by omega) (by omega),Rat.divInt_eq_divInt_iff (DA (by omega) (by omega)) (by omega)]
 rw [<-Int.add_mul,Int.mul_assoc]
theorem Mul.mono {D N M:Nat} {a:Rat} (h:Mul D N a) (hm:N<=M):Mul D M a:=⟨h.1,let ⟨k,e,hk⟩:=h.2;⟨k,e,by omega⟩⟩
theorem Mul.int {n:Int} {D N:Nat} (hD:0<D) (h:(n*D).natAbs<=N):Mul D N (n:Rat):=by
 have e:(n:Rat)=Rat.divInt n 1:=by rw [<-Rat.num_divInt_den (n:Rat)];simp
 rw [e]
 have:=Mul.part (t:=n) (b:=1) (c:=D) (by decide) hD h
 simpa using this
def Mf:AS:=
 (Ab (Bj (Ar (AX X9 (aV 1) (aC (.int 3)))) (Ao (BF (AB (AX BY (aC (.int 1)) (AN 2 BX (AB (aV 0) (AB (aC (.int 5)) AL)))) (AB (aC (.int 1)) AL)))) BB)
   (Ao (AN 2 A1 (AB (AX BY (aC (.int 1)) (AN 2 BX (AB (aV 0) (AB (aC (.int 8)) AL)))) (AB (AX Gw (aV 1) (aC (.int 1))) AL)))))
def Rm:AS:=
 (Ab (Ay (AN 2 BX (AB (aV 0) (AB (aC (.int 5)) AL))) (Aw 1))
   Mf)
def B7:AF:=Av 2 Rm
theorem GO {Q:PV->Prop} (h:∀a,Bd 8 a->0<a->Mul 6 48 a->Q (fr a)):B7 [.tape] Q:=by
 refine ⟨rfl,Ch (by decide) (by decide) λw w0 w1=> ?_⟩
 refine Em (b:=decide (w<3)) (λ_=> ?_) (λz=> ?_)
 ·refine ⟨rfl,Ch (by decide) (by decide) λr r0 r1=>⟨lz, ?_⟩⟩
  exact Re (h _ (.int (by omega) (by decide)) (by exact_mod_cast (by omega:(0:Int)<1+r)) (.int (by decide) (by omega)))
 ·have z':¬w<3:=of_decide_eq_false z
  have hw:w-1=2\/w-1=3:=by omega
  refine ⟨rfl,Ch (by decide) (by decide) λr r0 r1=>⟨rfl, ?_⟩⟩
  refine Ia 8 (by omega) (by omega) (by omega) (by decide) λb=>h _ b (m9 (by omega) (by omega)) ?_
  rcases hw with e|e
  ·rw [e];exact Mul.part (t:=1+r) (b:=2) (c:=3) (by decide) (by decide) (by omega)
  ·rw [e];exact Mul.part (t:=1+r) (b:=3) (c:=2) (by decide) (by decide) (by omega)
theorem Mw {Q:PV->Prop} (h:∀a,Bd 8 a->0<a->Q (fr a)):B7 [.tape] Q:=GO λa b p _=>h a b p
def Lf:AS:=
 (Ab (Bj (Ar (AX NF (aV 1) (aC (.int 6)))) (Ao (AN 2 A1 (AB (AX Gw (AN 2 BX (AB (aV 0) (AB (aC (.int 25)) AL))) (aC (.int 6))) (AB (aC (.int 2)) AL)))) BB)
   (Ao (AN 2 A1 (AB (AX Gw (AN 2 BX (AB (aV 0) (AB (aC (.int 31)) AL))) (aC (.int 9))) (AB (aC (.int 3)) AL)))))
def Le:AS:=
 (Ab (Bj (Ar (AX X9 (aV 1) (aC (.int 6)))) (Ao (BF (AB (AX Gw (AN 2 BX (AB (aV 0) (AB (aC (.int 10)) AL))) (aC (.int 3))) (AB (aC (.int 1)) AL)))) BB)
   Lf)
def Pq:AS:=
 (Ab (Ay (AN 2 BX (AB (aV 0) (AB (aC (.int 8)) AL))) (Aw 1))
   Le)
def A2:AF:=Av 2 Pq
theorem A6 {Q:PV->Prop} (h:∀a,Mul 6 60 a->Q (fr a)):A2 [.tape] Q:=by
 refine ⟨rfl,Ch (by decide) (by decide) λw w0 w1=> ?_⟩
 refine Em (b:=decide (w<6)) (λ_=> ?_) (λz=> ?_)
 ·refine ⟨rfl,Ch (by decide) (by decide) λr r0 r1=>⟨lz, ?_⟩⟩
  exact Re (h _ (.int (by decide) (by omega)))
 refine Em (b:=decide (w=6)) (λ_=> ?_) (λz=> ?_)
 ·exact ⟨rfl,Ch (by decide) (by decide) λr r0 r1=>⟨rfl,Ia 8 (by omega) (by omega) (by omega) (by decide) λb=>h _ (Mul.part (t:=r-6) (b:=2) (c:=3) (by decide) (by decide) (by omega))⟩⟩
 ·exact ⟨rfl,Ch (by decide) (by decide) λr r0 r1=>⟨rfl,Ia 8 (by omega) (by omega) (by omega) (by decide) λb=>h _ (Mul.part (t:=r-9) (b:=3) (c:=2) (by decide) (by decide) (by omega))⟩⟩
abbrev C4:=Rat×Rat×Rat×Rat
def cor (c:C4):PV:= .tup [fr c.1,fr c.2.1,fr c.2.2.1,fr c.2.2.2]
def corL (c:C4):PV:= .lst [fr c.1,fr c.2.1,fr c.2.2.1,fr c.2.2.2]
def Al (cs:List C4):PV:= .tup (cs.map cor)
structure Fm (B:Nat) (c:C4):Prop where
 m:Bd B c.1
 x:Bd B c.2.1
 y:Bd B c.2.2.1
 z:Bd B c.2.2.2
theorem Fm.mono {B B':Nat} {c:C4} (h:Fm B c) (k:B<=B'):Fm B' c:=⟨h.m.mono k,h.x.mono k,h.y.mono k,h.z.mono k⟩
structure Mq (D N:Nat) (c:C4):Prop where
 m:Mul D N c.1
 x:Mul D N c.2.1
 y:Mul D N c.2.2.1
 z:Mul D N c.2.2.2
theorem Mq.mono {D N M:Nat} {c:C4} (h:Mq D N c) (k:N<=M):Mq D M c:=⟨h.m.mono k,h.x.mono k,h.y.mono k,h.z.mono k⟩
theorem Mq.bd {D N n:Nat} {c:C4} (h:Mq D N c) (h1:N<2^n) (h2:D<2^n):Fm n c:=⟨h.m.bd h1 h2,h.x.bd h1 h2,h.y.bd h1 h2,h.z.bd h1 h2⟩
def KZ (cs:List C4):Prop:=cs.Pairwise λa b=>a.1<b.1
structure M0 (n D N:Nat) (cs:List C4):Prop where
 two:2<=cs.length
 few:cs.length<=n
 mu:∀c∈cs,Mq D N c
 ris:KZ cs
structure C6 (n B:Nat) (cs:List C4):Prop where
 two:2<=cs.length
 few:cs.length<=n
 bd:∀c∈cs,Fm B c
 ris:KZ cs
theorem Z1 {cs:List C4} {c d:C4} (h:KZ (cs ++ [c])) (hd:c.1<d.1):KZ (cs ++ [c] ++ [d]):=by
 refine List.pairwise_append.mpr ⟨h,by simp,λa ha b hb=> ?_⟩
 simp at hb;subst hb
 rcases List.mem_append.mp ha with ha|ha
 ·have:=(List.pairwise_append.mp h).2.2 a ha c (by simp)
  grind
 ·simp at ha;subst ha;exact hd
theorem ft {cs:List C4} {i:Int} {k:Nat} (hk:i=(k:Int)) (h:k<=cs.length):Hd (cs.map cor) none (some i)=(cs.take k).map cor:=by
 unfold Hd
 rw [hk,HT.sIx_none,HT.sIx_nat]
 rw [show min k (cs.map cor).length=k by simp;omega,List.map_take]
 simp
theorem Yu {cs:List C4} {i:Int} {k:Nat} (hk:i=(k:Int)) (h:k<=cs.length):Hd (cs.map cor) (some i) none=(cs.drop k).map cor:=by
 unfold Hd
 rw [hk,HT.sIx_none,HT.sIx_nat]
 rw [show min k (cs.map cor).length=k by simp;omega,List.map_drop]
 exact List.take_of_length_le (by simp)
theorem lS {cs:List C4} {i:Int} {k:Nat} {Q:PV->Prop} (hk:i=(k:Int)) (h:k<=cs.length) (q:Q (Al (cs.take k))):Vz (Al cs) none (some i) Q:=by
 refine HY ?_
 rw [ft hk h];exact q
theorem Wc {cs:List C4} {i:Int} {k:Nat} {Q:PV->Prop} (hk:i=(k:Int)) (h:k<=cs.length) (q:Q (Al (cs.drop k))):Vz (Al cs) (some i) none Q:=by
 refine HY ?_
 rw [Yu hk h];exact q
theorem SM {cs ds:List C4} {Q:PV->Prop} (h:cs.length+ds.length<=10000) (q:Q (Al (cs++ds))):BY (Al cs) (Al ds) Q:=by
 refine ⟨?_, ?_⟩
 ·simp only [List.length_map];exact Nat.le_trans h (by decide)
 ·show Q (.tup (cs.map cor++ds.map cor))
  rw [<-List.map_append];exact q
theorem M0.ok {n D N m:Nat} {cs:List C4} (p:M0 n D N cs) (h1:N<2^m) (h2:D<2^m):C6 n m cs:=⟨p.two,p.few,λc hc=>(p.mu c hc).bd h1 h2,p.ris⟩
def CQ (cs:List C4) (v:PV):Prop:=∃f:C4->PV,(f=cor\/f=corL)/\(v= .tup (cs.map f)\/v= .lst (cs.map f))
theorem CQ.self (cs:List C4):CQ cs (Al cs):=⟨cor, .inl rfl, .inl rfl⟩
theorem CQ.lists (cs:List C4):CQ cs (.lst (cs.map corL)):=⟨corL, .inr rfl, .inr rfl⟩
theorem CQ.list (cs:List C4):CQ cs (.lst (cs.map cor)):=⟨cor, .inl rfl, .inr rfl⟩
theorem Fy {α β:Type} {g:AG} {te:AE} {τ0:BC} {Q:List PV->Prop} (f:α->PV) (k:β->PV) (e:α->β) (P:α->Prop)
 (hs:∀a,P a->∀R:PV->Prop,R (k (e a))->g (f a) τ0 λτ1=>te τ1 R):
 ∀(xs:List α) (acc:List PV),(∀a∈xs,P a)->Q (acc++(xs.map e).map k)->Cm g Fe te τ0 Q (xs.map f) acc
 | [],acc,_,h=>(by simpa using h:Q acc)
 | a::xs,acc,hp,h=>by
   refine hs a (hp a (by simp)) (λy=>Cm g Fe te τ0 Q (xs.map f) (acc ++ [y])) (Fy f k e P hs xs _ (λb hb=>hp b (by simp [hb])) ?_)
   simpa using h
theorem Sh.cor {c:C4} (h:Fm 1900 c):Sh 2 17000 (cor c):=(Sh.tup (kM (Sh.fr h.m) (Sh.fr h.x) (Sh.fr h.y) (Sh.fr h.z))).mono (by decide) lz
theorem Sh.corL {c:C4} (h:Fm 1900 c):Sh 2 17000 (corL c):=(Sh.lst (kM (Sh.fr h.m) (Sh.fr h.x) (Sh.fr h.y) (Sh.fr h.z))).mono (by decide) lz
abbrev T3:=Rat×Rat×Rat
def inter (a b:C4) (m:Rat):T3:=(a.2.1+(m-a.1)/(b.1-a.1)*(b.2.1-a.2.1),a.2.2.1+(m-a.1)/(b.1-a.1)*(b.2.2.1-a.2.2.1),a.2.2.2+(m-a.1)/(b.1-a.1)*(b.2.2.2-a.2.2.2))
def spotG:C4->List C4->Rat->Option T3
 | _, [],_=>none
 | a,b::r,m=>if b.1<m then spotG b r m else some (inter a b m)
def spotC:List C4->Rat->Option T3
 | [],_=>none
 | a::r,m=>if m<a.1 then none else spotG a r m
def jE (t:T3):PV:= .tup [fr t.1,fr t.2.1,fr t.2.2]
def IB:Option T3->PV
 | none=> .non
 | some t=>jE t
structure FT (B:Nat) (t:T3):Prop where
 x:Bd B t.1
 y:Bd B t.2.1
 z:Bd B t.2.2
theorem FT.mono {B B':Nat} {t:T3} (h:FT B t) (k:B<=B'):FT B' t:=⟨h.x.mono k,h.y.mono k,h.z.mono k⟩
section
variable {B M:Nat} {a b:C4} {m:Rat}
theorem Ra {x y:Rat} (h:x<y):y-x≠0:=by grind
theorem Bd.share (ha:Fm B a) (hb:Fm B b) (hm:Bd M m) (h:a.1<b.1):Bd (M+B+1+(B+B+1)) ((m-a.1)/(b.1-a.1)):=(hm.sub ha.m).div (Ra h) (hb.m.sub ha.m)
theorem FT.inter (ha:Fm B a) (hb:Fm B b) (hm:Bd M m) (h:a.1<b.1):FT (M+6*B+10) (inter a b m):=by
 have s:=Bd.share ha hb hm h
 exact ⟨(ha.x.add (s.mul (hb.x.sub ha.x))).mono (by omega),(ha.y.add (s.mul (hb.y.sub ha.y))).mono (by omega),(ha.z.add (s.mul (hb.z.sub ha.z))).mono (by omega)⟩
end
theorem FT.spotG {B M:Nat} {m:Rat} (hm:Bd M m):∀{a:C4} {r:List C4},KZ (a::r)->(∀c∈a::r,Fm B c)->∀t,spotG a r m=some t->FT (M+6*B+10) t
 | a, [],_,_,t,e=>by cases e
 | a,b::r,hr,hb,t,e=>by
   unfold PL.spotG at e
   split at e
   ·exact FT.spotG hm (List.pairwise_cons.mp hr).2 (λc hc=>hb c (by simp [hc])) t e
   ·cases e
    exact .inter (hb a (by simp)) (hb b (by simp)) hm ((List.pairwise_cons.mp hr).1 b (by simp))
theorem FT.spotC {B M:Nat} {m:Rat} {cs:List C4} (hm:Bd M m) (hr:KZ cs) (hb:∀c∈cs,Fm B c):∀t,spotC cs m=some t->FT (M+6*B+10) t:=λt e=>by
 cases cs with
 | nil=>cases e
 | cons a r=>
   simp only [PL.spotC] at e
   split at e
   ·cases e
   ·exact FT.spotG hm hr hb t e
theorem F1 {f:C4->PV} {cs:List C4} {i:Int} {k:Nat} {c:C4} {Q:PV->Prop} (hk:i=(k:Int)) (e:cs[k]? =some c) (h:Q (f c)):ap (Ih (cs.map f) i) Q:=by
 have q:Ih (cs.map f) ((k:Nat):Int)=some (f c):=Cg (by rw [List.getElem?_map,e] <;> rfl)
 rw [hk,q];exact h
theorem JM {f:C4->PV} {cs:List C4} {c:C4} {Q:PV->Prop} (e:cs.getLast?=some c) (h:Q (f c)):ap (Ih (cs.map f) (-1)) Q:=by
 have YB:cs≠ [] :=by intro z;subst z;cases e
 have hl:0<cs.length:=List.length_pos_iff.mpr YB
 have q:Ih (cs.map f) (-1)=some (f c):=by
  unfold Ih Sx
  rw [List.length_map,if_neg (by decide),if_pos (by omega)]
  have e2:(-1+(cs.length:Int)).toNat=cs.length-1:=by omega
  rw [Option.bind_some,e2,List.getElem?_map,<-List.getLast?_eq_getElem?,e]
  rfl
 rw [q];exact h
def Mm:AS:=
 (Ab (Ay (AN 2 KS (AB (AN 2 Dr (AB (aV 2) (AB (AX Ai (aV 0) (aC (.int 0))) AL))) (AB (AN 2 Dr (AB (AX Ai (aV 1) (aC (.int 0))) (AB (AX Ai (aV 0) (aC (.int 0))) AL))) AL))) (Aw 3))
   (Ao (Fd D7 (AB (GW (Cw (eF (AB (Vk (aV 0) (Vn (aC (.int 1))) Vm) (AB (Vk (aV 1) (Vn (aC (.int 1))) Vm) AL))) 2 [3] (L9 2 (Ak (Aw 0) (Ak (Aw 1) CS))) Fe (AN 2 IJ (AB (aV 0) (AB (AN 2 Ft (AB (aV 2) (AB (AN 2 Dr (AB (aV 1) (AB (aV 0) AL))) AL))) AL))))) AL))))
def DS:AF:=Av 4 Mm
theorem I0 {f:C4->PV} (hf:f=cor\/f=corL) {a b:C4} {B M:Nat} {m:Rat} (ha:Fm B a) (hb:Fm B b) (hm:Bd M m) (h:a.1<b.1) (hB:M+6*B+10<=3990) {Q:PV->Prop} (q:Q (jE (inter a b m))):DS [f a,f b,fr m] Q:=by
 simp only [jE,inter] at q
 have s:=Bd.share ha hb hm h
 have key:Cm (L9 2 (Ak (Aw 0) (Ak (Aw 1) CS))) Fe (AN 2 IJ (AB (aV 0) (AB (AN 2 Ft (AB (aV 2) (AB (AN 2 Dr (AB (aV 1) (AB (aV 0) AL))) AL))) AL))) [none,none,some (.val (fr ((m-a.1)/(b.1-a.1))))] (λxs=>Q (.tup xs))
  ([(a.2.1,b.2.1),(a.2.2.1,b.2.2.1),(a.2.2.2,b.2.2.2)].map λp:Rat×Rat=>PV.tup [fr p.1,fr p.2]) [] :=by
  refine Fy (λp:Rat×Rat=>PV.tup [fr p.1,fr p.2]) fr (λp=>p.1+(m-a.1)/(b.1-a.1)*(p.2-p.1)) (λp=>Bd B p.1/\Bd B p.2) (λp hp R hR=> ?_) _ [] (kK ⟨ha.x,hb.x⟩ ⟨ha.y,hb.y⟩ ⟨ha.z,hb.z⟩) q
  have bl:=hp.1
  have bh:=hp.2
  exact ⟨rfl,rfl,Df (bh.mono (by omega)) (bl.mono (by omega)) ⟨rfl,My (s.mono (by omega)) ((bh.sub bl).mono (by omega)) ⟨rfl,O2 (bl.mono (by omega)) ((s.mul (bh.sub bl)).mono (by omega)) hR⟩⟩⟩
 have m1:=hm.mono (n:=4000) (by omega)
 have a1:=ha.m.mono (n:=4000) (by omega)
 have b1:=hb.m.mono (n:=4000) (by omega)
 rcases hf with rfl|rfl
 ·exact ⟨rfl,Df m1 a1 ⟨rfl,Df b1 a1 ⟨rfl,KU (Ra h) ((hm.sub ha.m).mono (by omega)) ((hb.m.sub ha.m).mono (by omega)) (HY (HY ⟨lz,key⟩))⟩⟩⟩
 ·exact ⟨rfl,Df m1 a1 ⟨rfl,Df b1 a1 ⟨rfl,KU (Ra h) ((hm.sub ha.m).mono (by omega)) ((hb.m.sub ha.m).mono (by omega)) (EN (EN ⟨lz,key⟩))⟩⟩⟩
def P9:AS:=
 (Ab (FD (bO (AB (aC (.int 1)) (AB (Fd Fg (AB (aV 0) AL)) AL))) (Aw 2) (Bj (DG (Ar (AN 2 Ag (AB (AX Ai (AX Ai (aV 0) (aV 2)) (aC (.int 0))) (AB (aV 1) AL))))) (Ao (AN 3 DS (AB (AX Ai (aV 0) (AX Gw (aV 2) (aC (.int 1)))) (AB (AX Ai (aV 0) (aV 2)) (AB (aV 1) AL))))) BB))
   (Ao (aC .non)))
def Wq:AS:=
 (Ab (Bj (Ar (AN 2 Ag (AB (aV 1) (AB (AX Ai (AX Ai (aV 0) (aC (.int 0))) (aC (.int 0))) AL)))) (Ao (aC .non)) BB)
   P9)
def Fc:AF:=Av 3 Wq
theorem dG {cs:List C4} (h:KZ cs) {k:Nat} {a b:C4} (ea:cs[k]? =some a) (eb:cs[k+1]? =some b):a.1<b.1:=by
 have h1:=(List.getElem?_eq_some_iff.mp ea)
 have h2:=(List.getElem?_eq_some_iff.mp eb)
 obtain ⟨l1,rfl⟩:=h1
 obtain ⟨l2,rfl⟩:=h2
 exact List.pairwise_iff_getElem.mp h k (k+1) l1 l2 (by omega)
theorem Iz {cs:List C4} {v:PV} {B M:Nat} {m:Rat} (hv:CQ cs v) (hc:∀c∈cs,Fm B c) (hr:KZ cs) (h0:cs≠ []) (hl:cs.length<=1000) (hm:Bd M m) (hB:M+6*B+10<=3990) {Q:PV->Prop} (q:Q (IB (spotC cs m))):Fc [v,fr m] Q:=by
 obtain ⟨f,hf,hv⟩:=hv
 have m1:=hm.mono (n:=4000) (by omega)
 cases cs with
 | nil=>exact absurd rfl h0
 | cons a r=>
   have ba:=hc a (by simp)
   have a1:=ba.m.mono (n:=4000) (by omega)
   simp only [spotC] at q
   have few:r.length+1<=1000:=hl
   have qJ:∀(c:C4) (P:PV->Prop),P (fr c.1)->TJ (f c) λys=>ap (Ih ys 0) P:=λc P hP=>by rcases hf with rfl|rfl <;> exact hP
   rcases hv with rfl|rfl
   all_goals
    refine F1 (k:=0) (c:=a) rfl rfl (qJ a _ ⟨rfl,Bi m1 a1 ?_⟩)
    refine Em (b:=decide (m<a.1)) (λz=> ?_) (λz=> ?_)
    ·rw [if_pos (of_decide_eq_true z)] at q
     exact q
    ·rw [if_neg (of_decide_eq_false z)] at q
     have C9:∀f:C4->PV,((((a::r).map f).length:Nat):Int)=r.length+1:=λf=>by simp
     refine ⟨⟨by decide,by decide,by rw [C9];omega,by rw [C9];omega⟩, ?_⟩
     rw [C9,show ((r.length:Int)+1-1).toNat=r.length by omega]
     refine JL (λrr τ=>∃(k:Nat) (z2:Option AV) (c:C4) (ds:List C4),rr=rng ((k:Int)+1) ds.length/\(a::r)[k]? =some c/\(a::r).drop (k+1)=ds/\spotG c ds m=spotG a r m/\τ= [some (.val _),some (.val (fr m)),z2]) ?_ ?_ _ _ ⟨0,none,a,r,rfl,rfl,rfl,rfl,rfl⟩
     ·rintro τ ⟨k,z2,c,ds,ZE,ek,ed,es,rfl⟩
      have:ds= [] :=by
       cases ds with
       | nil=>rfl
       | cons d ds=>rw [List.length_cons,Jc] at ZE;cases ZE
      subst this
      rw [<-es] at q
      exact q
     ·rintro x rr τ R hR ⟨k,z2,c,ds,ZE,ek,ed,es,rfl⟩
      cases ds with
      | nil=>cases ZE
      | cons d ds=>
        rw [List.length_cons,Jc] at ZE
        cases ZE
        have ed':(a::r)[k+1]? =some d:=by
         have:=congrArg (λl=>l[0]?) ed
         simpa [List.getElem?_drop] using this
        have bd:=hc d (List.mem_of_getElem? ed')
        have bc:=hc c (List.mem_of_getElem? ek)
        refine F1 (k:=k+1) (by omega) ed' (qJ d _ ⟨rfl,Bi (bd.m.mono (by omega)) m1 ?_⟩)
        refine Em (b:= !decide (d.1<m)) (λz=> ?_) (λz=> ?_)
        ·have z':¬d.1<m:=by simpa using z
         rw [<-es] at q
         simp only [spotG,if_neg z',IB] at q
         exact F1 (k:=k) (by omega) ek (F1 (k:=k+1) (by omega) ed' ⟨rfl,I0 hf bc bd hm (dG hr ek ed') hB q⟩)
        ·have z':d.1<m:=by simpa using z
         refine hR _ ⟨k+1,_,d,ds, ?_,ed', ?_, ?_,rfl⟩
         ·rw [show (((k+1:Nat):Int)+1)=(k:Int)+1+1 by omega]
         ·have:=congrArg List.tail ed
          simpa [List.tail_drop] using this
         ·rw [<-es];simp only [spotG,if_pos z']
theorem N3 {m:Rat}:∀{a:C4} {r:List C4},KZ (a::r)->(∀l,(a::r).getLast?=some l->l.1<m)->spotG a r m=none
 | a, [],_,_=>rfl
 | a,b::r,hr,h=>by
   have jB:KZ (b::r):=(List.pairwise_cons.mp hr).2
   have hb:b.1<m:=by
    cases r with
    | nil=>exact h b rfl
    | cons c r=>
      obtain ⟨l,hl⟩:∃l,(c::r).getLast?=some l:=⟨_,List.getLast?_eq_some_getLast (by simp)⟩
      have h1:l.1<m:=h l (by simpa [List.getLast?_cons_cons] using hl)
      have h2:b.1<l.1:=(List.pairwise_cons.mp jB).1 l (List.mem_of_getLast? hl)
      grind
   simp only [spotG,if_pos hb]
   exact N3 jB λl hl=>h l (by simpa [List.getLast?_cons_cons] using hl)
theorem Sv {a b:C4} (h:a.1<b.1):inter a b a.1=a.2:=by
 have s:(a.1-a.1)/(b.1-a.1)=0:=by grind
 simp only [inter,s]
 obtain ⟨m,x,y,z⟩:=a
 show (x+0*(b.2.1-x),y+0*(b.2.2.1-y),z+0*(b.2.2.2-z))=(x,y,z)
 rw [show x+0*(b.2.1-x)=x by grind,show y+0*(b.2.2.1-y)=y by grind,show z+0*(b.2.2.2-z)=z by grind]
theorem NO {a b:C4} (h:a.1<b.1):inter a b b.1=b.2:=by
 have s:(b.1-a.1)/(b.1-a.1)=1:=by grind
 simp only [inter,s]
 obtain ⟨m,x,y,z⟩:=b
 show (a.2.1+1*(x-a.2.1),a.2.2.1+1*(y-a.2.2.1),a.2.2.2+1*(z-a.2.2.2))=(x,y,z)
 rw [show a.2.1+1*(x-a.2.1)=x by grind,show a.2.2.1+1*(y-a.2.2.1)=y by grind,show a.2.2.2+1*(z-a.2.2.2)=z by grind]
theorem Tl {a:C4} {r:List C4} {m:Rat} (h:m<a.1):spotC (a::r) m=none:=by simp only [spotC,if_pos h]
theorem RW {a:C4} {r:List C4} {m:Rat} (hr:KZ (a::r)) (h:∀l,(a::r).getLast?=some l->l.1<m):spotC (a::r) m=none:=by
 simp only [spotC]
 split
 ·rfl
 ·exact N3 hr h
def Ir:AS:=
 (Ab (Ay (GW (Cw (M7 (BF (AB (aC (.int 1)) (AB (aC (.int 2)) (AB (aC (.int 3)) AL))))) 1 [4,3,2] (Aw 0) Fe (AN 2 BL (AB (aV 1) (AB (AN 2 A9 (AB (AX Ai (aV 2) (aV 0)) (AB (AX Ai (aV 3) (aV 0)) AL))) AL))))) (Aw 5))
   (Ao (Fd D7 (AB (GW (Cw (SJ (AB (aC (.int 3)) AL)) 1 [2,5] (Aw 0) Fe (AN 2 BS (AB (AX Ai (aV 1) (AX BY (aV 0) (aC (.int 1)))) (AB (AX Ai (aV 2) (aV 0)) AL))))) AL))))
def Mh:AS:=
 (Ab (Ay (AN 2 Be (AB (AN 2 A9 (AB (aV 1) (AB (AX Ai (aV 2) (aC (.int 0))) AL))) (AB (AN 2 A9 (AB (AX Ai (aV 3) (aC (.int 0))) (AB (AX Ai (aV 2) (aC (.int 0))) AL))) AL))) (Aw 4))
   Ir)
def Mi:AS:=
 (Ab (FD (eF (AB (aV 0) (AB (Vk (aV 0) (Vn (aC (.int 1))) Vm) AL))) (L9 2 (Ak (Aw 2) (Ak (Aw 3) CS))) (Bj (DG (Ar (AN 2 Ag (AB (AX Ai (aV 3) (aC (.int 0))) (AB (aV 1) AL))))) Mh BB))
   (Ao (aC .non)))
def Rn:AS:=
 (Ab (Bj (Gr (Ar (AN 2 Ag (AB (aV 1) (AB (AX Ai (AX Ai (aV 0) (aC (.int 0))) (aC (.int 0))) AL)))) (Ar (AN 2 Ag (AB (AX Ai (AX Ai (aV 0) (M6 FF (aC (.int 1)))) (aC (.int 0))) (AB (aV 1) AL))))) (Ao (aC .non)) BB)
   Mi)
def Ca:AF:=Av 6 Rn
theorem DQ {cs:List C4} {B M:Nat} {m:Rat} (hc:∀c∈cs,Fm B c) (hr:KZ cs) (h0:cs≠ []) (hl:cs.length<=1000) (hm:Bd M m) (hB:M+6*B+10<=3990) {Q:PV->Prop} (q:Q (IB (spotC cs m))):Ca [Al cs,fr m] Q:=by
 have m1:=hm.mono (n:=4000) (by omega)
 cases cs with
 | nil=>exact absurd rfl h0
 | cons a r=>
   have ba:=hc a (by simp)
   have a1:=ba.m.mono (n:=4000) (by omega)
   obtain ⟨l,el⟩:∃l,(a::r).getLast?=some l:=⟨_,List.getLast?_eq_some_getLast (by simp)⟩
   have bl:=hc l (List.mem_of_getLast? el)
   refine F1 (f:=cor) (k:=0) (c:=a) rfl rfl ⟨rfl,Bi m1 a1 ?_⟩
   refine Em (b:=decide (m<a.1)) (λz=> ?_) (λz=> ?_)
   ·rw [Tl (of_decide_eq_true z)] at q
    exact q
   refine JM (f:=cor) el ⟨rfl,Bi (bl.m.mono (by omega)) m1 ?_⟩
   refine Em (b:=decide (l.1<m)) (λz2=> ?_) (λz2=> ?_)
   ·rw [RW hr (λl' e'=>by rw [el] at e';cases e';exact of_decide_eq_true z2)] at q
    exact q
   simp only [spotC,if_neg (of_decide_eq_false z)] at q
   have few:r.length+1<=1000:=hl
   refine Wc (cs:=a::r) (i:=1) (k:=1) rfl (by simp) ?_
   refine JL (λrr τ=>∃(c:C4) (ds:List C4) (z2 z3 z4 z5:Option AV),rr=En ((c::ds).map cor) (ds.map cor)/\KZ (c::ds)/\(∀d∈c::ds,Fm B d)/\spotG c ds m=spotG a r m/\τ= [some (.val (Al (a::r))),some (.val (fr m)),z2,z3,z4,z5]) ?_ ?_ _ _ ⟨a,r,none,none,none,none,rfl,hr,hc,rfl,rfl⟩
   ·rintro τ ⟨c,ds,z2,z3,z4,z5,ZE,nZ,hb,es,rfl⟩
    have:ds= [] :=by cases ds with | nil=>rfl|cons d ds=>cases ZE
    subst this
    rw [<-es] at q
    exact q
   ·rintro x rr τ R hR ⟨c,ds,z2,z3,z4,z5,ZE,nZ,hb,es,rfl⟩
    cases ds with
    | nil=>cases ZE
    | cons d ds=>
      cases ZE
      have bc:=hb c (by simp)
      have bd:=hb d (by simp)
      have MB:=(List.pairwise_cons.mp nZ).1 d (by simp)
      refine ⟨rfl,rfl,Bi (bd.m.mono (by omega)) m1 ?_⟩
      refine Em (b:= !decide (d.1<m)) (λz=> ?_) (λz=> ?_)
      ·have z':¬d.1<m:=by simpa using z
       rw [<-es] at q
       simp only [spotG,if_neg z',IB,jE,inter] at q
       have s:=Bd.share bc bd hm MB
       refine ⟨rfl,CL m1 (bc.m.mono (by omega)) ⟨rfl,CL (bd.m.mono (by omega)) (bc.m.mono (by omega)) ⟨rfl,GN (Ra MB) ((hm.sub bc.m).mono (by omega)) ((bd.m.sub bc.m).mono (by omega)) ?_⟩⟩⟩
       refine ⟨lz,lz, ?_⟩
       refine ⟨rfl,CL (bd.x.mono (by omega)) (bc.x.mono (by omega)) ⟨rfl,CP (s.mono (by omega)) ((bd.x.sub bc.x).mono (by omega)) ?_⟩⟩
       refine ⟨rfl,CL (bd.y.mono (by omega)) (bc.y.mono (by omega)) ⟨rfl,CP (s.mono (by omega)) ((bd.y.sub bc.y).mono (by omega)) ?_⟩⟩
       refine ⟨rfl,CL (bd.z.mono (by omega)) (bc.z.mono (by omega)) ⟨rfl,CP (s.mono (by omega)) ((bd.z.sub bc.z).mono (by omega)) ?_⟩⟩
       refine ⟨⟨by decide,by decide⟩,lz, ?_⟩
       refine ⟨rfl,Ct (bc.x.mono (by omega)) ((s.mul (bd.x.sub bc.x)).mono (by omega)) ?_⟩
       refine ⟨rfl,Ct (bc.y.mono (by omega)) ((s.mul (bd.y.sub bc.y)).mono (by omega)) ?_⟩
       exact ⟨rfl,Ct (bc.z.mono (by omega)) ((s.mul (bd.z.sub bc.z)).mono (by omega)) q⟩
      ·have z':d.1<m:=by simpa using z
       exact hR _ ⟨d,ds,_,_,_,_,rfl,(List.pairwise_cons.mp nZ).2,λe he=>hb e (by simp [he]),by rw [<-es];simp only [spotG,if_pos z'],rfl⟩
theorem fY.t3 {t:T3} (h:FT 1900 t):fY (jE t):=(Sh.tup (kK (Sh.fr h.x) (Sh.fr h.y) (Sh.fr h.z))).go (by decide) lz
def sp (cs:List C4) (m:Rat):C4:=(m,(spotC cs m).getD (0,0,0))
def Kq (f t:Rat) (c:C4):Bool:=decide (f<c.1)&&decide (c.1<t)
theorem N4 {m:Rat}:∀{a:C4} {r:List C4} {l:C4},r≠ [] ->(a::r).getLast?=some l->m<=l.1->∃t,spotG a r m=some t
 | a, [],l,h,_,_=>absurd rfl h
 | a,b::r,l,_,e,hm=>by
   simp only [spotG]
   split
   ·rename_i h
    cases r with
    | nil=>
      have:b=l:=by simpa using e
      subst this;grind
    | cons c r=>exact N4 (l:=l) (by simp) (by simpa [List.getLast?_cons_cons] using e) hm
   ·exact ⟨_,rfl⟩
theorem GF {a:C4} {r:List C4} {l:C4} {m:Rat} (h2:r≠ []) (e:(a::r).getLast?=some l) (h0:a.1<=m) (h1:m<=l.1):∃t,spotC (a::r) m=some t:=by
 simp only [spotC]
 rw [if_neg (by grind)]
 exact N4 h2 e h1
theorem XU {a b l:C4} {r:List C4} (e:(a::b::r).getLast?=some l):(b::r).getLast?=some l:=by
 simpa [List.getLast?_cons_cons] using e
def mx (b a:Rat):Rat:=if b<a then a else b
def mn (e l:Rat):Rat:=if e<l then e else l
def MZ:AS:=
 (Ao (eB (Ar (AN 2 Ag (AB (aV 0) (AB (aV 1) AL)))) (aV 1) (aV 0)))
def CY:AF:=Av 2 MZ
theorem Iy {a b:Rat} (ha:Bd 4000 a) (hb:Bd 4000 b) {Q:PV->Prop} (q:Q (fr (mx a b))):CY [fr a,fr b] Q:=by
 refine ⟨rfl,Bi ha hb ?_⟩
 refine Em (b:=decide (a<b)) (λz=> ?_) (λz=> ?_)
 ·rw [mx,if_pos (of_decide_eq_true z)] at q;exact q
 ·rw [mx,if_neg (of_decide_eq_false z)] at q;exact q
def YJ:AS:=
 (Ao (eB (Ar (AN 2 Ag (AB (aV 1) (AB (aV 0) AL)))) (aV 1) (aV 0)))
def EX:AF:=Av 2 YJ
theorem SC {a b:Rat} (ha:Bd 4000 a) (hb:Bd 4000 b) {Q:PV->Prop} (q:Q (fr (mn a b))):EX [fr a,fr b] Q:=by
 refine ⟨rfl,Bi hb ha ?_⟩
 refine Em (b:=decide (b<a)) (λz=> ?_) (λz=> ?_)
 ·have z':=of_decide_eq_true z
  rw [show mn a b=b by unfold mn;split <;> grind] at q;exact q
 ·have z':=of_decide_eq_false z
  rw [show mn a b=a by unfold mn;split <;> grind] at q;exact q
theorem Dk {α:Type} {g:AG} {tt:AT} {te:AE} {τ0:BC} {Q:List PV->Prop} (f k:α->PV) (p:α->Bool) (P:α->Prop)
 (hs:∀a,P a->∀(R:PV->Prop) (N:Prop),(p a=true->R (k a))->(p a=false->N)->g (f a) τ0 λτ1=>tt τ1 λok=>if ok=true then te τ1 R else N):
 ∀(xs:List α) (acc:List PV),(∀a∈xs,P a)->Q (acc++(xs.filter p).map k)->Cm g tt te τ0 Q (xs.map f) acc
 | [],acc,_,h=>(by simpa using h:Q acc)
 | a::xs,acc,hp,h=>by
   refine hs a (hp a (by simp)) (λy=>Cm g tt te τ0 Q (xs.map f) (acc ++ [y])) _ (λz=> ?_) (λz=> ?_)
   ·exact Dk f k p P hs xs _ (λb hb=>hp b (by simp [hb])) (by simpa [List.filter_cons,z] using h)
   ·exact Dk f k p P hs xs _ (λb hb=>hp b (by simp [hb])) (by simpa [List.filter_cons,z] using h)
theorem both {f t:Rat} {c:C4} {tt:(Bool->Prop)->Prop} {A:Prop} {N:Prop} (h1:Kq f t c=true->A) (h2:Kq f t c=false->N):
 if decide (f<c.1)=true then (if decide (c.1<t)=true then A else N) else N:=by
 unfold Kq at h1 h2
 refine Em (λz=>Em (λz2=>h1 (by rw [z,z2];rfl)) (λz2=>h2 (by rw [z,z2];rfl))) (λz=>h2 (by rw [z];rfl))
def Iu:AS:=
 (Ao (GW (Cw (M7 (aV 0)) 1 [1,2] (Aw 0) (Gq (Ar (AN 2 Ag (AB (aV 1) (AB (AX Ai (aV 0) (aC (.int 0))) AL)))) (Ar (AN 2 Ag (AB (AX Ai (aV 0) (aC (.int 0))) (AB (aV 2) AL))))) (Fd D7 (AB (aV 0) AL)))))
def Br:AF:=Av 3 Iu
theorem D1 {cs:List C4} {v:PV} {B:Nat} {f t:Rat} (hv:CQ cs v) (hl:cs.length<=1000) (hc:∀c∈cs,Fm B c) (hB:B<=4000) (hf:Bd 4000 f) (ht:Bd 4000 t) {Q:PV->Prop} (q:Q (.lst ((cs.filter (Kq f t)).map cor))):Br [v,fr f,fr t] Q:=by
 obtain ⟨g,hg,hv⟩:=hv
 have few:(cs.map g).length<sizeLine:=by rw [List.length_map];exact Nat.lt_of_le_of_lt hl (by decide)
 have key:∀(c:C4),Fm B c->∀(R:PV->Prop) (N:Prop),(Kq f t c=true->R (cor c))->(Kq f t c=false->N)->
  (Aw 0) (g c) [none,some (.val (fr f)),some (.val (fr t))] λτ1=>(Gq (Ar (AN 2 Ag (AB (aV 1) (AB (AX Ai (aV 0) (aC (.int 0))) AL)))) (Ar (AN 2 Ag (AB (AX Ai (aV 0) (aC (.int 0))) (AB (aV 2) AL))))) τ1 λok=>if ok=true then (Fd D7 (AB (aV 0) AL)) τ1 R else N:=by
  intro c bc R N h1 h2
  have bm:=bc.m.mono hB
  rcases hg with rfl|rfl
  all_goals
   refine ⟨rfl,Bi hf bm ?_⟩
   refine Em (b:=decide (f<c.1)) (λz=> ?_) (λz=>h2 (by unfold Kq;rw [z];rfl))
   refine ⟨rfl,Bi bm ht ?_⟩
   exact Em (b:=decide (c.1<t)) (λz2=>h1 (by unfold Kq;rw [z,z2];rfl)) (λz2=>h2 (by unfold Kq;rw [z,z2];rfl))
 rcases hv with rfl|rfl
 ·exact ⟨few,Dk g cor (Kq f t) (Fm B) key cs [] hc q⟩
 ·exact ⟨few,Dk g cor (Kq f t) (Fm B) key cs [] hc q⟩
theorem Bd.mx {n:Nat} {a b:Rat} (ha:Bd n a) (hb:Bd n b):Bd n (mx a b):=by unfold PL.mx;split <;> assumption
theorem Bd.mn {n:Nat} {a b:Rat} (ha:Bd n a) (hb:Bd n b):Bd n (mn a b):=by unfold PL.mn;split <;> assumption
end PL
end
section
namespace PL
open PySem L2 PyProof.Rows
section
variable {a b:AS} {ta tb:AE} {tt tu:AT} {g:AG} {gs:T8} {nx bk ct:BC->Prop} {rt:PV->Prop} {τ:BC} {Q:PV->Prop} {QB:Bool->Prop} {QL:List PV->Prop} {QT:BC->Prop} {r:AA} {ai:AI} {F:AF} {n i j:Nat} {x y z:PV} {xs ys:List PV}
theorem lG {f:Ig} (e:Ri τ i=some (.val x)) (h:ta τ λy=>f x y λz=>nx (τ.set i (some (.val z)))):UJ i f ta ⟨nx,rt,bk,ct⟩ τ:=by unfold UJ;rw [e];exact h
theorem lP (e:Ri τ i=some (.own xs)) (h:QL xs):M5 i τ QL:=by unfold M5;rw [e];exact h
theorem uT (e:Ri τ i=some (.val x)) (h:Q x):aV i τ Q:=by unfold aV;rw [e];exact h
def qQ (x:PV) (i:Int):Option PV:=match x with | .tup xs=>Ih xs i | .lst xs=>Ih xs i|_=>none
theorem oE {i:Int} (e:qQ x i=some z) (h:Q z):Ai x (.int i) Q:=by
 cases x <;> first | (cases e;done)|(show ap (Ih _ i) Q;rw [show Ih _ i=some z from e];exact h)
theorem VI {a:C4} {cs:List C4} (h:Q (cor a)):Ai (Al (a::cs)) (.int 0) Q:=F1 (k:=0) (c:=a) rfl rfl h
theorem iS {l:C4} {cs:List C4} (el:cs.getLast?=some l) (h:Q (cor l)):Ai (Al cs) (.int (-1)) Q:=JM el h
theorem lH {a b:Rat} (h:Q (.bl (decide (a=b)))):NF (fr a) (fr b) Q:=⟨⟨WH 29 _,WH 29 _⟩,by rw [Yy];exact h⟩
theorem lO {a b:Rat} (h:Q (.bl (!decide (a=b)))):XA (fr a) (fr b) Q:=⟨⟨WH 29 _,WH 29 _⟩,by rw [Yy];exact h⟩
theorem iT {cs:List C4} (h:Q (.int cs.length)):Fg [Al cs] Q:=by
 show Q (.int (cs.map cor).length);rw [List.length_map];exact h
theorem lN {T:String} {k:Kd} (ht:ZG T) (e:kdOf x=some k) (h:Q (.bl (Qc k T))):Sa [x, .ty T] Q:=by
 refine ⟨ht, ?_⟩;rw [e];exact h
theorem lJ {c:Bool} {A B:Prop} (e:c=true) (h:A):if c=true then A else B:=by rw [if_pos e];exact h
theorem lI {c:Bool} {A B:Prop} (e:c=false) (h:B):if c=true then A else B:=by rw [if_neg (by rw [e];exact Bool.false_ne_true)];exact h
theorem lK {p:Prop} [Decidable p] {A B:Prop} (h1:p->A) (h2:¬p->B):if decide p=true then A else B:=by
 by_cases h:p
 ·rw [if_pos (decide_eq_true h)];exact h1 h
 ·rw [if_neg (by simp [h])];exact h2 h
theorem lM {p:Prop} [Decidable p] {A B:Prop} (h1:¬p->A) (h2:p->B):if (!decide p)=true then A else B:=by
 by_cases h:p
 ·rw [if_neg (by simp [h])];exact h2 h
 ·rw [if_pos (by simp [h])];exact h1 h
end
end PL
namespace PL
open PySem L2 PyProof.Rows
theorem jj:Bd 1 (0:Rat):=⟨by decide,by decide⟩
theorem eG:Bd 1 (1:Rat):=⟨by decide,by decide⟩
end PL
namespace PL
open PySem L2 PyProof.Rows
section
variable {g:AG} {b:AS} {nx bk ct:BC->Prop} {rt:PV->Prop}
theorem V1 (P:Nat->BC->Prop) {lo:Int} {n:Nat} (hd:∀τ,P n τ->nx τ)
 (hs:∀i,i<n->∀τ (R:BC->Prop),(∀τ,P (i+1) τ->R τ)->P i τ->g (.int (lo+i)) τ λτ1=>b ⟨R,rt,nx,R⟩ τ1) {τ:BC} (h0:P 0 τ):Cc g b ⟨nx,rt,bk,ct⟩ (rng lo n) τ:=by
 refine JL (λr τ=>∃i,i<=n/\r=rng (lo+i) (n-i)/\P i τ) ?_ ?_ _ _ ⟨0,Nat.zero_le _,by simp,h0⟩
 ·rintro τ ⟨i,hi,hr,hp⟩
  have:n-i=0:=by
   cases e:n-i with
   | zero=>rfl
   | succ k=>rw [e,Jc] at hr;cases hr
  have:i=n:=by omega
  subst this
  exact hd τ hp
 ·rintro x r τ R hR ⟨i,hi,hr,hp⟩
  cases e:n-i with
  | zero=>rw [e] at hr;cases hr
  | succ k=>
    rw [e,Jc] at hr
    cases hr
    exact hs i (by omega) τ R (λτ2 h2=>hR τ2 ⟨i+1,by omega,by rw [show n-(i+1)=k by omega,show lo+((i+1:Nat):Int)=lo+i+1 by omega],h2⟩) hp
theorem C1 {α:Type} (f:α->PV) (P:List α->List α->BC->Prop) {cs:List α} (hd:∀τ,P cs [] τ->nx τ)
 (hs:∀us c vs,us++c::vs=cs->∀τ (R:BC->Prop),(∀τ,P (us ++ [c]) vs τ->R τ)->P us (c::vs) τ->g (f c) τ λτ1=>b ⟨R,rt,nx,R⟩ τ1) {τ:BC} (h0:P [] cs τ):Cc g b ⟨nx,rt,bk,ct⟩ (cs.map f) τ:=by
 refine JL (λr τ=>∃us vs,us++vs=cs/\r=vs.map f/\P us vs τ) ?_ ?_ _ _ ⟨[],cs,rfl,rfl,h0⟩
 ·rintro τ ⟨us,vs,e,hr,hp⟩
  cases vs with
  | nil=>rw [List.append_nil] at e;subst e;exact hd τ hp
  | cons v vs=>cases hr
 ·rintro x r τ R hR ⟨us,vs,e,hr,hp⟩
  cases vs with
  | nil=>cases hr
  | cons c vs=>
    cases hr
    exact hs us c vs e τ R (λτ2 h2=>hR τ2 ⟨us ++ [c],vs,by simpa using e,rfl,h2⟩) hp
theorem ln {c:AT} (P:Nat->BC->Prop)
 (hs:∀n τ (R:BC->Prop),(∀τ,P n τ->R τ)->P (n+1) τ->c (frz τ) λk=>if k=true then b ⟨R,rt,nx,R⟩ τ else nx τ) (tP:∀τ,¬P 0 τ) {n:Nat} {τ:BC} (h0:P n τ):Kg c b ⟨nx,rt,bk,ct⟩ τ:=
 ⟨n,Vb P tP (λn τ R hR hp=>hs n τ R hR hp) n τ h0⟩
end
section
variable {g:AG} {tt:AT} {te:AE} {τ0:BC} {Q:List PV->Prop}
end
end PL
namespace PL
section
variable {p:Prop} [Decidable p] {A B:Prop}
end
end PL
end
section
namespace PL
open PySem PySem.Spec PyProof.Rows L2
section
variable {K:PySem.W.Frag} {T M:Addr->Prop} {H:Hp}
inductive KR (K:PySem.W.Frag):List Value->List PV->Prop where
 | nil:KR K [] []
 | cons {u:Value} {x:PV} {us:List Value} {xs:List PV} (h:∃V,RelV V u/\∀T M H,CB K T M H V x) (t:KR K us xs):KR K (u::us) (x::xs)
theorem KR.length:∀{us:List Value} {xs:List PV},KR K us xs->us.length=xs.length
 | _,_, .nil=>rfl
 | _,_, .cons _ t=>by simp [t.length]
end
def bI (K:PySem.W.Frag) (d:Addr):List (Str×PV)->Prop
 | [] =>True
 | p::r=>(∃(u:Value) (V:V),PySem.W.nsIn K d p.1=some (some u)/\RelV V u/\∀T M H,CB K T M H V p.2)/\bI K d r
theorem bI.get {K:PySem.W.Frag} {d:Addr}:∀{tb:List (Str×PV)},bI K d tb->∀s v,tb.lookup s=some v->∃(u:Value) (V:V),PySem.W.nsIn K d s=some (some u)/\RelV V u/\∀T M H,CB K T M H V v
 | [],_,s,v,e=>by cases e
 | (a,b)::r,h,s,v,e=>by
   rw [List.lookup_cons] at e
   split at e
   ·rename_i hb
    cases e
    have:s=a:=eq_of_beq hb
    subst this
    exact h.1
   ·exact bI.get h.2 s v e
section
variable {X:Cx}
def jC (x:PV) (xs:List PV):Bool:=xs.any λy=>fx y x
def l5 (neg:Bool):Ig:=λx y Q=>TJ y λys=>(ET 29 x=true/\IU 29 ys=true)/\Q (.bl (if neg then !jC x ys else jC x ys))
def dD (K:PySem.W.Frag) (neg:Bool):R2:=λu v H Q=>∃(T M:Addr->Prop) (x y:PV) (ys:List PV),CB K T M H u x/\CB K T M H v y/\(y= .tup ys\/y= .lst ys)/\ET 29 x=true/\IU 29 ys=true/\Q (.bl (if neg then !jC x ys else jC x ys)) H
theorem WK (xs:List PV) (x:PV):(OC xs).any (λy=>PyData.eqv y (pd x))=jC x xs:=by
 induction xs with
 | nil=>rfl
 | cons y ys ih=>simp only [OC,List.any_cons,ih,jC,fx]
theorem cm {k:Nat} (hr:Room k X.A):EC X (compareOp .NotIn) (dD X.K true):=by
 intro pins s σ H u v uu vv Q I ru rv h
 obtain ⟨T,M,x,y,ys,rx,ry,hy,kx,ky,q⟩:=h
 obtain ⟨as,ra⟩:=D3 I 29 rx kx ru
 obtain ⟨a1,a2,_⟩:=HK 29 x kx
 obtain ⟨b1,b2,_⟩:=JX 29 ys ky
 have hu:X.A.units+1+min (PyData.depthAll (OC ys)) (pd x).depth<cLine:=by have:=hr.un;omega
 rcases hy with rfl|rfl
 ·obtain ⟨bs,rb⟩:=D3 I 30 ry (by simpa [ET] using ky) rv
  exact SeqAt.notIn_tuple_reads rb ra b1 a1 hu (by rw [WK];exact ⟨.bl _,H,I,rfl,q⟩)
 ·obtain ⟨bs,rb⟩:=D3 I 30 ry (by simpa [ET] using ky) rv
  exact SeqAt.notIn_list_reads rb ra b1 a1 hu (by rw [WK];exact ⟨.bl _,H,I,rfl,q⟩)
theorem dP {neg:Bool}:B8 X.K (dD X.K neg) (l5 neg):=λT M H u v x y Q AQ va ru rv h k=>by
 obtain ⟨ys,hy,h1,q⟩:=IW h
 exact ⟨T,M,x,y,ys,ru,rv,hy,h1.1,h1.2,k _ _ T H (.refl va.tp) (.bl _) q⟩
theorem ia {k:Nat} (hr:Room k X.A):EC X (compareOp .NotIn) (dD X.K true)/\B8 X.K (dD X.K true) (l5 true):=⟨cm hr,dP⟩
end
end PL
end
section
namespace PL
open PySem L2 PyProof.Rows
class Wp (P:Prop) (P':outParam Prop):Prop where
 go:P'->P
class N9 (P:Prop) (C P':outParam Prop):Prop where
 go:C->P'->P
class jg (P:Prop) (P':outParam Prop):Prop where
 go:P'->P
class mz (P:Prop) (A B:outParam Prop):Prop where
 go:A->B->P
class dz (τ:BC) (i:Nat) (x:outParam AV):Prop where
 e:Ri τ i=some x
instance vO {v:AV} {r:BC}:dz (some v::r) 0 v:=⟨rfl⟩
instance vP {y:Option AV} {r:BC} {i:Nat} {v:AV} [h:dz r i v] :dz (y::r) (i+1) v:=⟨h.e⟩
class Yd (τ:BC) (i:Nat) (v:AV) (τ':outParam BC):Prop where
 e:τ.set i (some v)=τ'
instance uW {y:Option AV} {r:BC} {v:AV}:Yd (y::r) 0 v (some v::r):=⟨rfl⟩
instance uX {y:Option AV} {r r':BC} {i:Nat} {v:AV} [h:Yd r i v r'] :Yd (y::r) (i+1) v (y::r'):=⟨by rw [List.set_cons_succ,h.e]⟩
class X8 (τ:BC) (τ':outParam BC):Prop where
 e:frz τ=τ'
instance tK:X8 [] [] :=⟨rfl⟩
instance (priority:=low) tO {z:Option AV} {r r':BC} [h:X8 r r'] :X8 (z::r) (bZ z::r'):=⟨by rw [<-h.e];rfl⟩
instance tL {r r':BC} [h:X8 r r'] :X8 (none::r) (none::r'):=⟨by rw [<-h.e];rfl⟩
instance tN {x:PV} {r r':BC} [h:X8 r r'] :X8 (some (.val x)::r) (some (.val x)::r'):=⟨by rw [<-h.e];rfl⟩
instance tM {x:List PV} {r r':BC} [h:X8 r r'] :X8 (some (.own x)::r) (some (.val (.lst x))::r'):=⟨by rw [<-h.e];rfl⟩
class jR (ix:List Nat) (τ:BC) (τ':outParam BC):Prop where
 e:(ix.map λi=>W1 (Ri τ i))=τ'
instance vB {τ:BC}:jR [] τ [] :=⟨rfl⟩
instance vC {τ r:BC} {i:Nat} {ix:List Nat} {x:PV} [h:dz τ i (.val x)] [h2:jR ix τ r] :jR (i::ix) τ (some (.val x)::r):=⟨by rw [List.map_cons,h.e,h2.e];rfl⟩
class jc (n:Nat) (τ:outParam BC):Prop where
 e:List.replicate n none=τ
instance vQ:jc 0 [] :=⟨rfl⟩
instance vR {n:Nat} {τ:BC} [h:jc n τ] :jc (n+1) (none::τ):=⟨by rw [List.replicate_succ,h.e]⟩
class YK (xs ys:BC) (zs:outParam BC):Prop where
 e:xs++ys=zs
instance vD {ys:BC}:YK [] ys ys:=⟨rfl⟩
instance vE {x:Option AV} {xs ys zs:BC} [h:YK xs ys zs] :YK (x::xs) ys (x::zs):=⟨by rw [List.cons_append,h.e]⟩
class bA (xs ys:List PV) (zs:outParam (List PV)):Prop where
 e:xs++ys=zs
instance tI {ys:List PV}:bA [] ys ys:=⟨rfl⟩
instance tJ {x:PV} {xs ys zs:List PV} [h:bA xs ys zs] :bA (x::xs) ys (x::zs):=⟨by rw [List.cons_append,h.e]⟩
class tG (xs:List PV) (n:outParam Nat):Prop where
 e:xs.length=n
class Ix (x:PV) (i:Int) (y:outParam PV):Prop where
 e:qQ x i=some y
class u7 (xs:List PV) (n:Nat) (y:outParam PV):Prop where
 e:xs[n]? =some y
section
variable {a b:AS} {ta tb:AE} {tt tu:AT} {g:AG} {gs:T8} {nx bk ct:BC->Prop} {rt:PV->Prop} {τ τ' τ2:BC} {Q:PV->Prop} {QB:Bool->Prop} {QL:List PV->Prop} {QT:BC->Prop} {r:AA} {ai:AI} {F:AF} {n i j:Nat} {x y z:PV} {xs ys zs:List PV}
instance mH {p0:PV} {q:List PV}:Ix (.tup (p0::q)) 0 p0:=⟨Cg (j:=0) rfl⟩
instance mD {p0:PV} {q:List PV}:Ix (.lst (p0::q)) 0 p0:=⟨Cg (j:=0) rfl⟩
instance mI {p0 p1:PV} {q:List PV}:Ix (.tup (p0::p1::q)) 1 p1:=⟨Cg (j:=1) rfl⟩
instance mE {p0 p1:PV} {q:List PV}:Ix (.lst (p0::p1::q)) 1 p1:=⟨Cg (j:=1) rfl⟩
instance mJ {p0 p1 p2:PV} {q:List PV}:Ix (.tup (p0::p1::p2::q)) 2 p2:=⟨Cg (j:=2) rfl⟩
instance mF {p0 p1 p2:PV} {q:List PV}:Ix (.lst (p0::p1::p2::q)) 2 p2:=⟨Cg (j:=2) rfl⟩
instance qV {q:Rat}:Ix (fr q) 0 (.int q.num):=⟨rfl⟩
instance qW {q:Rat}:Ix (fr q) 1 (.int q.den):=⟨rfl⟩
instance qR {c:C4}:Ix (cor c) 0 (fr c.1):=⟨rfl⟩
instance qS {c:C4}:Ix (cor c) 1 (fr c.2.1):=⟨rfl⟩
instance qT {c:C4}:Ix (cor c) 2 (fr c.2.2.1):=⟨rfl⟩
instance qU {c:C4}:Ix (cor c) 3 (fr c.2.2.2):=⟨rfl⟩
theorem m7 {f:C4->PV} {c:C4} {cs:List C4}:Ih ((c::cs).map f) 0=some (f c):=Cg (j:=0) rfl
instance qX {c:C4} {cs:List C4}:Ix (Al (c::cs)) 0 (cor c):=⟨m7⟩
instance rW:Wp (Ab a b ⟨nx,rt,bk,ct⟩ τ) (a ⟨b ⟨nx,rt,bk,ct⟩,rt,bk,ct⟩ τ):=⟨id⟩
instance qh:Wp (Ay ta g ⟨nx,rt,bk,ct⟩ τ) (ta τ λx=>g x τ nx):=⟨id⟩
instance rT [h:X8 τ τ'] :Wp (Ao ta ⟨nx,rt,bk,ct⟩ τ) (ta τ' rt):=⟨λk=>by unfold Ao;rw [h.e];exact k⟩
instance w_next:Wp (BB ⟨nx,rt,bk,ct⟩ τ) (nx τ):=⟨id⟩
instance qt:Wp (Bj tt a b ⟨nx,rt,bk,ct⟩ τ) (tt τ λk=>if k=true then a ⟨nx,rt,bk,ct⟩ τ else b ⟨nx,rt,bk,ct⟩ τ):=⟨id⟩
def Tg (τ:BC) (i:Nat) (v:AV) (QT:BC->Prop):Prop:=QT (τ.set i (some v))
instance pP {v:AV} [h:Yd τ i v τ'] :Wp (Tg τ i v QT) (QT τ'):=⟨λk=>by unfold Tg;rw [h.e];exact k⟩
instance rJ:Wp (Kb r i ⟨nx,rt,bk,ct⟩ τ) (r τ λxs=>Tg τ i (.own xs) nx):=⟨id⟩
instance uj [h:Yd τ i (.val x) τ'] :Wp (Aw i x τ QT) (QT τ'):=⟨λk=>by unfold Aw;rw [h.e];exact k⟩
instance qi {f:Ig} [h:dz τ i (.val x)] :Wp (UJ i f ta ⟨nx,rt,bk,ct⟩ τ) (ta τ λy=>f x y λz=>Tg τ i (.val z) nx):=⟨λk=>lG h.e k⟩
instance rR [h:dz τ i (.own xs)] :Wp (M5 i τ QL) (QL xs):=⟨λk=>lP h.e k⟩
instance pD {f:fX}:Wp (EA i f r ⟨nx,rt,bk,ct⟩ τ) (M5 i τ λxs=>r τ λys=>f xs ys λzs=>Tg τ i (.own zs) nx):=⟨id⟩
instance qg:Wp (JW xs [y] QL) (xs.length<sizeLine/\QL (xs ++ [y])):=⟨id⟩
instance oS {k:Int}:Wp (ZS xs [.int k,y] QL) ((0<=k/\k<=(xs.length:Int)/\xs.length<sizeLine)/\QL (xs.take k.toNat++y::xs.drop k.toNat)):=⟨id⟩
instance qm:Wp (FD ai g b ⟨nx,rt,bk,ct⟩ τ) (ai τ λxs=>Cc g b ⟨nx,rt,bk,ct⟩ xs τ):=⟨id⟩
instance oZ:Wp (Cc g b ⟨nx,rt,bk,ct⟩ [] τ) (nx τ):=⟨id⟩
instance og {q:List PV}:jg (Cc g b ⟨nx,rt,bk,ct⟩ (x::q) τ) (g x τ λτ1=>b ⟨Cc g b ⟨nx,rt,bk,ct⟩ q,rt,nx,Cc g b ⟨nx,rt,bk,ct⟩ q⟩ τ1):=⟨id⟩
instance oh:Wp (CS [] τ QT) (QT τ):=⟨id⟩
instance mN {t:List PV}:Wp (Ak g gs (x::t) τ QT) (g x τ λτ'=>gs t τ' QT):=⟨id⟩
instance uk:Wp (L9 n gs x τ QT) (TJ x λxs=>xs.length=n/\gs xs τ QT):=⟨id⟩
instance vU [h:dz τ i (.val x)] :Wp (aV i τ Q) (Q x):=⟨λk=>uT h.e k⟩
instance vS:Wp (aC x τ Q) (Q x):=⟨id⟩
instance uz {f:Ig}:Wp (AX f ta tb τ Q) (ta τ λx=>tb τ λy=>f x y Q):=⟨id⟩
instance u4 {f:PV->(PV->Prop)->Prop}:Wp (M6 f ta τ Q) (ta τ λx=>f x Q):=⟨id⟩
instance w_and:Wp (Yh ta tb τ Q) (ta τ λx=>gy x λc=>if c=true then tb τ Q else Q (.bl false)):=⟨id⟩
instance rq:Wp (Ar ta τ QB) (ta τ λx=>gy x QB):=⟨id⟩
def qY (x:PV) (QB:Bool->Prop):Prop:=match dj x with | some b=>QB b|none=>False
instance rp:Wp (fi ta τ QB) (ta τ λx=>qY x QB):=⟨id⟩
instance pS {c:Bool}:Wp (qY (.bl c) QB) (QB c):=⟨id⟩
instance pI:Wp (DG tt τ QB) (tt τ λc=>QB (!c)):=⟨id⟩
instance oR:Wp (Gq tt tu τ QB) (tt τ λc=>if c=true then tu τ QB else QB false):=⟨id⟩
instance rQ:Wp (Gr tt tu τ QB) (tt τ λc=>if c=true then QB true else tu τ QB):=⟨id⟩
instance ur:Wp (eB tt ta tb τ Q) (tt τ λc=>if c=true then ta τ Q else tb τ Q):=⟨id⟩
instance sA:Wp (Fe τ QB) (QB true):=⟨id⟩
instance w_bor [h:X8 τ τ'] :Wp (Wz ta τ Q) (ta τ' λx=>ZW x=true/\Q x):=⟨λk=>by unfold Wz;rw [h.e];exact k⟩
instance oT [h:X8 τ τ'] :Wp (SH tt τ QB) (tt τ' QB):=⟨λk=>by unfold SH;rw [h.e];exact k⟩
instance rK:Wp (AL τ QL) (QL []):=⟨id⟩
instance oY:Wp (AB ta r τ QL) (ta τ λx=>r τ λxs=>QL (x::xs)):=⟨id⟩
def ZT (xs:List PV) (Q:PV->Prop):Prop:=xs.length<=sizeLine/\Q (.tup xs)
instance r9:Wp (BF r τ Q) (r τ λxs=>ZT xs Q):=⟨id⟩
instance qw:Wp (D2 r τ QL) (r τ λxs=>xs.length<=sizeLine/\QL xs):=⟨id⟩
instance ui:Wp (GW r τ Q) (r τ λxs=>Q (.lst xs)):=⟨id⟩
instance w_call:Wp (AN n F r τ Q) (r τ λxs=>xs.length=n/\F xs Q):=⟨id⟩
instance ug:Wp (Fd F r τ Q) (r τ λxs=>F xs Q):=⟨id⟩
instance pB:Wp (Vi r τ QL) (r τ λxs=>V3 xs QL):=⟨id⟩
instance oX {own:Nat} {ix:List Nat} {te:AE} {τ3 τ4:BC} [h1:jc own τ3] [h2:jR ix τ τ4] [h3:YK τ3 τ4 τ'] :Wp (Cw ai own ix g tt te τ QL) (ai τ λxs=>xs.length<sizeLine/\Cm g tt te τ' QL xs []):=⟨λk=>by unfold Cw JG;rw [h1.e,h2.e,h3.e];exact k⟩
instance oV {te:AE} {acc:List PV}:Wp (Cm g tt te τ QL [] acc) (QL acc):=⟨id⟩
instance oW {te:AE} {acc q:List PV}:Wp (Cm g tt te τ QL (x::q) acc) (g x τ λτ1=>tt τ1 λok=>if ok=true then te τ1 λy=>Cm g tt te τ QL q (acc ++ [y]) else Cm g tt te τ QL q acc):=⟨id⟩
instance uo:Wp (M7 ta τ QL) (ta τ λx=>TJ x QL):=⟨id⟩
instance qo:Wp (SJ (AB ta AL) τ QL) (ta τ λx=>ao x λj=>(-(2^62)<=j/\j<2^62)/\QL (rng 0 j.toNat)):=⟨λh=>by have e:(λx=>ao x λj=>(-(2^62)<=j/\j<2^62)/\QL (rng 0 j.toNat))=(λx=>match [x] with | [.int j] =>(-(2^62)<=j/\j<2^62)/\QL (rng 0 j.toNat)|_=>False):=(funext λx=>by cases x <;> rfl);rw [e] at h;exact h⟩
instance qq:Wp (bO (AB ta (AB tb AL)) τ QL) (ta τ λx=>tb τ λy=>Xl x y λi j=>(-(2^62)<=i/\i<2^62/\ -(2^62)<=j/\j<2^62)/\QL (rng i (j-i).toNat)):=⟨λh=>by have e:(λx=>tb τ λy=>Xl x y λi j=>(-(2^62)<=i/\i<2^62/\ -(2^62)<=j/\j<2^62)/\QL (rng i (j-i).toNat))=(λx=>tb τ λy=>match [x,y] with | [.int i, .int j] =>(-(2^62)<=i/\i<2^62/\ -(2^62)<=j/\j<2^62)/\QL (rng i (j-i).toNat)|_=>False):=(funext λx=>congrArg (tb τ) (funext λy=>by cases x <;> cases y <;> rfl));rw [e] at h;exact h⟩
instance uq:Wp (eF (AB ta (AB tb AL)) τ QL) (ta τ λx=>tb τ λy=>TJ x λxs=>TJ y λys=>QL (En xs ys)):=⟨id⟩
instance rS:Wp (OS i j (AB ta (AB tb AL)) ⟨nx,rt,bk,ct⟩ τ) (ta τ λx=>tb τ λy=>Tg τ i (.val x) λτ1=>Tg τ1 j (.val y) nx):=⟨id⟩
instance rP {R:Int->Prop} {k:Int}:Wp (ao (.int k) R) (R k):=⟨id⟩
instance pJ {R:Int->Int->Prop} {k l:Int}:Wp (Xl (.int k) (.int l) R) (R k l):=⟨id⟩
instance rM {R:Bool->Prop} {c:Bool}:Wp (gy (.bl c) R) (R c):=⟨id⟩
instance pO:Wp (TJ (.tup xs) QL) (QL xs):=⟨id⟩
instance pM:Wp (TJ (.lst xs) QL) (QL xs):=⟨id⟩
instance pL {q:Rat}:Wp (TJ (fr q) QL) (QL [.int q.num, .int q.den]):=⟨id⟩
instance pN {cs:List C4}:Wp (TJ (Al cs) QL) (QL (cs.map cor)):=⟨id⟩
instance vT {f:Int->Int->PV} {k l:Int}:Wp (fI f (.int k) (.int l) Q) (Q (f k l)):=⟨id⟩
instance uf {C:Int->Int->Prop} {f:Int->Int->PV} {k l:Int}:Wp (jn C f (.int k) (.int l) Q) (C k l/\Q (f k l)):=⟨id⟩
instance jG:Wp (UZ .non .non Q) (Q (.bl true)):=⟨id⟩
instance jM:Wp (LM .non .non Q) (Q (.bl false)):=⟨id⟩
instance jH:Wp (UZ (.tup xs) .non Q) (Q (.bl false)):=⟨id⟩
instance jN:Wp (LM (.tup xs) .non Q) (Q (.bl true)):=⟨id⟩
instance lj {k:Rat}:Wp (LM (fr k) .non Q) (Q (.bl true)):=⟨id⟩
instance ut {k:Int} [h:Ix x k z] :Wp (Ai x (.int k) Q) (Q z):=⟨λq=>oE h.e q⟩
instance rH {k:Int}:Wp (FF (.int k) Q) (Q (.int (-k))):=⟨id⟩
instance w_not {c:Bool}:Wp (fz (.bl c) Q) (Q (.bl (!c))):=⟨id⟩
instance oP {k l:Int}:Wp (BY (.int k) (.int l) Q) (Q (.int (k+l))):=⟨id⟩
instance oQ:Wp (BY (.lst xs) (.lst ys) Q) (xs.length+ys.length<=sizeLine/\Q (.lst (xs++ys))):=⟨id⟩
instance ql {k l:Int}:Wp (NF (.int k) (.int l) Q) (Q (.bl (decide (k=l)))):=⟨id⟩
instance rG {k l:Int}:Wp (XA (.int k) (.int l) Q) (Q (.bl (!decide (k=l)))):=⟨id⟩
instance rB {k l:Bool}:Wp (XA (.bl k) (.bl l) Q) (Q (.bl (!decide (k=l)))):=⟨id⟩
instance qk {k l:Rat}:Wp (NF (fr k) (fr l) Q) (Q (.bl (decide (k=l)))):=⟨lH⟩
instance rE {k l:Rat}:Wp (XA (fr k) (fr l) Q) (Q (.bl (!decide (k=l)))):=⟨lO⟩
instance pA:Wp (Fg [.tup xs] Q) (Q (.int xs.length)):=⟨id⟩
instance o8 {ns:List Int}:Wp (Fg [.scr ns] Q) (Q (.int ns.length)):=⟨id⟩
instance o7 {cs:List C4}:Wp (Fg [Al cs] Q) (Q (.int cs.length)):=⟨iT⟩
instance (priority:=high) jI {α:Type} {f:α->PV} {cs:List α}:Wp (Fg [.lst (cs.map f)] Q) (Q (.int cs.length)):=⟨λh=>by show Q (.int (cs.map f).length);rw [List.length_map];exact h⟩
instance qf {k:Int}:Wp (QQ [.int k] Q) (Q (.int k.natAbs)):=⟨id⟩
instance um {f:Int->Int->Int} {k l:Int}:Wp (jp f [.int k, .int l] Q) (Q (.int (f k l))):=⟨id⟩
instance om {c:Bool}:Wp (Uc [.bl c] Q) (Q (.int (if c then 1 else 0))):=⟨id⟩
instance pT:Wp (D7 [.lst xs] Q) (Q (.tup xs)):=⟨id⟩
instance pC:Wp (V3 [.lst xs] QL) (QL xs):=⟨id⟩
instance rX {lo hi:Option Int}:Wp (Vz (.lst xs) lo hi Q) (Q (.lst (Hd xs lo hi))):=⟨EN⟩
instance u3 {l h:AO}:Wp (Vk ta l h τ Q) (ta τ λx=>l τ λlo=>h τ λhi=>Vz x lo hi Q):=⟨id⟩
instance uw {R:Option Int->Prop}:Wp (Vm τ R) (R none):=⟨id⟩
instance ux {R:Option Int->Prop}:Wp (Vn ta τ R) (ta τ λx=>ao x λi=>R (some i)):=⟨id⟩
instance qv {A B:Prop}:Wp (if true=true then A else B) (A):=⟨λh=>by rw [if_pos rfl];exact h⟩
instance qu {A B:Prop}:Wp (if false=true then A else B) (B):=⟨λh=>by rw [if_neg Bool.false_ne_true];exact h⟩
instance oj {A B:Prop}:Wp (if (!true)=true then A else B) (B):=⟨λh=>h⟩
instance oi {A B:Prop}:Wp (if (!false)=true then A else B) (A):=⟨λh=>h⟩
instance vV {p A B:Prop} [Decidable p] :mz (if decide p=true then A else B) (p->A) (¬p->B):=⟨lK⟩
instance uh {p A B:Prop} [Decidable p] :mz (if (!decide p)=true then A else B) (¬p->A) (p->B):=⟨lM⟩
instance rc {A:Prop}:Wp (([] :List PV).length<=sizeLine/\A) (A):=⟨λh=>⟨lz,h⟩⟩
instance rY {A:Prop}:Wp (([] :List PV).length<sizeLine/\A) (A):=⟨λh=>⟨lz,h⟩⟩
instance oo {p0:PV} {A:Prop}:Wp ([p0].length=1/\A) (A):=⟨λh=>⟨rfl,h⟩⟩
instance rf {p0:PV} {A:Prop}:Wp ([p0].length<=sizeLine/\A) (A):=⟨λh=>⟨lz,h⟩⟩
instance ou {p0 p1:PV} {A:Prop}:Wp ([p0,p1].length=2/\A) (A):=⟨λh=>⟨rfl,h⟩⟩
instance rh {p0 p1:PV} {A:Prop}:Wp ([p0,p1].length<=sizeLine/\A) (A):=⟨λh=>⟨lz,h⟩⟩
instance ox {p0 p1 p2:PV} {A:Prop}:Wp ([p0,p1,p2].length=3/\A) (A):=⟨λh=>⟨rfl,h⟩⟩
instance rj {p0 p1 p2:PV} {A:Prop}:Wp ([p0,p1,p2].length<=sizeLine/\A) (A):=⟨λh=>⟨lz,h⟩⟩
instance rZ {p0 p1 p2:PV} {A:Prop}:Wp ([p0,p1,p2].length<sizeLine/\A) (A):=⟨λh=>⟨lz,h⟩⟩
instance oz {p0 p1 p2 p3:PV} {A:Prop}:Wp ([p0,p1,p2,p3].length=4/\A) (A):=⟨λh=>⟨rfl,h⟩⟩
instance rk {p0 p1 p2 p3:PV} {A:Prop}:Wp ([p0,p1,p2,p3].length<=sizeLine/\A) (A):=⟨λh=>⟨lz,h⟩⟩
instance o6 {p0 p1 p2 p3 p4:PV} {A:Prop}:Wp ([p0,p1,p2,p3,p4].length=5/\A) (A):=⟨λh=>⟨rfl,h⟩⟩
instance rm {p0 p1 p2 p3 p4:PV} {A:Prop}:Wp ([p0,p1,p2,p3,p4].length<=sizeLine/\A) (A):=⟨λh=>⟨lz,h⟩⟩
instance qy {p0:PV}:Wp (ZT [p0] Q) (Q (.tup [p0])):=⟨λh=>⟨lz,h⟩⟩
instance qz {p0 p1:PV}:Wp (ZT [p0,p1] Q) (Q (.tup [p0,p1])):=⟨λh=>⟨lz,h⟩⟩
instance q0 {p0 p1 p2:PV}:Wp (ZT [p0,p1,p2] Q) (Q (.tup [p0,p1,p2])):=⟨λh=>⟨lz,h⟩⟩
instance q5 {p0 p1 p2 p3:PV}:Wp (ZT [p0,p1,p2,p3] Q) (Q (.tup [p0,p1,p2,p3])):=⟨λh=>⟨lz,h⟩⟩
instance (priority:=high+10) pE:Wp (ZT [.int 0, .int 1] Q) (Q (fr 0)):=⟨λh=>⟨lz,h⟩⟩
instance (priority:=high+10) pF:Wp (ZT [.int 1, .int 1] Q) (Q (fr 1)):=⟨λh=>⟨lz,h⟩⟩
instance (priority:=high) pG {k:Int}:Wp (ZT [.int k, .int 1] Q) (Q (fr (k:Rat))):=⟨λh=>⟨lz,Re h⟩⟩
instance (priority:=high) rn {k:Rat} {p q r:Rat}:Wp (BY (.tup [fr k]) (.tup [fr p,fr q,fr r]) Q) (Q (cor (k,p,q,r))):=⟨λh=>⟨lz,h⟩⟩
theorem gA:PV.tup [.int 1, .int 2] =fr (1/2):=by unfold fr;rw [show ((1:Rat)/2).num=1 by decide +kernel,show ((1:Rat)/2).den=2 by decide +kernel];rfl
instance (priority:=high) jJ:Wp (ZT [.int 1, .int 2] Q) (Q (fr (1/2))):=⟨λh=>⟨lz,by rw [gA];exact h⟩⟩
theorem gB:PV.tup [.int 1, .int 3] =fr (1/3):=by unfold fr;rw [show ((1:Rat)/3).num=1 by decide +kernel,show ((1:Rat)/3).den=3 by decide +kernel];rfl
instance (priority:=high) jK:Wp (ZT [.int 1, .int 3] Q) (Q (fr (1/3))):=⟨λh=>⟨lz,by rw [gB];exact h⟩⟩
theorem gC:PV.tup [.int 3, .int 2] =fr (3/2):=by unfold fr;rw [show ((3:Rat)/2).num=3 by decide +kernel,show ((3:Rat)/2).den=2 by decide +kernel];rfl
instance (priority:=high) jL:Wp (ZT [.int 3, .int 2] Q) (Q (fr (3/2))):=⟨λh=>⟨lz,by rw [gC];exact h⟩⟩
instance q8 {q:Rat} {A:Prop}:Wp (ZW (fr q)=true/\A) (A):=⟨λh=>⟨rfl,h⟩⟩
instance q9 {k:Int} {A:Prop}:Wp (ZW (.int k)=true/\A) (A):=⟨λh=>⟨rfl,h⟩⟩
class Zp (xs ys:List PV) (zs:outParam (List PV)):Prop where
 e:En xs ys=zs
instance u5:Zp [] [] [] :=⟨rfl⟩
instance u6 [h:Zp xs ys zs] :Zp (x::xs) (y::ys) (.tup [x,y] :: zs):=⟨by rw [<-h.e];rfl⟩
instance pU [h:Zp xs ys zs] :Wp (Cc g b ⟨nx,rt,bk,ct⟩ (En xs ys) τ) (Cc g b ⟨nx,rt,bk,ct⟩ zs τ):=⟨λk=>by rw [h.e];exact k⟩
instance (priority:=high) oU {te:AE} {acc q zs:List PV} [h:bA acc [y] zs] :Wp (Cm g tt te τ QL q (acc ++ [y])) (Cm g tt te τ QL q zs):=⟨λk=>by rw [h.e];exact k⟩
instance mU {m:Int}:N9 (BX [.tape, .int m] Q) (0<m/\m<4611686018427387904) (∀r,0<=r->r<m->Q (.int r)):=⟨λc h=>Ch c.1 c.2 h⟩
instance mW {ns:List Int} {k:Int}:N9 (Mx [.scr ns, .int k] Q) (0<=k/\k<=1000) (Q .tape):=⟨λc h=>⟨c,h⟩⟩
instance jP {a b:Rat}:N9 (IJ [fr a,fr b] Q) (Bd 4000 a/\Bd 4000 b) (Q (fr (a+b))):=⟨λc h=>O2 c.1 c.2 h⟩
instance iu {a b:Rat}:N9 (Dr [fr a,fr b] Q) (Bd 4000 a/\Bd 4000 b) (Q (fr (a-b))):=⟨λc h=>Df c.1 c.2 h⟩
instance iw {a b:Rat}:N9 (Ft [fr a,fr b] Q) (Bd 4000 a/\Bd 4000 b) (Q (fr (a*b))):=⟨λc h=>My c.1 c.2 h⟩
instance av {a b:Rat}:N9 (BS [fr a,fr b] Q) (Bd 4000 a/\Bd 4000 b) (Q (fr (a+b))):=⟨λc h=>Ct c.1 c.2 h⟩
instance au {a b:Rat}:N9 (A9 [fr a,fr b] Q) (Bd 4000 a/\Bd 4000 b) (Q (fr (a-b))):=⟨λc h=>CL c.1 c.2 h⟩
instance Wn {a b:Rat}:N9 (BL [fr a,fr b] Q) (Bd 4000 a/\Bd 4000 b) (Q (fr (a*b))):=⟨λc h=>CP c.1 c.2 h⟩
instance Wm {a b:Rat}:N9 (CY [fr a,fr b] Q) (Bd 4000 a/\Bd 4000 b) (Q (fr (mx a b))):=⟨λc h=>Iy c.1 c.2 h⟩
instance fK {a b:Rat}:N9 (EX [fr a,fr b] Q) (Bd 4000 a/\Bd 4000 b) (Q (fr (mn a b))):=⟨λc h=>SC c.1 c.2 h⟩
instance fJ {a b:Rat}:N9 (Ag [fr a,fr b] Q) (Bd 4000 a/\Bd 4000 b) (Q (.bl (decide (a<b)))):=⟨λc h=>Bi c.1 c.2 h⟩
instance jO {a b:Rat}:N9 (KS [fr a,fr b] Q) (b≠0/\Bd 4000 a/\Bd 4000 b) (Q (fr (a/b))):=⟨λc h=>KU c.1 c.2.1 c.2.2 h⟩
instance YG {a b:Rat}:N9 (Be [fr a,fr b] Q) (b≠0/\Bd 4000 a/\Bd 4000 b) (Q (fr (a/b))):=⟨λc h=>GN c.1 c.2.1 c.2.2 h⟩
instance af:N9 (B7 [.tape] Q) (True) (∀a,Bd 8 a->0<a->Q (fr a)):=⟨λ_ h=>Mw h⟩
instance YF:N9 (A2 [.tape] Q) (True) (∀a,Bd 8 a->Q (fr a)):=⟨λ_ h=>A6 λa m=>h a (m.bd (by decide) (by decide))⟩
instance u0 {lo:Int} {A:Prop}:Wp ((rng lo n).length<sizeLine/\A) (n<16777216/\A):=⟨λk=>⟨by rw [VE];exact k.1,k.2⟩⟩
instance uv {α:Type} {f:α->PV} {cs:List α} {A:Prop}:Wp ((cs.map f).length<sizeLine/\A) (cs.length<16777216/\A):=⟨λk=>⟨by rw [List.length_map];exact k.1,k.2⟩⟩
instance (priority:=high) lh {α:Type} {k:α} [Decidable (k=k)] {A B:Prop}:Wp (if (!decide (k=k))=true then A else B) B:=⟨λh=>by rw [if_neg (by simp)];exact h⟩
instance mV {cs:List C4} {k:Int}:N9 (Vz (Al cs) none (some k) Q) (0<=k/\k<=cs.length) (Q (Al (cs.take k.toNat))):=⟨λc h=>lS (k:=k.toNat) (by omega) (by omega) h⟩
instance jQ {cs:List C4} {k:Int}:N9 (Vz (Al cs) (some k) none Q) (0<=k/\k<=cs.length) (Q (Al (cs.drop k.toNat))):=⟨λc h=>Wc (k:=k.toNat) (by omega) (by omega) h⟩
instance mT {cs ds:List C4}:N9 (BY (Al cs) (Al ds) Q) (cs.length+ds.length<=10000) (Q (Al (cs++ds))):=⟨λc h=>SM c h⟩
instance mS {cs:List C4} {c:C4}:N9 (BY (Al cs) (.tup [cor c]) Q) (cs.length<=9000) (Q (Al (cs ++ [c]))):=⟨λk h=>SM (ds:= [c]) (by simp;omega) h⟩
theorem eY {α:Type} {f:α->PV} {cs:List α} {k:Int} {R:PV->Prop} (c:0<=k/\k<cs.length) (h:∀c,cs[k.toNat]? =some c->c∈cs->R (f c)):ap (Ih (cs.map f) k) R:=by
 have hk:k.toNat<cs.length:=by omega
 have e:Ih (cs.map f) ((k.toNat:Nat):Int)=some (f cs[k.toNat]):=Cg (by rw [List.getElem?_map,List.getElem?_eq_getElem hk] <;> rfl)
 rw [show k=((k.toNat:Nat):Int) by omega,e]
 exact h _ (List.getElem?_eq_getElem hk) (List.getElem_mem hk)
instance pW {cs:List C4} {k:Int}:N9 (Ai (Al cs) (.int k) Q) (0<=k/\k<cs.length) (∀c,cs[k.toNat]? =some c->c∈cs->Q (cor c)):=⟨λc h=>eY c h⟩
instance pV {α:Type} {f:α->PV} {cs:List α} {k:Int}:N9 (Ai (.lst (cs.map f)) (.int k) Q) (0<=k/\k<cs.length) (∀c,cs[k.toNat]? =some c->c∈cs->Q (f c)):=⟨λc h=>eY c h⟩
instance pR {c:C4}:Wp (Vz (cor c) (some 1) none Q) (Q (.tup [fr c.2.1,fr c.2.2.1,fr c.2.2.2])):=⟨λh=>HY h⟩
class Lk (tb:List (Str×PV)) (s:Str) (v:outParam PV):Prop where
 e:tb.lookup s=some v
end
end PL
end
section
namespace L2
open PySem PySem.Spec PyProof.Rows
abbrev YX (h:Heap) (T:Addr) (a b c:Value):Prop:=h.get? T=some {cls:= .type "tuple",data:= .seq #[a,b,c] }
structure vA (z TI TO i j k l m n:Addr):Prop where
 TIz:TI≠z
 TOz:TO≠z
 iz:i≠z
 jz:j≠z
 kz:k≠z
 TITO:TI≠TO
 TIi:TI≠i
 TIj:TI≠j
 TIk:TI≠k
 TOi:TO≠i
 TOj:TO≠j
 TOk:TO≠k
 ij:i≠j
 ik:i≠k
 jk:j≠k
 lo:∀x∈ [l,m,n],x≠z/\x≠TI/\x≠TO/\x≠i/\x≠j/\x≠k
structure Z3 (b c d:Bool) (z TI TO i j k l m n:Addr) (t:Nat) (f:Value) (h:Heap):Prop where
 zip:IsZip h z TI TO f
 its:YX h TI (.ref i) (.ref j) (.ref k)
 own:∃x y w,YX h TO x y w
 one:OQ b h i l t
 two:OQ c h j m t
 tre:OQ d h k n t
theorem Z3.mv {b c d:Bool} {z TI TO i j k l m n:Addr} {t:Nat} {f:Value} {h h':Heap} (Z:Z3 b c d z TI TO i j k l m n t f h) (e:∀p∈ [z,TI,TO,i,j,k],∀o,h.get? p=some o->h'.get? p=some o):Z3 b c d z TI TO i j k l m n t f h':=by
 obtain ⟨a1,a2,⟨x,y,w,a3⟩,a4,a5,a6⟩:=Z
 exact ⟨e z (by simp) _ a1,e TI (by simp) _ a2,⟨x,y,w,e TO (by simp) _ a3⟩,a4.mv (e i (by simp)),a5.mv (e j (by simp)),a6.mv (e k (by simp))⟩
section
variable {prog:Program} {w:World} {A:Around} {E:Value->Shared->Prop} {s:Shared}
variable {b c d:Bool} {z TI TO i j k l m n:Addr} {t:Nat} {xs ys ws:Array Value}
end
abbrev y1 (b:Bool) (h:Heap) (l:Addr):Heap:=h.push (XT b l)
abbrev y2 (b c:Bool) (h:Heap) (l m:Addr):Heap:=(y1 b h l).push (XT c m)
abbrev y3 (b c d:Bool) (h:Heap) (l m n:Addr):Heap:=(y2 b c h l m).push (XT d n)
abbrev y4 (b c d:Bool) (h:Heap) (l m n:Addr):Heap:=(y3 b c d h l m n).push {cls:= .type "tuple",data:= .seq #[.ref h.objs.size, .ref (y1 b h l).objs.size, .ref (y2 b c h l m).objs.size] }
abbrev y5 (b c d:Bool) (h:Heap) (l m n:Addr):Heap:=(y4 b c d h l m n).push {cls:= .type "tuple",data:= .seq #[.none, .none, .none] }
section
variable {prog:Program} {w:World} {A:Around} {E:Value->Shared->Prop} {s:Shared} {b c d:Bool} {l m n:Addr} {xs ys ws:Array Value}
end
section
variable {X:Cx}
end
end L2
end
section
namespace PL
open PySem PySem.Spec PyProof.Rows L2
section
variable {X:Cx}
end
end PL
end
section
namespace L2
open PySem PySem.Spec PyProof.Rows
theorem TL:Manifest.owners.lookup (String.ofList ['d','e','s','r','e','v','e','r'].reverse)=some Manifest.sig_reversed:=by kernel_rfl
theorem GE:Slot "reversed" "__next__" "reversed.__next__" :=
 .of (owner:="reversed") (n:="__next__") (by rw [typeLookup_type,builtinLookup_eq_fast];kernel_rfl) (by decide +kernel) (by decide +kernel) (by decide +kernel)
   (by first | exact .inl (by decide +kernel)|exact .inr (by decide +kernel)) (by rw [isSubtype_type];kernel_rfl)
theorem OX:entryFor table "reversed.__next__" =some Builtin.«reversed.__next__»:=entryFor_of_tree (by kernel_rfl)
theorem NA (a:Value):argsOk "reversed.__next__" ⟨[a], []⟩:=by
 unfold argsOk;rw [signature?_of (id:="reversed.__next__") (n:= ['_','_','t','x','e','n','_','_']) (o:= ['d','e','s','r','e','v','e','r']) (by kernel_rfl) TL];kernel_rfl
theorem Jx:Slot "reversed" "__iter__" "reversed.__iter__" :=
 .of (owner:="reversed") (n:="__iter__") (by rw [typeLookup_type,builtinLookup_eq_fast];kernel_rfl) (by decide +kernel) (by decide +kernel) (by decide +kernel)
   (by first | exact .inl (by decide +kernel)|exact .inr (by decide +kernel)) (by rw [isSubtype_type];kernel_rfl)
theorem M9 (a:Value):argsOk "reversed.__iter__" ⟨[a], []⟩:=by
 unfold argsOk;rw [signature?_of (id:="reversed.__iter__") (n:= ['_','_','r','e','t','i','_','_']) (o:= ['d','e','s','r','e','v','e','r']) (by kernel_rfl) TL];kernel_rfl
theorem OW:entryFor table "reversed.__iter__" =some Builtin.«dict_keyiterator.__iter__»:=
 entryFor_alias (id':="dict_keyiterator.__iter__") (by kernel_rfl) (by first | rfl|decide +kernel|(unfold String.splitOn;simp +decide [String.splitOnAux])) (by decide +kernel) (by kernel_rfl)
theorem X1:typeLookup (.type "tuple") "__reversed__" =pure none:=by rw [typeLookup_type,builtinLookup_eq_fast];kernel_rfl
theorem Rb:isSubtype (.type "tuple") (.type "dict")=pure false:=by rw [isSubtype_type];kernel_rfl
def aq (m:Addr) (i:Int):Obj:={cls:= .type "reversed",data:= .fields #[.ref m,rawInt i] }
def IL (h:Heap) (q m:Addr) (i:Int):Prop:=h.get? q=some (aq m i)
section
variable {prog:Program} {w:World} {A:Around} {E:Value->Shared->Prop} {s:Shared}
theorem IL.typeIs {q m:Addr} {i:Int} (x:IL s.heap q m i):s.TypeIs (.ref q) "reversed" :=⟨_,x,rfl⟩
end
theorem Z5 (l:Addr) (items:Array Value) (Ss:(items.size:Int)<2^63):Meets (Builtin.«reversed.__new__» ⟨[.type "reversed", .ref l], []⟩) (λ_ R s=>IsTup s.heap l items/\R (.ok (.ret (.ref s.heap.objs.size))) {s with heap:=s.heap.push (aq l ((items.size:Int)-1)),toks:=s.toks+1+1}):=
 .of_wp λprog w A R s h=>by
   obtain ⟨hl,h⟩:=h
   unfold Builtin.«reversed.__new__»
   refine wpAny_bind (wpAny_of_eq (newClass_reversed _) ?_)
   try dsimp only
   refine wpAny_bind (wpAny_of_eq (a:=()) (by first | rfl|kernel_rfl) ?_)
   refine wpAny_bind (wpAny_of_eq (a:=()) (by first | rfl|kernel_rfl) ?_)
   try dsimp only
   refine wpAny_bind (wpAny_specialOf hl.typeIs X1 ?_)
   try dsimp only
   refine wpAny_bind ?_
   wp_delta
   refine wpAny_bind (wpAny_isInstance (T:="tuple") (b:=false) hl.typeIs Rb ?_)
   rw [if_neg (by decide)]
   refine wpAny_bind (wpAny_specialOf hl.typeIs PyProof.Rows.slot_tuple_getitem.lookup ?_)
   dsimp only
   rw [if_pos (by decide +kernel)]
   refine wpAny_pure ?_
   rw [if_neg (by decide)]
   refine wpAny_bind (len_tuple hl Ss ?_)
   refine wpAny_bind (wpAny_of_eq (a:=some (items.size:Int)) rfl ?_)
   dsimp only
   unfold Builtin.SmallTypes.newRecord
   refine wpAny_bind (wpAny_newObj_type (wpAny_pure ?_))
   exact ⟨_,rfl,h⟩
theorem dI:Slot "reversed" "__init__" "object.__init__" :=
 .of (owner:="object") (n:="__init__") (by rw [typeLookup_type,builtinLookup_eq_fast];kernel_rfl) (by decide +kernel) (by decide +kernel) (by decide +kernel)
   (by first | exact .inl (by decide +kernel)|exact .inr (by decide +kernel)) (by rw [isSubtype_type];kernel_rfl)
theorem W4:TypeCalled "reversed" "reversed.__new__" "object.__init__" :=
 ⟨by decide +kernel,by decide +kernel,⟨_,_,F.mro_reversed⟩,F.made_reversed,by decide +kernel,by rw [isSubtype_type];kernel_rfl,dI⟩
section
variable {prog:Program} {w:World} {A:Around} {E:Value->Shared->Prop} {s:Shared}
theorem bS {l:Addr} {items:Array Value} {Q:Value->Shared->Prop} (hl:IsTup s.heap l items) (Ss:(items.size:Int)<2^63)
 (h:Q (.ref s.heap.objs.size) {s with heap:=s.heap.push (aq l ((items.size:Int)-1)),toks:=s.toks+1+1}):wpAny (model prog w) A (call (.type "reversed") [.ref l]) Q E s:=by
 refine callType_new W4 (by decide) (F.typeCall_reversed_1 _) (F.newCall_reversed_1 _) (λobj=>F.args_object_init_2 obj _) F.entry_reversed_new (Z5 l items Ss) ⟨hl, ?_⟩
 exact ⟨⟨_,Heap.get?_push_size _ rfl,rfl⟩,h⟩
theorem cK {q m:Addr} {i:Int} {Q:Value->Shared->Prop} (hq:IL s.heap q m i) (h:Q (.ref q) s):wpAny (model prog w) A (pyIter (.ref q)) Q E s:=by
 refine wpAny_pyIter_slot hq.typeIs Jx (wpAny_call_entry Jx hq.typeIs OW ?_ (M9 _))
 show wpAny _ _ (ret (.ref q)) _ _ s
 exact wpAny_pure ⟨_,rfl,"reversed",_,hq.typeIs,GE.lookup,h⟩
theorem cQ {q m:Addr} {k:Nat} {xs:Array Value} {x:Value} {Q:Value->Shared->Prop} (hq:IL s.heap q m ((xs.size:Int)-1-k)) (hl:IsTup s.heap m xs) (Ss:(xs.size:Int)<2^63) (hk:k<xs.size) (hx:xs[xs.size-1-k]? =some x)
 (hQ:∀h' tk,IL h' q m ((xs.size:Int)-1-(k+1:Nat))->Heap.SameBut q s.heap h'->Q x {s with heap:=h',toks:=tk}):wpAny (model prog w) A (Builtin.SmallTypes.nextOf (.ref q)) Q E s:=by
 unfold Builtin.SmallTypes.nextOf
 refine wpAny_bind (wpAny_callSpecial?_slot (name:=Str.ofString "__next__") hq.typeIs GE (wpAny_call_entry GE hq.typeIs OX ?_ (NA _)))
 unfold Builtin.«reversed.__next__»
 refine wpAny_bind (wpAny_of_eq (a:=(Value.ref q, [])) rfl ?_)
 try dsimp only
 refine wpAny_bind (wpAny_field hq rfl (x:= .ref m) rfl ?_)
 refine wpAny_bind (wpAny_field hq rfl (x:=rawInt ((xs.size:Int)-1-k)) rfl ?_)
 show wpAny _ _ (if ((xs.size:Int)-1-k)<0 then _ else _) _ _ s
 rw [if_neg (by omega)]
 refine wpAny_bind (wpAny_specialOf hl.typeIs PyProof.Rows.slot_tuple_getitem.lookup ?_)
 rw [if_neg (by decide)]
 refine wpAny_bind (wpAny_mkInt ?_)
 have kB:seqIndex? ((xs.size:Int)-1-k) xs.size=some (xs.size-1-k):=by
  unfold seqIndex?
  have e0:¬((xs.size:Int)-1-k<0):=by omega
  have e1:(0:Int)<=(xs.size:Int)-1-k:=by omega
  have e2:(xs.size:Int)-1-k<xs.size:=by omega
  simp only [if_neg e0,e1,e2,decide_true,Bool.and_true,if_true]
  congr 1
  omega
 refine wpAny_bind (wpAny_attempt (getItem_tuple hl (by omega) (by omega) kB hx ?_))
 refine wpAny_bind (wpAny_field (s:={s with toks:=s.toks+1}) hq rfl (x:=rawInt ((xs.size:Int)-1-k)) rfl ?_)
 refine wpAny_bind (wpAny_setField (s:={s with toks:=s.toks+1}) hq rfl (by simp) (wpAny_pure ⟨x,rfl,wpAny_pure (hQ _ _ ?_ (Heap.SameBut.update ..))⟩))
 unfold IL
 rw [Heap.get?_update_self _ hq (Obj.isFreed_of_fields (Obj.data_mapFields rfl _))]
 rw [show (xs.size:Int)-1-(k+1:Nat)=(xs.size:Int)-1-k-1 by omega]
 rfl
end
structure ZR (z TI TO i j l m:Addr) (n:Nat) (k:Nat) (f:Value) (h:Heap):Prop where
 zip:IsZip h z TI TO f
 its:IsPair h TI (.ref i) (.ref j)
 own:∃x y,IsPair h TO x y
 one:OQ false h i l k
 two:IL h j m ((n:Int)-1-k)
theorem ZR.mv {z TI TO i j l m:Addr} {n k:Nat} {f:Value} {h h':Heap} (Z:ZR z TI TO i j l m n k f h) (e:∀p∈ [z,TI,TO,i,j],∀o,h.get? p=some o->h'.get? p=some o):ZR z TI TO i j l m n k f h':=by
 obtain ⟨a1,a2,⟨x,y,a3⟩,a4,a5⟩:=Z
 exact ⟨e z (by simp) _ a1,e TI (by simp) _ a2,⟨x,y,e TO (by simp) _ a3⟩,a4.mv (e i (by simp)),e j (by simp) _ a5⟩
section
variable {prog:Program} {w:World} {A:Around} {E:Value->Shared->Prop} {s:Shared}
variable {z TI TO i j l m:Addr} {k:Nat} {xs ys:Array Value}
theorem i0 {x y:Value} {Q:Value->Shared->Prop} (D:ZipApart z TI TO i j l m) (Z:ZR z TI TO i j l m ys.size k .none s.heap) (hl:L8 false s.heap l xs) (hm:IsTup s.heap m ys) (Ss:(ys.size:Int)<2^63) (hx:xs[k]? =some x) (hk:k<ys.size) (hy:ys[ys.size-1-k]? =some y)
 (hQ:∀h' tk,IsZip h' z TI TO (rawInt s.heap.objs.size)->IsPair h' TI (.ref i) (.ref j)->IsPair h' TO x y->OQ false h' i l (k+1)->IL h' j m ((ys.size:Int)-1-(k+1:Nat))->IsPair h' s.heap.objs.size x y->
   (∀p o,p≠z->p≠TO->p≠i->p≠j->s.heap.get? p=some o->h'.get? p=some o)->Q (.ref s.heap.objs.size) {s with heap:=h',toks:=tk}):
 wpAny (model prog w) A (Builtin.«zip.__next__» ⟨[.ref z], []⟩) (λfin s'=>∃v,fin= .done (.ret v)/\Q v s') E s:=by
 obtain ⟨zz,zi,⟨x0,y0,zo⟩,z1,z2⟩:=Z
 show wpAny _ _ (field (.ref z) 2 >>= _) _ _ _
 refine wpAny_bind (wpAny_field zz rfl (x:= .bool false) rfl ?_)
 show wpAny _ _ (field (.ref z) 3 >>= _) _ _ _
 refine wpAny_bind (wpAny_field zz rfl (x:= .ref TI) rfl (wpAny_bind (wpAny_seqItems zi rfl ?_)))
 refine wpAny_bind (m:=Builtin.SmallTypes.ownedTupleIsFree (.ref z)) ?_
 unfold Builtin.SmallTypes.ownedTupleIsFree
 refine wpAny_bind (wpAny_field zz rfl (x:= .none) rfl (wpAny_pure ?_))
 simp only [if_true]
 refine wpAny_bind (wpAny_rule (wpAny_bind (wpAny_field zz rfl (x:= .ref TO) rfl (wpAny_bind (wpAny_setField_rec zz (by simp) λg1 e1 b1=> ?_)))))
 have e1:IsZip g1 z TI TO .ellipsis:=e1
 refine wpAny_bind ?_
 simp only [List.zipIdx_cons,List.zipIdx_nil,List.forIn_cons,List.forIn_nil]
 refine wpAny_bind (wpAny_bind (wpAny_onRaise ?_))
 refine wpAny_bind (m:=Builtin.SmallTypes.nextOf (.ref i)) (JK (z1.mv λo=>b1.extBut _ o D.i1z) (hl.mv λo=>b1.extBut _ o D.l1z) hx λg2 e2 b2=>wpAny_pure ?_)
 have o2:IsPair g2 TO x0 y0:=b2.extBut _ _ D.TOi1 (b1.extBut _ _ D.TOz zo)
 refine wpAny_bind (wpAny_seqItems o2 rfl (wpAny_bind (wpAny_updateSeq_pair o2 λg3 o3 b3=>wpAny_bind (wpAny_letGo (wpAny_pure ?_)))))
 have o3:IsPair g3 TO x y0:=o3
 refine wpAny_bind (wpAny_bind (wpAny_onRaise ?_))
 have gN:∀h h':Heap,(∀o,h.get? m=some o->h'.get? m=some o)->IsTup h m ys->IsTup h' m ys:=λh h' e x=>(show L8 false h m ys from x).mv e
 have uB:IsTup g3 m ys:=gN _ _ (λo=>b3.extBut _ o D.l2TO) (gN _ _ (λo=>b2.extBut _ o D.l2i1) (gN _ _ (λo=>b1.extBut _ o D.l2z) hm))
 have z23:IL g3 j m ((ys.size:Int)-1-k):=b3.extBut _ _ D.TOi2.symm (b2.extBut _ _ D.i12.symm (b1.extBut _ _ D.i2z z2))
 refine wpAny_bind (m:=Builtin.SmallTypes.nextOf (.ref j)) (cQ z23 uB Ss hk hy λg4 tk e4 b4=>wpAny_pure ?_)
 have o4:IsPair g4 TO x y0:=b4.extBut _ _ D.TOi2 o3
 refine wpAny_bind (wpAny_seqItems o4 rfl (wpAny_bind (wpAny_updateSeq_pair o4 λg5 o5 b5=>wpAny_bind (wpAny_letGo (wpAny_pure (wpAny_pure ?_))))))
 have o5:IsPair g5 TO x y:=o5
 refine wpAny_bind (wpAny_seqItems o5 rfl (wpAny_bind (wpAny_newTuple ?_)))
 have sz:g5.objs.size=s.heap.objs.size:=by rw [b5.1,b4.1,b3.1,b2.1,b1.1]
 have k5:IsZip g5 z TI TO .ellipsis:=b5.extBut _ _ D.TOz.symm (b4.extBut _ _ D.i2z.symm (b3.extBut _ _ D.TOz.symm (b2.extBut _ _ D.i1z.symm e1)))
 have all5:∀p o,p≠z->p≠TO->p≠i->p≠j->s.heap.get? p=some o->g5.get? p=some o:=λp o q1 q2 q3 q4 e=>
  b5.extBut _ _ q2 (b4.extBut _ _ q4 (b3.extBut _ _ q2 (b2.extBut _ _ q3 (b1.extBut _ _ q1 e))))
 have one5:OQ false g5 i l (k+1):=((e2.mv λo=>b3.extBut _ o D.TOi1.symm).mv λo=>b4.extBut _ o D.i12).mv λo=>b5.extBut _ o D.TOi1.symm
 have two5:IL g5 j m ((ys.size:Int)-1-(k+1:Nat)):=b5.extBut _ _ D.TOi2.symm e4
 have zlt:z<g5.objs.size:=Heap.lt_size k5
 refine wpAny_bind (m:=Builtin.SmallTypes.ownedTupleHandOut (.ref z) (.ref g5.objs.size)) ?_
 unfold Builtin.SmallTypes.ownedTupleHandOut
 have k6:IsZip (g5.push {cls:= .type "tuple",data:= .seq #[x,y] }) z TI TO .ellipsis:=Heap.get?_push_of_some _ k5
 refine wpAny_bind (wpAny_setField_rec k6 (by simp) λg7 k7 b7=> ?_)
 have k7:IsZip g7 z TI TO (rawInt g5.objs.size):=k7
 refine wpAny_setField_rec k7 (by simp) λg8 k8 b8=> ?_
 have k8:IsZip g8 z TI TO (rawInt g5.objs.size):=k8
 have up:∀p o,p≠z->g5.get? p=some o->g8.get? p=some o:=λp o q e=>b8.extBut _ _ q (b7.extBut _ _ q (Heap.get?_push_of_some _ e))
 have new8:IsPair g8 g5.objs.size x y:=b8.extBut _ _ (Nat.ne_of_gt zlt) (b7.extBut _ _ (Nat.ne_of_gt zlt) (Heap.get?_push_size _ rfl))
 rw [sz] at k8 new8
 refine wpAny_pure ⟨_,rfl, ?_⟩
 show Q (.ref g5.objs.size) _
 rw [sz]
 exact hQ g8 tk k8 (up _ _ D.TIz (all5 _ _ D.TIz D.TITO D.TIi1 D.TIi2 zi)) (up _ _ D.TOz o5) (one5.mv λo=>up _ o D.i1z) (up _ _ D.i2z two5) new8 λp o q1 q2 q3 q4 e=>up p o q1 (all5 p o q1 q2 q3 q4 e)
theorem lq {n:Nat} {Q:Fin->Shared->Prop} (hh:A.handled=none) (D:ZipApart z TI TO i j l m) (Z:ZR z TI TO i j l m n k .none s.heap) (hl:L8 false s.heap l xs) (hx:xs[k]? =none)
 (hE:∀h' e,(∀p o,p≠z->p≠TO->p≠i->p≠j->s.heap.get? p=some o->h'.get? p=some o)->(∃o,h'.get? e=some o/\o.cls= .type "StopIteration")->E (.ref e) {s with heap:=h'}):
 wpAny (model prog w) A (Builtin.«zip.__next__» ⟨[.ref z], []⟩) Q E s:=by
 obtain ⟨zz,zi,⟨x0,y0,zo⟩,z1,z2⟩:=Z
 show wpAny _ _ (field (.ref z) 2 >>= _) _ _ _
 refine wpAny_bind (wpAny_field zz rfl (x:= .bool false) rfl ?_)
 show wpAny _ _ (field (.ref z) 3 >>= _) _ _ _
 refine wpAny_bind (wpAny_field zz rfl (x:= .ref TI) rfl (wpAny_bind (wpAny_seqItems zi rfl ?_)))
 refine wpAny_bind (m:=Builtin.SmallTypes.ownedTupleIsFree (.ref z)) ?_
 unfold Builtin.SmallTypes.ownedTupleIsFree
 refine wpAny_bind (wpAny_field zz rfl (x:= .none) rfl (wpAny_pure ?_))
 simp only [if_true]
 refine wpAny_bind (wpAny_rule (wpAny_bind (wpAny_field zz rfl (x:= .ref TO) rfl (wpAny_bind (wpAny_setField_rec zz (by simp) λg1 e1 b1=> ?_)))))
 have e1:IsZip g1 z TI TO .ellipsis:=e1
 refine wpAny_bind ?_
 simp only [List.zipIdx_cons,List.zipIdx_nil,List.forIn_cons,List.forIn_nil]
 refine wpAny_bind (wpAny_bind (wpAny_onRaise ?_))
 refine wpAny_bind (m:=Builtin.SmallTypes.nextOf (.ref i)) (Kv hh (z1.mv λo=>b1.extBut _ o D.i1z) (hl.mv λo=>b1.extBut _ o D.l1z) hx λg2 e b2 he=> ?_)
 obtain ⟨oe,ge,ce⟩:=he
 have k2:IsZip g2 z TI TO .ellipsis:=b2 _ _ D.i1z.symm e1
 have ez:e≠z:=λq=>by subst q;rw [k2] at ge;cases ge;simp at ce
 refine wpAny_setField_rec k2 (by simp) λg3 _ b3=>hE g3 e (λp o q1 _ q3 _ q=>b3.extBut _ _ q1 (b2 _ _ q3 (b1.extBut _ _ q1 q))) ⟨oe,b3.extBut _ _ ez ge,ce⟩
end
theorem dy {n l m:Nat} (h1:l<n) (h2:m<n):ZipApart (n+4) (n+2) (n+3) (n+1) n l m where
 TIz:=(by omega:(n+2:Nat)≠n+4)
 TOz:=(by omega:(n+3:Nat)≠n+4)
 i1z:=(by omega:(n+1:Nat)≠n+4)
 i2z:=(by omega:(n:Nat)≠n+4)
 TITO:=(by omega:(n+2:Nat)≠n+3)
 TIi1:=(by omega:(n+2:Nat)≠n+1)
 TIi2:=(by omega:(n+2:Nat)≠n)
 TOi1:=(by omega:(n+3:Nat)≠n+1)
 TOi2:=(by omega:(n+3:Nat)≠n)
 i12:=(by omega:(n+1:Nat)≠n)
 l1z:=(by omega:(l:Nat)≠n+4)
 l1TO:=(by omega:(l:Nat)≠n+3)
 l1i1:=(by omega:(l:Nat)≠n+1)
 l1i2:=(by omega:(l:Nat)≠n)
 l2z:=(by omega:(m:Nat)≠n+4)
 l2TO:=(by omega:(m:Nat)≠n+3)
 l2i1:=(by omega:(m:Nat)≠n+1)
 l2i2:=(by omega:(m:Nat)≠n)
abbrev rA (h:Heap) (l:Addr):Heap:=h.push (XT false l)
abbrev rC (h:Heap) (l r:Addr):Heap:=(rA h l).push {cls:= .type "tuple",data:= .seq #[.ref h.objs.size, .ref r] }
abbrev rD (h:Heap) (l r:Addr):Heap:=(rC h l r).push {cls:= .type "tuple",data:= .seq #[.none, .none] }
abbrev rF (h:Heap) (l r:Addr):Heap:=(rD h l r).push {cls:= .type "zip",data:= .fields #[.none, .bool false, .bool false, .ref (rA h l).objs.size, .ref (rC h l r).objs.size] }
theorem ZL {prog:Program} {w:World} {A:Around} {E:Value->Shared->Prop} {h:Heap} {g:Array GenState} {d:Drawn} {tk:Nat} {os:OsState} {q m:Addr} {i:Int} {Q:Value->Shared->Prop} (hq:IL h q m i)
 (k:Q (.ref q) ⟨h,g,d,tk,os⟩):wpAny (model prog w) A (pyIter (.ref q)) Q E ⟨h,g,d,tk,os⟩:=cK (s:=⟨h,g,d,tk,os⟩) hq k
theorem Vd (l r m:Addr) (i:Int) (xs:Array Value):Meets (Builtin.«zip.__new__» ⟨[.type "zip", .ref l, .ref r], []⟩) (λ_ R s=>L8 false s.heap l xs/\IL s.heap r m i/\R (.ok (.ret (.ref (rD s.heap l r).objs.size))) {s with heap:=rF s.heap l r}):=
 .of_wp λprog w A R s h=>by
   obtain ⟨hp,g,d,tk,os⟩:=s
   obtain ⟨hl,hm,h⟩:=h
   have nh:=sub_zip
   have nS:L8 false hp l xs:=hl
   have nW:IL (hp.push (XT false l)) r m i:=Heap.get?_push_of_some _ hm
   wp_walk using Up nS,ZL nW
   exact ⟨_,rfl,h⟩
section
variable {prog:Program} {w:World} {A:Around} {E:Value->Shared->Prop} {s:Shared} {l m r:Addr} {xs:Array Value} {n:Nat}
theorem dt (hl:L8 false s.heap l xs) (hr:IL s.heap r m ((n:Int)-1)) {Q:Value->Shared->Prop}
 (h:∀h',ZR (s.heap.objs.size+3) (s.heap.objs.size+1) (s.heap.objs.size+2) s.heap.objs.size r l m n 0 .none h'->(∀p o,s.heap.get? p=some o->h'.get? p=some o)->Q (.ref (s.heap.objs.size+3)) {s with heap:=h'}):
 wpAny (model prog w) A (call (.type "zip") [.ref l, .ref r]) Q E s:=by
 refine callType_new F.called_zip (by decide) (F.typeCall_zip_2 _ _) (F.newCall_zip_2 _ _) (λobj=>F.args_object_init_3 obj _ _) F.entry_zip_new (Vd l r m _ xs) ⟨hl,hr, ?_⟩
 have n1:(rA s.heap l).objs.size=s.heap.objs.size+1:=Heap.size_push ..
 have n3:(rC s.heap l r).objs.size=s.heap.objs.size+2:=by rw [Heap.size_push,n1]
 have n4:(rD s.heap l r).objs.size=s.heap.objs.size+3:=by rw [Heap.size_push,n3]
 have up:∀(g:Heap) (x:Obj) (p:Addr) (o:Obj),g.get? p=some o->(g.push x).get? p=some o:=λg x p o e=>Heap.get?_push_of_some _ e
 have p5:(rF s.heap l r).get? (rD s.heap l r).objs.size=some _:=Heap.get?_push_size _ rfl
 have p4:(rF s.heap l r).get? (rC s.heap l r).objs.size=some _:=up _ _ _ _ (Heap.get?_push_size _ rfl)
 have p3:(rF s.heap l r).get? (rA s.heap l).objs.size=some _:=up _ _ _ _ (up _ _ _ _ (Heap.get?_push_size _ rfl))
 have p1:(rF s.heap l r).get? s.heap.objs.size=some (XT false l):=up _ _ _ _ (up _ _ _ _ (up _ _ _ _ (Heap.get?_push_size _ rfl)))
 have all:∀p o,s.heap.get? p=some o->(rF s.heap l r).get? p=some o:=λp o e=>up _ _ _ _ (up _ _ _ _ (up _ _ _ _ (up _ _ _ _ e)))
 rw [n1,n3,n4] at p5
 rw [n1] at p3
 rw [n3] at p4
 show _/\_
 rw [n4]
 exact ⟨⟨_,p5,rfl⟩,h _ ⟨p5,p3,⟨_,_,p4⟩,ZK p1,by rw [show (n:Int)-1-(0:Nat)=(n:Int)-1 by omega];exact all _ _ hr⟩ all⟩
end
def mh (K:PySem.W.Frag) (l m:Addr) (n:Nat):It:=
 ⟨λi H=>∃xs ys x y,Sq K false H l xs/\Sq K false H m ys/\ys.length=n/\xs[i]? =some x/\i<n/\ys[n-1-i]? =some y,
  λi H v H'=>∃T x y,v= .ref T/\H T=none/\H'=upd H T (.tup [x,y])/\(∀xs,Sq K false H l xs->xs[i]? =some x)/\∀ys,Sq K false H m ys->ys[n-1-i]? =some y,
  λi H=>∃xs,Sq K false H l xs/\xs.length<=i⟩
theorem X5 {P:Program} {w:World} {K:PySem.W.Frag} {es:List Expr} {x1:Nat} {pos:Pos} {z TI TO i j l m:Addr} {n:Nat} (D:ZipApart z TI TO i j l m):
 Ka P w K (.Tuple es x1 pos) (mh K l m n) [z,TI,TO,i,j] z (λk h=>ZR z TI TO i j l m n k .none h) where
 mem:=by simp
 obj:=λk h Z p hp=>by
  have FU:p=z\/p=TI\/p=TO\/p=i\/p=j:=by simpa using hp
  rcases FU with e|e|e|e|e
  ·subst e;exact ⟨_,Z.zip,λv q=>nomatch q⟩
  ·subst e;exact ⟨_,Z.its,λv q=>nomatch q⟩
  ·subst e;obtain ⟨x,y,q⟩:=Z.own;exact ⟨_,q,λv q=>nomatch q⟩
  ·subst e;exact Z.one.obj
  ·subst e;exact ⟨_,Z.two,λv q=>nomatch q⟩
 keep:=λk h h' Z e=>Z.mv e
 item:=by
  intro X hP hw hK hc k pins s σ H E I hf Z hg
  subst hP hw hK
  obtain ⟨xs,ys,x,y,hl,hm,hn,hx,hk,hy⟩:=hg
  obtain ⟨us,ru,su,_⟩:=I.sq hl
  obtain ⟨vs,rv,sv,hz⟩:=I.sq hm
  obtain ⟨u,hu,rx⟩:=ru.get hx
  obtain ⟨v,hv,ry⟩:=rv.get hy
  have vn:vs.toArray.size=n:=by rw [List.size_toArray,<-rv.length];exact hn
  have hT:s.TypeIs (.ref z) "zip" :=⟨_,Z.zip,rfl⟩
  rw [<-vn] at Z
  unfold pyNext
  refine wpAny_bind (wpAny_attempt (wpAny_callSpecial?_slot (name:=Str.ofString "__next__") hT F.slot_zip_next (wpAny_call_entry F.slot_zip_next hT F.entry_zip_next
   (i0 D Z su sv (by rw [vn,<-hn];exact Int.lt_of_le_of_lt (Int.ofNat_le.mpr hz) (by decide)) (x:=u) (y:=v) (by simpa using hu) (by rw [vn];exact hk) (by rw [vn];simpa using hv) λh1 tk a1 a2 a3 a4 a5 a6 a7=>wpAny_pure ?_) (F.args_zip_next_1 _))))
  refine ⟨_,rfl,wpAny_letOwnedTupleGo_zip (s:={s with heap:=h1,toks:=tk}) a1 λh2 c1 c2=> ?_⟩
  have nT:∀p∈ [z,TI,TO,i,j],p<s.heap.objs.size:=λp hp=>by
   have FU:p=z\/p=TI\/p=TO\/p=i\/p=j:=by simpa using hp
   rcases FU with e|e|e|e|e
   ·subst e;exact Heap.lt_size Z.zip
   ·subst e;exact Heap.lt_size Z.its
   ·subst e;obtain ⟨x,y,q⟩:=Z.own;exact Heap.lt_size q
   ·subst e;obtain ⟨o,q,_⟩:=Z.one.obj;exact Heap.lt_size q
   ·subst e;exact Heap.lt_size Z.two
  have c2':∀p o,p≠z->h1.get? p=some o->h2.get? p=some o:=λp o q e=>c2.extBut _ _ q e
  have kp:∀p o,p ∉ [z,TI,TO,i,j] ->s.heap.get? p=some o->h2.get? p=some o:=λp o hp e=>by
   have FU:p≠z/\p≠TI/\p≠TO/\p≠i/\p≠j:=by simpa using hp
   exact c2' p o FU.1 (a7 p o FU.1 FU.2.2.1 FU.2.2.2.1 FU.2.2.2.2 e)
  have nu:s.heap.objs.size≠z:=Nat.ne_of_gt (nT z (by simp))
  have I2:Inv X pins σ (upd H s.heap.objs.size (.tup [x,y])) {s with heap:=h2,toks:=tk}:=I.turnedN hf nT kp (Nat.le_refl _)
   ⟨(by show 2<=sizeLine;decide), [u,v], .cons rx (.cons ry .nil),⟨_,c2' _ _ nu a6,rfl,_,rfl⟩⟩
  have Uj:H s.heap.objs.size=none:=I.fresh
  refine ⟨.ref s.heap.objs.size,upd H s.heap.objs.size (.tup [x,y]),I2,rfl,⟨_,x,y,rfl,Uj,rfl,λxs' h'=> ?_,λys' h'=> ?_⟩, ?_,λp hp=> ?_⟩
  ·rw [I.sq_inj h' hl];exact hx
  ·rw [I.sq_inj h' hm];exact hy
  ·rw [vn] at a5
   exact ⟨c1,c2' _ _ D.TIz a2,⟨_,_,c2' _ _ D.TOz a3⟩,a4.mv λo=>c2' _ o D.i1z,c2' _ _ D.i2z a5⟩
  ·rw [Af (Nat.ne_of_lt (nT p hp))]
   exact (hf p hp).1
 done:=by
  intro X hP hw hK hc k pins s σ H E I hf Z hg
  subst hP hw hK
  obtain ⟨xs,hl,he⟩:=hg
  obtain ⟨us,ru,su,_⟩:=I.sq hl
  have e1:=ru.length
  have hT:s.TypeIs (.ref z) "zip" :=⟨_,Z.zip,rfl⟩
  unfold pyNext
  refine wpAny_bind (wpAny_attempt (wpAny_callSpecial?_slot (name:=Str.ofString "__next__") hT F.slot_zip_next (wpAny_call_entry F.slot_zip_next hT F.entry_zip_next
   (lq (I.ok.hd hc) D Z su (by simp;omega) λh1 e hk he=> ?_) (F.args_zip_next_1 _))))
  obtain ⟨o,ho,gJ⟩:=he
  refine wpAny_bind (wpAny_isInstance (T:="StopIteration") (b:=true) ⟨o,ho,gJ⟩ isSubtype_stop (wpAny_pure ⟨rfl, ?_⟩))
  exact I.turnedL (t':=s.toks) hf λp o hp e=>by
   have FU:p≠z/\p≠TI/\p≠TO/\p≠i/\p≠j:=by simpa using hp
   exact hk p o FU.1 FU.2.2.1 FU.2.2.2.1 FU.2.2.2.2 e
 self:=λ_ _ _ _ _ Z h=>wpAny_pyIter_zip Z.zip h
section
variable {X:Cx}
theorem cy {e f:Expr} {te tf:TE} {p p2 pos pos2 tpos:Pos} {es:List Expr} {x1:Nat} (hg:Gl X "zip") (hm:X.mg "zip" =none) (gM:Gl X "reversed") (gO:X.mg "reversed" =none) (he:PE X e te) (hf:PE X f tf)
 (hs:starEach [e, .Call (.Name "reversed" p2) [f] [] pos2] X.env= [(false,eval e X.env),(false,eval (.Call (.Name "reversed" p2) [f] [] pos2) X.env)] :=by rfl) (Rh:starEach [f] X.env= [(false,eval f X.env)] :=by rfl):
 PI X (.Tuple es x1 tpos) (.Call (.Name "zip" p) [e, .Call (.Name "reversed" p2) [f] [] pos2] [] pos) (λσ H R=>te σ H λu H1=>tf σ H1 λv H2=>∃l m ys,u= .ref l/\v= .ref m/\(∃xs,Sq X.K false H2 l xs)/\Sq X.K false H2 m ys/\R (mh X.K l m ys.length) H2):=by
 intro pins s σ H R I h
 refine Call_ (Gy I hg hm boot_zip (PyProof.Rows.callWith_type1 ?_ (by rw [hs];rfl) rfl))
 rw [hs]
 show wpAny _ _ (spliced ((false,eval e X.env) :: [(false,eval (.Call (.Name "reversed" p2) [f] [] pos2) X.env)])) _ _ s
 refine Calls.spliced_cons (BV (he pins s σ H _ I h) λv s1 ⟨x,H1,I1,r1,q1⟩=> ?_)
 refine Calls.spliced_cons ?_
 refine Call_ (Gy I1 gM gO boot_reversed (PyProof.Rows.callWith_type1 ?_ (by rw [Rh];rfl) rfl))
 rw [Rh]
 show wpAny _ _ (spliced ((false,eval f X.env) :: [])) _ _ s1
 refine Calls.spliced_cons (BV (hf pins s1 σ H1 _ I1 q1) λv2 s2 ⟨x2,H2,I2,r2,q2⟩=>Calls.spliced_nil ?_)
 obtain ⟨l,m,ys,rfl,rfl,⟨xs,hl⟩,gN,q⟩:=q2
 cases r1
 cases r2
 obtain ⟨us,ru,su,_⟩:=I2.sq hl
 obtain ⟨vs,rv,sv,hz⟩:=I2.sq gN
 have vn:vs.toArray.size=ys.length:=by rw [List.size_toArray,<-rv.length]
 have llt:l<s2.heap.objs.size:=by obtain ⟨o,e,_⟩:=su;exact Heap.lt_size e
 have mlt:m<s2.heap.objs.size:=by obtain ⟨o,e,_⟩:=sv;exact Heap.lt_size e
 refine bS sv (by rw [vn];exact Int.lt_of_le_of_lt (Int.ofNat_le.mpr hz) (by decide)) (Calls.spliced_nil ?_)
 have up:∀b o,s2.heap.get? b=some o->(s2.heap.push (aq m ((vs.toArray.size:Int)-1))).get? b=some o:=λb o e=>Heap.get?_push_of_some _ e
 have szp:(s2.heap.push (aq m ((vs.toArray.size:Int)-1))).objs.size=s2.heap.objs.size+1:=Heap.size_push ..
 have su':L8 false (s2.heap.push (aq m ((vs.toArray.size:Int)-1))) l us.toArray:=su.mv λo e=>up _ o e
 have hR:IL (s2.heap.push (aq m ((vs.toArray.size:Int)-1))) s2.heap.objs.size m ((ys.length:Int)-1):=by
  rw [<-vn];exact Heap.get?_push_size _ rfl
 refine dt (s:={s2 with heap:=s2.heap.push (aq m ((vs.toArray.size:Int)-1)),toks:=s2.toks+1+1}) su' hR λh1 Z kp=>wpAny_pyIter_zip Z.zip ?_
 have I3:Inv X pins σ H2 {s2 with heap:=h1,toks:=s2.toks+1+1}:=I2.kept (t':=s2.toks+1+1) λb ob q=>kp b ob (up b ob q)
 have Z':ZR (s2.heap.objs.size+4) (s2.heap.objs.size+2) (s2.heap.objs.size+3) (s2.heap.objs.size+1) s2.heap.objs.size l m ys.length 0 .none h1:=by
  have Z2:=Z
  rw [show ({s2 with heap:=s2.heap.push (aq m ((vs.toArray.size:Int)-1)),toks:=s2.toks+1+1}:Shared).heap.objs.size=s2.heap.objs.size+1 from szp] at Z2
  exact Z2
 refine ⟨_,_,_,_,H2, ?_,I3,X5 (dy llt mlt),Z',λp hp=> ?_,q⟩
 ·exact congrArg Value.ref (by show (s2.heap.push (aq m ((vs.toArray.size:Int)-1))).objs.size+3=_;rw [szp])
 have FU:s2.heap.objs.size<=p:=by
  have gS:p=s2.heap.objs.size+4\/p=s2.heap.objs.size+2\/p=s2.heap.objs.size+3\/p=s2.heap.objs.size+1\/p=s2.heap.objs.size:=by simpa using hp
  rcases gS with e|e|e|e|e <;> (rw [e];first | exact Nat.le_refl _|exact Nat.le_add_right _ _)
 exact I2.fpOk FU (I2.hok.fresh FU)
end
end L2
end
section
namespace PL
open PySem PySem.Spec PyProof.Rows L2
theorem Tu {xs ys:List PV} {i:Nat} {u:PV} (h:(En xs ys)[i]? =some u):∃x y,xs[i]? =some x/\ys[i]? =some y/\u= .tup [x,y] :=by
 unfold En at h
 rw [List.getElem?_zipWith] at h
 cases hx:xs[i]? with
 | none=>rw [hx] at h;simp at h
 | some x=>
   cases hy:ys[i]? with
   | none=>rw [hx,hy] at h;simp at h
   | some y=>rw [hx,hy] at h;simp at h;exact ⟨x,y,rfl,rfl,h.symm⟩
theorem XS {K:PySem.W.Frag} {T M:Addr->Prop} {H:Hp} {l m:Addr} {xs ys:List PV} {n:Nat} (va:GZ T M H) (e1:xs.length=ys.length) (en:ys.length=n)
 (r:CB K T M H (.ref l) (.tup xs)) (r2:CB K T M H (.ref m) (.tup ys)):UG K M (mh K l m n) (En xs ys.reverse) T H:=by
 obtain ⟨_,vs,e,hq,rs⟩:=Cq r
 cases e
 obtain ⟨_,ws,e,Qb,rs2⟩:=Cq r2
 cases e
 have wl:=rs2.length
 have rg:∀i b,ys.reverse[i]? =some b->i<n/\ys[n-1-i]? =some b:=λi b h=>by
  have hi:i<ys.reverse.length:=(List.getElem?_eq_some_iff.mp h).1
  rw [List.length_reverse] at hi
  rw [List.getElem?_reverse hi,en] at h
  exact ⟨by omega,h⟩
 refine ⟨λi w h=> ?_,λi w v H' h yl=> ?_,λi h=>⟨vs,hq, ?_⟩⟩
 ·obtain ⟨a,b,ha,hb,_⟩:=Tu h
  obtain ⟨hi,hb⟩:=rg i b hb
  obtain ⟨u1,h1,_⟩:=rs.get ha
  obtain ⟨u2,h2,_⟩:=rs2.get hb
  exact ⟨vs,ws,u1,u2,hq,Qb,by omega,h1,hi,h2⟩
 ·obtain ⟨a,b,ha,hb,rfl⟩:=Tu h
  obtain ⟨hi,hb⟩:=rg i b hb
  obtain ⟨p,u1,u2,rfl,hn,rfl,h1,h2⟩:=yl
  obtain ⟨a',jq,ra⟩:=rs.get' (h1 vs hq)
  obtain ⟨b',jr,rb⟩:=rs2.get' (h2 ws Qb)
  rw [ha] at jq;cases jq
  rw [hb] at jr;cases jr
  have st:=DT.lay (o:= .tup [u1,u2]) va.tp hn
  exact ⟨st, .tup (.inl Ah) (.cons (ra.stp st va) (.cons (rb.stp st va) .nil))⟩
 ·have:(En xs ys.reverse).length=xs.length:=by unfold En;rw [List.length_zipWith,List.length_reverse];omega
  rw [this] at h
  rw [rs.length]
  exact h
section
variable {X:Cx}
def fk (ta tb:AE):AI:=λτ Q=>ta τ λx=>tb τ λy=>match x,y with | .tup xs, .tup ys=>xs.length=ys.length/\Q (En xs ys.reverse)|_,_=>False
theorem lR {e f:Expr} {ta tb:AE} {p p2 pos pos2 tpos:Pos} {es:List Expr} {x1:Nat} (hg:Gl X "zip") (hm:X.mg "zip" =none) (gM:Gl X "reversed") (gO:X.mg "reversed" =none) (ha:SE X e ta) (hb:SE X f tb)
 (hs:starEach [e, .Call (.Name "reversed" p2) [f] [] pos2] X.env= [(false,eval e X.env),(false,eval (.Call (.Name "reversed" p2) [f] [] pos2) X.env)] :=by rfl) (Rh:starEach [f] X.env= [(false,eval f X.env)] :=by rfl):
 SI X (.Tuple es x1 tpos) (.Call (.Name "zip" p) [e, .Call (.Name "reversed" p2) [f] [] pos2] [] pos) true (fk ta tb):=by
 obtain ⟨t,pa,s⟩:=ha
 obtain ⟨t',pb,s'⟩:=hb
 refine ⟨_,cy hg hm gM gO pa pb hs Rh,λB T σ τ H R AQ sr h k=>s B T σ τ H _ _ sr h λu x T1 H1 s1 r1 h1=>s' B T1 σ τ H1 _ _ (sr.stp s1) h1 λv y T2 H2 s2 r2 h2=> ?_⟩
 split at h2 <;> first | exact h2.elim|skip
 obtain ⟨e1,h2⟩:=h2
 have r1':=r1.stp s2 (sr.stp s1).va
 obtain ⟨l,us,rfl,hq,rs⟩:=Cq r1'
 obtain ⟨m,ws,rfl,Qb,rs2⟩:=Cq r2
 exact ⟨l,m,ws,rfl,rfl,⟨us,hq⟩,Qb,k _ _ T2 H2 (s1.trans s2) (λM2 T3 H3 mv va _=>XS va e1 (by rw [rs2.length]) (r1'.mv mv) (r2.mv mv)) h2⟩
end
end PL
end
section
namespace L2
open PySem PySem.Spec PyProof.Rows
section
variable {X:Cx}
end
end L2
namespace PL
open PySem PySem.Spec PyProof.Rows L2
section
variable {X:Cx}
end
end PL
end
section
namespace L2
open PySem PySem.Spec PyProof.Rows
def F3 (h:Heap):Heap:=(h.push {cls:= .type "dict",data:= .dict #[] }).push {cls:= .type "cell",data:= .cell none}
theorem On {h:Heap} {b:Addr} {o:Obj} (e:h.get? b=some o):(F3 h).get? b=some o:=Heap.get?_push_of_some _ (Heap.get?_push_of_some _ e)
theorem U7 {h:Heap}:(F3 h).Ns h.objs.size (λ_=>none):=(Heap.Ns.new h (.type "dict")).keeps λb o e=>Heap.get?_push_of_some _ e
theorem Q3 {h:Heap}:(F3 h).IsCell (h.objs.size+1) none:=by
 have e:(h.push {cls:= .type "dict",data:= .dict #[] }).objs.size=h.objs.size+1:=Heap.size_push ..
 rw [<-e]
 exact ⟨_,Heap.get?_push_size _ rfl,rfl⟩
theorem ZV {M:Model} {A:Around} {E:Value->Shared->Prop} {s:Shared} {scope:Scope} {y0:Str} {globals:Addr} {cl:List (Str×Addr)} {qual:Str} {env:Env} {Q:Env->Shared->Prop}
 (cf:∀n acc,cellsFrom n scope.names acc=(y0,n)::acc) (pc:∀h,pushCells h scope.names=h.push {cls:= .type "cell",data:= .cell none})
 (hQ:Q (newEnv scope s.heap.objs.size globals ((y0,s.heap.objs.size+1)::cl) qual none .none (some env) builtinsNs) {s with heap:=F3 s.heap}):
 wpAny M A (newFunctionEnv scope globals cl [] qual none .none (some env)) Q E s:=by
 simp only [newFunctionEnv,Option.isSome_some,if_true]
 refine wpAny_bind (wpAny_alloc ?_)
 refine wpAny_bind (wpAny_layCells _ (λname kind cells=>by cases t7:kind==NameKind.cell <;> simp [t7]) _ _ _ _ ?_)
 rw [cf,pc]
 rw [show ({s with heap:=s.heap.push {cls:= .type "dict",data:= .dict #[] }}:Shared).heap.objs.size=s.heap.objs.size+1 from Heap.size_push ..]
 rw [List.forIn_nil]
 exact wpAny_bind (wpAny_pure (wpAny_pure hQ))
def IN (X:Cx) (sc:Scope) (N:List Str) (y0:Str) (cl:List (Str×Addr)) (C:Addr) (s:Shared) (H:Hp) (ex:List Addr) (pn:List (Addr×Obj)):Cx:=
 {blk X sc N ((y0,C+1)::cl) C s H ex pn with fn:=λx=>x==y0}
section
variable {X:Cx} {pins:List (Addr×Obj)} {σ:St} {H:Hp} {s:Shared} {fp:List Addr} {sc:Scope} {N:List Str} {cl:List (Str×Addr)} {y0:Str}
theorem eh {C:Addr} {y:Str} {c:Addr} (e:((y0,C+1)::cl).lookup y=some c):(y=y0/\c=C+1)\/cl.lookup y=some c:=by
 rw [List.lookup_cons] at e
 cases hb:y==y0 with
 | true=>rw [hb] at e;cases e;exact .inl ⟨beq_iff_eq.mp hb,rfl⟩
 | false=>rw [hb] at e;exact .inr e
theorem bR (I:Inv X pins σ H s) (hf:∀b∈fp,Dh X pins H b) (Dt:∀b∈fp,b<s.heap.objs.size) (hk:sc.kind= .function)
 (h1:∀y c,cl.lookup y=some c->X.env.cells.lookup y=some c) (h2:∀y,(sc.names.lookup y=some .cell\/sc.names.lookup y=some .free)->∃c,((y0,s.heap.objs.size+1)::cl).lookup y=some c):
 (IN X sc N y0 cl s.heap.objs.size s H fp (X.pn++pins)).Ok where
 mod:=I.ok.mod
 kind:=hk
 glob:=I.ok.glob
 blt:=I.ok.blt
 above:=Nat.le_refl _
 inj:=λx y c a b=>by
  have lo:∀y c,cl.lookup y=some c->c<s.heap.objs.size:=λy c e=>I.szLt (h1 y c e)
  rcases eh a with ⟨e1,e2⟩|a'
  ·rcases eh b with ⟨e3,e4⟩|b'
   ·rw [e1,e3]
   ·rw [e2] at b'
    exact absurd (lo _ _ b') (Nat.not_lt.mpr (Nat.le_succ _))
  ·rcases eh b with ⟨e3,e4⟩|b'
   ·rw [e4] at a'
    exact absurd (lo _ _ a') (Nat.not_lt.mpr (Nat.le_succ _))
   ·exact I.ok.inj x y c (h1 x c a') (h1 y c b')
 has:=λx hx=>h2 x hx
 cab:=λx c z e=>by
  have z:(x==y0)=true:=z
  rcases eh e with ⟨_,rfl⟩|e
  ·exact Nat.le_succ _
  ·have e':((y0,s.heap.objs.size+1)::cl).lookup x=some c:= ‹_›
   rw [List.lookup_cons,z] at e'
   cases e'
   exact Nat.le_succ _
 hd:=I.ok.hd
 frames:=I.ok.frames
 stk:= .inl rfl
 exf:=λb hb=>⟨Nat.ne_of_lt (Dt b hb),λx c e=>by
  rcases eh e with ⟨_,rfl⟩|e
  ·exact Nat.ne_of_gt (Nat.lt_succ_of_lt (Dt b hb))
  ·exact (hf b hb).2.2.2.2.1 x c (h1 x c e)⟩
 bs:=I.bs
 bsz:=Nat.le_trans I.ok.bsz I.sz
 noex:=λb o e hb=>by
  rcases (hf b hb).2.2.2.1 with z|z
  ·exact I.ok.noex b o e z
  ·exact absurd (Nat.lt_of_lt_of_le (Heap.lt_size (I.ok.bs b o e).1) z) (Nat.lt_irrefl _)
 exfs:=λb hb=>I.notStk (hf b hb).2.1 (hf b hb).2.2.1
 funs:=I.stack
 frf:=I.stkFree
theorem bQ {own:Nat} {ix:List Nat} {h':Heap} {m:Str->Option Value} {t':Nat} (I:Inv X pins σ H s) (hf:∀b∈fp,Dh X pins H b) (Dt:∀b∈fp,b<s.heap.objs.size) (hk:sc.kind= .function)
 (h1:∀y c,cl.lookup y=some c->X.env.cells.lookup y=some c) (h2:∀y,(sc.names.lookup y=some .cell\/sc.names.lookup y=some .free)->∃c,((y0,s.heap.objs.size+1)::cl).lookup y=some c) (F:O3 X sc own ix N) (far:∀(j i:Nat) (x:Str),ix[j]? =some i->N[own+j]? =some x->x≠y0)
 (hn:h'.Ns s.heap.objs.size m) (gJ:h'.IsCell (s.heap.objs.size+1) none) (k:∀b o,s.heap.get? b=some o->h'.get? b=some o):
 Inv (IN X sc N y0 cl s.heap.objs.size s H fp (X.pn++pins)) [] (Bs own ix σ) H {s with heap:=h',toks:=t'} where
 ok:=bR I hf Dt hk h1 h2
 os:=rfl
 bare:=I.bare
 base:=Un.kept k
 loc:=by
  refine ⟨m,hn,λi x v e1 e2 e3=> ?_⟩
  obtain ⟨XO,io,ei,es⟩:=Ec e2
  obtain ⟨y,ny,ey,oy,sy⟩:=F.out _ _ ei
  have exy:x=y:=by
   have e1':N[i]? =some x:=e1
   have ny':=ny
   rw [show own+(i-own)=i by omega,e1'] at ny'
   exact Option.some.inj ny'
  subst exy
  have ne:=far _ _ _ ei ny
  obtain ⟨m0,uF,nR⟩:=I.loc
  obtain ⟨u,r,l⟩:=nR io x v ey es (.inr (.inl oy))
  refine ⟨u,r, ?_⟩
  rcases l with ⟨z,_⟩|⟨_,c,ec,z⟩
  ·have z':X.env.scope.names.lookup x=some .local:=z
   rw [oy] at z'
   cases z'
  ·obtain ⟨c',ec'⟩:=h2 x (.inl sy)
   have ec2:cl.lookup x=some c':=by
    rcases eh ec' with ⟨e,_⟩|e
    ·exact absurd e ne
    ·exact e
   have:=h1 x c' ec2
   rw [ec] at this
   cases this
   obtain ⟨o,ho,hd⟩:=z
   exact .inr ⟨.inl sy,c,ec',o,k c o ho,hd⟩
 cell:=λx c e=>by
  rcases eh e with ⟨_,rfl⟩|e
  ·exact ⟨none,gJ⟩
  ·obtain ⟨v,o,ho,hd⟩:=I.cell x c (h1 x c e)
   exact ⟨v,o,k c o ho,hd⟩
 free:=I.hok.fresh (Nat.le_refl _)
 freeC:=λx c e=>by
  rcases eh e with ⟨_,rfl⟩|e
  ·exact I.hok.fresh (Nat.le_succ _)
  ·exact I.freeC x c (h1 x c e)
 pin:=λp hp=>by
  have FU:p∈X.pn++pins:=by simpa [IN,blk] using hp
  obtain ⟨a,b,c,d,e⟩:=I.pin p FU
  exact ⟨k _ _ a,b,Nat.ne_of_lt (Heap.lt_size a),I.notStk c d,e⟩
 hok:=I.hok.kept k
 len:=by rw [Ko];exact F.len.symm
theorem Yk {own:Nat} {ix:List Nat} {σ':St} {H':Hp} {s':Shared} {pins':List (Addr×Obj)} (I:Inv X pins σ H s) (hf:∀b∈fp,Dh X pins H b) (Dt:∀b∈fp,b<s.heap.objs.size)
 (B:Inv (IN X sc N y0 cl s.heap.objs.size s H fp (X.pn++pins)) pins' σ' H' s'):Inv X pins σ H' s':=
 I.call' (ch:=fp) B.os B.base B.hok B.bare λb hb=>⟨(hf b hb).2.2.2.1,(hf b hb).2.1,(hf b hb).2.2.2.2.1,(hf b hb).2.2.2.2.2⟩
end
section
variable {X:Cx} {tg elt iter:Expr} {ifs:List Expr} {scope:Scope} {pos:Pos} {wi:TI} {own:Nat} {ix:List Nat} {N:List Str} {y0:Str} {g:TG} {tt:TT} {te:TE}
structure L7 (X:Cx) (tg elt:Expr) (ifs:List Expr) (scope:Scope) (own:Nat) (ix:List Nat) (N:List Str) (y0:Str) (g:TG) (tt:TT) (te:TE):Prop where
 kind:scope.kind= .function
 cells:∀y∈scope.names,y.2= .cell->y.1=y0
 cf:∀n acc,cellsFrom n scope.names acc=(y0,n)::acc
 pc:∀h,pushCells h scope.names=h.push {cls:= .type "cell",data:= .cell none}
 far:∀(j i:Nat) (x:Str),ix[j]? =some i->N[own+j]? =some x->x≠y0
 names:∀y∈scope.names,y.2= .local->scope.names.lookup y.1=some .local
 frees:∀y∈scope.names,y.2= .free->X.env.scope.names.lookup y.1=some .cell
 ins:O3 X (relabel scope X.env) own ix N
 keep:Go own g
 tgt:∀cl C s H ex pn,PG (IN X (relabel scope X.env) N y0 cl C s H ex pn) tg g
 tst:∀cl C s H ex pn,Vg (IN X (relabel scope X.env) N y0 cl C s H ex pn) ifs tt
 val:∀cl C s H ex pn,PE (IN X (relabel scope X.env) N y0 cl C s H ex pn) elt te
theorem Jb {env:Env} {y:Str} {k:NameKind} (V9:∀y∈scope.names,y.2= .cell->y.1=y0) (h:(y,k)∈(relabel scope env).names) (hk:k= .cell\/k= .free):(y,NameKind.free)∈scope.names\/y=y0:=by
 obtain ⟨⟨n,k'⟩,hm,e⟩:=List.mem_map.mp (show (y,k)∈scope.names.map _ from h)
 dsimp only at e
 split at e
 ·rename_i hc
  cases e
  have:k'= .free:=by
   cases k' <;> simp_all
  subst this
  exact .inl hm
 ·cases e
  rcases hk with z|z
  ·subst z
   exact .inr (V9 _ hm rfl)
  ·subst z
   exact .inl hm
theorem UT {pins:List (Addr×Obj)} {σ:St} {H:Hp} {s:Shared} {fp:List Addr} {cl:List (Str×Addr)} {it:Addr} {tn:Nat->Heap->Prop} {J:It} {D:Addr} {R:Result->Shared->Prop} {Qh:Hp->Prop} {W:Nat->Nat->Hp->Prop}
 (hc:X.calm=true) (O:L7 X tg elt ifs scope own ix N y0 g tt te) (T:Ka X.prog X.w X.K tg J fp it tn) (I:Inv X pins σ H s) (hf:∀b∈fp,Dh X pins H b) (Dt:∀b∈fp,b<s.heap.objs.size)
 (hW:IP J D (Bs own ix σ) g tt te Qh W)
 (hR:∀σ' H' s',Inv (IN X (relabel scope X.env) N y0 cl s.heap.objs.size s H fp (X.pn++pins)) [] σ' H' s'->Qh H'->R (.ok .next) s')
 (n:Nat) (s0:Shared) (h0:∃i H',Inv (IN X (relabel scope X.env) N y0 cl s.heap.objs.size s H fp (X.pn++pins)) [] (Bs own ix σ) H' s0/\tn i s0.heap/\(∀b∈fp,H' b=none)/\W i n H'):
 codeAny (model X.prog X.w) X.A (.compLoop (.ListComp elt [⟨tg,iter,ifs,0⟩] scope pos) 0 (.ref it) (.ref D) (FE X.env (relabel scope X.env) ((y0,s.heap.objs.size+1)::cl) s.heap.objs.size)) R s0:=by
 refine codeAny_loop rfl (λn s'=>∃i H',Inv (IN X (relabel scope X.env) N y0 cl s.heap.objs.size s H fp (X.pn++pins)) [] (Bs own ix σ) H' s'/\tn i s'.heap/\(∀b∈fp,H' b=none)/\W i n H') (λn s1 h1=> ?_) n h0
 obtain ⟨i,H1,B1,st1,fr1,w1⟩:=h1
 generalize hY:IN X (relabel scope X.env) N y0 cl s.heap.objs.size s H fp (X.pn++pins)=Y at *
 have eA:Y.A=X.A:=by rw [<-hY];rfl
 have eP:Y.prog=X.prog:=by rw [<-hY];rfl
 have eW:Y.w=X.w:=by rw [<-hY];rfl
 have eK:Y.K=X.K:=by rw [<-hY];rfl
 have eE:FE X.env (relabel scope X.env) ((y0,s.heap.objs.size+1)::cl) s.heap.objs.size=Y.env:=by rw [<-hY];rfl
 have eX:Y.xe=λ_ _=>False:=by rw [<-hY];rfl
 have eC:Y.calm=true:=by rw [<-hY];exact hc
 have hg:PG Y tg g:=by rw [<-hY];exact O.tgt _ _ _ _ _ _
 have ht:Vg Y ifs tt:=by rw [<-hY];exact O.tst _ _ _ _ _ _
 have hv:PE Y elt te:=by rw [<-hY];exact O.val _ _ _ _ _ _
 have stat:∀{H':Hp},(∀b∈fp,H' b=none)->∀b∈fp,Dh Y [] H' b:=λ{H'} hn b hb=>by
  obtain ⟨_,a1,a2,a3,a4,a5⟩:=hf b hb
  refine ⟨hn b hb, ?_, ?_, ?_, ?_, ?_⟩
  ·rw [<-hY];exact Nat.ne_of_lt (Dt b hb)
  ·rw [<-hY];exact I.notStk a1 a2
  ·rw [<-hY];exact .inl hb
  ·intro x c e
   exact (B1.ok.exf b (by rw [<-hY];exact hb)).2 x c e
  ·intro p hp
   have:p∈X.pn++pins:=by rw [<-hY] at hp;simpa [IN,blk] using hp
   exact a5 p this
 rw [eE,<-eA,<-eP,<-eW]
 show wpAny _ _ ((compTurn (.ListComp elt [⟨tg,iter,ifs,0⟩] scope pos) 0 (.ref it) (.ref D) Y.env).onRaise (λx=>do noteFrame x Y.env;theTreesLotGoes x)) _ _ s1
 refine wpAny_noted ?_
 rw [compTurn_list]
 have ff:∀{α:Type} {t:Sem α} {Q:α->Shared->Prop} {E:Value->Shared->Prop} {s:Shared},wpAny (model Y.prog Y.w) Y.A t Q Y.xe s->wpAny (model Y.prog Y.w) Y.A t Q E s:=λh=>wpAny_mono h (λ_ _ q=>q) λ_ _ z=>by rw [eX] at z;exact z.elim
 refine wpAny_bind (wpAny_standAt (wpAny_bind ?_))
 rcases hW i n H1 w1 with ⟨stop,qn⟩|⟨go,step⟩
 ·have zd:=λE=>T.done Y eP eW eK eC i [] s1 _ H1 E B1 (stat fr1) st1 stop
  rw [<-eP,<-eW] at zd
  refine BV (zd _) λr s4 ⟨hr,I4⟩=> ?_
  subst hr
  exact wpAny_pure (hR _ _ _ I4 qn)
 ·have zi:=λE=>T.item Y eP eW eK eC i [] s1 _ H1 E B1 (stat fr1) st1 go
  rw [<-eP,<-eW] at zi
  refine BV (zi _) λr s4 ⟨u,hr,h4⟩=> ?_
  subst hr
  refine wpAny_bind (BV h4 λ_ s5 ⟨x,H5,I5,r5,y5,st5,fr5⟩=> ?_)
  have I5':=I5.pinned (stat fr5) (T.obj _ _ st5)
  refine wpAny_bind (BV (ff (hg _ s5 _ H5 x u _ I5' r5 (O.keep _ _ _ _ (step x H5 y5)))) λ_ s6 ⟨σ6,H6,I6,q6,l6,k6⟩=> ?_)
  refine wpAny_bind (BV (ff (ht _ s6 σ6 H6 _ I6 q6)) λok s7 ⟨H7,I7,q7⟩=> ?_)
  have back:∀{H8:Hp} {s8:Shared} {m':Nat},Inv Y ([] ++ FI fp s5.heap) σ6 H8 s8->m'<n->W (i+1) m' H8->
   ∃m,m<n/\∃i H',Inv Y [] (Bs own ix σ) H' s8/\tn i s8.heap/\(∀b∈fp,H' b=none)/\W i m H':=λ{H8 s8 m'} I8 hm w8=>by
   refine ⟨m',hm,i+1,H8,I8.unpinned.weak l6.symm (λj v hj=> ?_),T.keep _ _ _ st5 λb hb o e=>(I8.pin (b,o) (List.mem_append_right _ (List.mem_append_right _ (Bx hb e)))).1,λb hb=> ?_,w8⟩
   ·rw [k6 j (Ec hj).1]
    exact hj
   ·obtain ⟨o,e,d⟩:=T.obj _ _ st5 b hb
    exact (I8.pin (b,o) (List.mem_append_right _ (List.mem_append_right _ (Bx hb e)))).2.1
  cases ok with
  | false=>
    obtain ⟨m',hm,w8⟩:=q7
    exact wpAny_pure ⟨rfl,back I7 hm w8⟩
  | true=>
    refine wpAny_bind (wpAny_bind (BV (ff (hv _ s7 σ6 H7 _ I7 q7)) λyv s8 ⟨y,H8,I8,r8,ys,hD,hz,m',hm,w8⟩=> ?_))
    refine wpAny_bind (BV (ff (HJ _ s8 σ6 H8 (.ref D) [y] (.ref D) [yv] (λ_ H9=>H9=upd H8 D (.lst (ys ++ [y]))) I8 rfl (.cons r8 .nil) ⟨D,ys,y,rfl,rfl,hD,hz,rfl⟩)) λ_ s9 ⟨_,H9,I9,_,e9⟩=> ?_)
    subst e9
    exact wpAny_pure (wpAny_pure ⟨rfl,back I9 hm w8⟩)
theorem W9 {pins:List (Addr×Obj)} {σ:St} {H:Hp} {s:Shared} {use:Option (Value->Sem Unit)} {Q:Value->Shared->Prop} {it:Addr} {fp:List Addr} {cl:List (Str×Addr)} {tn:Nat->Heap->Prop} {J:It} {Qd:Addr->Hp->Prop}
 (hc:X.calm=true) (O:L7 X tg elt ifs scope own ix N y0 g tt te) (T:Ka X.prog X.w X.K tg J fp it tn) (I:Inv X pins σ H s) (hf:∀b∈fp,Dh X pins H b) (st:tn 0 s.heap)
 (h1:∀y c,cl.lookup y=some c->X.env.cells.lookup y=some c) (h2:∀y,(y,NameKind.free)∈scope.names->∃c,cl.lookup y=some c)
 (hq:∀D,H D=none->∃W:Nat->Nat->Hp->Prop,(∃m,W 0 m (upd H D (.lst [])))/\IP J D (Bs own ix σ) g tt te (Qd D) W)
 (hR:∀D C H' s',(∃m,s'.heap.Ns C m)->Inv X pins σ H' s'->(∀σ2 s2,Inv X pins σ2 H' s2->∀h',Heap.SameBut C s2.heap h'->Inv X pins σ2 H' {s2 with heap:=h'})->C≠X.env.locals->(∀x c,X.env.cells.lookup x=some c->C≠c)->Qd D H'->
   compPost (model X.prog X.w) X.A X.xe use Q (.ref D) C (.ok .next) s'):
 wpAny (model X.prog X.w) X.A (newList []) (λacc s₃=>wpAny (model X.prog X.w) X.A (newFunctionEnv scope X.env.globals cl [] X.env.qual none .none (some X.env)) (λcenv s₄=>
  codeAny (model X.prog X.w) X.A (.compStart (.ListComp elt [⟨tg,iter,ifs,0⟩] scope pos) 0 (.ref it) acc {cenv with scope:=relabel scope X.env}) (compPost (model X.prog X.w) X.A X.xe use Q acc cenv.locals) s₄) X.xe s₃) X.xe s:=by
 refine wpAny_newObj_type ?_ (by simp [sizeOk])
 have I3:Inv X pins σ (upd H s.heap.objs.size (.lst [])) {s with heap:=s.heap.push {cls:= .type "list",data:= .seq ([] :List Value).toArray}}:=I.lnew (t':=s.toks) .nil (Nat.zero_le _)
 have Uj:=I.fresh
 obtain ⟨W,⟨m0,w0⟩,hW⟩:=hq _ Uj
 have ZD:∀b∈fp,b<s.heap.objs.size:=λb hb=>by
  obtain ⟨o,e,_⟩:=T.obj _ _ st b hb
  exact Heap.lt_size e
 have V6:∀b∈fp,Dh X pins (upd H s.heap.objs.size (.lst [])) b:=λb hb=>by
  obtain ⟨a0,ar⟩:=hf b hb
  exact ⟨by rw [Af (Nat.ne_of_lt (ZD b hb))];exact a0,ar⟩
 generalize j8:({s with heap:=s.heap.push {cls:= .type "list",data:= .seq ([] :List Value).toArray}}:Shared)=s3 at I3
 have st3:tn 0 s3.heap:=T.keep _ _ _ st λb hb o e=>by rw [<-j8];exact Heap.get?_push_of_some _ e
 have Dt:∀b∈fp,b<s3.heap.objs.size:=λb hb=>by
  obtain ⟨o,e,_⟩:=T.obj _ _ st3 b hb
  exact Heap.lt_size e
 refine ZV O.cf O.pc ?_
 have kp:∀b o,s3.heap.get? b=some o->(F3 s3.heap).get? b=some o:=λb o e=>On e
 have eQ:=U7 (h:=s3.heap)
 have gJ:=Q3 (h:=s3.heap)
 have jy:∀y,((relabel scope X.env).names.lookup y=some .cell\/(relabel scope X.env).names.lookup y=some .free)->∃c,((y0,s3.heap.objs.size+1)::cl).lookup y=some c:=λy hy=>by
  have go:(y,NameKind.free)∈scope.names\/y=y0:=by
   rcases hy with z|z
   ·exact Jb O.cells (G0 z) (.inl rfl)
   ·exact Jb O.cells (G0 z) (.inr rfl)
  rw [List.lookup_cons]
  cases hb:y==y0 with
  | true=>exact ⟨_,rfl⟩
  | false=>
    rcases go with z|z
    ·exact h2 y z
    ·rw [z] at hb;simp at hb
 have B:=bQ (N:=N) (t':=s3.toks) I3 V6 Dt (sc:=relabel scope X.env) O.kind h1 jy O.ins O.far eQ gJ kp
 have st4:tn 0 (F3 s3.heap):=T.keep _ _ _ st3 λb hb o e=>kp b o e
 have loop:∀s4:Shared,s4={s3 with heap:=F3 s3.heap}->
  codeAny (model X.prog X.w) X.A (.compLoop (.ListComp elt [⟨tg,iter,ifs,0⟩] scope pos) 0 (.ref it) (.ref s.heap.objs.size) (FE X.env (relabel scope X.env) ((y0,s3.heap.objs.size+1)::cl) s3.heap.objs.size)) (compPost (model X.prog X.w) X.A X.xe use Q (.ref s.heap.objs.size) s3.heap.objs.size) s4:=by
  rintro s4 rfl
  refine UT (cl:=cl) (Qh:=Qd s.heap.objs.size) hc O T I3 V6 Dt hW (λσ' H' s' B' q'=> ?_) m0 _ ⟨0,_,B,st4,λb hb=>(V6 b hb).1,w0⟩
  refine hR _ _ H' s' (let ⟨m,hm,_⟩:=B'.loc;⟨m,hm⟩) (Yk (own:=own) (ix:=ix) I3 V6 Dt B') (λσ2 s2 I2 h' hs=>NB I3 rfl I2 B'.free hs) (Nat.ne_of_gt I3.lt) (λx c e=>Nat.ne_of_gt (I3.szLt e)) q'
 exact codeAny_compStart_list (loop _ rfl) (T.self _ 0 _ _ _ st4 (loop _ rfl))
theorem Zh (hc:X.calm=true) (hi:PI X tg iter wi) (O:L7 X tg elt ifs scope own ix N y0 g tt te) (hs:∀x,foldedSetIterable iter X.env x=pure x:=by intro _;rfl):
 PE X (.ListComp elt [⟨tg,iter,ifs,0⟩] scope pos) (Wj wi own ix g tt te):=by
 intro pins s σ H Q I h
 obtain ⟨cl,NN,h1,h2⟩:=Fx (env:=X.env) (scope:=scope) λy hy e=>I.ok.has y.1 (.inl (O.frees y hy e))
 rw [eval_ListComp]
 refine wpAny_comprehension_free (use:=none) rfl hs NN O.kind O.names (BV (hi pins s σ H _ I h) λv s1 hv=>BV hv λitv s2 cI=> ?_)
 obtain ⟨it,fp,tn,J,H2,rfl,I2,T,st2,f2,q⟩:=cI
 exact W9 (Qd:=λD H'=>Q (.ref D) H') hc O T I2 f2 st2 h1 h2 q λD C H' s' hn I' gone nl nc q'=>by
  obtain ⟨m,hm⟩:=hn
  exact ⟨m,hm,λh' hs=>⟨.ref D,H',gone σ s' I' h' hs,rfl,q'⟩⟩
end
end L2
end
section
namespace PL
open PySem PySem.Spec PyProof.Rows L2
section
variable {X:Cx} {ta:AE} {pos:Pos}
structure YN (X:Cx) (tg elt:Expr) (ifs:List Expr) (scope:Scope) (own:Nat) (ix:List Nat) (N:List Str) (y0:Str) (g:AG) (t:AT) (te:AE):Prop where
 ex:∃g' t' te',L7 X tg elt ifs scope own ix N y0 g' t' te'/\JC X.K g' g/\Ln X.K t' t/\Fv X.K te' te
theorem aB {tg elt iter:Expr} {ifs:List Expr} {scope:Scope} {own:Nat} {ix:List Nat} {N:List Str} {y0:Str} {g:AG} {t:AT} {s:Bool} {ai:AI} (hc:X.calm=true) (hi:SI X tg iter s ai) (O:YN X tg elt ifs scope own ix N y0 g t ta) (hs:∀x,foldedSetIterable iter X.env x=pure x:=by intro _;rfl):
 SF X (.ListComp elt [⟨tg,iter,ifs,0⟩] scope pos) (Cw ai own ix g t ta):=by
 obtain ⟨wi,pi,si⟩:=hi
 obtain ⟨g',t',te',O,sg,st,se⟩:=O.ex
 exact ⟨_,Zh hc pi O hs,N0 si sg st se⟩
theorem bV {tg elt:Expr} {ifs:List Expr} {scope:Scope} {own:Nat} {ix:List Nat} {N:List Str} (y0:Str) {g:AG} {t:AT} {te:AE} (h1:scope.kind= .function) (h2:(scope.names.all λy=> !decide (y.2= .cell)||decide (y.1=y0))=true)
 (cf:∀n acc,cellsFrom n scope.names acc=(y0,n)::acc) (pc:∀h,pushCells h scope.names=h.push {cls:= .type "cell",data:= .cell none})
 (h3:(scope.names.all λy=> !decide (y.2= .local)||decide (scope.names.lookup y.1=some .local))=true)
 (h4:(scope.names.all λy=> !decide (y.2= .free)||decide (X.env.scope.names.lookup y.1=some .cell))=true) (h5:N.length=own+ix.length) (h6:NH X (relabel scope X.env) own ix N=true)
 (h7:((N.drop own).all λx=> !decide (x=y0))=true)
 (tgt:∀cl C s H ex pn,SK own (IN X (relabel scope X.env) N y0 cl C s H ex pn) tg g)
 (tst:∀cl C s H ex pn,d8 (IN X (relabel scope X.env) N y0 cl C s H ex pn) ifs t)
 (val:∀cl C s H ex pn,SE (IN X (relabel scope X.env) N y0 cl C s H ex pn) elt te):YN X tg elt ifs scope own ix N y0 g t te:=by
 refine ⟨gD X.K own g,jF X.K t,i7 X.K te,⟨h1,λy hy e=> ?_,cf,pc,λj i x hj hx=> ?_,λy hy e=> ?_,λy hy e=> ?_,SZ h5 h6,JS,λcl C s H ex pn=>(tgt cl C s H ex pn).of,λcl C s H ex pn=>(tst cl C s H ex pn).of,λcl C s H ex pn=>(val cl C s H ex pn).of⟩,MN,MO,RO⟩
 ·have:=List.all_eq_true.mp h2 y hy
  simpa [e] using this
 ·have hm:x∈N.drop own:=List.mem_of_getElem? (i:=j) (by rw [List.getElem?_drop];exact hx)
  have:=List.all_eq_true.mp h7 x hm
  simpa using this
 ·have:=List.all_eq_true.mp h3 y hy
  simpa [e] using this
 ·have:=List.all_eq_true.mp h4 y hy
  simpa [e] using this
end
end PL
end
section
namespace L2
open PySem PySem.Spec PyProof.Rows
section
variable {X:Cx}
end
end L2
namespace PL
open PySem PySem.Spec PyProof.Rows L2
section
variable {X:Cx}
end
end PL
end
section
namespace PL
open PySem L2 PyProof.Rows
class Yc (Ts:List String):Prop where
 q:Ts.any (Qc .tup)=true/\Ts.any (Qc .lst)=true/\Ts.any (Qc .int)=false/\Ts.any (Qc .bl)=false/\Ts.any (Qc .non)=false/\Ts.any (Qc .str)=false
instance:Yc ["tuple","list"] :=⟨by decide⟩
instance:Yc ["list","tuple"] :=⟨by decide⟩
section
variable {Ts:List String} [h:Yc Ts] {Q:PV->Prop} {xs:List PV}
end
end PL
end
section
namespace L2
open PySem PySem.Spec PyProof.Rows
section
variable {κ:Type} [DecidableEq κ]
def El (kvs:List (κ×V)) (k:κ):Option V:=(kvs.find? λkv=>decide (kv.1=k)).map (·.2)
def G2 (kvs:List (κ×V)) (k:κ) (v:V):List (κ×V):=
 if (kvs.any λkv=>decide (kv.1=k))=true then kvs.map (λkv=>if kv.1=k then (kv.1,v) else kv) else kvs ++ [(k,v)]
def eI (kvs:List (κ×V)) (k:κ):List (κ×V):=kvs.filter λkv=>decide (kv.1≠k)
theorem J3 {p:κ×V} {r:List (κ×V)} {k:κ} (e:p.1=k):El (p::r) k=some p.2:=by simp [El,List.find?_cons,e]
theorem J1 {p:κ×V} {r:List (κ×V)} {k:κ} (e:¬p.1=k):El (p::r) k=El r k:=by simp [El,List.find?_cons,e]
theorem N8 (k:κ):∀kvs:List (κ×V),(kvs.any λkv=>decide (kv.1=k))=(El kvs k).isSome
 | [] =>rfl
 | p::r=>by
   rw [List.any_cons]
   by_cases e:p.1=k
   ·simp only [J3 e,decide_eq_true e,Bool.true_or,Option.isSome_some]
   ·rw [J1 e,decide_eq_false e,Bool.false_or];exact N8 k r
theorem S3 (kvs:List (κ×V)) (k:κ) (v:V):(G2 kvs k v).length<=kvs.length+1:=by
 unfold G2
 split
 ·rw [List.length_map];omega
 ·rw [List.length_append,List.length_cons,List.length_nil];omega
theorem Lm.isSome_eq {o:Option V} {u:Option Value} (r:Lm o u):o.isSome=u.isSome:=by
 cases o with
 | none=>cases u with
   | none=>rfl
   | some _=>exact (show False from r).elim
 | some _=>cases u with
   | none=>exact (show False from r).elim
   | some _=>rfl
theorem Lm.getD {o:Option V} {u:Option Value} {d:V} {d':Value} (r:Lm o u) (rd:RelV d d'):RelV (o.getD d) (u.getD d'):=by
 cases o with
 | none=>cases u with
   | none=>exact rd
   | some _=>exact (show False from r).elim
 | some _=>cases u with
   | none=>exact (show False from r).elim
   | some _=>exact r
theorem KV.val {kvs:List (κ×V)} {vs:List (κ×Value)} (r:KV kvs vs) (k:κ):Lm (El kvs k) (valueAt vs k):=by
 unfold KV at r
 induction r with
 | nil=>exact True.intro
 | @cons p q ps qs h t ih=>
   obtain ⟨h1,h2⟩:=h
   by_cases e:p.1=k
   ·have e':q.1=k:=h1.symm.trans e
    have b:valueAt (q::qs) k=some q.2:=by simp [valueAt,List.find?_cons,e']
    rw [J3 e,b];exact h2
   ·have e':¬q.1=k:=λz=>e (h1.trans z)
    have b:valueAt (q::qs) k=valueAt qs k:=by simp [valueAt,List.find?_cons,e']
    rw [J1 e,b];exact ih
theorem KV.any {kvs:List (κ×V)} {vs:List (κ×Value)} (r:KV kvs vs) (k:κ):(kvs.any λkv=>decide (kv.1=k))=vs.any λkv=>decide (kv.1=k):=by
 unfold KV at r
 induction r with
 | nil=>rfl
 | cons h t ih=>rw [List.any_cons,List.any_cons,ih,h.1]
theorem KV.repl {kvs:List (κ×V)} {vs:List (κ×Value)} (r:KV kvs vs) (k:κ) {y:V} {u:Value} (ry:RelV y u):
 KV (kvs.map λkv=>if kv.1=k then (kv.1,y) else kv) (vs.map λkv=>if kv.1=k then (kv.1,u) else kv):=by
 unfold KV at r ⊢
 induction r with
 | nil=>exact .nil
 | @cons p q ps qs h t ih=>
   rw [List.map_cons,List.map_cons]
   refine .cons ?_ ih
   obtain ⟨h1,h2⟩:=h
   by_cases e:p.1=k
   ·rw [if_pos e,if_pos (h1.symm.trans e)];exact ⟨h1,ry⟩
   ·rw [if_neg e,if_neg (λz=>e (h1.trans z))];exact ⟨h1,h2⟩
theorem KV.put {kvs:List (κ×V)} {vs:List (κ×Value)} (r:KV kvs vs) (k:κ) {y:V} {u:Value} (ry:RelV y u):KV (G2 kvs k y) (stored vs k u):=by
 unfold G2 stored
 rw [r.any k]
 by_cases e:(vs.any λkv=>decide (kv.1=k))=true
 ·rw [if_pos e,if_pos e];exact r.repl k ry
 ·rw [if_neg e,if_neg e];exact Paired.snoc r ⟨rfl,ry⟩
theorem KV.drop {kvs:List (κ×V)} {vs:List (κ×Value)} (r:KV kvs vs) (k:κ):KV (eI kvs k) (without vs k):=by
 unfold KV at r ⊢
 unfold eI without
 induction r with
 | nil=>exact .nil
 | @cons p q ps qs h t ih=>
   obtain ⟨h1,h2⟩:=h
   rw [List.filter_cons,List.filter_cons]
   by_cases e:p.1=k
   ·have a:¬decide (p.1≠k)=true:=by simp [e]
    have b:¬decide (q.1≠k)=true:=by simp [h1.symm.trans e]
    rw [if_neg a,if_neg b];exact ih
   ·have e':¬q.1=k:=λz=>e (h1.trans z)
    have a:decide (p.1≠k)=true:=by simp [e]
    have b:decide (q.1≠k)=true:=by simp [e']
    rw [if_pos a,if_pos b];exact .cons ⟨h1,h2⟩ ih
theorem KV.keys {kvs:List (κ×V)} {vs:List (κ×Value)} (r:KV kvs vs):kvs.map (·.1)=vs.map (·.1):=by
 unfold KV at r
 induction r with
 | nil=>rfl
 | cons h t ih=>rw [List.map_cons,List.map_cons,ih,h.1]
theorem KV.length {kvs:List (κ×V)} {vs:List (κ×Value)} (r:KV kvs vs):kvs.length=vs.length:=Paired.length r
end
abbrev KT (H:Hp):List (List FS×V)->List (List FS×Addr×Value)->Prop:=Paired λp q=>p.1=q.1/\H q.2.1=some (.tup (p.1.map kV))/\RelV p.2 q.2.2
theorem KT.val {H:Hp} {kvs:List (List FS×V)} {xs:List (List FS×Addr×Value)} (r:KT H kvs xs) (k:List FS):Lm (El kvs k) ((atKey xs k).map (·.2)):=by
 induction r with
 | nil=>exact True.intro
 | @cons p q ps qs h t ih=>
   obtain ⟨h1,_,h2⟩:=h
   by_cases e:p.1=k
   ·have e':q.1=k:=h1.symm.trans e
    have b:atKey (q::qs) k=some q.2:=by simp [atKey,List.find?_cons,e']
    rw [J3 e,b];exact h2
   ·have e':¬q.1=k:=λz=>e (h1.trans z)
    have b:atKey (q::qs) k=atKey qs k:=by simp [atKey,List.find?_cons,e']
    rw [J1 e,b];exact ih
theorem KT.repl {H:Hp} {kvs:List (List FS×V)} {xs:List (List FS×Addr×Value)} (r:KT H kvs xs) (k:List FS) {y:V} {u:Value} (ry:RelV y u):
 KT H (kvs.map λkv=>if kv.1=k then (kv.1,y) else kv) (xs.map (putAt k u)):=by
 induction r with
 | nil=>exact .nil
 | @cons p q ps qs h t ih=>
   rw [List.map_cons,List.map_cons]
   refine .cons ?_ ih
   obtain ⟨h1,h2,h3⟩:=h
   unfold putAt
   by_cases e:p.1=k
   ·rw [if_pos e,if_pos (h1.symm.trans e)];exact ⟨h1,h2,ry⟩
   ·rw [if_neg e,if_neg (λz=>e (h1.trans z))];exact ⟨h1,h2,h3⟩
theorem KT.put {H:Hp} {kvs:List (List FS×V)} {xs:List (List FS×Addr×Value)} (r:KT H kvs xs) (k:List FS) {b:Addr} {y:V} {u:Value} (hb:H b=some (.tup (k.map kV))) (ry:RelV y u):
 KT H (G2 kvs k y) (storedH xs k b u):=by
 have e:(kvs.any λkv=>decide (kv.1=k))=(atKey xs k).isSome:=by
  rw [N8,(r.val k).isSome_eq,Option.isSome_map]
 unfold G2 storedH
 rw [e]
 by_cases q:(atKey xs k).isSome=true
 ·rw [if_pos q,if_pos q];exact r.repl k ry
 ·rw [if_neg q,if_neg q];exact Paired.snoc r ⟨rfl,hb,ry⟩
theorem KT.keeps {H H':Hp} {kvs:List (List FS×V)} {xs:List (List FS×Addr×Value)} (r:KT H kvs xs) (ht:∀b ys,H b=some (.tup ys)->H' b=some (.tup ys)):KT H' kvs xs:=
 Paired.mapP r λ_ _ z=>⟨z.1,ht _ _ z.2.1,z.2.2⟩
section
variable {P:Program} {w:World} {H:Hp} {h:Heap} {a:Addr}
end
def bC (H:Hp) (a:Addr) (y:V) (r:Option V):Prop:=
 (∃kvs k,Rd H a (.dK kvs)/\y=kV k/\r=El kvs k)\/∃kvs k b,Rd H a (.dT kvs)/\y= .ref b/\H b=some (.tup (k.map kV))/\r=El kvs k
def bD (H:Hp) (a:Addr) (y v:V) (H':Hp):Prop:=
 (∃kvs k,H a=some (.dK kvs)/\y=kV k/\kvs.length<sizeLine/\H'=upd H a (.dK (G2 kvs k v)))\/
 ∃kvs k b,H a=some (.dT kvs)/\y= .ref b/\H b=some (.tup (k.map kV))/\kvs.length<sizeLine/\H'=upd H a (.dT (G2 kvs k v))
theorem bC.k {H:Hp} {a:Addr} {kvs:List (FS×V)} {k:FS} (e:H a=some (.dK kvs)):bC H a (kV k) (El kvs k):= .inl ⟨kvs,k, .inl e,rfl,rfl⟩
theorem bC.t {H:Hp} {a b:Addr} {kvs:List (List FS×V)} {k:List FS} (e:H a=some (.dT kvs)) (eb:H b=some (.tup (k.map kV))):bC H a (.ref b) (El kvs k):= .inr ⟨kvs,k,b, .inl e,rfl,eb,rfl⟩
theorem bD.k {H:Hp} {a:Addr} {kvs:List (FS×V)} {k:FS} {v:V} (e:H a=some (.dK kvs)) (hl:kvs.length<sizeLine):bD H a (kV k) v (upd H a (.dK (G2 kvs k v))):= .inl ⟨kvs,k,e,rfl,hl,rfl⟩
theorem bD.t {H:Hp} {a b:Addr} {kvs:List (List FS×V)} {k:List FS} {v:V} (e:H a=some (.dT kvs)) (eb:H b=some (.tup (k.map kV))) (hl:kvs.length<sizeLine):
 bD H a (.ref b) v (upd H a (.dT (G2 kvs k v))):= .inr ⟨kvs,k,b,e,rfl,eb,hl,rfl⟩
section
variable {X:Cx} {pins:List (Addr×Obj)} {σ:St} {H:Hp} {s:Shared} {a:Addr} {y v:V} {u r:Value} {o:Option V} {A:Around} {E:Value->Shared->Prop}
theorem Inv.big (I:Inv X pins σ H s):sysModules<s.heap.objs.size:=by
 have h:mainGlobals<s.heap.objs.size:=(I.mod.glob.keeps I.bk).lt
 exact Nat.lt_trans (by decide) h
theorem bW {h':Heap} {t':Nat} {ob:HO} (I:Inv X pins σ H s) (mu:ja (H a)) (hs:Heap.SameBut a s.heap h') (he:∃q,h'.get? a=some q) (new:Cv X.prog X.w (upd H a ob) h' a ob):
 Inv X pins σ (upd H a ob) {s with heap:=h',toks:=t'}:=
 I.write (x:=a) (e:=a) mu (.inl rfl) (λb q hb z=>(hs.2 b hb).trans z) he new
end
section
variable {X:Cx} {pins:List (Addr×Obj)} {σ:St} {H:Hp} {s:Shared} {a:Addr} {kvs:List (FS×V)} {k:FS} {u:Value} {A:Around} {E:Value->Shared->Prop}
end
def fU (i:Expr):Prop:=∀ov iv,subscripted i false ov iv=operate [ov,iv] (getItem ov iv)
theorem dY {prog:Program} {w:World} {A:Around} {E:Value->Shared->Prop} {s:Shared} {env:Env} {value slice:Expr} {pos:Pos} {T id:String} {Q:Value->Shared->Prop}
 (hl:typeLookup (.type T) "__getitem__" =pure (some (.builtin id))) (hs:fU slice)
 (h:wpAny (model prog w) A (eval value env) (λo s₁=>wpAny (model prog w) A (eval slice env) (λi s₂=>s₂.TypeIs o T/\wpAny (model prog w) A (getItem o i) Q E s₂) E s₁) E s):
 wpAny (model prog w) A (eval (.Subscript value slice pos) env) Q E s:=by
 refine Subscript_ (wpAny_mono h (λo s₁ h₁=>wpAny_mono h₁ (λi s₂ h₂=> ?_) λ_ _ x=>x) λ_ _ x=>x)
 obtain ⟨hT,h₂⟩:=h₂
 unfold subscriptTail
 refine wpAny_bind ?_
 rw [getitemInPython_of_ne hT.not_modules]
 refine wpAny_bind (wpAny_specialOf hT hl ?_)
 have fin:wpAny (model prog w) A (subscripted slice false o i) (λr s₃=>wpAny (model prog w) A (letTemporaryGo value o r >>= λ_=>pure r) Q E s₃) E s₂:=by
  rw [hs o i]
  exact wpAny_operating (wpAny_mono h₂ (λr s₃ h₃=>wpAny_bind (wpAny_letTemporaryGo (wpAny_pure h₃))) λ_ _ x=>x)
 first
  | exact wpAny_pure (wpAny_bind fin)
  | exact wpAny_bind (wpAny_pure (wpAny_bind fin))
  | exact wpAny_bind fin
section
variable {X:Cx} {o i e value:Expr} {pos pos' tpos:Pos} {td ty tv:TE}
end
section
variable {X:Cx} {pos:Pos}
end
structure M1 (X:Cx) (o:Expr) (m:Str) (apos:Pos) (e:Expr) (cpos:Pos):Prop where
 base:attributeBase o m X.env (eval o X.env)=eval o X.env
 few:((backTo cpos (starEach [e] X.env)).all (λx=> !x.1)&&(backToKw cpos (keywordEach [] X.env)).all (λx=>x.1.isSome)
  && decide (([e] :List Expr).length+([] :List Keyword).length+(if ([] :List Keyword).isEmpty then 0 else 1)<30))=true
 line:(apos.endLine==cpos.line)=true
 trees:backTo cpos (starEach [e] X.env)= [(false,eval e X.env)]
structure M2 (X:Cx) (o:Expr) (m:Str) (apos:Pos) (e f:Expr) (cpos:Pos):Prop where
 base:attributeBase o m X.env (eval o X.env)=eval o X.env
 few:((backTo cpos (starEach [e,f] X.env)).all (λx=> !x.1)&&(backToKw cpos (keywordEach [] X.env)).all (λx=>x.1.isSome)
  && decide (([e,f] :List Expr).length+([] :List Keyword).length+(if ([] :List Keyword).isEmpty then 0 else 1)<30))=true
 line:(apos.endLine==cpos.line)=true
 trees:backTo cpos (starEach [e,f] X.env)= [(false,eval e X.env),(false,eval f X.env)]
section
variable {X:Cx} {pins:List (Addr×Obj)} {σ:St} {H:Hp} {s:Shared} {a:Addr} {y d:V} {u r:Value} {o:Option V} {A:Around} {E:Value->Shared->Prop}
end
section
variable {X:Cx} {o e f:Expr} {apos cpos:Pos} {td ty tx:TE}
end
section
variable {X:Cx} {pins:List (Addr×Obj)} {σ:St} {H:Hp} {s:Shared} {a:Addr} {kvs:List (FS×V)} {A:Around} {E:Value->Shared->Prop}
end
section
variable {X:Cx} {pins:List (Addr×Obj)} {σ:St} {H:Hp} {s:Shared} {a:Addr} {y:V} {u:Value} {A:Around} {E:Value->Shared->Prop}
end
end L2
end
section
namespace L2
open PySem PySem.Spec PyProof.Rows
abbrev KN (K:PySem.W.Frag) (H:Hp):List (FK×V)->List (FK×Addr×Value)->Prop:=Paired λp q=>p.1=q.1/\Fu K H q.2.1 p.1/\RelV p.2 q.2.2
theorem KN.val {K:PySem.W.Frag} {H:Hp} {kvs:List (FK×V)} {xs:List (FK×Addr×Value)} (r:KN K H kvs xs) (k:FK):Lm (El kvs k) ((atKey xs k).map (·.2)):=by
 induction r with
 | nil=>exact True.intro
 | @cons p q ps qs h t ih=>
   obtain ⟨h1,_,h2⟩:=h
   by_cases e:p.1=k
   ·have e':q.1=k:=h1.symm.trans e
    have b:atKey (q::qs) k=some q.2:=by simp [atKey,List.find?_cons,e']
    rw [J3 e,b];exact h2
   ·have e':¬q.1=k:=λz=>e (h1.trans z)
    have b:atKey (q::qs) k=atKey qs k:=by simp [atKey,List.find?_cons,e']
    rw [J1 e,b];exact ih
theorem KN.repl {K:PySem.W.Frag} {H:Hp} {kvs:List (FK×V)} {xs:List (FK×Addr×Value)} (r:KN K H kvs xs) (k:FK) {y:V} {u:Value} (ry:RelV y u):
 KN K H (kvs.map λkv=>if kv.1=k then (kv.1,y) else kv) (xs.map (putAt k u)):=by
 induction r with
 | nil=>exact .nil
 | @cons p q ps qs h t ih=>
   rw [List.map_cons,List.map_cons]
   refine .cons ?_ ih
   obtain ⟨h1,h2,h3⟩:=h
   unfold putAt
   by_cases e:p.1=k
   ·rw [if_pos e,if_pos (h1.symm.trans e)];exact ⟨h1,h2,ry⟩
   ·rw [if_neg e,if_neg (λz=>e (h1.trans z))];exact ⟨h1,h2,h3⟩
theorem KN.put {K:PySem.W.Frag} {H:Hp} {kvs:List (FK×V)} {xs:List (FK×Addr×Value)} (r:KN K H kvs xs) (k:FK) {b:Addr} {y:V} {u:Value} (hb:Fu K H b k) (ry:RelV y u):
 KN K H (G2 kvs k y) (storedH xs k b u):=by
 have e:(kvs.any λkv=>decide (kv.1=k))=(atKey xs k).isSome:=by
  rw [N8,(r.val k).isSome_eq,Option.isSome_map]
 unfold G2 storedH
 rw [e]
 by_cases q:(atKey xs k).isSome=true
 ·rw [if_pos q,if_pos q];exact r.repl k ry
 ·rw [if_neg q,if_neg q];exact Paired.snoc r ⟨rfl,hb,ry⟩
theorem KN.keeps {K:PySem.W.Frag} {H H':Hp} {kvs:List (FK×V)} {xs:List (FK×Addr×Value)} (r:KN K H kvs xs) (ht:∀b ys,H b=some (.tup ys)->H' b=some (.tup ys)):KN K H' kvs xs:=
 Paired.mapP r λ_ _ z=>⟨z.1,z.2.1.stay ht,z.2.2⟩
section
variable {P:Program} {w:World} {H:Hp} {h:Heap} {a:Addr} {K:PySem.W.Frag}
theorem JT {k:FK} (ok:Ll P w H h) (kin:K.In h) (e:Fu K H a k):(fkKind P w).is h k a:=by
 obtain ⟨b,h1,h2⟩:=e
 obtain ⟨_,its,r,o,g1,g2,n,g3⟩:=(show Cv P w H h a (.tup [.ref b, .int k.2]) from ok a _ h1)
 cases r with
 | cons r1 r=>
 cases r with
 | cons r2 r=>
 cases r
 cases r1
 obtain ⟨u,rfl⟩:=r2
 have two:∀{us:List Value},Ax [.int k.1.1, .int k.1.2] us->ItemsAre (intKind P w) [k.1.1,k.1.2] us:=λhv=>by
  cases hv with
  | cons q1 hv=>
  cases hv with
  | cons q2 hv=>
  cases hv
  obtain ⟨u1,rfl⟩:=q1
  obtain ⟨u2,rfl⟩:=q2
  exact .cons (by simp [intKind,Value.isInt]) (.cons (by simp [intKind,Value.isInt]) .nil)
 refine ⟨o,_,n,b,u,g1,g2,g3,by simp, ?_⟩
 rcases h2 with h2|⟨ob,its2,n2,l1,l2,l3,l4⟩
 ·obtain ⟨_,its2,r2,o2,f1,f2,n2,f3⟩:=(show Cv P w H h b (.tup [.int k.1.1, .int k.1.2]) from ok b _ h2)
  exact ⟨o2,its2.toArray,n2,f1,f2,f3,by simpa using two r2⟩
 ·exact ⟨ob,its2,n2,kin b ob l1,l2,l3,two l4⟩
theorem PH {kvs:List (FK×V)} (ok:Ll P w H h) (kin:K.In h) (e:H a=some (.dN K kvs)):kvs.length<=sizeLine/\(a==sysModules)=false/\∃xs,KN K H kvs xs/\h.DictOfH (fkKind P w) a xs:=by
 obtain ⟨z,y,xs,r,o,es,ep,h1,h2,h3,h4,h5⟩:=(show Cv P w H h a (.dN K kvs) from ok a _ e)
 refine ⟨z,y,xs,r,o,es,ep,h1,h2,h3,h4,λx hx=> ?_,h5⟩
 have all:∀{l:List (FK×V)} {m:List (FK×Addr×Value)},KN K H l m->∀x∈m,(fkKind P w).is h x.1 x.2.1:=by
  intro l m q
  induction q with
  | nil=>intro x hx;exact nomatch hx
  | @cons p q ps qs hq t ih=>
    intro x hx
    rcases List.mem_cons.mp hx with e|hx
    ·subst e
     exact JT ok kin (by rw [<-hq.1];exact hq.2.1)
    ·exact ih x hx
 exact all r x hx
end
section
variable {X:Cx} {pins:List (Addr×Obj)} {σ:St} {H:Hp} {s:Shared} {a b:Addr} {v d:V} {r:Value} {kvs:List (FK×V)} {k:FK} {A:Around} {E:Value->Shared->Prop}
theorem Xb {Q:Value->Shared->Prop} (hu:A.units+2<cLine) (I:Inv X pins σ H s) (e:H a=some (.dN X.K kvs)) (hb:Fu X.K H b k) (l:El kvs k=some v) (h:∀w' s',Inv X pins σ H s'->RelV v w'->Q w' s'):
 wpAny (model X.prog X.w) A (getItem (.ref a) (.ref b)) Q E s:=by
 obtain ⟨z,hd,xs,rel,dd⟩:=PH I.hok I.kIn e
 obtain ⟨w',hw,rw'⟩:=Lm.some_of (v:=v) (o:=(atKey xs k).map (·.2)) (by rw [<-l];exact rel.val k)
 obtain ⟨p,hp,j7⟩:=Option.map_eq_some_iff.mp hw
 refine wpAny_getItem_heap (C0 hu) (JT I.hok I.kIn hb) dd hp ?_
 rw [j7]
 exact h w' _ (I.tok _) rw'
theorem n9 {Q:Value->Shared->Prop} (hu:A.units+2<cLine) (I:Inv X pins σ H s) (e:H a=some (.dN X.K kvs)) (hb:Fu X.K H b k) (h:∀s',Inv X pins σ H s'->Q (.bool (El kvs k).isSome) s'):
 wpAny (model X.prog X.w) A (compareOp .In (.ref b) (.ref a)) Q E s:=by
 obtain ⟨z,hd,xs,rel,dd⟩:=PH I.hok I.kIn e
 refine wpAny_in_heap (C0 hu) (JT I.hok I.kIn hb) hd dd ?_
 have q:=(rel.val k).isSome_eq
 rw [Option.isSome_map] at q
 rw [<-q]
 exact h _ (I.tok _)
theorem Xc {Q:Unit->Shared->Prop} (hu:A.units+2<cLine) (I:Inv X pins σ H s) (e:H a=some (.dN X.K kvs)) (hb:Fu X.K H b k) (hl:kvs.length<sizeLine) (rv:RelV v r) (h:∀s',Inv X pins σ (upd H a (.dN X.K (G2 kvs k v))) s'->Q () s'):
 wpAny (model X.prog X.w) A (setItem (.ref a) (.ref b) r) Q E s:=by
 obtain ⟨z,hd,xs,rel,dd⟩:=PH I.hok I.kIn e
 have hz:xs.length<=sizeLine:=by rw [<-Paired.length rel];exact z
 have hl:(G2 kvs k v).length<=sizeLine:=by have:=S3 kvs k v;omega
 refine wpAny_setItem_heap (hsz:=hz) (C0 hu) (JT I.hok I.kIn hb) dd λh' dd' hs=>h _ ?_
 obtain ⟨q,es,ep,hq,h2,h3,h4,_,h5⟩:=dd'
 refine bW I (by rw [e];exact True.intro) hs ⟨q,hq⟩ ⟨hl,hd,_,(rel.put k hb rv).keeps λc ys ec=> ?_,q,es,ep,hq,h2,h3,h4,h5⟩
 rw [Af (kR ec e (λz=>nomatch z))]
 exact ec
theorem gt {Q:Value->Shared->Prop} (hu:A.units+2<cLine) (I:Inv X pins σ H s) (e:H a=some (.dN X.K kvs)) (hb:Fu X.K H b k) (rd:RelV d r) (h:∀w' s',Inv X pins σ H s'->RelV ((El kvs k).getD d) w'->Q w' s'):
 wpAny (model X.prog X.w) A (call (.builtin "dict.get") [.ref a, .ref b,r]) Q E s:=by
 obtain ⟨z,hd,xs,rel,dd⟩:=PH I.hok I.kIn e
 refine call_meetsIn PySem.F.slot_dict_get dd.typeIs PySem.F.entry_dict_get (PySem.F.args_dict_get_3 _ _ _) (meetsH_dict_get_default (fkKind X.prog X.w) a b hd r) ⟨C0 hu,k,xs,JT I.hok I.kIn hb,dd,h _ _ (I.tok _) ?_⟩
 exact (rel.val k).getD rd
end
def fG (K:PySem.W.Frag):TE:=λ_ H Q=>∀p,H p=none->Q (.ref p) (upd H p (.dN K []))
def lY (K:PySem.W.Frag) (td ty:TE):TE:=λσ H Q=>td σ H λx H1=>ty σ H1 λy H2=>∃a b kvs k v,x= .ref a/\y= .ref b/\H2 a=some (.dN K kvs)/\Fu K H2 b k/\El kvs k=some v/\Q v H2
def lZ (K:PySem.W.Frag) (ty td:TE):TE:=λσ H Q=>ty σ H λy H1=>td σ H1 λx H2=>∃a b kvs k,x= .ref a/\y= .ref b/\H2 a=some (.dN K kvs)/\Fu K H2 b k/\Q (.bl (El kvs k).isSome) H2
def Z6 (K:PySem.W.Frag) (td ty tv:TE):TS:=λD σ H=>tv σ H λv H1=>td σ H1 λx H2=>ty σ H2 λy H3=>∃a b kvs k,x= .ref a/\y= .ref b/\H3 a=some (.dN K kvs)/\Fu K H3 b k/\kvs.length<sizeLine/\D.nx σ (upd H3 a (.dN K (G2 kvs k v)))
def VX (K:PySem.W.Frag) (td ty tx:TE):TE:=λσ H Q=>td σ H λx H1=>∃a kvs,x= .ref a/\H1 a=some (.dN K kvs)/\ty σ H1 λy H2=>tx σ H2 λz H3=>∃b kvs k,y= .ref b/\H3 a=some (.dN K kvs)/\Fu K H3 b k/\Q ((El kvs k).getD z) H3
section
variable {X:Cx} {o i e f value:Expr} {pos pos' apos cpos:Pos} {td ty tv tx:TE}
theorem Yw {P:Program} {w:World} {H:Hp} {K:PySem.W.Frag} (h:Heap) (hb:sysModules<h.objs.size):Cv P w H (h.push {cls:= .type "dict",data:= .dict #[] }) h.objs.size (.dN K []):=
 ⟨Nat.zero_le _,beq_eq_false_iff_ne.mpr (Ne.symm (Nat.ne_of_lt hb)), [], .nil,_, #[],0,Heap.get?_push_size _ rfl,⟨rfl,rfl,rfl⟩,rfl,rfl,List.nodup_nil⟩
theorem cw:PE X (.Dict [] [] pos) (fG X.K):=λpins s σ H Q I h=>
 wpAny_Dict_empty ⟨.ref s.heap.objs.size,_,I.laid (a:=s.heap.objs.size) (o:= .dN X.K []) (t':=s.toks) (λ_ _ q=>Heap.get?_push_of_some _ q) (Nat.le_refl _) (Yw s.heap I.big),rfl,h _ (I.hok.fresh (Nat.le_refl _))⟩
theorem eH {pins:List (Addr×Obj)} {σ:St} {H:Hp} {s:Shared} {a:Addr} {kvs:List (FK×V)} (I:Inv X pins σ H s) (e:H a=some (.dN X.K kvs)):
 s.TypeIs (.ref a) "dict" /\(∀b,Value.ref a= .ref b->∃ob,s.heap.get? b=some ob/\ob.dict=none):=by
 obtain ⟨_,hd,xs,_,dd⟩:=PH I.hok I.kIn e
 refine ⟨dd.typeIs,λb q=> ?_⟩
 cases q
 obtain ⟨ob,_,_,h1,h2,_⟩:=dd
 exact ⟨ob,h1,h2.2.1⟩
theorem cv (hu:X.A.units+2<cLine) (ho:PE X o td) (hi:PE X i ty) (hs:fU i):PE X (.Subscript o i pos) (lY X.K td ty):=by
 intro pins s σ H Q I h
 refine dY PySem.F.slot_dict_getitem.lookup hs (BV (ho pins s σ H _ I h) λu s1 ⟨x,H1,I1,rx,q1⟩=>BV (hi pins s1 σ H1 _ I1 q1) λiv s2 ⟨y,H2,I2,ry,a,b,kvs,k,v,ex,ey,e,hb,l,q2⟩=> ?_)
 subst ex ey
 obtain rfl:u=Value.ref a:=rx
 obtain rfl:iv=Value.ref b:=ry
 exact ⟨(eH I2 e).1,Xb hu I2 e hb l λw' s3 I3 rw'=>⟨v,H2,I3,rw',q2⟩⟩
theorem iA (hu:X.A.units+2<cLine) (hi:PE X i ty) (ho:PE X o td):PC X .In i o (lZ X.K ty td):=by
 intro pins s σ H Q I h
 refine BV (hi pins s σ H _ I h) λiv s1 ⟨y,H1,I1,ry,q1⟩=>BV (ho pins s1 σ H1 _ I1 q1) λu s2 ⟨x,H2,I2,rx,a,b,kvs,k,ex,ey,e,hb,q2⟩=> ?_
 subst ex ey
 obtain rfl:u=Value.ref a:=rx
 obtain rfl:iv=Value.ref b:=ry
 exact n9 hu I2 e hb λs3 I3=>⟨.bl _,H2,I3,rfl,q2⟩
theorem WN (hu:X.A.units+2<cLine) (ho:PE X o td) (hi:PE X i ty) (hv:PE X value tv) (hs:swapsWith value (some (.Subscript o i pos')) pos.line X.env=pure false):
 PS X (.Assign [.Subscript o i pos'] value pos) (Z6 X.K td ty tv):=by
 intro pins s σ H D I h
 refine wpAny_Assign_Subscript (BV (hv pins s σ H _ I h) λr s1 ⟨v,H1,I1,rv,q1⟩=>BV (ho pins s1 σ H1 _ I1 q1) λu s2 ⟨x,H2,I2,rx,q2⟩=>BV (hi pins s2 σ H2 _ I2 q2) λiv s3 ⟨y,H3,I3,ry,a,b,kvs,k,ex,ey,e,hb,hl,q3⟩=> ?_) hs
 subst ex ey
 obtain rfl:u=Value.ref a:=rx
 obtain rfl:iv=Value.ref b:=ry
 exact Xc hu I3 e hb hl rv λs4 I4=>⟨σ,_,I4,q3⟩
theorem TM (hu:X.A.units+2<cLine) (ho:PE X o td) (he:PE X e ty) (hf:PE X f tx) (m:M2 X o "get" apos e f cpos):PE X (.Call (.Attribute o "get" apos) [e,f] [] cpos) (VX X.K td ty tx):=by
 intro pins s σ H Q I h
 refine wpAny_Call_method m.base m.few m.line PySem.F.plainAttrs_dict PySem.F.slot_dict_get PySem.F.type_dict_get (BV (ho pins s σ H _ I h) λu s1 ⟨x,H1,I1,rx,a,kvs0,ex,e0,q1⟩=> ?_)
 subst ex
 obtain rfl:u=Value.ref a:=rx
 obtain ⟨t1,t2⟩:=eH I1 e0
 refine ⟨t1,t2, ?_⟩
 rw [m.trees]
 refine Calls.callWith_builtin rfl (Calls.evalArgs_plain (Calls.spliced_cons (BV (he pins s1 σ H1 _ I1 q1) λiv s2 ⟨y,H2,I2,ry,q2⟩=>
  Calls.spliced_cons (BV (hf pins s2 σ H2 _ I2 q2) λfv s3 ⟨z,H3,I3,rz,b,kvs,k,ey,e,hb,q3⟩=>Calls.spliced_nil ?_))))
 subst ey
 obtain rfl:iv=Value.ref b:=ry
 exact gt hu I3 e hb rz λw' s4 I4 rw'=>⟨_,H3,I4,rw',q3⟩
end
end L2
end
section
namespace PySem
open Sem (wp)
def KY (h:Heap) (d:Addr) (es:Array DictEntry) (ep:Nat):Prop:=∃o,h.get? d=some o/\o.ExactDict/\o.data= .dict es ep
section
variable {prog:Program} {w:World} {A:Around} {E:Value->Shared->Prop} {s:Shared} {d it:Addr} {es:Array DictEntry} {ep i:Nat}
theorem KY.typeIs (x:KY s.heap d es ep):s.TypeIs (.ref d) "dict" :=let ⟨o,ho,hc,_⟩:=x;⟨o,ho,hc.1⟩
theorem KY.at {h h':Heap} (x:KY h d es ep) (e:∀o,h.get? d=some o->h'.get? d=some o):KY h' d es ep:=let ⟨o,ho,r⟩:=x;⟨o,e _ ho,r⟩
theorem Zx {Q:Value->Shared->Prop} (hd:(d==sysModules)=false) (hm:KY s.heap d es ep)
 (hQ:Q (.ref s.heap.objs.size) {s with heap:=s.heap.push {cls:= .type "dict_keyiterator",data:= .fields #[.ref d, .int 0 0, .int es.size 0, .int ep 0] }}):wpAny (model prog w) A (pyIter (.ref d)) Q E s:=by
 have hT:=hm.typeIs
 obtain ⟨o,ho,hc,ju⟩:=hm
 refine wpAny_pyIter_slot hT F.slot_dict_iter (wpAny_call_entry F.slot_dict_iter hT F.entry_dict_iter ?_ (F.args_dict_iter_1 _))
 unfold Builtin.«dict.__iter__»
 refine wpAny_bind ?_
 unfold Builtin.Dict.dictSlotNone
 refine wpAny_bind (wpAny_notOrdered_dict hT (wpAny_pure ?_))
 show wpAny _ _ (Builtin.Dict.showsAll d >>= _) _ _ s
 unfold Builtin.Dict.showsAll
 rw [if_neg (by rw [hd];exact Bool.false_ne_true)]
 refine wpAny_bind (wpAny_pure (wpAny_bind (wpAny_dictEntries ho ju (wpAny_bind (wpAny_dictEpoch ho ju ?_)))))
 exact wpAny_bind (wpAny_newObj_type (wpAny_pure ⟨_,rfl,"dict_keyiterator",_,⟨_,Heap.get?_push_size _ rfl,rfl⟩,F.slot_dict_keyiterator_next.lookup,by simpa [rawInt] using hQ⟩))
theorem Zy {Q:Option Value->Shared->Prop} (hit:s.heap.IsKeyIter it d i es.size ep) (hm:KY s.heap d es ep) (Dt:i<es.size)
 (hQ:∀h',h'.IsKeyIter it d (i+1) es.size ep->Heap.SameBut it s.heap h'->Q (some es[i].key) {s with heap:=h'}):wpAny (model prog w) A (pyNext (.ref it)) Q E s:=by
 have hT:=hit.typeIs
 obtain ⟨o,ho,hc,hd⟩:=hit
 obtain ⟨od,j6,MB,jv⟩:=hm
 unfold pyNext
 refine wpAny_bind (wpAny_attempt (wpAny_callSpecial?_slot (name:=Str.ofString "__next__") hT F.slot_dict_keyiterator_next (wpAny_call_entry F.slot_dict_keyiterator_next hT F.entry_dict_keyiterator_next ?_ (F.args_dict_keyiterator_next_1 _))))
 refine wpAny_bind (wpAny_pure (wpAny_bind (wpAny_bind ?_)))
 refine wpAny_bind (wpAny_typeNameOfWhole_keyiter hT (wpAny_pure (wpAny_bind (wpAny_fieldsOf ho hd ?_))))
 simp only [show Builtin.Dict_items.ownsTuple "dict_keyiterator" =false by decide,Bool.false_eq_true,if_false]
 show wpAny _ _ (if (Value.ref d==Value.none)=true then _ else _) _ _ s
 rw [if_neg (show ¬((Value.ref d==Value.none)=true) from Bool.false_ne_true)]
 refine wpAny_bind (wpAny_pure (wpAny_bind (wpAny_dictEntries j6 jv ?_)))
 rw [if_neg (by simp)]
 refine wpAny_bind (wpAny_pure (wpAny_bind (wpAny_dictEpoch j6 jv ?_)))
 rw [if_neg (by simp)]
 refine wpAny_pure ?_
 simp only [show ¬((i:Int)<0) from by omega,if_false,Int.toNat_natCast,Array.getElem?_eq_getElem Dt]
 refine wpAny_bind ?_
 refine wpAny_bind (wpAny_typeNameOfWhole_keyiter hT (wpAny_pure (wpAny_bind (wpAny_isOneOf_keyiter hT ?_))))
 show wpAny _ _ (setField (.ref it) 1 (rawInt ((i:Int)+1)) >>= _) _ _ s
 refine wpAny_bind (wpAny_setField ho hd (by simp) ?_)
 have cF:(s.heap.update it (Obj.mapFields (·.setIfInBounds 1 (rawInt ((i:Int)+1))))).IsKeyIter it d (i+1) es.size ep:=
  ⟨_,Heap.get?_update_self _ ho (Obj.isFreed_of_fields (Obj.data_mapFields hd _)),(Obj.cls_mapFields ..).trans hc,by rw [Obj.data_mapFields hd];simp [rawInt]⟩
 refine wpAny_bind (wpAny_holding (wpAny_bind (wpAny_isOneOf_keyiter (s:={s with heap:=s.heap.update it (Obj.mapFields (·.setIfInBounds 1 (rawInt ((i:Int)+1))))}) cF.typeIs ?_)))
 show wpAny _ _ (pure es[i].key) _ _ _
 exact wpAny_pure (wpAny_pure ⟨_,rfl,wpAny_pure (hQ _ cF (Heap.SameBut.update ..))⟩)
theorem dE {Q:Option Value->Shared->Prop} (hh:A.handled=none) (hit:s.heap.IsKeyIter it d es.size es.size ep) (hm:KY s.heap d es ep)
 (hQ:∀h',Heap.ExtBut it s.heap h'->Q none {s with heap:=h'}):wpAny (model prog w) A (pyNext (.ref it)) Q E s:=by
 have hT:=hit.typeIs
 obtain ⟨o,ho,hc,hd⟩:=hit
 obtain ⟨od,j6,MB,jv⟩:=hm
 unfold pyNext
 refine wpAny_bind (wpAny_attempt (wpAny_callSpecial?_slot (name:=Str.ofString "__next__") hT F.slot_dict_keyiterator_next (wpAny_call_entry F.slot_dict_keyiterator_next hT F.entry_dict_keyiterator_next ?_ (F.args_dict_keyiterator_next_1 _))))
 refine wpAny_bind (wpAny_pure (wpAny_bind (wpAny_bind ?_)))
 refine wpAny_bind (wpAny_typeNameOfWhole_keyiter hT (wpAny_pure (wpAny_bind (wpAny_fieldsOf ho hd ?_))))
 simp only [show Builtin.Dict_items.ownsTuple "dict_keyiterator" =false by decide,Bool.false_eq_true,if_false]
 show wpAny _ _ (if (Value.ref d==Value.none)=true then _ else _) _ _ s
 rw [if_neg (show ¬((Value.ref d==Value.none)=true) from Bool.false_ne_true)]
 refine wpAny_bind (wpAny_pure (wpAny_bind (wpAny_dictEntries j6 jv ?_)))
 rw [if_neg (by simp)]
 refine wpAny_bind (wpAny_pure (wpAny_bind (wpAny_dictEpoch j6 jv ?_)))
 rw [if_neg (by simp)]
 refine wpAny_pure ?_
 simp only [show ¬((es.size:Int)<0) from by omega,if_false,Int.toNat_natCast,Array.getElem?_eq_none (Nat.le_refl es.size)]
 refine wpAny_bind ?_
 refine wpAny_bind (wpAny_typeNameOfWhole_keyiter hT (wpAny_pure ?_))
 show wpAny _ _ (setField (.ref it) 0 .none >>= _) _ _ s
 refine wpAny_bind (wpAny_setField ho hd (by simp) ?_)
 show wpAny _ _ (newExc (.type "StopIteration") [] >>= _) _ _ _
 refine wpAny_bind ?_
 simp only [newExc,newTuple]
 refine wpAny_bind (wpAny_newObj_type ?_ (by size_fits))
 refine wpAny_bind (m:=firstArgMember _ _) (wpAny_of_eq (a:=Value.none) (by first | rfl|(simp only [firstArgMember];rfl)) (wpAny_newObj_type ?_ (by size_fits)))
 simp only [raiseNew]
 refine wpAny_bind (wpAny_handled ?_)
 rw [show A.in1.handled=none from hh]
 refine wpAny_bind (wpAny_pure (wpAny_throw ?_))
 refine wpAny_bind (wpAny_isInstance (T:="StopIteration") (b:=true) ⟨_,Heap.get?_push_size _ rfl,rfl⟩ isSubtype_stop ?_)
 exact wpAny_pure (hQ _ (((Heap.SameBut.update ..).extBut.push _).push _))
theorem X6 (hh:A.handled=none) (YB:d≠it):
 Walks prog w A it [it,d] [it] es.size (λi v=>∃e,es[i]? =some e/\v=e.key) (λi h=>h.IsKeyIter it d i es.size ep/\KY h d es ep) where
 sub:=λb hb=>by simp at hb;simp [hb]
 frame:=λ_ _ _ st hk=>⟨st.1.at λo e=>hk it (by simp) o e,st.2.at λo e=>hk d (by simp) o e⟩
 item:=λi s Q E hi st hQ=>Zy st.1 st.2 hi λh' cF cH=>
  hQ _ h' s.toks ⟨es[i],by simp [hi],rfl⟩ ⟨cF,st.2.at λo e=>cH.extBut d o YB e⟩ λb o hb e=>cH.extBut b o (λh=>hb (by simp [h])) e
 done:=λs Q E st hQ=>dE hh st.1 st.2 λh' tZ=>hQ h' s.toks λb o hb e=>tZ b o (λh=>hb (by simp [h])) e
 self:=λ_ _ _ _ st hQ=>wpAny_pyIter_keyiter st.1 hQ
end
theorem Zw {prog:Program} {w:World} {A:Around} {E:Value->Shared->Prop} {s:Shared} {d:Addr} {es:Array DictEntry} {ep:Nat} {Q:Bool->Shared->Prop} (hm:KY s.heap d es ep) (h:Q false s):wpAny (model prog w) A (Builtin.List.listLengthHint (.ref d)) Q E s:=by
 have hT:=hm.typeIs
 unfold Builtin.List.listLengthHint
 refine wpAny_bind (wpAny_specialOf hT F.slot_dict_len.lookup ?_)
 have hs:splitId "dict.__len__" =some ("dict","__len__"):=by decide +kernel
 simp only [hs]
 refine wpAny_bind (wpAny_isInstance hT (by rw [isSubtype_type];kernel_rfl:isSubtype (.type "dict") (.type "dict")=pure true) ?_)
 simp only [Bool.not_true,Bool.false_eq_true,if_false]
 rw [if_pos (by decide +kernel)]
 refine wpAny_bind (wpAny_typeOf hT ?_)
 exact wpAny_pure h
section
variable {prog:Program} {w:World} {A:Around} {s:Shared} {R:Result->Shared->Prop} {d:Addr} {es:Array DictEntry} {ep:Nat}
theorem VD (hh:A.handled=none) (S:Addr) (res:Value) (c₀:Nat) (hd:(d==sysModules)=false) (hm:KY s.heap d es ep) (hn:es.size<=sizeLine) (YB:d≠S)
 (hS:s.heap.get? S=some {cls:= .type "list",data:= .seq #[] c₀})
 (hR:∀h' tk acc' c',(∀b o,b≠S->s.heap.get? b=some o->h'.get? b=some o)->h'.get? S=some {cls:= .type "list",dict:=none,data:= .seq acc' c',slots:= #[] }->ItemsOf (λi v=>∃e,es[i]? =some e/\v=e.key) acc' es.size->R (.ok (.ret res)) {s with heap:=h',toks:=tk}):
 wpAny (model prog w) A.in1 (Builtin.List.listExtendWith (.ref S) (.ref d) res)
  (λfin s'=>match fin with | .done f=>R (.ok f) s' | .again c'=>c'.quiet=true/\codeAny (model prog w) A c' R s') (λe s'=>R (.error e) s') s:=by
 have hT:=hm.typeIs
 unfold Builtin.List.listExtendWith
 refine wpAny_bind (wpAny_typeOf hT ?_)
 have h1:Builtin.List.listSameRef (.ref S) (.ref d)=false:=by simp [Builtin.List.listSameRef,Ne.symm YB]
 have h2:(Value.type "dict" == Value.type "list")=false:=by decide
 have h3:(Value.type "dict" == Value.type "tuple")=false:=by decide
 simp only [h1,h2,h3,Bool.or_false,Bool.false_eq_true,if_false]
 refine wpAny_bind (Zx hd hm ?_)
 have Dt:d<s.heap.objs.size:=let ⟨o,ho,_⟩:=hm;Heap.lt_size ho
 have t9:S<s.heap.objs.size:=Heap.lt_size hS
 have gO:KY (s.heap.push {cls:= .type "dict_keyiterator",data:= .fields #[.ref d, .int 0 0, .int es.size 0, .int ep 0] }) d es ep:=hm.at λo e=>Heap.get?_push_of_some _ e
 refine wpAny_bind (wpAny_holding (Zw (s:={s with heap:=s.heap.push {cls:= .type "dict_keyiterator",data:= .fields #[.ref d, .int 0 0, .int es.size 0, .int ep 0] }}) gO ?_))
 generalize nP:({cls:= .type "dict_keyiterator",data:= .fields #[.ref d, .int 0 0, .int es.size 0, .int ep 0] }:Obj)=io at gO ⊢
 have qC:(s.heap.push io).get? S=some {cls:= .type "list",data:= .seq #[] c₀}:=Heap.get?_push_of_some _ hS
 have tU:(s.heap.push io).get? s.heap.objs.size=some io:=Heap.get?_push_size _ (by rw [<-nP];rfl)
 have qB:S≠s.heap.objs.size:=Nat.ne_of_lt t9
 rw [if_pos (by decide +kernel)]
 refine wpAny_bind (wpAny_rule (wpAny_bind ?_))
 show wpAny _ A.in1 (updateSeq S (·.push .none) >>= λ_=>updateSeq S (·.pop)) _ _ _
 refine wpAny_bind (wpAny_updateSeq (s:={s with heap:=s.heap.push io}) qC rfl ?_)
 have hS₂:=Heap.get?_update_self (Obj.mapSeq (·.push Value.none)) qC rfl
 refine wpAny_updateSeq (hz:=by seq_fits) hS₂ rfl ?_
 have hS₃:=Heap.get?_update_self (Obj.mapSeq (·.pop)) hS₂ rfl
 have oth:∀b o,b≠S->(s.heap.push io).get? b=some o->(((s.heap.push io).update S (Obj.mapSeq (·.push Value.none))).update S (Obj.mapSeq (·.pop))).get? b=some o:=
  λb o hb e=>(Heap.get?_update_other _ _ (Ne.symm hb)).trans ((Heap.get?_update_other _ _ (Ne.symm hb)).trans e)
 have W:=(X6 (prog:=prog) (w:=w) (A:=A.in1) (d:=d) (it:=s.heap.objs.size) (es:=es) (ep:=ep) hh (Nat.ne_of_lt Dt)).toS
 refine wpAny_pure ⟨plainId_quiet F.plain_extend_loop _,codeAny_extend_loopS W hn S ?_ res es.size 0 _ _ _ rfl (Nat.zero_le _) ⟨⟨io,oth _ _ (Ne.symm qB) tU,by rw [<-nP],by rw [<-nP];rfl⟩,gO.at λo e=>oth _ _ YB e⟩ hS₃ (ItemsOf.nil _) λs' acc' c' uD nG cC=> ?_⟩
 ·intro cE
  simp only [List.mem_cons,List.not_mem_nil,or_false] at cE
  rcases cE with e|e
  ·exact qB e
  ·exact YB e.symm
 ·obtain ⟨k1,k2,k3,k4,k5⟩:=uD
  have e:s'={s with heap:=s'.heap,toks:=s'.toks}:=by
   obtain ⟨a1,a2,a3,a4,a5⟩:=s'
   simp only at k2 k3 k4
   subst k2;subst k3;subst k4
   rfl
  rw [e]
  refine hR s'.heap s'.toks acc' c' (λb o hb eb=>k1 b o ?_ (oth b o hb (Heap.get?_push_of_some _ eb))) nG cC
  intro cE
  simp only [List.mem_cons,List.not_mem_nil,or_false] at cE
  rcases cE with e|e
  ·exact hb e
  ·exact Nat.ne_of_lt (Heap.lt_size eb) e
end
section
variable {prog:Program} {w:World} {A:Around} {E:Value->Shared->Prop} {s:Shared} {d:Addr} {es:Array DictEntry} {ep:Nat}
theorem OT {Q:Value->Shared->Prop} (hh:A.handled=none) (hd:(d==sysModules)=false) (hm:KY s.heap d es ep) (hn:es.size<=sizeLine)
 (hQ:∀h' tk c',(∀b o,s.heap.get? b=some o->h'.get? b=some o)->h'.get? s.heap.objs.size=some {cls:= .type "list",dict:=none,data:= .seq (es.map (·.key)) c',slots:= #[] }->Q (.ref s.heap.objs.size) {s with heap:=h',toks:=tk}):
 wpAny (model prog w) A (call (.type "list") [.ref d]) Q E s:=by
 have Dt:d<s.heap.objs.size:=let ⟨o,ho,_⟩:=hm;Heap.lt_size ho
 refine callType_codes (Q₁:=λobj s₁=>obj= .ref s.heap.objs.size/\s₁={s with heap:=s.heap.push {cls:= .type "list",data:= .seq #[] }}) F.called_list (F.typeCall_list_1 _) F.entry_list_init (code_list_new _ ⟨rfl,rfl⟩) λobj s₁ h₁=> ?_
 obtain ⟨rfl,rfl⟩:=h₁
 have hS:(s.heap.push {cls:= .type "list",data:= .seq #[] }).get? s.heap.objs.size=some {cls:= .type "list",data:= .seq #[] }:=Heap.get?_push_size _ rfl
 refine ⟨⟨_,hS,rfl⟩,F.args_list_init_2 _ _, ?_⟩
 show wpAny _ A.in1.in1 (do let old <-Builtin.List.listItems (.ref s.heap.objs.size);Builtin.List.listUpdate (.ref s.heap.objs.size) (λ_=> #[]);letGo old.toList.reverse;Builtin.List.listExtendWith (.ref s.heap.objs.size) (.ref d) .none) _ _ _
 refine wpAny_bind ?_
 unfold Builtin.List.listItems
 refine wpAny_bind (wpAny_seqItems hS rfl (wpAny_pure ?_))
 refine wpAny_bind (wpAny_updateSeq hS rfl ?_)
 have hS₂:=Heap.get?_update_self (Obj.mapSeq (λ_=>(#[] :Array Value))) hS rfl
 refine wpAny_bind (wpAny_letGo ?_)
 have oth:∀b o,s.heap.get? b=some o->((s.heap.push {cls:= .type "list",data:= .seq #[] }).update s.heap.objs.size (Obj.mapSeq (λ_=>(#[] :Array Value)))).get? b=some o:=λb o e=>by
  have hb:b≠s.heap.objs.size:=λz=>Nat.lt_irrefl _ (z ▸ Heap.lt_size e)
  exact (Heap.get?_update_other _ _ (Ne.symm hb)).trans (Heap.get?_push_of_some _ e)
 refine VD (s:={s with heap:=(s.heap.push {cls:= .type "list",data:= .seq #[] }).update s.heap.objs.size (Obj.mapSeq (λ_=>(#[] :Array Value)))}) (d:=d) (es:=es) (ep:=ep) (A:=A.in1) hh s.heap.objs.size .none _ hd (hm.at λo e=>oth d o e) hn (Nat.ne_of_lt Dt) hS₂ ?_
 intro h' tk acc' c' kp nG cC
 refine ⟨rfl,hQ h' tk c' (λb o e=>kp b o (λz=>Nat.lt_irrefl _ (z ▸ Heap.lt_size e)) (oth b o e)) ?_⟩
 have ea:acc'=es.map (·.key):=by
  obtain ⟨h1,h2⟩:=cC
  refine Array.ext (by simp [h1]) λi hi hj=> ?_
  obtain ⟨e,e1,e2⟩:=h2 i _ (by simp [hi] :acc'[i]? =some acc'[i])
  have tq:i<es.size:=by simpa using hj
  rw [Array.getElem?_eq_getElem tq] at e1
  cases e1
  rw [e2];simp
 rw [<-ea];exact nG
end
end PySem
end
section
namespace L2
open PySem PySem.Spec PyProof.Rows
section
variable {X:Cx}
def iN (K:PySem.W.Frag):List V->Hp->VK->Prop:=λxs H Q=>∃p kvs,xs= [.ref p] /\H p=some (.dN K kvs)/\∀l cs,H l=none->Paired (λ(q:FK×V) (c:Addr)=>Fu K H c q.1) kvs cs->Q (.ref l) (upd H l (.lst (cs.map V.ref)))
theorem UO {k:Nat} (hr:Room k X.A):Cj X (.type "list") (iN X.K):=by
 intro pins s σ H xs us Q I r h
 obtain ⟨p,kvs,rfl,hp,q⟩:=h
 obtain ⟨u,rfl,rx⟩:=vals1 r
 cases rx
 obtain ⟨z,hd,ys,rel,o,es,ep,h1,h2,h3,h4,h5,h6⟩:=PH I.hok I.kIn hp
 have hl:ys.length=kvs.length:=(Paired.length rel).symm
 have qG:es.size=ys.length:=by rw [<-Array.length_toList,h4,List.length_map]
 refine OT (es:=es) (ep:=ep) hr.hd hd ⟨o,h1,h2,h3⟩ (by rw [qG,hl];exact z) λh' tk c' kp e=> ?_
 have ek:es.map (·.key)=((ys.map (·.2.1)).map Value.ref).toArray:=by
  apply Array.ext'
  rw [Array.toList_map,h4]
  simp [entryOfKey]
 rw [ek] at e
 have hv:∀l:List Addr,Ax (l.map V.ref) (l.map Value.ref):=λl=>by
  induction l with
  | nil=>exact .nil
  | cons a l ih=>exact .cons rfl ih
 refine ⟨.ref s.heap.objs.size,_,I.laid (t':=tk) kp (Nat.le_refl _) (show Cv X.prog X.w _ h' _ (.lst ((ys.map (·.2.1)).map V.ref)) from ⟨by simp only [List.length_map];rw [hl];exact z,_,c',hv _,e⟩),rfl,q _ _ (I.hok.fresh (Nat.le_refl _)) ?_⟩
 clear q e ek h4 h6 h5 qG hl z hp
 induction rel with
 | nil=>exact .nil
 | cons h t ih=>exact .cons h.2.1 ih
end
end L2
namespace PL
open PySem PySem.Spec PyProof.Rows L2
def Uq (k:FK):PV:= .tup [.tup [.int k.1.1, .int k.1.2], .int k.2]
def BI (kvs:List (FK×Int)) (k:FK):Option Int:=(kvs.find? λp=>decide (p.1=k)).map (·.2)
theorem Va (kvs:List (FK×Int)) (k:FK):El (Bz kvs) k=(BI kvs k).map V.int:=by
 induction kvs with
 | nil=>rfl
 | cons p r ih=>
   by_cases e:p.1=k
   ·simp [BI,Bz,El,e]
   ·simpa [BI,Bz,El,e] using ih
section
variable {K:PySem.W.Frag} {T M:Addr->Prop} {H:Hp}
theorem MQ {v:V} {t d:Int} (r:CB K T M H v (.tup [.int t, .int d])):∃b,v= .ref b/\Yg K H b t d:=by
 obtain ⟨a,vs,rfl,hq,rs⟩:=aM r
 cases rs with
 | cons r1 rs=>
 cases rs with
 | cons r2 rs=>
 cases rs;cases r1;cases r2
 refine ⟨a,rfl, ?_⟩
 rcases hq with h|⟨o,its,n,h1,h2,h3,_,h4⟩
 ·exact .inl h
 ·exact .inr ⟨o,its,n,h1,h2,h3,h4⟩
theorem Z0 {b:Addr} {t d:Int} (h:Yg K H b t d):CB K T M H (.ref b) (.tup [.int t, .int d]):=by
 refine .tup (vs:= [.int t, .int d]) ?_ (.cons (.int _) (.cons (.int _) .nil))
 rcases h with h|⟨o,its,n,h1,h2,h3,h4⟩
 ·exact .inl h
 ·refine .inr ⟨o,its,n,h1,h2,h3, ?_,h4⟩
  have:=h4.length
  simp only [List.length_cons,List.length_nil,Array.length_toList] at this
  rw [<-this]
  exact Nat.le_of_ble_eq_true rfl
theorem Zz {c:Addr} {k:FK} (h:Fu K H c k):CB K T M H (.ref c) (Uq k):=by
 obtain ⟨b,h1,h2⟩:=h
 exact .tup (.inl h1) (.cons (Z0 h2) (.cons (.int _) .nil))
end
section
variable {X:Cx} {a b d:Expr} {pos p1:Pos} {ta tb td:AE}
def Nd (x y:PV) (R:FK->Prop):Prop:=match x,y with | .tup [.int t, .int e], .int s=>R ((t,e),s)|_,_=>False
theorem TH {x y:PV} {R:FK->Prop} (h:Nd x y R):∃t e s,x= .tup [.int t, .int e] /\y= .int s/\R ((t,e),s):=by
 unfold Nd at h
 split at h
 ·exact ⟨_,_,_,rfl,rfl,h⟩
 ·exact h.elim
def jD (m:PV) (R:List (FK×Int)->Prop):Prop:=match m with | .dct kvs=>R kvs|_=>False
theorem Zb {m:PV} {R:List (FK×Int)->Prop} (h:jD m R):∃kvs,m= .dct kvs/\R kvs:=by
 cases m <;> first | exact ⟨_,rfl,h⟩|exact h.elim
def bM (ta tb td:AE):AE:=λτ Q=>ta τ λx=>tb τ λy=>td τ λm=>jD m λkvs=>Nd x y λk=>Q (.bl (BI kvs k).isSome)
def Yi (td ta tb:AE):AE:=λτ Q=>td τ λm=>ta τ λx=>tb τ λy=>jD m λkvs=>Nd x y λk=>match BI kvs k with | some i=>Q (.int i)|none=>False
theorem S0 {K:PySem.W.Frag} {B:Cn} {T:Addr->Prop} {H:Hp} {σ:L2.St} {τ:BC} {q:Addr} {vs:List V} (sr:SR K B T H σ τ) (hq:H q=none):DT T H T (upd H q (.tup vs))/\¬T q:=by
 refine ⟨DT.lay sr.tp hq,λz=> ?_⟩
 obtain ⟨o,e,_⟩:=(sr.tp q z).mut
 rw [hq] at e;cases e
theorem dR {t1 t2 t3:TE} (s1:Fv X.K t1 ta) (s2:Fv X.K t2 tb) (s3:Fv X.K t3 td):Fv X.K (lZ X.K (df (N7 t1 (N7 t2 db))) t3) (bM ta tb td):=by
 intro B T σ τ H Q AQ sr h k
 refine s1 B T σ τ H _ _ sr h λv x T1 H1 st1 r1 h1=> ?_
 have sr1:=sr.stp st1
 refine s2 B T1 σ τ H1 _ _ sr1 h1 λw y T2 H2 st2 r2 h2=> ?_
 have sr2:=sr1.stp st2
 refine ⟨Nat.le_of_ble_eq_true rfl,λq hq=> ?_⟩
 obtain ⟨st3,nt⟩:=S0 (vs:= [v,w]) sr2 hq
 have sr3:=sr2.stp st3
 refine s3 B T2 σ τ _ _ _ sr3 h2 λu m T4 H4 st4 r4 h4=> ?_
 obtain ⟨kvs,rfl,h5⟩:=Zb h4
 obtain ⟨t,e,s,rfl,rfl,h6⟩:=TH h5
 have rv:=((r1.stp st2 sr1.va).stp st3 sr2.va).stp st4 sr3.va
 obtain ⟨c,rfl,tn⟩:=MQ rv
 cases r2
 cases r4 with
 | dct hh _ _=>
   refine ⟨_,q,_,((t,e),s),rfl,rfl,hh,⟨c,st4.keep _ _ nt Ah,tn⟩, ?_⟩
   rw [Va,Option.isSome_map]
   exact k _ _ T4 H4 (((st1.trans st2).trans st3).trans st4) (.bl _) h6
theorem ib {x1:Nat} {k:Nat} (hr:Room k X.A) (ha:SE X a ta) (hb:SE X b tb) (hd:SE X d td) (hm:behindInMarks .In d=false:=by rfl) (e1:starEach (a :: [b]) X.env=(false,eval a X.env)::starEach [b] X.env:=by rfl) (e2:starEach [b] X.env=(false,eval b X.env)::starEach [] X.env:=by rfl):Rg X (.Compare (.Tuple [a,b] x1 p1) [.In] [d] pos) (Ar (bM ta tb td)):=by
 obtain ⟨t1,q1,s1⟩:=ha
 obtain ⟨t2,q2,s2⟩:=hb
 obtain ⟨t3,q3,s3⟩:=hd
 exact ⟨_,iH (iA (by have:=hr.un;omega) (Ng (CC q1 (CC q2 FH e2) e1)) q3) hm,RR (dR s1 s2 s3)⟩
theorem dL {x1:Nat} {k:Nat} (hr:Room k X.A) (hd:SE X d td) (ha:SE X a ta) (hb:SE X b tb) (hs:fU (.Tuple [a,b] x1 p1)) (e1:starEach (a :: [b]) X.env=(false,eval a X.env)::starEach [b] X.env:=by rfl) (e2:starEach [b] X.env=(false,eval b X.env)::starEach [] X.env:=by rfl):SE X (.Subscript d (.Tuple [a,b] x1 p1) pos) (Yi td ta tb):=by
 obtain ⟨t1,q1,s1⟩:=ha
 obtain ⟨t2,q2,s2⟩:=hb
 obtain ⟨t3,q3,s3⟩:=hd
 refine ⟨_,cv (by have:=hr.un;omega) q3 (Ng (CC q1 (CC q2 FH e2) e1)) hs,λB T σ τ H Q AQ sr h k=> ?_⟩
 refine s3 B T σ τ H _ _ sr h λu m T0 H0 st0 r0 h0=> ?_
 have sr0:=sr.stp st0
 refine s1 B T0 σ τ H0 _ _ sr0 h0 λv x T1 H1 st1 r1 h1=> ?_
 have sr1:=sr0.stp st1
 refine s2 B T1 σ τ H1 _ _ sr1 h1 λw y T2 H2 st2 r2 h2=> ?_
 have sr2:=sr1.stp st2
 refine ⟨Nat.le_of_ble_eq_true rfl,λq hq=> ?_⟩
 obtain ⟨st3,nt⟩:=S0 (vs:= [v,w]) sr2 hq
 obtain ⟨kvs,rfl,h5⟩:=Zb h2
 obtain ⟨t,e,s,rfl,rfl,h6⟩:=TH h5
 have rv:=(r1.stp st2 sr1.va).stp st3 sr2.va
 have r3:=((r0.stp st1 sr0.va).stp st2 sr1.va).stp st3 sr2.va
 obtain ⟨c,rfl,tn⟩:=MQ rv
 cases r2
 cases ev:BI kvs ((t,e),s) with
 | none=>rw [ev] at h6;exact h6.elim
 | some i=>
   rw [ev] at h6
   cases r3 with
   | dct hh _ _=>
     exact ⟨_,q,_,((t,e),s), .int i,rfl,rfl,hh,⟨c,Ah,tn⟩,by rw [Va,ev];rfl,k _ _ T2 _ (((st0.trans st1).trans st2).trans st3) (.int _) h6⟩
def UK (r:AA):AA:=λτ Q=>r τ λxs=>match xs with | [.dct kvs] =>Q (kvs.map λp=>Uq p.1)|_=>False
theorem aD {x:Str} {p pos:Pos} {e:Expr} {es:List Expr} {r:AA} {k:Nat} (hr:Room k X.A) (hg:Gl X x) (hm:X.mg x=none) (hv:bootBuiltins x=some (.type "list")) (ha:SA X (e::es) r)
 (hn:x≠"__name__" :=by decide) (hdb:(x==("__debug__" :Str))=false:=by decide) (he:starEach (e::es) X.env=(false,eval e X.env)::starEach es X.env:=by rfl) (hpl:(backTo pos (starEach es X.env)).any (·.1)=false:=by rfl):
 SF X (.Call (.Name x p) (e::es) [] pos) (UK r):=by
 obtain ⟨t,pa,s⟩:=ha
 refine ⟨_,HM (UO hr) hg hm hv pa hn hdb he hpl,λB T σ τ H Q AQ sr h k=>s B T σ τ H _ _ sr h λvs xs T1 H1 s1 r1 h1=> ?_⟩
 have sr1:=sr.stp s1
 split at h1 <;> first | exact h1.elim|skip
 rename_i kvs
 cases r1 with
 | cons r t=>
   cases t
   cases r with
   | dct hh nt nm=>
     refine ⟨_,_,rfl,hh,λl cs hl pr=> ?_⟩
     have rr:A0 X.K T1 (mt B σ τ) H1 (cs.map V.ref) (kvs.map λp=>Uq p.1):=by
      clear h1 hh
      induction kvs generalizing cs with
      | nil=>cases pr;exact .nil
      | cons q r ih=>
        cases pr with
        | cons h t=>exact .cons (Zz h) (ih _ t)
     obtain ⟨l2,sr2,nt2,r2⟩:=Ql sr1 hl rr
     exact k l _ _ T1 _ (s1.trans l2) sr2 (s1.none hl) Ah nt2 r2 h1
end
end PL
end
section
namespace PL
open PySem PySem.Spec PyProof.Rows L2
def Op (m:List (FK×Int)) (k:FK) (v:Int):List (FK×Int):=if (m.any λp=>decide (p.1=k)) then m.map λp=>if p.1=k then (p.1,v) else p else m ++ [(k,v)]
def bump (m:List (FK×Int)) (k:FK) (d:Int):List (FK×Int):=Op m k ((BI m k).getD 0+d)
theorem Zs (m:List (FK×Int)) (k:FK) (v:Int):G2 (Bz m) k (.int v)=Bz (Op m k v):=by
 unfold G2 Op
 have e:((Bz m).any λkv=>decide (kv.1=k))=(m.any λp=>decide (p.1=k)):=by
  unfold Bz;rw [List.any_map];rfl
 rw [e]
 split
 ·unfold Bz
  rw [List.map_map,List.map_map]
  apply List.map_congr_left
  intro p _
  by_cases h:p.1=k <;> simp [h]
 ·simp [Bz]
theorem Ja (m:List (FK×Int)) (k:FK) (v:Int):(Op m k v).length<=m.length+1:=by
 unfold Op;split <;> simp
theorem Y2 (m:List (FK×Int)) (k:FK):(El (Bz m) k).getD (.int 0)= .int ((BI m k).getD 0):=by
 rw [Va];cases BI m k <;> rfl
def Vy:PV->Option (Option (Int×Int))
 | .non=>some none
 | .tup [.int t, .int d] =>some (some (t,d))
 | _=>none
def TR (x:PV):Option ((Int×Int)×Int×Option (Int×Int)):=
 match x with
 | .tup [.tup [.int t, .int d], .int h,e] =>(Vy e).map λe=>((t,d),h,e)
 | .lst [.tup [.int t, .int d], .int h,e] =>(Vy e).map λe=>((t,d),h,e)
 | _=>none
def GG (m:List (FK×Int)) (b:Int×Int) (h:Int) (e:Option (Int×Int)):List (FK×Int):=
 match e with
 | none=>bump m (b,1-h) 1
 | some e=>bump (bump m (b,1-h) 1) (e,0) (-1)
def FQ:List PV->List (FK×Int)->Option (List (FK×Int))
 | [],m=>some m
 | x::r,m=>match TR x with | some (b,h,e)=>FQ r (GG m b h e)|none=>none
def Zu:R2:=λx y H Q=>y= .non/\Q (.bl (!decide (x= .non))) H
def VU (K:PySem.W.Frag):TS:=
 Xz (To (df (N7 (Fk 2) (N7 (de (PQ λi j=> .int (i-j)) (tC (.int 1)) (Fk 3)) db))) (Cy 5))
  (Xz (Z6 K (Fk 1) (Fk 5) (de (PQ λi j=> .int (i+j)) (VX K (Fk 1) (Fk 5) (tC (.int 0))) (tC (.int 1))))
    (lX (aW (de Zu (Fk 4) (tC .non)))
      (Xz (To (df (N7 (Fk 4) (N7 (tC (.int 0)) db))) (Cy 6))
        (Z6 K (Fk 1) (Fk 6) (de (PQ λi j=> .int (i-j)) (VX K (Fk 1) (Fk 6) (tC (.int 0))) (tC (.int 1))))) fH))
def ie (K:PySem.W.Frag):TS:=
 Xz (To (fG K) (Cy 1)) (Xz (lW (kE K (Fk 0)) (XB K 3 (Es (Cy 2) (Es (Cy 3) (Es (Cy 4) Sc)))) (VU K)) (aU (Fk 1)))
section
variable {K:PySem.W.Frag} {T M:Addr->Prop} {H H':Hp}
theorem GZ.ext (va:GZ T M H) (ex:∀b o,H b=some o->H' b=some o):Mv K T M H T M H':=⟨va,λb o _ _ e=>ex b o e,λ_ t=>t,λ_ _ t=>t,λ_ _ m=>m⟩
theorem iP {v:V} {x:PV} {b:Int×Int} {h:Int} {e:Option (Int×Int)} (r:CB K T M H v x) (hr:TR x=some (b,h,e)):
 ∃a vb ve,v= .ref a/\(JD K H a [vb, .int h,ve] \/Fw K H a [vb, .int h,ve])/\CB K T M H vb (.tup [.int b.1, .int b.2])/\((e=none/\ve= .non)\/∃t d,e=some (t,d)/\CB K T M H ve (.tup [.int t, .int d])):=by
 have fin:∀{ve:V} {ep:PV},CB K T M H ve ep->Vy ep=some e->((e=none/\ve= .non)\/∃t d,e=some (t,d)/\CB K T M H ve (.tup [.int t, .int d])):=by
  intro ve ep re he
  unfold Vy at he
  split at he
  ·cases he;cases re;exact .inl ⟨rfl,rfl⟩
  ·cases he;exact .inr ⟨_,_,rfl,re⟩
  ·cases he
 unfold TR at hr
 split at hr
 ·rename_i t d h' ep
  obtain ⟨e2,he,e3⟩:=Option.map_eq_some_iff.mp hr
  cases e3
  obtain ⟨a,vs,rfl,hq,rs⟩:=Cq r
  cases rs with
  | cons r1 rs=>
  cases rs with
  | cons r2 rs=>
  cases rs with
  | cons r3 rs=>
  cases rs;cases r2
  exact ⟨a,_,_,rfl, .inl hq,r1,fin r3 he⟩
 ·rename_i t d h' ep
  obtain ⟨e2,he,e3⟩:=Option.map_eq_some_iff.mp hr
  cases e3
  obtain ⟨a,vs,rfl,hq,_,_,rs⟩:=Dq r
  cases rs with
  | cons r1 rs=>
  cases rs with
  | cons r2 rs=>
  cases rs with
  | cons r3 rs=>
  cases rs;cases r2
  exact ⟨a,_,_,rfl, .inr (.inl (.inl hq)),r1,fin r3 he⟩
 ·cases hr
theorem VW {D:Mu} {p:Addr} {z0 z2 z3 z4 z5 z6:Option V} {H0:Hp} {m:List (FK×Int)} {v:V} {b:Int×Int} {h:Int} {e:Option (Int×Int)} {x:PV} (va:GZ T M H) (ex:∀b o,H b=some o->H0 b=some o) (np:H p=none) (hp:H0 p=some (.dN K (Bz m))) (hl:m.length+2<sizeLine)
 (r:CB K T M H0 v x) (hr:TR x=some (b,h,e))
 (nx:∀z2 z3 z4 z5 z6 H2,(∀b o,H b=some o->H2 b=some o)->H2 p=some (.dN K (Bz (GG m b h e)))->D.nx [z0,some (.ref p),z2,z3,z4,z5,z6] H2):
 XB K 3 (Es (Cy 2) (Es (Cy 3) (Es (Cy 4) Sc))) v [z0,some (.ref p),z2,z3,z4,z5,z6] H0 λσ2 H2=>VU K D σ2 H2:=by
 obtain ⟨a,vb,ve,rfl,hq,rb,re⟩:=iP r hr
 refine ⟨a,_,rfl,hq,rfl,_,_,rfl,_,_,rfl,_,_,rfl,rfl, ?_⟩
 have va0:GZ T M H:=va
 refine ⟨vb,rfl,_,rfl,_,_,rfl,rfl,Nat.le_of_ble_eq_true rfl,λq qO=> ?_⟩
 have ex1:∀b o,H0 b=some o->upd H0 q (.tup [vb, .int (1-h)]) b=some o:=λb o e=>by rw [Af (As e qO)];exact e
 have jA:upd H0 q (.tup [vb, .int (1-h)]) p=some (.dN K (Bz m)):=ex1 _ _ hp
 have qp:q≠p:=λz=>by subst z;rw [qO] at hp;cases hp
 obtain ⟨c,rfl,tn⟩:=MQ rb
 have tn1:Yg K (upd H0 q (.tup [.ref c, .int (1-h)])) c b.1 b.2:=tn.elim (λz=> .inl (ex1 _ _ z)) .inr
 have kn:Fu K (upd H0 q (.tup [.ref c, .int (1-h)])) q (b,1-h):=⟨c,Ah,tn1⟩
 refine ⟨_,rfl,p,_,rfl,jA,_,rfl,q,_,(b,1-h),rfl,jA,kn,_,_,Y2 m (b,1-h),rfl,_,rfl,_,rfl,p,q,_,(b,1-h),rfl,rfl,jA,kn,by rw [Bz,List.length_map];omega, ?_⟩
 rw [Zs]
 have e1:Bz (Op m (b,1-h) ((BI m (b,1-h)).getD 0+1))=Bz (bump m (b,1-h) 1):=rfl
 rw [e1]
 have hb:∀o,H0 p=some o->True:=λ_ _=>trivial
 have ext2:∀(X:HO) b o,H b=some o->upd (upd H0 q (.tup [.ref c, .int (1-h)])) p X b=some o:=λX b o e=>by
  rw [Af (As e np)];exact ex1 _ _ (ex _ _ e)
 have bl:(bump m (b,1-h) 1).length<=m.length+1:=Ja _ _ _
 rcases re with ⟨rfl,rfl⟩|⟨t,d,rfl,re⟩
 ·refine ⟨_,rfl,rfl,false,rfl, ?_⟩
  exact nx _ _ _ _ _ _ (ext2 _) Ah
 ·obtain ⟨c2,rfl,tn2⟩:=MQ re
  refine ⟨_,rfl,rfl,true,rfl, ?_⟩
  refine ⟨_,rfl,Nat.le_of_ble_eq_true rfl,λq2 Qb=> ?_⟩
  have q2p:p≠q2:=λz=>by subst z;rw [Ah] at Qb;cases Qb
  have ex3:∀(a:Addr) o,upd (upd H0 q (.tup [.ref c, .int (1-h)])) p (.dN K (Bz (bump m (b,1-h) 1))) a=some o->upd (upd (upd H0 q (.tup [.ref c, .int (1-h)])) p (.dN K (Bz (bump m (b,1-h) 1)))) q2 (.tup [.ref c2, .int 0]) a=some o:=λa o e=>by rw [Af (As e Qb)];exact e
  have j7:=ex3 p _ Ah
  have tn3:Yg K (upd (upd (upd H0 q (.tup [.ref c, .int (1-h)])) p (.dN K (Bz (bump m (b,1-h) 1)))) q2 (.tup [.ref c2, .int 0])) c2 t d:=tn2.elim (λz=> .inl (ex3 _ _ (by
   rw [Af (λy=>by subst y;rw [hp] at z;cases z)]
   exact ex1 _ _ z))) .inr
  have kn2:Fu K (upd (upd (upd H0 q (.tup [.ref c, .int (1-h)])) p (.dN K (Bz (bump m (b,1-h) 1)))) q2 (.tup [.ref c2, .int 0])) q2 ((t,d),0):=⟨c2,Ah,tn3⟩
  refine ⟨_,rfl,p,_,rfl,j7,_,rfl,q2,_,((t,d),0),rfl,j7,kn2,_,_,Y2 _ ((t,d),0),rfl,_,rfl,_,rfl,p,q2,_,((t,d),0),rfl,rfl,j7,kn2,by rw [Bz,List.length_map];omega, ?_⟩
  rw [Zs]
  refine nx _ _ _ _ _ _ (λa o e=> ?_) Ah
  rw [Af (As e np)]
  exact ex3 _ _ (ext2 _ _ _ e)
theorem Ld {m:List (FK×Int)} {b:Int×Int} {h:Int} {e:Option (Int×Int)}:(GG m b h e).length<=m.length+2:=by
 unfold GG
 cases e with
 | none=>have:=Ja m (b,1-h) ((BI m (b,1-h)).getD 0+1);unfold bump;simp only;omega
 | some e=>
   have h1:=Ja m (b,1-h) ((BI m (b,1-h)).getD 0+1)
   have h2:=Ja (bump m (b,1-h) 1) (e,0) ((BI (bump m (b,1-h) 1) (e,0)).getD 0 + -1)
   unfold bump at *
   simp only
   omega
theorem WQ:∀{vs:List V} {ys:List PV},A0 K T M H vs ys->∀{i:Nat} {x:V},vs[i]? =some x->∃y,ys[i]? =some y/\CB K T M H x y
 | _,_, .nil,i,x,ev=>by simp at ev
 | _,_, .cons h t,0,x,ev=>by simp at ev;subst ev;exact ⟨_,rfl,h⟩
 | _,_, .cons h t,i+1,x,ev=>by simpa using WQ t (i:=i) (by simpa using ev)
theorem N6 {D:Mu} {J:It} {v0:V} {p:Addr} {ys:List PV} {mfin:List (FK×Int)} {H1:Hp} (va:GZ T M H) (np:H p=none)
 (go:∀H',(∀b o,H b=some o->H' b=some o)->∃vs,A0 K T M H' vs ys/\(∀i,i<ys.length->J.go i H')/\(∀i,ys.length<=i->J.stop i H')/\∀i x H2,J.yld i H' x H2->H2=H'/\vs[i]? =some x)
 (e1:∀b o,H b=some o->H1 b=some o) (hp:H1 p=some (.dN K (Bz []))) (hl:2*ys.length+2<sizeLine) (hs:FQ ys [] =some mfin)
 (fin:∀z2 z3 z4 z5 z6 H',(∀b o,H b=some o->H' b=some o)->H' p=some (.dN K (Bz mfin))->D.nx [some v0,some (.ref p),z2,z3,z4,z5,z6] H'):
 ∃W:Nat->Nat->L2.St->Hp->Prop,(∃m,W 0 m [some v0,some (.ref p),none,none,none,none,none] H1)/\∀i m σ H,W i m σ H->
  (J.stop i H/\D.nx σ H)\/(J.go i H/\∃N:L2.St->Hp->Prop,(∀σ' H',N σ' H'->∃m',m'<m/\W (i+1) m' σ' H')/\∀x H',J.yld i H x H'->XB K 3 (Es (Cy 2) (Es (Cy 3) (Es (Cy 4) Sc))) x σ H' λσ2 H2=>VU K {D with nx:=N,ct:=N,bk:=D.nx} σ2 H2):=by
 let W:Nat->Nat->L2.St->Hp->Prop:=λi m σ H'=>i+m=ys.length/\∃z2 z3 z4 z5 z6 mm,σ= [some v0,some (.ref p),z2,z3,z4,z5,z6] /\(∀b o,H b=some o->H' b=some o)/\H' p=some (.dN K (Bz mm))/\FQ (ys.drop i) mm=some mfin/\mm.length<=2*i
 refine ⟨W,⟨ys.length,Nat.zero_add _,_,_,_,_,_, [],rfl,e1,hp,hs,Nat.zero_le _⟩, ?_⟩
 rintro i m σ H' ⟨hi,z2,z3,z4,z5,z6,mm,rfl,ex,FU,Um,vK⟩
 obtain ⟨vs,rs,g1,g2,g3⟩:=go H' ex
 cases m with
 | zero=>
   left
   refine ⟨g2 i (by omega),fin _ _ _ _ _ _ ex ?_⟩
   rw [List.drop_eq_nil_of_le (by omega)] at Um
   cases Um
   exact FU
 | succ m=>
   right
   refine ⟨g1 i (by omega),λσ' H'=>W (i+1) m σ' H',λσ' H' h=>⟨m,by omega,h⟩,λx H2 yl=> ?_⟩
   obtain ⟨rfl,ev⟩:=g3 i x H2 yl
   have hy:ys[i]? =some ys[i] :=List.getElem?_eq_getElem (by omega)
   obtain ⟨y,ey,ry⟩:=WQ rs ev
   rw [List.drop_eq_getElem_cons (by omega:i<ys.length)] at Um
   have ey2:ys[i] =y:=by rw [hy] at ey;exact Option.some.inj ey
   rw [ey2] at Um
   unfold FQ at Um
   split at Um
   ·rename_i b h e er
    refine VW (H:=H) (m:=mm) (b:=b) (h:=h) (e:=e) (x:=y) va ex np FU (by omega) ry er λz2 z3 z4 z5 z6 H3 ex3 uK=>⟨by omega,z2,z3,z4,z5,z6,_,rfl,ex3,uK,Um, ?_⟩
    ·have:=Ld (m:=mm) (b:=b) (h:=h) (e:=e);omega
   ·cases Um
theorem VV {D:Mu} {v0:V} {x:PV} {ys:List PV} {mfin:List (FK×Int)} (va:GZ T M H) (r:CB K T M H v0 x) (hx:x= .tup ys\/x= .lst ys) (hl:2*ys.length+2<sizeLine) (hs:FQ ys [] =some mfin)
 (fin:∀p H',(∀b o,H b=some o->H' b=some o)->H p=none->H' p=some (.dN K (Bz mfin))->D.rt (.ref p) H'):ie K D [some v0,none,none,none,none,none,none] H:=by
 intro p hp
 have e1:∀b o,H b=some o->upd H p (.dN K []) b=some o:=λb o e=>by rw [Af (As e hp)];exact e
 have last:∀z2 z3 z4 z5 z6 H',(∀b o,H b=some o->H' b=some o)->H' p=some (.dN K (Bz mfin))->(aU (Fk 1)) D [some v0,some (.ref p),z2,z3,z4,z5,z6] H':=λz2 z3 z4 z5 z6 H' ex h=>⟨_,rfl,fin p H' ex hp h⟩
 rcases hx with rfl|rfl
 ·obtain ⟨a,vs,rfl,hq,rs⟩:=Cq (r.mv (va.ext e1))
  refine ⟨_,rfl,a,rfl, .inr ⟨⟨vs,hq⟩, ?_⟩⟩
  refine N6 (D:={D with nx:=(aU (Fk 1)) D}) va hp (λH' ex=> ?_) e1 Ah hl hs last
  obtain ⟨a',vs',e,Qa,rs'⟩:=Cq (r.mv (va.ext ex))
  cases e
  refine ⟨vs',rs',λi hi=>⟨vs',vs'[i]'(by rw [rs'.length];exact hi),Qa,List.getElem?_eq_getElem _⟩,λi hi=>⟨vs',Qa,by rw [rs'.length];exact hi⟩,λi x H2 yl=>⟨yl.1,yl.2 vs' Qa⟩⟩
 ·obtain ⟨a,vs,rfl,hq,_,_,rs⟩:=Dq (r.mv (va.ext e1))
  refine ⟨_,rfl,a,rfl, .inl ⟨⟨vs, .inl (.inl hq)⟩, ?_⟩⟩
  refine N6 (D:={D with nx:=(aU (Fk 1)) D}) va hp (λH' ex=> ?_) e1 Ah hl hs last
  obtain ⟨a',vs',e,Qa,_,_,rs'⟩:=Dq (r.mv (va.ext ex))
  cases e
  refine ⟨vs',rs',λi hi=>⟨vs',vs'[i]'(by rw [rs'.length];exact hi), .inl (.inl Qa),List.getElem?_eq_getElem _⟩,λi hi=>⟨vs', .inl (.inl Qa),by rw [rs'.length];exact hi⟩,λi x H2 yl=>⟨yl.1,yl.2 vs' (.inl (.inl Qa))⟩⟩
end
def HG:AF:=λxs Q=>match xs with | [x] =>TJ x λys=>2*ys.length+2<sizeLine/\∃m,FQ ys [] =some m/\Q (.dct m)|_=>False
theorem UF {xs:List PV} {Q:PV->Prop} (h:HG xs Q):∃x ys m,xs= [x] /\(x= .tup ys\/x= .lst ys)/\2*ys.length+2<sizeLine/\FQ ys [] =some m/\Q (.dct m):=by
 unfold HG at h
 split at h
 ·obtain ⟨ys,hx,hz,m,hm,q⟩:=IW h
  exact ⟨_,ys,m,rfl,hx,hz,hm,q⟩
 ·exact h.elim
section
variable {K:PySem.W.Frag} {T M:Addr->Prop} {H H':Hp}
theorem dH {k:Nat} {A:Around} (hr:Room k A):A.units+2<cLine:=by have:=hr.un;omega
theorem dX (va:GZ T M H) (ex:∀b o,H b=some o->H' b=some o):DT T H T H' where
 keep:=λb u _ e=>ex b u e
 sub:=λ_ t=>t
 new:=λ_ t=> .inl t
 tp:=λa t=>let ⟨d,x,e,q⟩:=va.tp a t;⟨d,x,ex _ _ e,q⟩
theorem dF {p:Addr} {m:List (FK×Int)} (va:GZ T M H) (np:H p=none) (hp:H' p=some (.dN K (Bz m))):CB K T M H' (.ref p) (.dct m):=by
 refine .dct hp (λz=> ?_) (λz=> ?_)
 ·obtain ⟨o,e,_⟩:=(va.tp p z).mut
  rw [np] at e;cases e
 ·obtain ⟨o,e,_⟩:=va.mu p z
  rw [np] at e;cases e
end
end PL
end
section
namespace L2
open PySem PySem.Spec PyProof.Rows
section
variable {X:Cx} {a b:Expr} {rest:List Expr} {pos:Pos} {ta tb:TE}
end
end L2
namespace PL
open PySem PySem.Spec PyProof.Rows L2
section
variable {X:Cx} {a b:Expr} {rest:List Expr} {pos:Pos} {ta tb:AE}
end
end PL
end
section
namespace L2
open PySem PySem.Spec PyProof.Rows
section
variable {elt tg iter tg2 iter2:Expr} {ifs ifs2:List Expr} {scope:Scope} {pos:Pos} {it acc:Value} {env:Env}
theorem X3:compTurn (.ListComp elt [⟨tg,iter,ifs,0⟩,⟨tg2,iter2,ifs2,0⟩] scope pos) 0 it acc env=(do
 standAt iter.pos
 match <-pyNext it with
 | none=>pure (.done .next)
 | some v=>
   letOwnedTupleGo tg it v
   assign tg env v
   let mut ok:=true
   for c in ifs do
    if ok then ok <-isTrue c env (eval c env)
   if ok then
    let x <-eval iter2 env
    standAt iter2.pos
    let x <-foldedSetIterable iter2 env x
    let _ <-runOwn (.compStart (.ListComp elt [⟨tg,iter,ifs,0⟩,⟨tg2,iter2,ifs2,0⟩] scope pos) 1 (<-holding [x] (pyIter x)) acc env) env
   again (.compLoop (.ListComp elt [⟨tg,iter,ifs,0⟩,⟨tg2,iter2,ifs2,0⟩] scope pos) 0 it acc env)):=by rfl
theorem X4:compTurn (.ListComp elt [⟨tg,iter,ifs,0⟩,⟨tg2,iter2,ifs2,0⟩] scope pos) 1 it acc env=(do
 standAt iter2.pos
 match <-pyNext it with
 | none=>pure (.done .next)
 | some v=>
   letOwnedTupleGo tg2 it v
   assign tg2 env v
   let mut ok:=true
   for c in ifs2 do
    if ok then ok <-isTrue c env (eval c env)
   if ok then
    (do let _ <-call (.builtin "list.append") [acc,<-eval elt env])
   again (.compLoop (.ListComp elt [⟨tg,iter,ifs,0⟩,⟨tg2,iter2,ifs2,0⟩] scope pos) 1 it acc env)):=by rfl
variable {prog:Program} {w:World} {A:Around} {R:Result->Shared->Prop} {s:Shared}
theorem VR
 (h0:codeAny (model prog w) A (.compLoop (.ListComp elt [⟨tg,iter,ifs,0⟩,⟨tg2,iter2,ifs2,0⟩] scope pos) 1 it acc env) R s)
 (h:wpAny (model prog w) A (pyIter it) (λit' s'=>codeAny (model prog w) A (.compLoop (.ListComp elt [⟨tg,iter,ifs,0⟩,⟨tg2,iter2,ifs2,0⟩] scope pos) 1 it' acc env) R s')
   (notedBy (model prog w) A env λx s'=>R (.error x) s') s):
 codeAny (model prog w) A (.compStart (.ListComp elt [⟨tg,iter,ifs,0⟩,⟨tg2,iter2,ifs2,0⟩] scope pos) 1 it acc env) R s:=by
 refine codeAny_of_tree ?_
 show wpAny _ _ ((compStart (.ListComp elt [⟨tg,iter,ifs,0⟩,⟨tg2,iter2,ifs2,0⟩] scope pos) 1 it acc env).onRaise (λx=>do noteFrame x env;standAt theWindowsPlace)) _ _ s
 refine wpAny_notedAt ?_
 unfold compStart
 show wpAny _ _ (ask >>= _) _ _ s
 refine wpAny_bind (wpAny_askSetting (wpAny_ite ?_))
 split
 ·first
   | exact wpAny_bind (wpAny_pure (wpAny_pure (And.intro rfl h0)))
   | exact wpAny_pure (And.intro rfl h0)
 ·first
   | exact wpAny_bind (wpAny_rule (wpAny_bind (wpAny_standAt (wpAny_bind (wpAny_mono h (λit' s' h'=>wpAny_pure (And.intro rfl h')) λ_ _ x=>x)))))
   | (refine wpAny_bind (wpAny_rule ?_);show wpAny _ _ (standAt iter2.pos >>= _) _ _ s;exact wpAny_bind (wpAny_standAt (wpAny_bind (wpAny_mono h (λit' s' h'=>wpAny_pure (And.intro rfl h')) λ_ _ x=>x))))
end
def Lo (own:Nat) (σ:St):St:=List.replicate own none++σ.drop own
theorem Ku {own:Nat} {σ:St} {j:Nat} {v:V} (h:(Lo own σ)[j]? =some (some v)):own<=j/\σ[j]? =some (some v):=by
 unfold Lo at h
 by_cases hj:j<own
 ·rw [List.getElem?_append_left (by simpa using hj),List.getElem?_replicate,if_pos hj] at h
  cases h
 ·have XO:own<=j:=by omega
  rw [List.getElem?_append_right (by simpa using XO),List.length_replicate,List.getElem?_drop] at h
  rw [show own+(j-own)=j by omega] at h
  exact ⟨XO,h⟩
theorem SX {own:Nat} {σ:St} (h:own<=σ.length):(Lo own σ).length=σ.length:=by simp [Lo];omega
def QM (J:It) (D:Addr) (σ0:St) (g:TG) (tt:TT) (wi2:TI) (own2:Nat) (g2:TG) (tt2:TT) (te:TE) (Q:Hp->Prop) (W:Nat->Nat->Hp->Prop):Prop:=
 ∀i m H,W i m H->(J.stop i H/\Q H)\/(J.go i H/\∀x H',J.yld i H x H'->g x σ0 H' λσ2 H2=>tt σ2 H2 λok H3=>
  if ok=true then wi2 σ2 H3 λJ2 H4=>∃W2:Nat->Nat->Hp->Prop,(∃m2,W2 0 m2 H4)/\IP J2 D (Lo own2 σ2) g2 tt2 te (λH5=>∃m',m'<m/\W (i+1) m' H5) W2 else ∃m',m'<m/\W (i+1) m' H3)
def aT (wi:TI) (own:Nat) (ix:List Nat) (g:TG) (tt:TT) (wi2:TI) (own2:Nat) (g2:TG) (tt2:TT) (te:TE):TE:=λσ H Q=>wi σ H λJ H1=>∀D,H1 D=none->
 ∃W:Nat->Nat->Hp->Prop,(∃m,W 0 m (upd H1 D (.lst [])))/\QM J D (Bs own ix σ) g tt wi2 own2 g2 tt2 te (Q (.ref D)) W
section
variable {X:Cx} {tg elt iter tg2 iter2:Expr} {ifs ifs2:List Expr} {scope:Scope} {pos:Pos} {wi wi2:TI} {own own2:Nat} {ix:List Nat} {N:List Str} {g g2:TG} {tt tt2:TT} {te:TE}
structure L6 (X:Cx) (tg elt:Expr) (ifs:List Expr) (tg2 iter2:Expr) (ifs2:List Expr) (scope:Scope) (own:Nat) (ix:List Nat) (N:List Str) (g:TG) (tt:TT) (wi2:TI) (own2:Nat) (g2:TG) (tt2:TT) (te:TE):Prop where
 kind:scope.kind= .function
 nocell:∀y∈scope.names,y.2≠ .cell
 names:∀y∈scope.names,y.2= .local->scope.names.lookup y.1=some .local
 frees:∀y∈scope.names,y.2= .free->X.env.scope.names.lookup y.1=some .cell
 ins:O3 X (relabel scope X.env) own ix N
 keep:Go own g
 keep2:Go own2 g2
 le2:own2<=own
 tgt:∀cl C s H ex pn,PG (blk X (relabel scope X.env) N cl C s H ex pn) tg g
 tst:∀cl C s H ex pn,Vg (blk X (relabel scope X.env) N cl C s H ex pn) ifs tt
 itr2:∀cl C s H ex pn,PI (blk X (relabel scope X.env) N cl C s H ex pn) tg2 iter2 wi2
 set2:∀cl C s H ex pn x,foldedSetIterable iter2 (blk X (relabel scope X.env) N cl C s H ex pn).env x=pure x
 tgt2:∀cl C s H ex pn,PG (blk X (relabel scope X.env) N cl C s H ex pn) tg2 g2
 tst2:∀cl C s H ex pn,Vg (blk X (relabel scope X.env) N cl C s H ex pn) ifs2 tt2
 val:∀cl C s H ex pn,PE (blk X (relabel scope X.env) N cl C s H ex pn) elt te
theorem bT {Y:Cx} {c0:Comprehension} {pins:List (Addr×Obj)} {σ0:St} {fp:List Addr} {it:Addr} {tn:Nat->Heap->Prop} {J:It} {D:Addr} {R:Result->Shared->Prop} {Qh:Hp->Prop} {W:Nat->Nat->Hp->Prop}
 (uN:∀it acc,compTurn (.ListComp elt [c0,⟨tg2,iter2,ifs2,0⟩] scope pos) 1 it acc Y.env=(do
   standAt iter2.pos
   match <-pyNext it with
   | none=>pure (.done .next)
   | some v=>
     letOwnedTupleGo tg2 it v
     assign tg2 Y.env v
     let mut ok:=true
     for c in ifs2 do
      if ok then ok <-isTrue c Y.env (eval c Y.env)
     if ok then
      (do let _ <-call (.builtin "list.append") [acc,<-eval elt Y.env])
     again (.compLoop (.ListComp elt [c0,⟨tg2,iter2,ifs2,0⟩] scope pos) 1 it acc Y.env)))
 (eX:Y.xe=λ_ _=>False) (eC:Y.calm=true) (hg:PG Y tg2 g2) (hk:Go own2 g2) (ht:Vg Y ifs2 tt2) (hv:PE Y elt te) (T:Ka Y.prog Y.w Y.K tg2 J fp it tn)
 (tQ:∀j v,σ0[j]? =some (some v)->own2<=j) (stat:∀{H':Hp},(∀b∈fp,H' b=none)->∀b∈fp,Dh Y pins H' b)
 (hW:IP J D σ0 g2 tt2 te Qh W) (hR:∀H' s',Inv Y pins σ0 H' s'->Qh H'->R (.ok .next) s')
 (n:Nat) (s0:Shared) (h0:∃i H',Inv Y pins σ0 H' s0/\tn i s0.heap/\(∀b∈fp,H' b=none)/\W i n H'):
 codeAny (model Y.prog Y.w) Y.A (.compLoop (.ListComp elt [c0,⟨tg2,iter2,ifs2,0⟩] scope pos) 1 (.ref it) (.ref D) Y.env) R s0:=by
 refine codeAny_loop rfl (λn s'=>∃i H',Inv Y pins σ0 H' s'/\tn i s'.heap/\(∀b∈fp,H' b=none)/\W i n H') (λn s1 h1=> ?_) n h0
 obtain ⟨i,H1,B1,st1,fr1,w1⟩:=h1
 show wpAny _ _ ((compTurn (.ListComp elt [c0,⟨tg2,iter2,ifs2,0⟩] scope pos) 1 (.ref it) (.ref D) Y.env).onRaise (λx=>do noteFrame x Y.env;theTreesLotGoes x)) _ _ s1
 refine wpAny_noted ?_
 rw [uN]
 have ff:∀{α:Type} {t:Sem α} {Q:α->Shared->Prop} {E:Value->Shared->Prop} {s:Shared},wpAny (model Y.prog Y.w) Y.A t Q Y.xe s->wpAny (model Y.prog Y.w) Y.A t Q E s:=λh=>wpAny_mono h (λ_ _ q=>q) λ_ _ z=>by rw [eX] at z;exact z.elim
 refine wpAny_bind (wpAny_standAt (wpAny_bind ?_))
 rcases hW i n H1 w1 with ⟨stop,qn⟩|⟨go,step⟩
 ·refine BV (T.done Y rfl rfl rfl eC i pins s1 _ H1 _ B1 (stat fr1) st1 stop) λr s4 ⟨hr,I4⟩=> ?_
  subst hr
  exact wpAny_pure (hR _ _ I4 qn)
 ·refine BV (T.item Y rfl rfl rfl eC i pins s1 _ H1 _ B1 (stat fr1) st1 go) λr s4 ⟨u,hr,h4⟩=> ?_
  subst hr
  refine wpAny_bind (BV h4 λ_ s5 ⟨x,H5,I5,r5,y5,st5,fr5⟩=> ?_)
  have I5':=I5.pinned (stat fr5) (T.obj _ _ st5)
  refine wpAny_bind (BV (ff (hg _ s5 _ H5 x u _ I5' r5 (hk _ _ _ _ (step x H5 y5)))) λ_ s6 ⟨σ6,H6,I6,q6,l6,k6⟩=> ?_)
  refine wpAny_bind (BV (ff (ht _ s6 σ6 H6 _ I6 q6)) λok s7 ⟨H7,I7,q7⟩=> ?_)
  have back:∀{H8:Hp} {s8:Shared} {m':Nat},Inv Y (pins++FI fp s5.heap) σ6 H8 s8->m'<n->W (i+1) m' H8->
   ∃m,m<n/\∃i H',Inv Y pins σ0 H' s8/\tn i s8.heap/\(∀b∈fp,H' b=none)/\W i m H':=λ{H8 s8 m'} I8 hm w8=>by
   refine ⟨m',hm,i+1,H8,I8.unpinned.weak l6.symm (λj v hj=> ?_),T.keep _ _ _ st5 λb hb o e=>(I8.pin (b,o) (List.mem_append_right _ (List.mem_append_right _ (Bx hb e)))).1,λb hb=> ?_,w8⟩
   ·rw [k6 j (tQ j v hj)]
    exact hj
   ·obtain ⟨o,e,d⟩:=T.obj _ _ st5 b hb
    exact (I8.pin (b,o) (List.mem_append_right _ (List.mem_append_right _ (Bx hb e)))).2.1
  cases ok with
  | false=>
    obtain ⟨m',hm,w8⟩:=q7
    exact wpAny_pure ⟨rfl,back I7 hm w8⟩
  | true=>
    refine wpAny_bind (wpAny_bind (BV (ff (hv _ s7 σ6 H7 _ I7 q7)) λyv s8 ⟨y,H8,I8,r8,ys,hD,hz,m',hm,w8⟩=> ?_))
    refine wpAny_bind (BV (ff (HJ _ s8 σ6 H8 (.ref D) [y] (.ref D) [yv] (λ_ H9=>H9=upd H8 D (.lst (ys ++ [y]))) I8 rfl (.cons r8 .nil) ⟨D,ys,y,rfl,rfl,hD,hz,rfl⟩)) λ_ s9 ⟨_,H9,I9,_,e9⟩=> ?_)
    subst e9
    exact wpAny_pure (wpAny_pure ⟨rfl,back I9 hm w8⟩)
theorem US {pins:List (Addr×Obj)} {σ:St} {H:Hp} {s:Shared} {fp:List Addr} {cl:List (Str×Addr)} {it:Addr} {tn:Nat->Heap->Prop} {J:It} {D:Addr} {R:Result->Shared->Prop} {Qh:Hp->Prop} {W:Nat->Nat->Hp->Prop}
 (hc:X.calm=true) (O:L6 X tg elt ifs tg2 iter2 ifs2 scope own ix N g tt wi2 own2 g2 tt2 te) (T:Ka X.prog X.w X.K tg J fp it tn) (I:Inv X pins σ H s) (hf:∀b∈fp,Dh X pins H b) (Dt:∀b∈fp,b<s.heap.objs.size)
 (hW:QM J D (Bs own ix σ) g tt wi2 own2 g2 tt2 te Qh W)
 (hR:∀σ' H' s',Inv (blk X (relabel scope X.env) N cl s.heap.objs.size s H fp (X.pn++pins)) [] σ' H' s'->Qh H'->R (.ok .next) s')
 (n:Nat) (s0:Shared) (h0:∃i H',Inv (blk X (relabel scope X.env) N cl s.heap.objs.size s H fp (X.pn++pins)) [] (Bs own ix σ) H' s0/\tn i s0.heap/\(∀b∈fp,H' b=none)/\W i n H'):
 codeAny (model X.prog X.w) X.A (.compLoop (.ListComp elt [⟨tg,iter,ifs,0⟩,⟨tg2,iter2,ifs2,0⟩] scope pos) 0 (.ref it) (.ref D) (FE X.env (relabel scope X.env) cl s.heap.objs.size)) R s0:=by
 refine codeAny_loop rfl (λn s'=>∃i H',Inv (blk X (relabel scope X.env) N cl s.heap.objs.size s H fp (X.pn++pins)) [] (Bs own ix σ) H' s'/\tn i s'.heap/\(∀b∈fp,H' b=none)/\W i n H') (λn s1 h1=> ?_) n h0
 obtain ⟨i,H1,B1,st1,fr1,w1⟩:=h1
 have lenS:own2<=(Bs own ix σ).length:=by rw [Ko];exact Nat.le_trans O.le2 (Nat.le_add_right _ _)
 generalize hY:blk X (relabel scope X.env) N cl s.heap.objs.size s H fp (X.pn++pins)=Y at *
 have eA:Y.A=X.A:=by rw [<-hY];rfl
 have eP:Y.prog=X.prog:=by rw [<-hY];rfl
 have eW:Y.w=X.w:=by rw [<-hY];rfl
 have eK:Y.K=X.K:=by rw [<-hY];rfl
 have eE:FE X.env (relabel scope X.env) cl s.heap.objs.size=Y.env:=by rw [<-hY];rfl
 have eX:Y.xe=λ_ _=>False:=by rw [<-hY];rfl
 have eC:Y.calm=true:=by rw [<-hY];exact hc
 have hg:PG Y tg g:=by rw [<-hY];exact O.tgt _ _ _ _ _ _
 have ht:Vg Y ifs tt:=by rw [<-hY];exact O.tst _ _ _ _ _ _
 have nN:PI Y tg2 iter2 wi2:=by rw [<-hY];exact O.itr2 _ _ _ _ _ _
 have Rh:∀x,foldedSetIterable iter2 Y.env x=pure x:=by rw [<-hY];exact O.set2 _ _ _ _ _ _
 have gM:PG Y tg2 g2:=by rw [<-hY];exact O.tgt2 _ _ _ _ _ _
 have ni:Vg Y ifs2 tt2:=by rw [<-hY];exact O.tst2 _ _ _ _ _ _
 have hv:PE Y elt te:=by rw [<-hY];exact O.val _ _ _ _ _ _
 have stat:∀{H':Hp},(∀b∈fp,H' b=none)->∀b∈fp,Dh Y [] H' b:=λ{H'} hn b hb=>by
  obtain ⟨_,a1,a2,a3,a4,a5⟩:=hf b hb
  refine ⟨hn b hb, ?_, ?_, ?_, ?_, ?_⟩
  ·rw [<-hY];exact Nat.ne_of_lt (Dt b hb)
  ·rw [<-hY];exact I.notStk a1 a2
  ·rw [<-hY];exact .inl hb
  ·intro x c e
   exact (B1.ok.exf b (by rw [<-hY];exact hb)).2 x c e
  ·intro p hp
   have:p∈X.pn++pins:=by rw [<-hY] at hp;simpa [blk] using hp
   exact a5 p this
 rw [eE,<-eA,<-eP,<-eW]
 show wpAny _ _ ((compTurn (.ListComp elt [⟨tg,iter,ifs,0⟩,⟨tg2,iter2,ifs2,0⟩] scope pos) 0 (.ref it) (.ref D) Y.env).onRaise (λx=>do noteFrame x Y.env;theTreesLotGoes x)) _ _ s1
 refine wpAny_noted ?_
 rw [X3]
 have ff:∀{α:Type} {t:Sem α} {Q:α->Shared->Prop} {E:Value->Shared->Prop} {s:Shared},wpAny (model Y.prog Y.w) Y.A t Q Y.xe s->wpAny (model Y.prog Y.w) Y.A t Q E s:=λh=>wpAny_mono h (λ_ _ q=>q) λ_ _ z=>by rw [eX] at z;exact z.elim
 refine wpAny_bind (wpAny_standAt (wpAny_bind ?_))
 rcases hW i n H1 w1 with ⟨stop,qn⟩|⟨go,step⟩
 ·have zd:=λE=>T.done Y eP eW eK eC i [] s1 _ H1 E B1 (stat fr1) st1 stop
  rw [<-eP,<-eW] at zd
  refine BV (zd _) λr s4 ⟨hr,I4⟩=> ?_
  subst hr
  exact wpAny_pure (hR _ _ _ I4 qn)
 ·have zi:=λE=>T.item Y eP eW eK eC i [] s1 _ H1 E B1 (stat fr1) st1 go
  rw [<-eP,<-eW] at zi
  refine BV (zi _) λr s4 ⟨u,hr,h4⟩=> ?_
  subst hr
  refine wpAny_bind (BV h4 λ_ s5 ⟨x,H5,I5,r5,y5,st5,fr5⟩=> ?_)
  have I5':=I5.pinned (stat fr5) (T.obj _ _ st5)
  refine wpAny_bind (BV (ff (hg _ s5 _ H5 x u _ I5' r5 (O.keep _ _ _ _ (step x H5 y5)))) λ_ s6 ⟨σ6,H6,I6,q6,l6,k6⟩=> ?_)
  refine wpAny_bind (BV (ff (ht _ s6 σ6 H6 _ I6 q6)) λok s7 ⟨H7,I7,q7⟩=> ?_)
  have back:∀{σ8:St} {H8:Hp} {s8:Shared} {m':Nat},Inv Y ([] ++ FI fp s5.heap) σ8 H8 s8->σ8.length=σ6.length->(∀j v,own<=j->σ6[j]? =some (some v)->σ8[j]? =some (some v))->m'<n->W (i+1) m' H8->
   ∃m,m<n/\∃i H',Inv Y [] (Bs own ix σ) H' s8/\tn i s8.heap/\(∀b∈fp,H' b=none)/\W i m H':=λ{σ8 H8 s8 m'} I8 hl uM hm w8=>by
   refine ⟨m',hm,i+1,H8,I8.unpinned.weak (hl.trans l6).symm (λj v hj=> ?_),T.keep _ _ _ st5 λb hb o e=>(I8.pin (b,o) (List.mem_append_right _ (List.mem_append_right _ (Bx hb e)))).1,λb hb=> ?_,w8⟩
   ·have qN:=(Ec hj).1
    exact uM j v qN (by rw [k6 j qN];exact hj)
   ·obtain ⟨o,e,d⟩:=T.obj _ _ st5 b hb
    exact (I8.pin (b,o) (List.mem_append_right _ (List.mem_append_right _ (Bx hb e)))).2.1
  cases ok with
  | false=>
    obtain ⟨m',hm,w8⟩:=q7
    exact wpAny_pure ⟨rfl,back I7 rfl (λ_ _ _ z=>z) hm w8⟩
  | true=>
    rw [if_pos rfl] at q7
    refine wpAny_bind (BV (ff (nN _ s7 σ6 H7 _ I7 q7)) λv2 s8 cI=> ?_)
    refine wpAny_bind (wpAny_standAt (wpAny_bind (wpAny_of_eq (Rh v2) (wpAny_bind (wpAny_holding (BV (ff cI) λitv s9 uQ=> ?_))))))
    obtain ⟨it2,fp2,tn2,J2,H9,rfl,I9,T2,st9,f9,W2,⟨m2,w2⟩,tW⟩:=uQ
    have I9':Inv Y ([] ++ FI fp s5.heap) (Lo own2 σ6) H9 s9:=I9.weak (SX (by rw [l6];exact lenS)) (λj v hj=>(Ku hj).2)
    have loop:codeAny (model Y.prog Y.w) Y.A (.compLoop (.ListComp elt [⟨tg,iter,ifs,0⟩,⟨tg2,iter2,ifs2,0⟩] scope pos) 1 (.ref it2) (.ref D) Y.env) (λr s'=>match r with | .ok f=>∃m,m<n/\∃i H',Inv Y [] (Bs own ix σ) H' s'/\tn i s'.heap/\(∀b∈fp,H' b=none)/\W i m H' | .error e=>cameBackBy (model Y.prog Y.w) Y.A Y.env (notedBy (model Y.prog Y.w) Y.A Y.env λx s'=>R (.error x) s') e s') s9:=by
     refine bT (own2:=own2) (pins:= [] ++ FI fp s5.heap) (λ_ _=>X4) eX eC gM O.keep2 ni hv T2 (λj v hj=>(Ku hj).1) (λhn b hb=>⟨hn b hb,(f9 b hb).2⟩) tW (λH' s' I' q'=> ?_) m2 s9 ⟨0,H9,I9',st9,λb hb=>(f9 b hb).1,w2⟩
     obtain ⟨m',hm,w8⟩:=q'
     refine back I' (SX (by rw [l6];exact lenS)) (λj v hj e=> ?_) hm w8
     have tS:own2<=j:=Nat.le_trans O.le2 hj
     unfold Lo
     rw [List.getElem?_append_right (by simpa using tS),List.length_replicate,List.getElem?_drop,show own2+(j-own2)=j by omega]
     exact e
    refine wpAny_bind (wpAny_runOwn (h:=none) (VR ?_ ?_))
    ·exact codeAny_mono loop (λr s' h'=>by
      cases r with
      | ok f=>exact wpAny_pure ⟨rfl,h'⟩
      | error e=>exact h')
    ·exact T2.self _ 0 _ _ _ st9 (codeAny_mono loop (λr s' h'=>by
      cases r with
      | ok f=>exact wpAny_pure ⟨rfl,h'⟩
      | error e=>exact h'))
theorem W8 {pins:List (Addr×Obj)} {σ:St} {H:Hp} {s:Shared} {use:Option (Value->Sem Unit)} {Q:Value->Shared->Prop} {it:Addr} {fp:List Addr} {cl:List (Str×Addr)} {tn:Nat->Heap->Prop} {J:It} {Qd:Addr->Hp->Prop}
 (hc:X.calm=true) (O:L6 X tg elt ifs tg2 iter2 ifs2 scope own ix N g tt wi2 own2 g2 tt2 te) (T:Ka X.prog X.w X.K tg J fp it tn) (I:Inv X pins σ H s) (hf:∀b∈fp,Dh X pins H b) (st:tn 0 s.heap)
 (h1:∀y c,cl.lookup y=some c->X.env.cells.lookup y=some c) (h2:∀y,(y,NameKind.free)∈scope.names->∃c,cl.lookup y=some c)
 (hq:∀D,H D=none->∃W:Nat->Nat->Hp->Prop,(∃m,W 0 m (upd H D (.lst [])))/\QM J D (Bs own ix σ) g tt wi2 own2 g2 tt2 te (Qd D) W)
 (hR:∀D C H' s',(∃m,s'.heap.Ns C m)->Inv X pins σ H' s'->(∀σ2 s2,Inv X pins σ2 H' s2->∀h',Heap.SameBut C s2.heap h'->Inv X pins σ2 H' {s2 with heap:=h'})->C≠X.env.locals->(∀x c,X.env.cells.lookup x=some c->C≠c)->Qd D H'->
   compPost (model X.prog X.w) X.A X.xe use Q (.ref D) C (.ok .next) s'):
 wpAny (model X.prog X.w) X.A (newList []) (λacc s₃=>wpAny (model X.prog X.w) X.A (newFunctionEnv scope X.env.globals cl [] X.env.qual none .none (some X.env)) (λcenv s₄=>
  codeAny (model X.prog X.w) X.A (.compStart (.ListComp elt [⟨tg,iter,ifs,0⟩,⟨tg2,iter2,ifs2,0⟩] scope pos) 0 (.ref it) acc {cenv with scope:=relabel scope X.env}) (compPost (model X.prog X.w) X.A X.xe use Q acc cenv.locals) s₄) X.xe s₃) X.xe s:=by
 refine wpAny_newObj_type ?_ (by simp [sizeOk])
 have I3:Inv X pins σ (upd H s.heap.objs.size (.lst [])) {s with heap:=s.heap.push {cls:= .type "list",data:= .seq ([] :List Value).toArray}}:=I.lnew (t':=s.toks) .nil (Nat.zero_le _)
 have Uj:=I.fresh
 obtain ⟨W,⟨m0,w0⟩,hW⟩:=hq _ Uj
 have ZD:∀b∈fp,b<s.heap.objs.size:=λb hb=>by
  obtain ⟨o,e,_⟩:=T.obj _ _ st b hb
  exact Heap.lt_size e
 have V6:∀b∈fp,Dh X pins (upd H s.heap.objs.size (.lst [])) b:=λb hb=>by
  obtain ⟨a0,ar⟩:=hf b hb
  exact ⟨by rw [Af (Nat.ne_of_lt (ZD b hb))];exact a0,ar⟩
 generalize j8:({s with heap:=s.heap.push {cls:= .type "list",data:= .seq ([] :List Value).toArray}}:Shared)=s3 at I3
 have st3:tn 0 s3.heap:=T.keep _ _ _ st λb hb o e=>by rw [<-j8];exact Heap.get?_push_of_some _ e
 have Dt:∀b∈fp,b<s3.heap.objs.size:=λb hb=>by
  obtain ⟨o,e,_⟩:=T.obj _ _ st3 b hb
  exact Heap.lt_size e
 refine wpAny_newFunctionEnv O.nocell (by intro y hy;simp at hy) (λh₁ eQ ng=> ?_) O.kind
 have kp:∀b o,s3.heap.get? b=some o->h₁.get? b=some o:=λb o e=>ng.extBut b o (Nat.ne_of_lt (Heap.lt_size e)) (Heap.get?_push_of_some _ e)
 have jy:∀y,((relabel scope X.env).names.lookup y=some .cell\/(relabel scope X.env).names.lookup y=some .free)->∃c,cl.lookup y=some c:=λy hy=>by
  rcases hy with z|z
  ·exact h2 y (Ex O.nocell (G0 z) (.inl rfl))
  ·exact h2 y (Ex O.nocell (G0 z) (.inr rfl))
 have B:=Yl (N:=N) (t':=s3.toks+([] :List (Str×Value)).length) I3 V6 Dt (sc:=relabel scope X.env) O.kind h1 jy O.ins eQ kp
 have st4:tn 0 h₁:=T.keep _ _ _ st3 λb hb o e=>kp b o e
 have loop:∀s4:Shared,s4={s3 with heap:=h₁,toks:=s3.toks+([] :List (Str×Value)).length}->
  codeAny (model X.prog X.w) X.A (.compLoop (.ListComp elt [⟨tg,iter,ifs,0⟩,⟨tg2,iter2,ifs2,0⟩] scope pos) 0 (.ref it) (.ref s.heap.objs.size) (FE X.env (relabel scope X.env) cl s3.heap.objs.size)) (compPost (model X.prog X.w) X.A X.xe use Q (.ref s.heap.objs.size) s3.heap.objs.size) s4:=by
  rintro s4 rfl
  refine US (cl:=cl) (Qh:=Qd s.heap.objs.size) hc O T I3 V6 Dt hW (λσ' H' s' B' q'=> ?_) m0 _ ⟨0,_,B,st4,λb hb=>(V6 b hb).1,w0⟩
  refine hR _ _ H' s' (let ⟨m,hm,_⟩:=B'.loc;⟨m,hm⟩) (Vq (own:=own) (ix:=ix) I3 V6 Dt B') (λσ2 s2 I2 h' hs=>NB I3 rfl I2 B'.free hs) (Nat.ne_of_gt I3.lt) (λx c e=>Nat.ne_of_gt (I3.szLt e)) q'
 exact codeAny_compStart_list (loop _ rfl) (T.self _ 0 _ _ _ st4 (loop _ rfl))
theorem Zg (hc:X.calm=true) (hi:PI X tg iter wi) (O:L6 X tg elt ifs tg2 iter2 ifs2 scope own ix N g tt wi2 own2 g2 tt2 te) (hs:∀x,foldedSetIterable iter X.env x=pure x:=by intro _;rfl):
 PE X (.ListComp elt [⟨tg,iter,ifs,0⟩,⟨tg2,iter2,ifs2,0⟩] scope pos) (aT wi own ix g tt wi2 own2 g2 tt2 te):=by
 intro pins s σ H Q I h
 obtain ⟨cl,NN,h1,h2⟩:=Fx (env:=X.env) (scope:=scope) λy hy e=>I.ok.has y.1 (.inl (O.frees y hy e))
 rw [eval_ListComp]
 refine wpAny_comprehension_free (use:=none) rfl hs NN O.kind O.names (BV (hi pins s σ H _ I h) λv s1 hv=>BV hv λitv s2 cI=> ?_)
 obtain ⟨it,fp,tn,J,H2,rfl,I2,T,st2,f2,q⟩:=cI
 exact W8 (Qd:=λD H'=>Q (.ref D) H') hc O T I2 f2 st2 h1 h2 q λD C H' s' hn I' gone nl nc q'=>by
  obtain ⟨m,hm⟩:=hn
  exact ⟨m,hm,λh' hs=>⟨.ref D,H',gone σ s' I' h' hs,rfl,q'⟩⟩
end
end L2
end
section
namespace PL
open PySem PySem.Spec PyProof.Rows L2
def NE (own:Nat) (τ:BC):BC:=List.replicate own none++τ.drop own
def IQ (g:AG) (t:AT) (ai2:AI) (own2:Nat) (g2:AG) (t2:AT) (te:AE) (τ0:BC) (Q:List PV->Prop):List PV->List PV->Prop
 | [],acc=>Q acc
 | x::r,acc=>g x τ0 λτ1=>t τ1 λok=>if ok=true then ai2 τ1 λys=>acc.length+ys.length<sizeLine/\Cm g2 t2 te (NE own2 τ1) (IQ g t ai2 own2 g2 t2 te τ0 Q r) ys acc else IQ g t ai2 own2 g2 t2 te τ0 Q r acc
def M4 (ai:AI) (own:Nat) (ix:List Nat) (g:AG) (t:AT) (ai2:AI) (own2:Nat) (g2:AG) (t2:AT) (te:AE):AA:=λτ Q=>ai τ λxs=>IQ g t ai2 own2 g2 t2 te (JG own ix τ) Q xs []
theorem SR.noOwn {K:PySem.W.Frag} {B:Cn} {T:Addr->Prop} {H:Hp} {σ:L2.St} {τ:BC} (s:SR K B T H σ τ) (V9:∀b,¬Cz σ τ b) {i:Nat} {xs:List PV}:τ[i]? ≠some (some (.own xs)):=λe=>by
 obtain ⟨p,vs,e2,_⟩:=s.own i xs e
 exact V9 p ⟨i,xs,e,e2⟩
theorem SR.swap {K:PySem.W.Frag} {B:Cn} {T6 T7:Addr->Prop} {H6 H7:Hp} {σ σ0:L2.St} {τ τ0:BC} (s6:SR K B T6 H6 σ τ) (V9:∀b,¬Cz σ τ b) (s7:SR K B T7 H7 σ0 τ0) (mv:Mv K T6 (mt B σ τ) H6 T7 (mt B σ τ) H7):SR K B T7 H7 σ τ:=
 ⟨s6.len,λi x e=>let ⟨v,h,r⟩:=s6.val i x e;⟨v,h,r.mv mv⟩,λi xs e=>absurd e (s6.noOwn V9),λi j xs ys p e=>absurd e (s6.noOwn V9),s7.tp,s7.bm,s7.bt,s7.st⟩
theorem JJ {own:Nat} {τ:BC} {j:Nat} {x:AV} (h:(NE own τ)[j]? =some (some x)):own<=j/\τ[j]? =some (some x):=by
 unfold NE at h
 by_cases hj:j<own
 ·rw [List.getElem?_append_left (by simpa using hj),List.getElem?_replicate,if_pos hj] at h
  cases h
 ·have XO:own<=j:=by omega
  rw [List.getElem?_append_right (by simpa using XO),List.length_replicate,List.getElem?_drop] at h
  rw [show own+(j-own)=j by omega] at h
  exact ⟨XO,h⟩
theorem SR.cut {K:PySem.W.Frag} {B:Cn} {T:Addr->Prop} {H:Hp} {σ:L2.St} {τ:BC} {own:Nat} (s:SR K B T H σ τ) (V9:∀b,¬Cz σ τ b):SR K B T H (Lo own σ) (NE own τ)/\∀b,¬Cz (Lo own σ) (NE own τ) b:=by
 have j5:∀b,¬Cz (Lo own σ) (NE own τ) b:=λb ⟨i,xs,e1,e2⟩=>V9 b ⟨i,xs,(JJ e1).2,(Ku e2).2⟩
 refine ⟨⟨by simp [Lo,NE,s.len],λi x e=> ?_,λi xs e=>absurd (JJ e).2 (s.noOwn V9),λi j xs ys p e=>absurd (JJ e).2 (s.noOwn V9),s.tp,s.bm,s.bt,s.st⟩,j5⟩
 obtain ⟨XO,e2⟩:=JJ e
 obtain ⟨v,hv,r⟩:=s.val i x e2
 refine ⟨v, ?_,r.mv (.anti s.va λa z=>z.elim .inl λz=>absurd z (j5 a))⟩
 unfold Lo
 rw [List.getElem?_append_right (by simpa using XO),List.length_replicate,List.getElem?_drop,show own+(i-own)=i by omega]
 exact hv
structure OR (D:Addr) (T:Addr->Prop) (H:Hp) (T':Addr->Prop) (H':Hp):Prop where
 keep:∀b o,¬T b->b≠D->H b=some o->H' b=some o
 sub:∀b,T b->T' b
 new:∀b,T' b->T b\/H b=none
 tp:∀b,H b≠none->H' b≠none
theorem OR.refl {D:Addr} {T:Addr->Prop} {H:Hp}:OR D T H T H:=⟨λ_ _ _ _ e=>e,λ_ e=>e,λ_ e=> .inl e,λ_ e=>e⟩
theorem DT.atD {D:Addr} {T T':Addr->Prop} {H H':Hp} (s:DT T H T' H'):OR D T H T' H':=⟨λb o t _ e=>s.keep b o t e,s.sub,s.new,λb e=>s.some e⟩
theorem OR.upd {D:Addr} {T:Addr->Prop} {H:Hp} {o:HO}:OR D T H T (upd H D o):=⟨λb o' _ n e=>by rw [Af n];exact e,λ_ e=>e,λ_ e=> .inl e,λb e=>by
 by_cases h:b=D
 ·subst h;rw [Ah];exact λz=>nomatch z
 ·rw [Af h];exact e⟩
theorem OR.trans {D:Addr} {T T1 T2:Addr->Prop} {H H1 H2:Hp} (a:OR D T H T1 H1) (b:OR D T1 H1 T2 H2):OR D T H T2 H2 where
 keep:=λx o t n e=>b.keep x o (λz=>(a.new x z).elim t λz=>by rw [e] at z;cases z) n (a.keep x o t n e)
 sub:=λx t=>b.sub x (a.sub x t)
 new:=λx t=>(b.new x t).elim (λz=>a.new x z) λz=> .inr (by
  cases e:H x with
  | none=>rfl
  | some o=>exact absurd z (a.tp x (by rw [e];exact λz=>nomatch z)))
 tp:=λx e=>b.tp x (a.tp x e)
theorem Xx {K:PySem.W.Frag} {s:Bool} {wi wi2:TI} {ai ai2:AI} {own own2:Nat} {ix:List Nat} {g g2:TG} {ag ag2:AG} {tt tt2:TT} {at' at2:AT} {te:TE} {ta:AE} (hi:Wy K s wi ai) (hg:JC K g ag) (ht:Ln K tt at') (nN:Wy K true wi2 ai2) (gM:JC K g2 ag2) (ni:Ln K tt2 at2) (he:Fv K te ta):
 Ye K (aT wi own ix g tt wi2 own2 g2 tt2 te) (M4 ai own ix ag at' ai2 own2 ag2 at2 ta):=by
 intro B T σ τ H Q AQ sr h k
 refine hi B T σ τ H _ _ sr h λJ xs T1 H1 s1 walk h1 D hD=> ?_
 have sr1:=sr.stp s1
 have nt1:¬T1 D:=λz=>by obtain ⟨o,e,_⟩:=(sr1.tp D z).mut;rw [hD] at e;cases e
 have lay:=DT.lay (o:= .lst []) sr1.tp hD
 refine ⟨λi m H2=>m=xs.length-i/\∃T2 vs acc,DT T1 H1 T2 H2/\H2 D=some (.lst vs)/\¬T2 D/\A0 K T2 (λa=>mt B σ τ a\/a=D) H2 vs acc/\IQ ag at' ai2 own2 ag2 at2 ta (JG own ix τ) AQ (xs.drop i) acc,
  ⟨_,rfl,T1, [], [],lay,Ah,nt1, .nil,h1⟩, ?_⟩
 rintro i m H2 ⟨rfl,T2,vs,acc,s2,b9,nt2,r2,h2⟩
 have srb:=sr1.blk (own:=own) (ix:=ix) s2 hD b9 nt2
 have va2:GZ T2 (λa=>mt B σ τ a\/a=D) H2:=⟨srb.tp,srb.bm⟩
 have w:=walk (λa=>mt B σ τ a\/a=D) T2 H2 ⟨sr1.va,λb o t _ e=>s2.keep b o t e,s2.sub,λb n t=>(s2.new b t).elim id λz=>absurd z n,λb n z=>z.elim id λz=>by subst z;exact absurd hD n⟩ va2 (.inr s2.keep)
 by_cases Dt:i<xs.length
 ·have Su:xs[i]? =some xs[i] :=List.getElem?_eq_getElem Dt
  rw [List.drop_eq_getElem_cons Dt] at h2
  refine .inr ⟨w.go i _ Su,λv H3 yl=> ?_⟩
  obtain ⟨s3,r3⟩:=w.yld i _ v H3 Su yl
  have sr3:=srb.stp s3
  refine hg _ T2 _ _ H3 v _ _ _ sr3 (r3.mv (.anti ⟨sr3.tp,sr3.bm⟩ λa z=>z.elim id λ⟨_,_,z,_⟩=>absurd z Ff)) h2 λσ4 τ4 sr4 o4 h4=> ?_
  have no4:∀b,¬Cz σ4 τ4 b:=λb z=>by obtain ⟨_,_,z,_⟩:=o4 b z;exact absurd z Ff
  refine ht _ T2 σ4 τ4 H3 _ _ sr4 h4 λok T5 H5 s5 h5=> ?_
  have sr5:=sr4.stp s5
  have gH:=s3.keep D _ nt2 b9
  have cA:=s5.keep D _ nt2 gH
  have nt5:¬T5 D:=λz=>(s5.new D z).elim nt2 λn=>by rw [n] at gH;cases gH
  have r5:=(r2.stp s3 va2).stp s5 ⟨sr3.tp,sr3.bm⟩
  cases ok with
  | false=>
    rw [if_neg Bool.false_ne_true] at h5 ⊢
    exact ⟨_,by omega,rfl,T5,vs,acc,(s2.trans s3).trans s5,cA,nt5,r5,h5⟩
  | true=>
    rw [if_pos rfl] at h5 ⊢
    refine nN _ T5 σ4 τ4 H5 _ _ sr5 h5 λJ2 ys T6 H6 s6 walk2 h6=> ?_
    obtain ⟨hl,h6⟩:=h6
    have sr6:=sr5.stp s6
    have nD:=s6.keep D _ nt5 cA
    have nt6:¬T6 D:=λz=>(s6.new D z).elim nt5 λn=>by rw [n] at cA;cases cA
    have va6:GZ T6 (λa=>mt B σ τ a\/a=D) H6:=⟨sr6.tp,sr6.bm⟩
    have r6:=r5.stp s6 ⟨sr5.tp,sr5.bm⟩
    have s06:=((s2.trans s3).trans s5).trans s6
    refine ⟨λi2 m2 H7=>m2=ys.length-i2/\∃T7 vs7 acc7,DT T1 H1 T7 H7/\OR D T6 H6 T7 H7/\H7 D=some (.lst vs7)/\¬T7 D/\A0 K T7 (λa=>mt B σ τ a\/a=D) H7 vs7 acc7/\acc7.length<=acc.length+i2/\
     Cm ag2 at2 ta (NE own2 τ4) (IQ ag at' ai2 own2 ag2 at2 ta (JG own ix τ) AQ (xs.drop (i+1))) (ys.drop i2) acc7,
     ⟨_,rfl,T6,vs,acc,s06, .refl,nD,nt6,r6,Nat.le_refl _,h6⟩, ?_⟩
    rintro i2 m2 H7 ⟨rfl,T7,vs7,acc7,s7,d7,nE,nt7,r7,vG,h7⟩
    have srb7:=sr1.blk (own:=own) (ix:=ix) s7 hD nE nt7
    have mEq:∀a,mt (B.blk σ τ D) σ4 τ4 a->mt B σ τ a\/a=D:=λa z=>z.elim id λz=>absurd z (no4 a)
    have mv7:Mv K T6 (mt (B.blk σ τ D) σ4 τ4) H6 T7 (mt (B.blk σ τ D) σ4 τ4) H7:=⟨sr6.va,λb o t m e=>d7.keep b o t (λz=>m (.inl (.inr z))) e,d7.sub,λb n t=>(d7.new b t).elim id λz=>absurd z n,λ_ _ z=>z⟩
    have mv7':Mv K T6 (mt (B.blk σ τ D) σ4 τ4) H6 T7 (λa=>mt B σ τ a\/a=D) H7:=⟨sr6.va,λb o t m e=>d7.keep b o t (λz=>m (.inl (.inr z))) e,d7.sub,λb n t=>(d7.new b t).elim id λz=>absurd z n,λ_ _ z=> .inl z⟩
    have sr7:=sr6.swap no4 srb7 mv7
    have va7:GZ T7 (λa=>mt B σ τ a\/a=D) H7:=⟨srb7.tp,srb7.bm⟩
    obtain ⟨sc7,no7⟩:=sr7.cut (own:=own2) no4
    have w2:=walk2 (λa=>mt B σ τ a\/a=D) T7 H7 mv7' va7 (.inl rfl)
    by_cases j3:i2<ys.length
    ·have eO:ys[i2]? =some ys[i2] :=List.getElem?_eq_getElem j3
     rw [List.drop_eq_getElem_cons j3] at h7
     refine .inr ⟨w2.go i2 _ eO,λv8 H8 yl8=> ?_⟩
     obtain ⟨s8,r8⟩:=w2.yld i2 _ v8 H8 eO yl8
     have sr8:=sc7.stp s8
     refine gM _ T7 _ _ H8 v8 _ _ _ sr8 (r8.mv (.anti ⟨sr8.tp,sr8.bm⟩ λa z=>z.elim id λz=>absurd z (no7 a))) h7 λσ9 τ9 sr9 o9 h9=> ?_
     refine ni _ T7 σ9 τ9 H8 _ _ sr9 h9 λok T10 fS s10 l7=> ?_
     have sr10:=sr9.stp s10
     have nF:=s8.keep D _ nt7 nE
     have b6:=s10.keep D _ nt7 nF
     have nt10:¬T10 D:=λz=>(s10.new D z).elim nt7 λn=>by rw [n] at nF;cases nF
     have r10:=(r7.stp s8 va7).stp s10 ⟨sr8.tp,sr8.bm⟩
     cases ok with
     | false=>
       rw [if_neg Bool.false_ne_true] at l7 ⊢
       exact ⟨_,by omega,rfl,T10,vs7,acc7,(s7.trans s8).trans s10,(d7.trans s8.atD).trans s10.atD,b6,nt10,r10,by omega,l7⟩
     | true=>
       rw [if_pos rfl] at l7 ⊢
       refine he _ T10 σ9 τ9 fS _ _ sr10 l7 λvy y T11 i3 s11 r11 tR=> ?_
       have sr11:=sr10.stp s11
       have nC:=s11.keep D _ nt10 b6
       have nt11:¬T11 D:=λz=>(s11.new D z).elim nt10 λn=>by rw [n] at b6;cases b6
       have va11:GZ T11 (λa=>mt B σ τ a\/a=D) i3:=⟨sr11.tp,sr11.bm⟩
       have r12:=r10.stp s11 ⟨sr10.tp,sr10.bm⟩
       have s12:=((s7.trans s8).trans s10).trans s11
       have tp13:∀a,T11 a->Eb (upd i3 D (.lst (vs7 ++ [vy]))) a:=λa t=>by
        obtain ⟨d,x,e,z⟩:=sr11.tp a t
        exact ⟨d,x,by rw [Af (λw=>by subst w;exact nt11 t)];exact e,z⟩
       have mv13:Mv K T11 (λa=>mt B σ τ a\/a=D) i3 T11 (λa=>mt B σ τ a\/a=D) (upd i3 D (.lst (vs7 ++ [vy]))):=⟨va11,λb o _ m e=>by rw [Af (λw=>m (.inr w))];exact e,λ_ t=>t,λ_ _ t=>t,λ_ _ z=>z⟩
       refine ⟨vs7,nC,by rw [r7.length];omega,_,(by omega:ys.length-(i2+1)<ys.length-i2),rfl,T11,vs7 ++ [vy],acc7 ++ [y],⟨λb o t e=> ?_,s12.sub,s12.new,tp13⟩,((((d7.trans s8.atD).trans s10.atD).trans s11.atD).trans .upd),Ah,nt11,(r12.append (.cons (r11.mv (.anti sr11.va λa z=> .inl z)) .nil)).mv mv13,by simp;omega,tR⟩
       rw [Af (As e hD)]
       exact s12.keep b o t e
    ·rw [List.drop_eq_nil_of_le (as:=ys) (i:=i2) (by omega)] at h7
     exact .inl ⟨w2.stop i2 (by omega),_,(by omega:xs.length-(i+1)<xs.length-i),rfl,T7,vs7,acc7,s7,nE,nt7,r7,h7⟩
 ·rw [List.drop_eq_nil_of_le (by omega)] at h2
  refine .inl ⟨w.stop i (by omega), ?_⟩
  exact k D vs acc T2 H2 (s1.trans s2) (sr1.add s2 hD b9 KW.lst nt2) (s1.none hD) b9 nt2 (r2.mv (.anti va2 λa z=>by
   rcases z with (z|z)|z
   ·exact .inl (.inl z)
   ·exact .inr z
   ·exact .inl (.inr z))) h2
def nv (K:PySem.W.Frag) (s:Bool) (a:AI):TI:=λσ H R=>∃(B:Cn) (T:Addr->Prop) (τ:BC) (AQ:List PV->Prop),SR K B T H σ τ/\a τ AQ/\
 ∀J xs T' H',DT T H T' H'->(∀M2 T2 H2,Mv K T' (mt B σ τ) H' T2 M2 H2->GZ T2 M2 H2->(s=true\/Vf T' H' H2)->UG K M2 J xs T2 H2)->AQ xs->R J H'
theorem dO {K:PySem.W.Frag} {s:Bool} {a:AI}:Wy K s (nv K s a) a:=λB T σ τ H R AQ sr h k=>⟨B,T,τ,AQ,sr,h,k⟩
section
variable {X:Cx}
theorem SI.of {tg iter:Expr} {s:Bool} {a:AI} (h:SI X tg iter s a):PI X tg iter (nv X.K s a):=by
 obtain ⟨t,p,si⟩:=h
 intro pins sh σ H R I hw
 obtain ⟨B,T,τ,AQ,sr,h,c⟩:=hw
 exact p pins sh σ H R I (si B T σ τ H R AQ sr h c)
structure YM (X:Cx) (tg elt:Expr) (ifs:List Expr) (tg2 iter2:Expr) (ifs2:List Expr) (scope:Scope) (own:Nat) (ix:List Nat) (N:List Str) (g:AG) (t:AT) (ai2:AI) (own2:Nat) (g2:AG) (t2:AT) (te:AE):Prop where
 ex:∃g' t' wi2 g2' t2' te',L6 X tg elt ifs tg2 iter2 ifs2 scope own ix N g' t' wi2 own2 g2' t2' te'/\JC X.K g' g/\Ln X.K t' t/\Wy X.K true wi2 ai2/\JC X.K g2' g2/\Ln X.K t2' t2/\Fv X.K te' te
theorem aA {tg elt iter tg2 iter2:Expr} {ifs ifs2:List Expr} {scope:Scope} {pos:Pos} {own own2:Nat} {ix:List Nat} {N:List Str} {g g2:AG} {t t2:AT} {s:Bool} {ai ai2:AI} {ta:AE} (hc:X.calm=true) (hi:SI X tg iter s ai) (O:YM X tg elt ifs tg2 iter2 ifs2 scope own ix N g t ai2 own2 g2 t2 ta) (hs:∀x,foldedSetIterable iter X.env x=pure x:=by intro _;rfl):
 SF X (.ListComp elt [⟨tg,iter,ifs,0⟩,⟨tg2,iter2,ifs2,0⟩] scope pos) (M4 ai own ix g t ai2 own2 g2 t2 ta):=by
 obtain ⟨wi,pi,si⟩:=hi
 obtain ⟨g',t',wi2,g2',t2',te',O,sg,st,si2,sg2,st2,se⟩:=O.ex
 exact ⟨_,Zg hc pi O hs,Xx si sg st si2 sg2 st2 se⟩
theorem bU {tg elt tg2 iter2:Expr} {ifs ifs2:List Expr} {scope:Scope} {own own2:Nat} {ix:List Nat} {N:List Str} {g g2:AG} {t t2:AT} {ai2:AI} {te:AE} (h1:scope.kind= .function) (h2:(scope.names.all λy=> !decide (y.2= .cell))=true) (h3:(scope.names.all λy=> !decide (y.2= .local)||decide (scope.names.lookup y.1=some .local))=true)
 (h4:(scope.names.all λy=> !decide (y.2= .free)||decide (X.env.scope.names.lookup y.1=some .cell))=true) (h5:N.length=own+ix.length) (h6:NH X (relabel scope X.env) own ix N=true) (h7:own2<=own)
 (tgt:∀cl C s H ex pn,SK own (blk X (relabel scope X.env) N cl C s H ex pn) tg g)
 (tst:∀cl C s H ex pn,d8 (blk X (relabel scope X.env) N cl C s H ex pn) ifs t)
 (itr2:∀cl C s H ex pn,SI (blk X (relabel scope X.env) N cl C s H ex pn) tg2 iter2 true ai2)
 (tgt2:∀cl C s H ex pn,SK own2 (blk X (relabel scope X.env) N cl C s H ex pn) tg2 g2)
 (tst2:∀cl C s H ex pn,d8 (blk X (relabel scope X.env) N cl C s H ex pn) ifs2 t2)
 (val:∀cl C s H ex pn,SE (blk X (relabel scope X.env) N cl C s H ex pn) elt te)
 (Rh:∀cl C s H ex pn x,foldedSetIterable iter2 (blk X (relabel scope X.env) N cl C s H ex pn).env x=pure x:=by intro _ _ _ _ _ _ _;rfl):YM X tg elt ifs tg2 iter2 ifs2 scope own ix N g t ai2 own2 g2 t2 te:=
 have O:=Vs (te:=i7 X.K te) h1 h2 h3 h4 h5 h6 (JS (K:=X.K) (ag:=g)) (λcl C s H ex pn=>(tgt cl C s H ex pn).of) (λcl C s H ex pn=>(tst cl C s H ex pn).of) (λcl C s H ex pn=>(val cl C s H ex pn).of)
 ⟨gD X.K own g,jF X.K t,nv X.K true ai2,gD X.K own2 g2,jF X.K t2,i7 X.K te,⟨O.kind,O.nocell,O.names,O.frees,O.ins,O.keep,JS,h7,O.tgt,O.tst,λcl C s H ex pn=>(itr2 cl C s H ex pn).of,Rh,λcl C s H ex pn=>(tgt2 cl C s H ex pn).of,λcl C s H ex pn=>(tst2 cl C s H ex pn).of,O.val⟩,MN,MO,dO,MN,MO,RO⟩
end
end PL
end
section
namespace PL
open PySem PySem.Spec PyProof.Rows L2
section
variable {X:Cx}
end
end PL
end
section
namespace PL
open PySem L2 PyProof.Rows
class bB (n:Nat) (τ:BC) (τ':outParam BC):Prop where
 e:NE n τ=τ'
instance p8 {τ:BC}:bB 0 τ τ:=⟨rfl⟩
instance p9 {n:Nat} {x:Option AV} {r r':BC} [h:bB n r r'] :bB (n+1) (x::r) (none::r'):=⟨by rw [<-h.e];rfl⟩
section
variable {ai ai2:AI} {g g2:AG} {tt t2:AT} {te:AE} {τ τ':BC} {QL:List PV->Prop} {own own2:Nat} {ix:List Nat}
instance mM {τ3 τ4:BC} [h1:jc own τ3] [h2:jR ix τ τ4] [h3:YK τ3 τ4 τ'] :Wp (M4 ai own ix g tt ai2 own2 g2 t2 te τ QL) (ai τ λxs=>IQ g tt ai2 own2 g2 t2 te τ' QL xs []):=⟨λk=>by unfold M4 JG;rw [h1.e,h2.e,h3.e];exact k⟩
instance qj {acc ys:List PV} [h:bB own2 τ τ'] :Wp (Cm g2 t2 te (NE own2 τ) QL ys acc) (Cm g2 t2 te τ' QL ys acc):=⟨λk=>by rw [h.e];exact k⟩
theorem SQ (Pv:List PV->List PV->Prop) (hd:∀acc,Pv [] acc->QL acc)
 (hs:∀x r acc (R:List PV->Prop),(∀acc2,Pv r acc2->R acc2)->Pv (x::r) acc->g x τ λτ1=>tt τ1 λok=>if ok=true then ai2 τ1 λys=>acc.length+ys.length<sizeLine/\Cm g2 t2 te (NE own2 τ1) R ys acc else R acc):
 ∀xs acc,Pv xs acc->IQ g tt ai2 own2 g2 t2 te τ QL xs acc
 | [],acc,h=>hd acc h
 | x::r,acc,h=>hs x r acc _ (λacc2 h2=>SQ Pv hd hs r acc2 h2) h
theorem Yr {r:BC}:∀(ys acc:List PV),QL (acc++ys)->Cm (Aw 0) Fe (aV 0) (none::r) QL ys acc
 | [],acc,h=>by rw [List.append_nil] at h;exact h
 | y::ys,acc,h=>Yr ys (acc ++ [y]) (by rw [List.append_assoc];exact h)
end
end PL
end
section
namespace PL
open PySem PySem.Spec PyProof.Rows L2
section
variable {X:Cx} {a b c d e:Expr} {ta tb tc td:AE} {pos:Pos}
theorem Bo (ha:SE X a ta) (h:starEach [a] X.env=(false,eval a X.env)::starEach [] X.env:=by rfl):SA X [a] (AB ta AL):=Bf ha Eg h
theorem An (ha:SE X a ta) (hb:SE X b tb) (h:starEach [a,b] X.env=(false,eval a X.env)::starEach [b] X.env:=by rfl) (h2:starEach [b] X.env=(false,eval b X.env)::starEach [] X.env:=by rfl):SA X [a,b] (AB ta (AB tb AL)):=Bf ha (Bo hb h2) h
theorem GQ (ha:SE X a ta) (hb:SE X b tb) (hc:SE X c tc) (h:starEach [a,b,c] X.env=(false,eval a X.env)::starEach [b,c] X.env:=by rfl) (h2:starEach [b,c] X.env=(false,eval b X.env)::starEach [c] X.env:=by rfl) (h3:starEach [c] X.env=(false,eval c X.env)::starEach [] X.env:=by rfl):SA X [a,b,c] (AB ta (AB tb (AB tc AL))):=Bf ha (An hb hc h2 h3) h
theorem AW (ha:SE X a ta) (hb:SE X b tb) (hs:QI b:=by exact λ_ _=>rfl):SE X (.Subscript a b pos) (AX Ai ta tb):=lQ lT ha hb hs
theorem FP {op:CmpOp} {r:R2} {f:Ig} (ho:EC X (compareOp op) r/\B8 X.K r f) (ha:SE X a ta) (hb:SE X b tb) (hm:behindInMarks op b=false:=by exact DB _):Rg X (.Compare a [op] [b] pos) (Ar (AX f ta tb)):=aQ ho ha hb hm
theorem DN (i:Nat) {x:Str} {pos':Pos} (hN:X.N.Nodup) (he:SE X e ta) (hi:X.N[i]? =some x:=by rfl) (hx:Loc X.env.scope x:=by exact Or.inl rfl) (hs:swapsWith e (some (.Name x pos')) pos.line X.env=pure false:=by rfl) (hf:X.fn x=true\/X.env.scope.names.lookup x=some .local:=by first | exact .inl rfl|exact .inr rfl|assumption):
 SS X (.Assign [.Name x pos'] e pos) (Ay ta (Aw i)):=HC hN hi hx he hs hf
theorem GX (i:Nat) {x:Str} (hN:X.N.Nodup) (hi:X.N[i]? =some x:=by rfl) (hx:Loc X.env.scope x:=by exact Or.inl rfl) (hf:X.fn x=true\/X.env.scope.names.lookup x=some .local:=by first | exact .inl rfl|exact .inr rfl|assumption):SG X (.Name x pos) (Aw i):=HX hN hi hx hf
theorem RS (i:Nat) {own:Nat} {x:Str} (hN:X.N.Nodup) (hi:X.N[i]? =some x:=by rfl) (hx:Loc X.env.scope x:=by exact Or.inl rfl) (hk:i<own:=by decide) (hf:X.fn x=true\/X.env.scope.names.lookup x=some .local:=by first | exact .inl rfl|exact .inr rfl|assumption):SK own X (.Name x pos) (Aw i):=Wb hN hi hx hk hf
end
theorem BN {P:Program} {w:World} {K:PySem.W.Frag} {mg:Str->Option Value} {base:Heap} {k k':Nat} {x:Str} {ps:List Str} {sp:Sp} (H:Has P w K mg base k x ps sp) (h:k<=k':=by decide):Has P w K mg base k' x ps sp:=H.mono h
end PL
end
open PySem L2 PL PyProof.Rows
local macro_rules | `(tactic| decreasing_trivial_pre_omega)=> `(tactic| first | assumption|omega|((apply Bd.mono);(focus (repeat' (first | assumption|exact Fm.m (by assumption)|exact Fm.x (by assumption)|exact Fm.y (by assumption)|exact Fm.z (by assumption)|exact jj|exact eG|with_reducible apply Bd.add|with_reducible apply Bd.sub|with_reducible apply Bd.mul|with_reducible apply Bd.neg|with_reducible apply Bd.mx|with_reducible apply Bd.mn)));first | omega|decide)|decide|(simp only [List.length_map,List.length_append,List.length_cons,List.length_nil,List.length_take,List.length_drop,List.length_zip,List.length_reverse];omega)|(show _<=16777216;simp only [List.length_map,List.length_append,List.length_cons,List.length_nil,List.length_take,List.length_drop,List.length_zip,List.length_reverse];omega)|(show _<16777216;simp only [List.length_map,List.length_append,List.length_cons,List.length_nil,List.length_take,List.length_drop,List.length_zip,List.length_reverse];omega)|(refine And.intro ?_ ?_ <;> decreasing_trivial_pre_omega)|exact rfl)
local macro_rules | `(tactic| array_mem_dec)=> `(tactic| first
 | refine Wp.go ?_
 | ((refine N9.go ?_ ?_);focus (first | exact True.intro|decreasing_trivial_pre_omega))
 | ((with_reducible apply And.intro);focus decreasing_trivial_pre_omega)
 | ((with_reducible apply s_ifdT);focus decide)
 | ((with_reducible apply s_ifdF);focus decide)
 | ((with_reducible apply s_ifnT);focus decide)
 | ((with_reducible apply s_ifnF);focus decide)
 | refine mz.go (λ_=> ?_) (λ_=> ?_)
 | ((with_reducible apply iS);focus assumption)
 | ((with_reducible apply s_all);focus exact rfl)
 | ((with_reducible apply lN);(focus (first | exact .inl rfl|exact .inr (.inl rfl)|exact .inr (.inr (.inl rfl))|exact .inr (.inr (.inr rfl))));(focus exact rfl))
 | ((with_reducible apply lJ);focus exact rfl)
 | ((with_reducible apply lI);focus exact rfl)
 | intro _
 | with_reducible rfl)
local macro_rules | `(tactic| array_get_dec)=> `(tactic| first | array_mem_dec|refine jg.go ?_|fail)
local macro_rules | `(tactic| ac_rfl)=> `(tactic| repeat' array_mem_dec)
section
namespace PL
open PySem L2 PyProof.Rows
theorem C6.open {n B:Nat} {cs:List C4} (p:C6 n B cs):∃a r l,cs=a::r/\r≠ [] /\(a::r).getLast?=some l/\a.1<l.1:=by
 obtain ⟨two,few,bd,ris⟩:=p
 match cs,two,ris with
 | a::b0::r,_,ris=>exact ⟨a,b0::r,_,rfl,by simp,List.getLast?_eq_some_getLast (by simp),(List.pairwise_cons.mp ris).1 _ (List.mem_of_getLast? (XU (List.getLast?_eq_some_getLast (by simp))))⟩
abbrev O1:AS:=
 (Ao (eB (Ar (AX NF (aV 1) (aC (.int 2)))) (AX Ai (aV 0) (aC (.int 1))) (AX Ai (aV 0) (aC (.int 0)))))
def ES:AF:=Av 2 O1
theorem TZ {x0 x1:PV} {Q:PV->Prop} (h:O1 ⟨λ_=>Q .non,Q,λ_=>False,λ_=>False⟩ [some (.val x0),some (.val x1)]):ES [x0,x1] Q:=h
def fP (b:T3) (v:PV):Prop:=v=jE b\/v= .lst [fr b.1,fr b.2.1,fr b.2.2]
def jU (cs:List C4) (b:T3) (v:PV):Prop:=∃p w,CQ cs p/\fP b w/\(v= .tup [p,w] \/v= .lst [p,w])
def aw (d:Rat×Rat) (v:PV):Prop:=v= .tup [fr d.1,fr d.2] \/v= .lst [fr d.1,fr d.2]
theorem qZ {a:C4} {r:List C4} {v:PV} {R:PV->Prop} (hv:CQ (a::r) v) (h:∀x,(x=cor a\/x=corL a)->R x):Ai v (.int 0) R:=by
 obtain ⟨f,hf,hv⟩:=hv
 have hx:f a=cor a\/f a=corL a:=by rcases hf with rfl|rfl <;> simp
 rcases hv with rfl|rfl
 ·show ap (Ih (f a::r.map f) 0) R
  rw [show Ih (f a::r.map f) 0=some (f a) from Cg (j:=0) rfl]
  exact h _ hx
 ·show ap (Ih (f a::r.map f) 0) R
  rw [show Ih (f a::r.map f) 0=some (f a) from Cg (j:=0) rfl]
  exact h _ hx
theorem qa {cs:List C4} {l:C4} {v:PV} {R:PV->Prop} (hv:CQ cs v) (el:cs.getLast?=some l) (h:∀x,(x=cor l\/x=corL l)->R x):Ai v (.int (-1)) R:=by
 obtain ⟨f,hf,hv⟩:=hv
 have hx:f l=cor l\/f l=corL l:=by rcases hf with rfl|rfl <;> simp
 rcases hv with rfl|rfl
 ·exact JM el (h _ hx)
 ·exact JM el (h _ hx)
theorem c0 {x:PV} {c:C4} {R:PV->Prop} (hx:x=cor c\/x=corL c) (h:R (fr c.1)):Ai x (.int 0) R:=by
 rcases hx with rfl|rfl <;> exact h
theorem f0 {cs:List C4} {b:T3} {v:PV} {R:PV->Prop} (hv:jU cs b v) (h:∀p,CQ cs p->R p):Ai v (.int 0) R:=by
 obtain ⟨p,w,hp,hw,hv⟩:=hv
 rcases hv with rfl|rfl <;> exact h p hp
theorem f1 {cs:List C4} {b:T3} {v:PV} {R:PV->Prop} (hv:jU cs b v) (h:∀w,fP b w->R w):Ai v (.int 1) R:=by
 obtain ⟨p,w,hp,hw,hv⟩:=hv
 rcases hv with rfl|rfl <;> exact h w hw
theorem b2 {b:T3} {w:PV} {R:PV->Prop} (hw:fP b w) (h:R (fr b.2.2)):Ai w (.int 2) R:=by
 rcases hw with rfl|rfl <;> exact h
theorem kJ {k n:Nat} (h:k<=n) (hn:n<1000000):k<sizeLine:=Nat.lt_of_le_of_lt h (Nat.lt_of_lt_of_le hn (Nat.le_of_ble_eq_true rfl))
theorem dS {w:PV} {x y:Rat} {k:Int} (h0:∀{R:PV->Prop},R (fr x)->Ai w (.int 0) R) (h1:∀{R:PV->Prop},R (fr y)->Ai w (.int 1) R) {Q:PV->Prop} (q:Q (fr (if k=2 then y else x))):ES [w, .int k] Q:=by
 apply TZ
 ac_rfl
 ·rename_i h
  rw [if_pos h] at q
  exact h1 q
 ·rename_i h
  rw [if_neg h] at q
  exact h0 q
theorem M8 {d:Rat×Rat} {w:PV} {k:Int} (hw:aw d w) {Q:PV->Prop} (q:Q (fr (if k=2 then d.2 else d.1))):ES [w, .int k] Q:=
 dS (λh=>by rcases hw with rfl|rfl <;> exact h) (λh=>by rcases hw with rfl|rfl <;> exact h) q
def uR (x y z:Rat):Bool:=decide (x-y<z)&&decide (-(x-y)<z)
theorem fj (r:Rat):PV.tup [.int (r.num.natAbs:Int), .int r.den] =fr (if r<0 then -r else r):=by
 unfold fr
 by_cases h:r<0
 ·rw [if_pos h,Rat.neg_num,Rat.neg_den]
  have:¬0<=r.num:=λz=>by have:=Rat.num_nonneg.mp z;grind
  rw [show ((r.num.natAbs:Nat):Int)= -r.num by omega]
 ·rw [if_neg h]
  have:0<=r.num:=Rat.num_nonneg.mpr (by grind)
  rw [show ((r.num.natAbs:Nat):Int)=r.num by omega]
def Gg:AS:=
 (Ab (Bj (Ar (AX fy (aV 5) (aC (.int 3)))) (Ay (GW (D2 (AB (AN 1 A2 (AB (aV 0) AL)) (AB (AN 1 A2 (AB (aV 0) AL)) (AB (AN 1 A2 (AB (aV 0) AL)) AL))))) (Aw 3)) (Bj (Ar (AX fy (aV 5) (aC (.int 0)))) (Ay (AX BY (AX BY (Vk (aV 3) Vm (Vn (AX Gw (aV 5) (aC (.int 1))))) (GW (D2 (AB (AN 1 A2 (AB (aV 0) AL)) AL)))) (Vk (aV 3) (Vn (aV 5)) Vm)) (Aw 3)) BB))
   (EA 4 JW (AB (BF (AB (aV 2) (AB (AX Ai (aV 3) (aC (.int 0))) (AB (AX Ai (aV 3) (aC (.int 1))) (AB (AX Ai (aV 3) (aC (.int 2))) AL))))) AL)))
def Gf:AS:=
 (Ab (Ay (AN 2 BX (AB (aV 0) (AB (aC (.int 6)) AL))) (Aw 5))
   Gg)
def Ik:AS:=
 (Ab (Ay (AN 2 BS (AB (aV 2) (AB (AN 1 B7 (AB (aV 0) AL)) AL))) (Aw 2))
   Gf)
def Ip:AS:=
 (Ab (Kg (Ar (AX X9 (Fd Fg (AB (aV 4) AL)) (aV 1))) Ik)
   (Ao (Fd D7 (AB (aV 4) AL))))
def Io:AS:=
 (Ab (Kb (D2 (AB (BF (AB (aV 2) (AB (AX Ai (aV 3) (aC (.int 0))) (AB (AX Ai (aV 3) (aC (.int 1))) (AB (AX Ai (aV 3) (aC (.int 2))) AL))))) AL)) 4)
   Ip)
def Im:AS:=
 (Ab (Ay (GW (D2 (AB (AN 1 A2 (AB (aV 0) AL)) (AB (AN 1 A2 (AB (aV 0) AL)) (AB (AN 1 A2 (AB (aV 0) AL)) AL))))) (Aw 3))
   Io)
def Ep:AS:=
 (Ab (Ay (BF (AB (AN 2 BX (AB (aV 0) (AB (aC (.int 12)) AL))) (AB (aC (.int 1)) AL))) (Aw 2))
   Im)
def Il:AS:=
 (Ab (Bj (Ar (AX NF (AN 2 BX (AB (aV 0) (AB (aC (.int 8)) AL))) (aC (.int 0)))) (Ay (AX Ai (GW (D2 (AB (aC (.int 7)) (AB (aC (.int 8)) (AB (aC (.int 9)) (AB (aC (.int 12)) AL)))))) (AN 2 BX (AB (aV 0) (AB (aC (.int 4)) AL)))) (Aw 1)) BB)
   Ep)
def Md:AS:=
 (Ab (Ay (AX BY (aC (.int 2)) (AN 2 BX (AB (aV 0) (AB (aC (.int 4)) AL)))) (Aw 1))
   Il)
def B3:AF:=Av 6 Md
theorem Fh (many:Int) (z2 z3 z5:Option AV) (z4:Option AV) (h0:2<=many) (h1:many<=12) {Q:PV->Prop} (h:∀cs,M0 12 6 600 cs->Q (Al cs)):
 Ep {nx:=λ_=>Q .non,rt:=Q,bk:=λ_=>False,ct:=λ_=>False} [some (.val .tape),some (.val (.int many)),z2,z3,z4,z5] :=by
 refine ⟨rfl,Ch (by decide) (by decide) λm m0 m1=>⟨lz, ?_⟩⟩
 refine ⟨rfl,A6 λx hx=>⟨rfl,A6 λy hy=>⟨rfl,A6 λz hz=>⟨lz, ?_⟩⟩⟩⟩
 refine ⟨lz,lz, ?_⟩
 refine ⟨(many-1).toNat+1,Vb (λn τ=>∃(cs:List C4) (c:C4) (z5:Option AV),n+(cs.length+1)=many.toNat+1/\1<=n/\(∀d∈cs ++ [c],Mq 6 (66+48*cs.length) d)/\(Mul 6 60 c.2.1/\Mul 6 60 c.2.2.1/\Mul 6 60 c.2.2.2)/\KZ (cs ++ [c])/\
  τ= [some (.val .tape),some (.val (.int many)),some (.val (fr c.1)),some (.val (.lst [fr c.2.1,fr c.2.2.1,fr c.2.2.2])),some (.own ((cs ++ [c]).map cor)),z5]) ?_ ?_ _ _ ⟨[],((m:Rat),x,y,z),z5, ?_, ?_, ?_, ?_, ?_, ?_⟩⟩
 ·rintro τ ⟨cs,c,z5,_,hn,_⟩
  omega
 ·rintro n τ R hR ⟨cs,c,z5,hn,bw,hb,h8,hr,rfl⟩
  have C9:(((cs ++ [c]).map cor).length:Int)=(cs.length:Int)+1:=by simp
  refine Em (b:=decide ((((cs ++ [c]).map cor).length:Int)<many)) (λz=> ?_) (λz=> ?_)
  ·have z':(((cs ++ [c]).map cor).length:Int)<many:=of_decide_eq_true z
   rw [C9] at z'
   have cb:=hb c (by simp)
   refine ⟨rfl,GO λs sb s0 sm=>⟨rfl,Ct ((cb.m.bd (n:=12) (by omega) (by decide)).mono (by omega)) (sb.mono (by omega)) ?_⟩⟩
   refine ⟨rfl,Ch (by decide) (by decide) λw w0 w1=> ?_⟩
   have fin:∀(D':Ga) (x y z:Rat) (z5:Option AV),D'.nx=R->Mul 6 60 x->Mul 6 60 y->Mul 6 60 z->EA 4 JW (AB (BF (AB (aV 2) (AB (AX Ai (aV 3) (aC (.int 0))) (AB (AX Ai (aV 3) (aC (.int 1))) (AB (AX Ai (aV 3) (aC (.int 2))) AL))))) AL)
    D' [some (.val .tape),some (.val (.int many)),some (.val (fr (c.1+s))),some (.val (.lst [fr x,fr y,fr z])),some (.own ((cs ++ [c]).map cor)),z5] :=by
    intro D' x y z z5 eD bx by' bz
    refine ⟨lz, ?_, ?_⟩
    ·show _<16777216;omega
    ·rw [eD]
     have mb:Mul 6 (66+48*(cs.length+1)) (c.1+s):=(cb.m.add sm).mono (by omega)
     refine hR _ ⟨cs ++ [c],(c.1+s,x,y,z),z5,by simp;omega,by omega, ?_,⟨bx,by',bz⟩,Z1 hr ?_, ?_⟩
     ·intro d hd
      rcases List.mem_append.mp hd with hd|hd
      ·exact (hb d hd).mono (by simp;omega)
      ·simp at hd;subst hd
       have e:(cs ++ [c]).length=cs.length+1:=by simp
       rw [e]
       exact ⟨mb,bx.mono (by omega),by'.mono (by omega),bz.mono (by omega)⟩
     ·show c.1<c.1+s;grind
     ·rw [List.map_append (l₁:=cs ++ [c])];rfl
   refine Em (b:=decide (3<w)) (λ_=> ?_) (λz3=> ?_)
   ·exact ⟨rfl,A6 λx hx=>⟨rfl,A6 λy hy=>⟨rfl,A6 λz hz=>⟨lz,fin _ x y z _ rfl hx hy hz⟩⟩⟩⟩
   refine Em (b:=decide (0<w)) (λz4=> ?_) (λz4=> ?_)
   ·have a3:¬3<w:=of_decide_eq_false z3
    have a4:0<w:=of_decide_eq_true z4
    have hw:w=1\/w=2\/w=3:=by omega
    rcases hw with rfl|rfl|rfl
    ·exact EN ⟨rfl,A6 λp hp=>⟨lz,lz,EN ⟨lz,fin _ p _ _ _ rfl hp h8.2.1 h8.2.2⟩⟩⟩
    ·exact EN ⟨rfl,A6 λp hp=>⟨lz,lz,EN ⟨lz,fin _ _ p _ _ rfl h8.1 hp h8.2.2⟩⟩⟩
    ·exact EN ⟨rfl,A6 λp hp=>⟨lz,lz,EN ⟨lz,fin _ _ _ p _ rfl h8.1 h8.2.1 hp⟩⟩⟩
   ·exact fin _ _ _ _ _ rfl h8.1 h8.2.1 h8.2.2
  ·have z':¬(((cs ++ [c]).map cor).length:Int)<many:=of_decide_eq_false z
   rw [C9] at z'
   refine h (cs ++ [c]) ⟨by simp;omega,by simp;omega,λd hd=>(hb d hd).mono (by omega),hr⟩
 ·simp;omega
 ·omega
 ·intro d hd
  simp at hd;subst hd
  exact ⟨.int (by decide) (by simp;omega),hx.mono (by decide),hy.mono (by decide),hz.mono (by decide)⟩
 ·exact ⟨hx,hy,hz⟩
 ·exact List.pairwise_singleton _ _
 ·simp only [cor,Y0,List.nil_append,List.map_cons,List.map_nil]
  rfl
theorem K4 {Q:PV->Prop} (h:∀cs,M0 12 6 600 cs->Q (Al cs)):B3 [.tape] Q:=by
 refine ⟨rfl,Ch (by decide) (by decide) λa a0 a1=>⟨rfl,Ch (by decide) (by decide) λb b0 b1=> ?_⟩⟩
 refine Em (b:=decide (b=0)) (λ_=> ?_) (λ_=> ?_)
 ·refine ⟨lz,rfl,Ch (by decide) (by decide) λc c0 c1=> ?_⟩
  have hc:c=0\/c=1\/c=2\/c=3:=by omega
  rcases hc with rfl|rfl|rfl|rfl
  ·exact Fh 7 _ _ _ _ (by omega) (by omega) h
  ·exact Fh 8 _ _ _ _ (by omega) (by omega) h
  ·exact Fh 9 _ _ _ _ (by omega) (by omega) h
  ·exact Fh 12 _ _ _ _ (by omega) (by omega) h
 ·exact Fh (2+a) _ _ _ _ (by omega) (by omega) h
abbrev GK:AS:=
 (Ao (Fd D7 (AB (GW (Cw (M7 (aV 0)) 1 [1,2] (Aw 0) Fe (AX BY (BF (AB (AN 2 BS (AB (AX Ai (aV 0) (aC (.int 0))) (AB (aV 1) AL))) AL)) (Fd D7 (AB (GW (Cw (SJ (AB (aC (.int 3)) AL)) 1 [0,2] (Aw 0) Fe (AN 2 BS (AB (AX Ai (aV 1) (AX BY (aV 0) (aC (.int 1)))) (AB (AX Ai (aV 2) (aV 0)) AL))))) AL))))) AL)))
def Bc:AF:=Av 3 GK
theorem Je {x0 x1 x2:PV} {Q:PV->Prop} (h:GK ⟨λ_=>Q .non,Q,λ_=>False,λ_=>False⟩ [some (.val x0),some (.val x1),some (.val x2)]):Bc [x0,x1,x2] Q:=h
abbrev Ii:AS:=
 (Ab (Ay (GW (D2 (AB (BF (AB (aC (.int 1)) (AB (aC (.int 1)) AL))) (AB (BF (AB (aC (.int 2)) (AB (aC (.int 1)) AL))) (AB (BF (AB (aC (.int 3)) (AB (aC (.int 2)) AL))) (AB (BF (AB (aC (.int 1)) (AB (aC (.int 3)) AL))) (AB (BF (AB (aC (.int 5)) (AB (aC (.int 1)) AL))) AL))))))) (Aw 1))
   (Ao (BF (AB (AX Ai (aV 1) (AN 2 BX (AB (aV 0) (AB (aC (.int 5)) AL)))) (AB (AX Ai (aV 1) (AN 2 BX (AB (aV 0) (AB (aC (.int 5)) AL)))) AL)))))
def DO:AF:=Av 2 Ii
theorem Nk {x0:PV} {Q:PV->Prop} (h:Ii ⟨λ_=>Q .non,Q,λ_=>False,λ_=>False⟩ [some (.val x0),none]):DO [x0] Q:=h
theorem cM {xs:List PV} {k:Int} {R:PV->Prop} (h0:0<=k) (h1:k<xs.length) (h:∀x∈xs,R x):Ai (.lst xs) (.int k) R:=by
 show ap (Ih xs k) R
 have hk:xs[k.toNat]? =some (xs[k.toNat]'(by omega)):=List.getElem?_eq_getElem (by omega)
 have e:=Cg hk
 rw [show ((k.toNat:Nat):Int)=k by omega] at e
 rw [e]
 exact h _ (List.getElem_mem _)
theorem Qe {xs:List Rat} {k:Int} {R:PV->Prop} (h0:0<=k) (h1:k<xs.length) (h:∀x∈xs,R (fr x)):Ai (.lst (xs.map fr)) (.int k) R:=by
 refine cM h0 (by simpa using h1) λx hx=> ?_
 obtain ⟨y,hy,rfl⟩:=List.mem_map.mp hx
 exact h y hy
theorem oF {r:Rat} (h:r.num.natAbs<2^8:=by decide +kernel) (h2:r.den<2^8:=by decide +kernel):Bd 8 r:=⟨h,h2⟩
abbrev gr (t:Rat) (o:T3) (c:C4):C4:=(c.1+t,c.2.1+o.1,c.2.2.1+o.2.1,c.2.2.2+o.2.2)
theorem IS {cs:List C4} {t:Rat} {o:T3} {v:PV} {B m:Nat} (hv:v= .lst [fr o.1,fr o.2.1,fr o.2.2]) (hl:cs.length<=100) (hc:∀c∈cs,Fm B c) (bt:Bd m t) (bo:FT m o) (hB:B<=4000) (hm:m<=4000) {Q:PV->Prop} (q:Q (Al (cs.map (gr t o)))):Bc [Al cs,fr t,v] Q:=by
 subst hv
 have bx:=bo.x
 have by':=bo.y
 have bz:=bo.z
 apply Je
 ac_rfl
 refine Fy cor cor (gr t o) (Fm B) (λc bc R hR=> ?_) cs [] hc ?_
 ·ac_rfl
  rw [show rng 0 (Int.toNat 3)= [.int 0, .int 1, .int 2] from rfl]
  repeat' array_get_dec
  rw [show (0:Int)+1=1 from rfl]
  repeat' array_get_dec
  rw [show (1:Int)+1=2 from rfl]
  repeat' array_get_dec
  rw [show (2:Int)+1=3 from rfl]
  repeat' array_get_dec
  exact hR
 ac_rfl
 exact q
instance qr {ta tb:AE} {τ:BC} {QL:List PV->Prop}:Wp (fk ta tb τ QL) (ta τ λx=>tb τ λy=>match x,y with | .tup xs, .tup ys=>xs.length=ys.length/\QL (En xs ys.reverse)|_,_=>False):=⟨id⟩
section
variable {τ:BC}
instance mR {i:Nat} {ti ta:AE} {nx bk ct:BC->Prop} {rt:PV->Prop}:Wp (bN i ti ta ⟨nx,rt,bk,ct⟩ τ) (ta τ λy=>M5 i τ λxs=>ti τ λk=>ao k λk=>cg (Sx xs.length k) λj=>Tg τ i (.own (xs.set j y)) nx):=⟨id⟩
instance mQ {i:Nat} {xs:List PV} {P:List PV->Prop} [h:dz τ i (.own xs)] :Wp (M5 i τ P) (P xs):=⟨λk=>by unfold M5;rw [h.e];exact k⟩
end
instance pQ {c:C4} {Q:PV->Prop}:Wp (Vz (cor c) none (some 1) Q) (Q (.tup [fr c.1])):=⟨λh=>HY h⟩
abbrev J4:AS:=
 (Ab (Ay (AN 1 B3 (AB (aV 0) AL)) (Aw 6))
   (Ao (AN 3 Bc (AB (aV 6) (AB (AN 2 A9 (AB (AX Ai (AX Ai (aV 1) (M6 FF (aC (.int 1)))) (aC (.int 0))) (AB (AX Ai (AX Ai (aV 6) (aC (.int 0))) (aC (.int 0))) AL))) (AB (GW (D2 (AB (BF (AB (aC (.int 0)) (AB (aC (.int 1)) AL))) (AB (BF (AB (aC (.int 0)) (AB (aC (.int 1)) AL))) (AB (BF (AB (aC (.int 0)) (AB (aC (.int 1)) AL))) AL))))) AL))))))
abbrev Ha:AS:=
 (Ab (Ay (BF (AB (AN 1 A2 (AB (aV 0) AL)) (AB (AN 1 A2 (AB (aV 0) AL)) (AB (AN 1 A2 (AB (aV 0) AL)) AL)))) (Aw 8))
   (Ao (AX BY (AX BY (Vk (aV 1) Vm (Vn (aV 7))) (BF (AB (AX BY (Vk (AX Ai (aV 1) (aV 7)) Vm (Vn (aC (.int 1)))) (aV 8)) AL))) (Vk (aV 1) (Vn (AX BY (aV 7) (aC (.int 1)))) Vm))))
abbrev J5:AS:=
 (Ab (Ay (AN 2 BX (AB (aV 0) (AB (Fd Fg (AB (aV 1) AL)) AL))) (Aw 7))
   Ha)
abbrev J6:AS:=
 (Ab (Ay (Vk (AX Ai (aV 1) (AN 2 BX (AB (aV 0) (AB (Fd Fg (AB (aV 1) AL)) AL)))) (Vn (aC (.int 1))) Vm) (Aw 8))
   (Ao (BF (AB (AX BY (BF (AB (AX Ai (AX Ai (aV 1) (aC (.int 0))) (aC (.int 0))) AL)) (aV 8)) (AB (AX BY (BF (AB (AN 2 BS (AB (AX Ai (AX Ai (aV 1) (M6 FF (aC (.int 1)))) (aC (.int 0))) (AB (AN 1 B7 (AB (aV 0) AL)) AL))) AL)) (aV 8)) AL)))))
abbrev Ij:AS:=
 (Ab (Bj (Ar (AX NF (aV 3) (aC (.int 6)))) J6 BB)
   (Ao (AN 1 B3 (AB (aV 0) AL))))
abbrev KF:AS:=
 (Ab (Bj (Ar (AX NF (aV 3) (aC (.int 5)))) J5 BB)
   Ij)
abbrev KE:AS:=
 (Ab (Bj (Ar (AX NF (aV 3) (aC (.int 4)))) J4 BB)
   KF)
abbrev KD:AS:=
 (Ab (Bj (Ar (AX NF (aV 3) (aC (.int 3)))) (Ao (Fd D7 (AB (GW (Cw (fk (aV 1) (aV 1)) 2 [] (L9 2 (Ak (Aw 0) (Ak (Aw 1) CS))) Fe (AX BY (BF (AB (AX Ai (aV 0) (aC (.int 0))) AL)) (Vk (aV 1) (Vn (aC (.int 1))) Vm)))) AL))) BB)
   KE)
abbrev KC:AS:=
 (Ab (Bj (Ar (AX NF (aV 3) (aC (.int 2)))) (Ao (AN 3 Bc (AB (aV 1) (AB (AX Ai (GW (D2 (AB (AN 1 B7 (AB (aV 0) AL)) (AB (BF (AB (aC (.int 0)) (AB (aC (.int 1)) AL))) AL)))) (AN 2 BX (AB (aV 0) (AB (aC (.int 2)) AL)))) (AB (aV 4) AL))))) BB)
   KD)
abbrev FV:AS:=
 (Ab (Bj (Ar (AX X9 (aV 3) (aC (.int 2)))) (Ao (AN 3 Bc (AB (aV 1) (AB (BF (AB (aC (.int 0)) (AB (aC (.int 1)) AL))) (AB (aV 4) AL))))) BB)
   KC)
abbrev KB:AS:=
 (Ab (Bj (Ar (AX NF (aV 3) (aC (.int 0)))) (bN 4 (aV 5) (Wz (AN 2 BL (AB (AX Ai (aV 4) (aV 5)) (AB (AX Ai (GW (D2 (AB (BF (AB (aC (.int 1)) (AB (aC (.int 2)) AL))) (AB (BF (AB (M6 FF (aC (.int 1))) (AB (aC (.int 1)) AL))) (AB (BF (AB (M6 FF (aC (.int 1))) (AB (aC (.int 3)) AL))) AL))))) (AN 2 BX (AB (aV 0) (AB (aC (.int 3)) AL)))) AL))))) BB)
   FV)
abbrev J9:AS:=
 (Ab (bN 4 (aV 5) (AX Ai (aV 2) (Fd Uc (AB (AX NF (aV 5) (aC (.int 2))) AL))))
   KB)
abbrev J8:AS:=
 (Ab (Ay (AN 2 BX (AB (aV 0) (AB (aC (.int 3)) AL))) (Aw 5))
   J9)
abbrev J7:AS:=
 (Ab (Kb (D2 (AB (BF (AB (aC (.int 0)) (AB (aC (.int 1)) AL))) (AB (BF (AB (aC (.int 0)) (AB (aC (.int 1)) AL))) (AB (BF (AB (aC (.int 0)) (AB (aC (.int 1)) AL))) AL)))) 4)
   J8)
abbrev Hg:AS:=
 (Ab (Ay (AN 2 BX (AB (aV 0) (AB (aC (.int 9)) AL))) (Aw 3))
   J7)
def Cr:AF:=Av 9 Hg
theorem Lx {x0 x1 x2:PV} {Q:PV->Prop} (h:Hg ⟨λ_=>Q .non,Q,λ_=>False,λ_=>False⟩ [some (.val x0),some (.val x1),some (.val x2),none,none,none,none,none,none]):Cr [x0,x1,x2] Q:=h
theorem WR {cs ds:List C4} (h:KZ cs) (e:ds.map (·.1)=cs.map (·.1)):KZ ds:=by
 have h1:(cs.map (·.1)).Pairwise (· < ·):=List.pairwise_map.mpr h
 rw [<-e] at h1
 exact List.pairwise_map.mp h1
theorem dw (a b:List C4):En (a.map cor) (b.map cor)=(a.zip b).map λp:C4×C4=> .tup [cor p.1,cor p.2] :=by
 unfold En
 rw [List.zipWith_map,List.zip,List.map_zipWith]
theorem Mul.negQ {D N:Nat} {a:Rat} (h:Mul D N a):Mul D N (-a):=by
 obtain ⟨h0,k,rfl,hk⟩:=h
 exact ⟨h0, -k,by rw [Rat.neg_divInt],by omega⟩
theorem Mul.subQ {D N M:Nat} {a b:Rat} (ha:Mul D N a) (hb:Mul D M b):Mul D (N+M) (a-b):=by
 rw [Rat.sub_eq_add_neg];exact ha.add (Mul.negQ hb)
theorem eT {a b c:PV}:Sx [a,b,c].length 0=some 0:=by show Sx 3 0=_;decide
theorem eU {a b c:PV}:Sx [a,b,c].length 1=some 1:=by show Sx 3 1=_;decide
theorem eV {a b c:PV}:Sx [a,b,c].length 2=some 2:=by show Sx 3 2=_;decide
theorem lc:PV.tup [.int (-1), .int 3] =fr (-1/3):=by
 unfold fr
 rw [show (-1/3:Rat).num= -1 by decide +kernel,show (-1/3:Rat).den=3 by decide +kernel]
 rfl
abbrev MV:AS:=
 (Ab (Bj (Ar (AX NF (AN 2 BX (AB (aV 2) (AB (aC (.int 2)) AL))) (aC (.int 0)))) (OS 4 5 (AB (aV 5) (AB (aV 4) AL))) BB)
   (Ao (BF (AB (aV 2) (AB (aV 4) (AB (aV 5) (AB (aV 3) AL)))))))
abbrev MU:AS:=
 (Ab (Ay (AN 3 Cr (AB (aV 2) (AB (aV 4) (AB (aV 3) AL)))) (Aw 5))
   MV)
abbrev MT:AS:=
 (Ab (Ay (AN 1 B3 (AB (aV 2) AL)) (Aw 4))
   MU)
abbrev MS:AS:=
 (Ab (Ay (AN 1 DO (AB (aV 2) AL)) (Aw 3))
   MT)
abbrev LF:AS:=
 (Ab (Ay (AN 2 Mx (AB (aV 0) (AB (aV 1) AL))) (Aw 2))
   MS)
def Dz:AF:=Av 6 LF
theorem Oq {x0 x1:PV} {Q:PV->Prop} (h:LF ⟨λ_=>Q .non,Q,λ_=>False,λ_=>False⟩ [some (.val x0),some (.val x1),none,none,none,none]):Dz [x0,x1] Q:=h
abbrev OL:AS:=
 (Ab (Ay (AN 2 EX (AB (AX Ai (AX Ai (aV 0) (M6 FF (aC (.int 1)))) (aC (.int 0))) (AB (AX Ai (AX Ai (aV 1) (M6 FF (aC (.int 1)))) (aC (.int 0))) AL))) (Aw 3))
   (Ao (eB (Ar (AN 2 Ag (AB (aV 2) (AB (aV 3) AL)))) (BF (AB (aV 2) (AB (aV 3) AL))) (aC .non))))
abbrev Mn:AS:=
 (Ab (Ay (AN 2 CY (AB (AX Ai (AX Ai (aV 0) (aC (.int 0))) (aC (.int 0))) (AB (AX Ai (AX Ai (aV 1) (aC (.int 0))) (aC (.int 0))) AL))) (Aw 2))
   OL)
def Dg:AF:=Av 4 Mn
theorem RE {x0 x1:PV} {Q:PV->Prop} (h:Mn ⟨λ_=>Q .non,Q,λ_=>False,λ_=>False⟩ [some (.val x0),some (.val x1),none,none]):Dg [x0,x1] Q:=h
abbrev P8:AS:=
 (Ab (Ay (AN 2 Fc (AB (aV 1) (AB (aV 3) AL))) (Aw 5))
   (Ao (GW (Cw (SJ (AB (aC (.int 3)) AL)) 1 [2,4,5] (Aw 0) Fe (AN 2 KS (AB (AN 2 Dr (AB (AX Ai (aV 2) (aV 0)) (AB (AX Ai (aV 3) (aV 0)) AL))) (AB (AN 2 ES (AB (aV 1) (AB (aV 0) AL))) AL)))))))
abbrev O0:AS:=
 (Ab (Ay (AN 2 Fc (AB (aV 0) (AB (aV 3) AL))) (Aw 4))
   P8)
def FZ:AF:=Av 6 O0
theorem TY {x0 x1 x2 x3:PV} {Q:PV->Prop} (h:O0 ⟨λ_=>Q .non,Q,λ_=>False,λ_=>False⟩ [some (.val x0),some (.val x1),some (.val x2),some (.val x3),none,none]):FZ [x0,x1,x2,x3] Q:=h
abbrev Bh:AS:=
 (Ab (Ay (AN 2 Be (AB (AN 2 A9 (AB (AX Ai (aV 7) (aV 6)) (AB (AX Ai (aV 8) (aV 6)) AL))) (AB (AX Ai (aV 2) (Fd Uc (AB (AX NF (aV 6) (aC (.int 2))) AL))) AL))) (Aw 9))
   (Bj (Ar (AN 2 Ag (AB (aV 5) (AB (BF (AB (Fd QQ (AB (AX Ai (aV 9) (aC (.int 0))) AL)) (AB (AX Ai (aV 9) (aC (.int 1))) AL))) AL)))) (Ay (BF (AB (Fd QQ (AB (AX Ai (aV 9) (aC (.int 0))) AL)) (AB (AX Ai (aV 9) (aC (.int 1))) AL))) (Aw 5)) BB))
abbrev OH:AS:=
 (Ab (FD (SJ (AB (aC (.int 3)) AL)) (Aw 6) Bh)
   (Ao (aV 5)))
abbrev OG:AS:=
 (Ab (Ay (BF (AB (aC (.int 0)) (AB (aC (.int 1)) AL))) (Aw 5))
   OH)
abbrev OF:AS:=
 (Ab (Bj (Gr (Ar (AX UZ (aV 7) (aC .non))) (Ar (AX UZ (aV 8) (aC .non)))) (Ao (aC .non)) BB)
   OG)
abbrev OE:AS:=
 (Ab (OS 7 8 (AB (AN 2 Ca (AB (aV 0) (AB (aV 3) AL))) (AB (AN 2 Ca (AB (aV 1) (AB (aV 3) AL))) AL)))
   OF)
abbrev OD:AS:=
 (Ab (Bj (Gq (DG (fi (aV 4))) (Gr (DG (Ar (AN 2 Ag (AB (aV 3) (AB (AX Ai (AX Ai (aV 0) (M6 FF (aC (.int 1)))) (aC (.int 0))) AL))))) (DG (Ar (AN 2 Ag (AB (aV 3) (AB (AX Ai (AX Ai (aV 1) (M6 FF (aC (.int 1)))) (aC (.int 0))) AL))))))) (Ao (aC .non)) BB)
   OE)
abbrev MY:AS:=
 (Ab (Bj (Gr (Ar (AN 2 Ag (AB (aV 3) (AB (AX Ai (AX Ai (aV 0) (aC (.int 0))) (aC (.int 0))) AL)))) (Ar (AN 2 Ag (AB (aV 3) (AB (AX Ai (AX Ai (aV 1) (aC (.int 0))) (aC (.int 0))) AL))))) (Ao (aC .non)) BB)
   OD)
def EW:AF:=Av 10 MY
theorem RB {x0 x1 x2 x3 x4:PV} {Q:PV->Prop} (h:MY ⟨λ_=>Q .non,Q,λ_=>False,λ_=>False⟩ [some (.val x0),some (.val x1),some (.val x2),some (.val x3),some (.val x4),none,none,none,none,none]):EW [x0,x1,x2,x3,x4] Q:=h
def absR (r:Rat):Rat:=if r<0 then -r else r
theorem Bd.absR {n:Nat} {r:Rat} (h:Bd n r):Bd n (absR r):=by unfold PL.absR;split;exact h.neg;exact h
def FG (p q:T3) (d:Rat×Rat):T3:=((p.1-q.1)/d.1,(p.2.1-q.2.1)/d.1,(p.2.2-q.2.2)/d.2)
def Sd (o:T3):Rat:=mx (mx (mx 0 (absR o.1)) (absR o.2.1)) (absR o.2.2)
def DD (a l a2 l2:C4) (m:Rat):Prop:=(¬m<a.1/\¬m<a2.1)/\m<l.1/\m<l2.1
instance {a l a2 l2:C4} {m:Rat}:Decidable (DD a l a2 l2 m):=by unfold DD;infer_instance
def gE:Option Rat->PV
 | none=> .non
 | some r=>fr r
def XC (a l a2 l2:C4) (cs ds:List C4) (d:Rat×Rat) (m:Rat):Option Rat:=if DD a l a2 l2 m then some (Sd (FG ((spotC cs m).getD (0,0,0)) ((spotC ds m).getD (0,0,0)) d)) else none
theorem cX {cs ds:List C4} {v w u:PV} {d:Rat×Rat} {m:Rat} {p q':T3} (hv:CQ cs v) (hw:CQ ds w) (hu:aw d u) (hc:∀c∈cs,Fm 150 c) (OA:∀c∈ds,Fm 150 c) (hr:KZ cs) (gU:KZ ds) (h0:cs≠ []) (Tw:ds≠ []) (hl:cs.length<=100) (nU:ds.length<=100) (bm:Bd 200 m) (b1:Bd 100 d.1) (b2:Bd 100 d.2) (p1:d.1≠0) (p2:d.2≠0)
 (e1:spotC cs m=some p) (e2:spotC ds m=some q') {Q:PV->Prop} (q:Q (.lst [fr (FG p q' d).1,fr (FG p q' d).2.1,fr (FG p q' d).2.2])):FZ [v,w,u,fr m] Q:=by
 have t1:=FT.spotC bm hr hc p e1
 have t2:=FT.spotC bm gU OA q' e2
 have x1:=t1.x
 have x2:=t1.y
 have x3:=t1.z
 have y1:=t2.x
 have y2:=t2.y
 have y3:=t2.z
 have z1:=x1.sub y1
 have z2:=x2.sub y2
 have z3:=x3.sub y3
 apply TY
 ac_rfl
 refine Iz hv hc hr h0 (by omega) bm (by decide) ?_
 rw [e1,show IB (some p)= .tup [fr p.1,fr p.2.1,fr p.2.2] from rfl]
 ac_rfl
 refine Iz hw OA gU Tw (by omega) bm (by decide) ?_
 rw [e2,show IB (some q')= .tup [fr q'.1,fr q'.2.1,fr q'.2.2] from rfl]
 ac_rfl
 rw [show rng 0 (Int.toNat 3)= [.int 0, .int 1, .int 2] from rfl]
 repeat' array_get_dec
 refine M8 hu ?_
 rw [if_neg (by decide)]
 repeat' array_get_dec
 refine M8 hu ?_
 rw [if_neg (by decide)]
 repeat' array_get_dec
 refine M8 hu ?_
 rw [if_pos (by decide)]
 repeat' array_get_dec
 exact q
theorem Kh (r:Rat):PV.tup [.int (r.num.natAbs:Int), .int r.den] =fr (absR r):=fj r
theorem Tp {a l a2 l2:C4} {r r2:List C4} {v w:PV} (hv:CQ (a::r) v) (hw:CQ (a2::r2) w) (el:(a::r).getLast?=some l) (el2:(a2::r2).getLast?=some l2) (ba:Bd 3000 a.1) (bl:Bd 3000 l.1) (ba2:Bd 3000 a2.1) (bl2:Bd 3000 l2.1)
 {Q:PV->Prop} (q1:mx a.1 a2.1<mn l.1 l2.1->Q (.tup [fr (mx a.1 a2.1),fr (mn l.1 l2.1)])) (q2:¬mx a.1 a2.1<mn l.1 l2.1->Q .non):Dg [v,w] Q:=by
 apply RE
 ac_rfl
 refine qZ hv λx hx=> ?_
 ac_rfl
 refine c0 hx ?_
 ac_rfl
 refine qZ hw λx hx=> ?_
 ac_rfl
 refine c0 hx ?_
 ac_rfl
 refine qa hv el λx hx=> ?_
 ac_rfl
 refine c0 hx ?_
 ac_rfl
 refine qa hw el2 λx hx=> ?_
 ac_rfl
 refine c0 hx ?_
 ac_rfl
 ·exact q1 ‹_›
 ·exact q2 ‹_›
abbrev KI:AS:=
 (Ab (Ay (AX QO (AX BY (aV 2) (aV 3)) (aC (.int 2))) (Aw 4))
   (Bj (Ar (AN 2 Ag (AB (AX Ai (aV 0) (aV 4)) (AB (aV 1) AL)))) (Ay (AX BY (aV 4) (aC (.int 1))) (Aw 2)) (Ay (aV 4) (Aw 3))))
abbrev KL:AS:=
 (Ab (Kg (Ar (AX X9 (aV 2) (aV 3))) KI)
   (Ao (aV 2)))
abbrev KJ:AS:=
 (Ab (Ay (Fd Fg (AB (aV 0) AL)) (Aw 3))
   KL)
abbrev Hk:AS:=
 (Ab (Ay (aC (.int 0)) (Aw 2))
   KJ)
def Cu:AF:=Av 5 Hk
theorem L1 {x0 x1:PV} {Q:PV->Prop} (h:Hk ⟨λ_=>Q .non,Q,λ_=>False,λ_=>False⟩ [some (.val x0),some (.val x1),none,none,none]):Cu [x0,x1] Q:=h
abbrev LJ:AS:=
 (Ab (Ay (Wz (AN 2 Cu (AB (aV 1) (AB (aV 2) AL)))) (Aw 3))
   (Bj (SH (Gr (Ar (AX NF (aV 3) (Fd Fg (AB (aV 1) AL)))) (Ar (AX XA (AX Ai (aV 1) (aV 3)) (aV 2))))) (EA 1 ZS (AB (aV 3) (AB (aV 2) AL))) BB))
abbrev R3:AS:=
 (Ab (FD (M7 (aV 0)) (Aw 2) LJ)
   (Ao (aV 1)))
abbrev R1:AS:=
 (Ab (Kb (D2 AL) 1)
   R3)
def Fb:AF:=Av 4 R1
theorem VH {x0:PV} {Q:PV->Prop} (h:R1 ⟨λ_=>Q .non,Q,λ_=>False,λ_=>False⟩ [some (.val x0),none,none,none]):Fb [x0] Q:=h
abbrev Rp:AS:=
 (Ab (UJ 3 jm (Yi (aV 1) (aV 4) (aV 5)))
   (EA 2 JW (AB (BF (AB (aV 4) (AB (aV 5) (AB (aV 3) AL)))) AL)))
abbrev Rs:AS:=
 (Ab (FD (M7 (AN 1 Fb (AB (GW (Cw (M7 (GW (UK (AB (aV 1) AL)))) 2 [] (L9 2 (Ak (Aw 0) (Ak (Aw 1) CS))) Fe (aV 0))) AL))) (Aw 4) (FD (M7 (BF (AB (aC (.int 0)) (AB (aC (.int 1)) AL)))) (Aw 5) (Bj (Ar (bM (aV 4) (aV 5) (aV 1))) Rp BB)))
   (Ao (aV 2)))
abbrev Rr:AS:=
 (Ab (Ay (aC (.int 0)) (Aw 3))
   Rs)
abbrev Rq:AS:=
 (Ab (Kb (D2 AL) 2)
   Rr)
abbrev Ro:AS:=
 (Ab (Ay (AN 1 HG (AB (aV 0) AL)) (Aw 1))
   Rq)
def Gj:AF:=Av 6 Ro
theorem VF {x0:PV} {Q:PV->Prop} (h:Ro ⟨λ_=>Q .non,Q,λ_=>False,λ_=>False⟩ [some (.val x0),none,none,none,none,none]):Gj [x0] Q:=h
abbrev Ps:AS:=
 (Ab (EA 2 JW (AB (BF (AB (AX Ai (aV 3) (aC (.int 0))) (AB (AX Ai (aV 3) (aC (.int 1))) (AB (aV 4) AL)))) AL))
   (Ay (aC .non) (Aw 3)))
abbrev Fo:AS:=
 (Ab (Bj (Ar (AX LM (aV 3) (aC .non))) (EA 2 JW (AB (BF (AB (AX Ai (aV 3) (aC (.int 0))) (AB (AX Ai (aV 3) (aC (.int 1))) (AB (aC .non) AL)))) AL)) BB)
   (Ao (Fd D7 (AB (aV 2) AL))))
abbrev Pu:AS:=
 (Ab (FD (M7 (AN 1 Gj (AB (aV 0) AL))) (L9 3 (Ak (Aw 4) (Ak (Aw 5) (Ak (Aw 6) CS)))) (Bj (Gq (Ar (AX UZ (aV 3) (aC .non))) (Ar (AX i8 (aV 6) (aV 1)))) (Ay (BF (AB (aV 4) (AB (AX Gw (aC (.int 1)) (aV 5)) AL))) (Aw 3)) (Bj (Gq (Ar (AX LM (aV 3) (aC .non))) (Ar (AX X9 (aV 6) (aV 1)))) Ps BB)))
   Fo)
abbrev Pt:AS:=
 (Ab (Ay (aC .non) (Aw 3))
   Pu)
abbrev Ox:AS:=
 (Ab (Kb (D2 AL) 2)
   Pt)
def EO:AF:=Av 7 Ox
theorem TV {x0 x1:PV} {Q:PV->Prop} (h:Ox ⟨λ_=>Q .non,Q,λ_=>False,λ_=>False⟩ [some (.val x0),some (.val x1),none,none,none,none,none]):EO [x0,x1] Q:=h
abbrev Mo:AS:=
 (Ao (AN 2 EO (AB (aV 0) (AB (aC (.int 1)) AL))))
def EZ:AF:=Av 1 Mo
theorem RF {x0:PV} {Q:PV->Prop} (h:Mo ⟨λ_=>Q .non,Q,λ_=>False,λ_=>False⟩ [some (.val x0)]):EZ [x0] Q:=h
def ins:List Rat->Rat->List Rat
 | [],x=> [x]
 | q::r,x=>if q<x then q::ins r x else if q=x then q::r else x::q::r
abbrev QJ (qs:List Rat):Prop:=qs.Pairwise (· < ·)
theorem Qo {x y:Rat}:∀{qs:List Rat},y∈ins qs x↔y=x\/y∈qs
 | [] =>by simp [ins]
 | q::r=>by
   unfold ins
   split
   ·rw [List.mem_cons,Qo,List.mem_cons];grind
   ·split
    ·rename_i h;subst h;simp
    ·simp
theorem Wg {x:Rat}:∀{qs:List Rat},QJ qs->QJ (ins qs x)
 | [],_=>by simp [ins]
 | q::r,h=>by
   obtain ⟨h1,h2⟩:=List.pairwise_cons.mp h
   unfold ins
   split
   ·rename_i hq
    refine List.pairwise_cons.mpr ⟨λy hy=> ?_,Wg h2⟩
    rcases Qo.mp hy with rfl|hy
    ·exact hq
    ·exact h1 y hy
   ·split
    ·exact h
    ·refine List.pairwise_cons.mpr ⟨λy hy=> ?_,h⟩
     rcases List.mem_cons.mp hy with rfl|hy
     ·grind
     ·have:=h1 y hy;grind
theorem WB {x:Rat}:∀{qs:List Rat},(ins qs x).length<=qs.length+1
 | [] =>by simp [ins]
 | q::r=>by
   have:=WB (x:=x) (qs:=r)
   unfold ins
   split
   ·simp;omega
   ·split <;> simp
structure At (qs:List Rat) (x:Rat) (k:Nat):Prop where
 le:k<=qs.length
 lo:∀q∈qs.take k,q<x
 hi:∀q∈qs.drop k,¬q<x
theorem UM:∀{qs:List Rat} {x:Rat} {k:Nat},QJ qs->At qs x k->ins qs x=if qs[k]? =some x then qs else qs.take k++x::qs.drop k
 | [],x,k,_,h=>by
   have:=h.le
   simp at this
   subst this
   simp [ins]
 | q::r,x,0,_,h=>by
   have:=h.hi q (by simp)
   unfold ins
   rw [if_neg this]
   by_cases e:q=x
   ·rw [if_pos e,if_pos (by simp [e])]
   ·rw [if_neg e,if_neg (by simp [e])];rfl
 | q::r,x,k+1,hs,h=>by
   have hq:=h.lo q (by simp)
   have ih:=UM (qs:=r) (x:=x) (k:=k) (List.pairwise_cons.mp hs).2 ⟨by have:=h.le;simp at this;exact this,λy hy=>h.lo y (by simp [hy]),λy hy=>h.hi y (by simpa using hy)⟩
   unfold ins
   rw [if_pos hq,ih]
   simp only [List.getElem?_cons_succ,List.take_succ_cons,List.drop_succ_cons]
   split <;> rfl
theorem RX:∀{a b:List Rat},QJ a->QJ b->(∀x,x∈a↔x∈b)->a=b
 | [], [],_,_,_=>rfl
 | [],y::b,_,_,h=>by have:=(h y).mpr (by simp);simp at this
 | x::a, [],_,_,h=>by have:=(h x).mp (by simp);simp at this
 | x::a,y::b,ha,hb,h=>by
   obtain ⟨a1,a2⟩:=List.pairwise_cons.mp ha
   obtain ⟨b1,b2⟩:=List.pairwise_cons.mp hb
   have exy:x=y:=by
    rcases List.mem_cons.mp ((h x).mp (by simp)) with e|e
    ·exact e
    ·rcases List.mem_cons.mp ((h y).mpr (by simp)) with e2|e2
     ·exact e2.symm
     ·have:=b1 x e;have:=a1 y e2;grind
   subst exy
   congr 1
   refine RX a2 b2 λz=>⟨λhz=> ?_,λhz=> ?_⟩
   ·rcases List.mem_cons.mp ((h z).mp (by simp [hz])) with e|e
    ·subst e;have:=a1 z hz;grind
    ·exact e
   ·rcases List.mem_cons.mp ((h z).mpr (by simp [hz])) with e|e
    ·subst e;have:=b1 z hz;grind
    ·exact e
def CD (xs:List Rat):List Rat:=xs.foldl ins []
theorem MJ:∀(xs qs:List Rat),QJ qs->QJ (xs.foldl ins qs)/\(∀y,y∈xs.foldl ins qs↔y∈xs\/y∈qs)/\(xs.foldl ins qs).length<=qs.length+xs.length
 | [],qs,h=>⟨h,by simp,by simp⟩
 | x::xs,qs,h=>by
   obtain ⟨h1,h2,h3⟩:=MJ xs (ins qs x) (Wg h)
   refine ⟨h1,λy=> ?_, ?_⟩
   ·rw [List.foldl_cons,h2,Qo,List.mem_cons];grind
   ·have:=WB (x:=x) (qs:=qs)
    rw [List.foldl_cons,List.length_cons];omega
theorem CJ {xs:List Rat}:QJ (CD xs):=(MJ xs [] .nil).1
theorem Bm {xs:List Rat} {y:Rat}:y∈CD xs↔y∈xs:=by rw [CD,(MJ xs [] .nil).2.1];simp
theorem Ef {xs:List Rat}:(CD xs).length<=xs.length:=by have:=(MJ xs [] .nil).2.2;unfold CD;simpa using this
theorem Z4 {a b:List Rat} (h:∀x,x∈a↔x∈b):CD a=CD b:=RX CJ CJ λx=>by rw [Bm,Bm,h]
theorem Wk:∀{qs:List Rat} {m:Nat} {c x:Rat},QJ qs->qs[m]? =some c->c<x->∀q∈qs.take (m+1),q<x
 | [],m,c,x,_,e,_=>by simp at e
 | a::r,0,c,x,_,e,h=>by simp at e;subst e;simp [h]
 | a::r,m+1,c,x,hs,e,h=>by
   obtain ⟨h1,h2⟩:=List.pairwise_cons.mp hs
   have e':r[m]? =some c:=by simpa using e
   intro q hq
   rw [List.take_succ_cons] at hq
   rcases List.mem_cons.mp hq with rfl|hq
   ·have:=h1 c (List.mem_of_getElem? e');grind
   ·exact Wk h2 e' h q hq
theorem Vx:∀{qs:List Rat} {m:Nat} {c x:Rat},QJ qs->qs[m]? =some c->¬c<x->∀q∈qs.drop m,¬q<x
 | [],m,c,x,_,e,_=>by simp at e
 | a::r,0,c,x,hs,e,h=>by
   simp at e;subst e
   intro q hq
   rcases List.mem_cons.mp hq with rfl|hq
   ·exact h
   ·have:=(List.pairwise_cons.mp hs).1 q hq;grind
 | a::r,m+1,c,x,hs,e,h=>by
   intro q hq
   exact Vx (List.pairwise_cons.mp hs).2 (by simpa using e) h q (by simpa using hq)
theorem Ys {qs:List Rat} {x:Rat} {B M:Nat} (hs:QJ qs) (hl:qs.length<=1000000) (hq:∀q∈qs,Bd B q) (hx:Bd M x) (hB:B<=4000) (hM:M<=4000) {Q:PV->Prop} (q:∀k:Nat,At qs x k->Q (.int k)):Cu [.lst (qs.map fr),fr x] Q:=by
 apply L1
 repeat' array_get_dec
 refine ln (λn τ=>∃(lo hi:Nat) (z:Option AV),hi-lo<n/\lo<=hi/\hi<=qs.length/\(∀q∈qs.take lo,q<x)/\(∀q∈qs.drop hi,¬q<x)/\τ= [some (.val (.lst (qs.map fr))),some (.val (fr x)),some (.val (.int lo)),some (.val (.int hi)),z]) ?_ ?_ (n:=qs.length+1) ⟨0,qs.length,none,by omega,by omega,by omega,by simp,by simp,rfl⟩
 ·rintro n τ R hR ⟨lo,hi,z,h1,h2,h3,h4,h5,rfl⟩
  have ef:frz [some (.val (.lst (qs.map fr))),some (.val (fr x)),some (.val (.int lo)),some (.val (.int hi)),z] = [some (.val (.lst (qs.map fr))),some (.val (fr x)),some (.val (.int lo)),some (.val (.int hi)),bZ z] :=rfl
  rw [ef]
  repeat' array_get_dec
  ·rename_i Dt
   refine ⟨⟨by decide,by decide⟩, ?_⟩
   have em:((lo:Int)+hi).fdiv 2=((lo+hi)/2:Nat):=by rw [Int.fdiv_eq_ediv_of_nonneg _ (by decide)];omega
   rw [em]
   have m1:(lo+hi)/2<hi:=by omega
   have m2:lo<=(lo+hi)/2:=by omega
   generalize (lo+hi)/2=m at *
   repeat' array_get_dec
   rename_i c ec hc
   have ec':qs[m]? =some c:=ec
   have bc:=hq c hc
   repeat' array_get_dec
   ·rename_i nL
    refine hR _ ⟨m+1,hi,_,by omega,by omega,h3,Wk hs ec' nL,h5,rfl⟩
   ·rename_i nL
    refine hR _ ⟨lo,m,_,by omega,m2,by omega,h4,Vx hs ec' nL,rfl⟩
  ·rename_i Dt
   have e:lo=hi:=by omega
   subst e
   exact q lo ⟨by omega,h4,h5⟩
 ·rintro τ ⟨lo,hi,z,h,_⟩
  omega
theorem PR {v:PV} {xs:List Rat} {B:Nat} (hv:v= .lst (xs.map fr)\/v= .tup (xs.map fr)) (hl:xs.length<=1000) (hx:∀x∈xs,Bd B x) (hB:B<=4000) {Q:PV->Prop} (q:Q (.lst ((CD xs).map fr))):Fb [v] Q:=by
 apply VH
 have key:∀{z2 z3:Option AV},Cc (Aw 2) LJ ⟨Ao (aV 1) ⟨λ_=>Q .non,Q,λ_=>False,λ_=>False⟩,Q,λ_=>False,λ_=>False⟩ (xs.map fr) [some (.val v),some (.own []),z2,z3] :=by
  intro z2 z3
  refine C1 fr (λus vs τ=>∃z2 z3,τ= [some (.val v),some (.own ((CD us).map fr)),z2,z3]) ?_ ?_ ⟨_,_,rfl⟩
  ·rintro τ ⟨z2,z3,rfl⟩
   repeat' array_get_dec
   exact q
  ·rintro us c vs e τ R hR ⟨z2,z3,rfl⟩
   have ul:us.length<=1000:=by have:=congrArg List.length e;simp at this;omega
   have rl:=Ef (xs:=us)
   have bu:∀y∈CD us,Bd B y:=λy hy=>hx y (by rw [<-e];simp [Bm.mp hy])
   have bc:Bd B c:=hx c (by rw [<-e];simp)
   have fin:∀(ws:List Rat) z2 z3,ws=ins (CD us) c->R [some (.val v),some (.own (ws.map fr)),z2,z3] :=λws z2 z3 h=>hR _ ⟨z2,z3,by rw [h,show CD (us ++ [c])=ins (CD us) c by unfold CD;rw [List.foldl_append];rfl]⟩
   repeat' array_get_dec
   refine Ys CJ (by omega) bu bc hB hB λk hk=> ?_
   have kl:=hk.le
   have ei:=UM CJ hk
   repeat' array_get_dec
   ·rename_i h1
    have e1:(CD us)[k]? =none:=List.getElem?_eq_none (by omega)
    rw [e1,if_neg (by simp)] at ei
    have:=fin _ (some (.val (fr c))) (some (.val (.int k))) ei.symm
    rw [List.map_append,List.map_cons,List.map_take,List.map_drop] at this
    exact this
   ·rename_i h1 d e1 _ h2
    have e1':(CD us)[k]? =some d:=e1
    rw [e1',if_neg (by simpa using h2)] at ei
    have:=fin _ (some (.val (fr c))) (some (.val (.int k))) ei.symm
    rw [List.map_append,List.map_cons,List.map_take,List.map_drop] at this
    exact this
   ·rename_i h1 d e1 _ h2
    have e1':(CD us)[k]? =some d:=e1
    rw [e1',if_pos (by rw [h2])] at ei
    exact fin _ _ _ ei.symm
 rcases hv with rfl|rfl
 all_goals
  ac_rfl
  exact key
abbrev Pl:=Rat×Int
abbrev Bn:=Rat×Int×Option Rat
def bp (s:Bn):Pl:=(s.1,1-s.2.1)
def ep (s:Bn):Option Pl:=s.2.2.map λe=>(e,0)
def Eu (p:Pl):FK:=((p.1.num,p.1.den),p.2)
theorem Qf {p q:Pl} (h:Eu p=Eu q):p=q:=by
 obtain ⟨a,i⟩:=p
 obtain ⟨b,j⟩:=q
 unfold Eu at h
 simp only [Prod.mk.injEq,Int.ofNat_inj] at h
 obtain ⟨⟨h1,h2⟩,h3⟩:=h
 have:a=b:=Rat.ext h1 h2
 rw [this,h3]
def Yx:Option Rat->PV|none=> .non|some e=>fr e
def Dm (s:Bn):PV:= .tup [fr s.1, .int s.2.1,Yx s.2.2]
def lF (s:Bn):PV:= .lst [fr s.1, .int s.2.1,Yx s.2.2]
theorem iO {s:Bn} {x:PV} (h:x=Dm s\/x=lF s):TR x=some ((s.1.num,(s.1.den:Int)),s.2.1,s.2.2.map λe=>(e.num,(e.den:Int))):=by
 obtain ⟨b,i,e⟩:=s
 rcases h with rfl|rfl <;> cases e <;> rfl
theorem ae {m:List (FK×Int)} {k k':FK} {v:Int}:BI (Op m k v) k'=if k'=k then some v else BI m k':=by
 unfold Op
 by_cases hk:(m.any λp=>decide (p.1=k))=true
 ·rw [if_pos hk]
  induction m with
  | nil=>simp at hk
  | cons p r ih=>
    by_cases e:p.1=k
    ·by_cases e':k'=k
     ·subst e';simp [BI,e]
     ·have:¬k=k':=λz=>e' z.symm
      by_cases hr:(r.any λp=>decide (p.1=k))=true
      ·have:=ih hr
       simpa [BI,e,e',this, ‹¬k=k'›] using this
      ·have hm:r.map (λp=>if p.1=k then (p.1,v) else p)=r:=by
        conv=>rhs;rw [<-List.map_id r]
        apply List.map_congr_left
        intro q hq
        have:¬q.1=k:=λz=>hr (List.any_eq_true.mpr ⟨q,hq,by simpa using z⟩)
        rw [if_neg this];rfl
       simp only [List.map_cons,e,if_true,hm]
       simp [BI,e,e',this]
    ·have hr:(r.any λp=>decide (p.1=k))=true:=by simpa [e] using hk
     have:=ih hr
     by_cases e2:p.1=k'
     ·have:¬k'=k:=λz=>e (e2.trans z)
      simp [BI,e,e2,this]
     ·simpa [BI,e,e2] using this
 ·rw [if_neg hk]
  induction m with
  | nil=>
    by_cases e':k'=k
    ·subst e';simp [BI]
    ·have:¬k=k':=λz=>e' z.symm
     simp [BI,e',this]
  | cons p r ih=>
    have e:¬p.1=k:=λz=>hk (by simp [z])
    have hr:¬(r.any λp=>decide (p.1=k))=true:=λz=>hk (by simp only [List.any_cons,z,Bool.or_true])
    have:=ih hr
    by_cases e2:p.1=k'
    ·have:¬k'=k:=λz=>e (e2.trans z)
     simp [BI,e2,this]
    ·simpa [BI,e2] using this
theorem cN {m:List (FK×Int)} {k k':FK} {v:Int}:k'∈(Op m k v).map (·.1)↔k'=k\/k'∈m.map (·.1):=by
 unfold Op
 split
 ·rename_i hk
  obtain ⟨q,hq,e⟩:=List.any_eq_true.mp hk
  have e:q.1=k:=by simpa using e
  have:(m.map λp=>if p.1=k then (p.1,v) else p).map (·.1)=m.map (·.1):=by
   rw [List.map_map]
   apply List.map_congr_left
   intro p _
   by_cases z:p.1=k <;> simp [z]
  rw [this]
  refine ⟨.inr,λh=>h.elim (λz=> ?_) id⟩
  rw [z,<-e];exact List.mem_map.mpr ⟨q,hq,rfl⟩
 ·rw [List.map_append,List.mem_append]
  simp only [List.map_cons,List.map_nil,List.mem_singleton]
  exact Or.comm
theorem dn {m:List (FK×Int)} {k:FK}:(BI m k).isSome=true↔k∈m.map (·.1):=by
 unfold BI
 rw [Option.isSome_map,List.find?_isSome,List.mem_map]
 constructor
 ·rintro ⟨p,hp,e⟩;exact ⟨p,hp,by simpa using e⟩
 ·rintro ⟨p,hp,e⟩;exact ⟨p,hp,by simpa using e⟩
def Nf (s:Bn) (p:Pl):Int:=(if bp s=p then 1 else 0)-(if ep s=some p then 1 else 0)
def cnt (ss:List Bn) (p:Pl):Int:=(ss.map λs=>Nf s p).sum
def JR (ss:List Bn) (p:Pl):Prop:=∃s∈ss,bp s=p\/ep s=some p
theorem Ky {m:List (FK×Int)} {k k':FK} {d:Int}:(BI (bump m k d) k').getD 0=(BI m k').getD 0+if k'=k then d else 0:=by
 unfold bump
 rw [ae]
 by_cases e:k'=k
 ·subst e;simp
 ·simp [e]
theorem NQ {m:List (FK×Int)} {k k':FK} {d:Int}:k'∈(bump m k d).map (·.1)↔k'=k\/k'∈m.map (·.1):=cN
inductive GP:List PV->List Bn->Prop where
 | nil:GP [] []
 | cons {x:PV} {s:Bn} {xs:List PV} {ss:List Bn} (h:x=Dm s\/x=lF s) (t:GP xs ss):GP (x::xs) (s::ss)
theorem GP.length:∀{xs:List PV} {ss:List Bn},GP xs ss->xs.length=ss.length
 | _,_, .nil=>rfl
 | _,_, .cons _ t=>by simp [t.length]
theorem Xr (ss:List Bn):GP (ss.map Dm) ss:=by
 induction ss with
 | nil=>exact .nil
 | cons s ss ih=>exact .cons (.inl rfl) ih
theorem Tn {m:List (FK×Int)} {s:Bn}:(∀p,(BI (GG m (s.1.num,(s.1.den:Int)) s.2.1 (s.2.2.map λe=>(e.num,(e.den:Int)))) (Eu p)).getD 0=(BI m (Eu p)).getD 0+Nf s p)/\
 ∀k,k∈(GG m (s.1.num,(s.1.den:Int)) s.2.1 (s.2.2.map λe=>(e.num,(e.den:Int)))).map (·.1)↔k∈m.map (·.1)\/∃p,(bp s=p\/ep s=some p)/\k=Eu p:=by
 obtain ⟨b,h,e⟩:=s
 have eb:∀p:Pl,(Eu p=((b.num,(b.den:Int)),1-h))↔bp (b,h,e)=p:=λp=>⟨λz=>(Qf (p:=p) (q:=(b,1-h)) z).symm,λz=>by rw [<-z];rfl⟩
 cases e with
 | none=>
   refine ⟨λp=> ?_,λk=> ?_⟩
   ·show (BI (bump m ((b.num,(b.den:Int)),1-h) 1) (Eu p)).getD 0=_
    rw [Ky]
    simp only [eb,Nf,ep]
    simp
   ·show k∈(bump m ((b.num,(b.den:Int)),1-h) 1).map (·.1)↔_
    rw [NQ]
    constructor
    ·rintro (z|z)
     ·exact .inr ⟨_, .inl rfl,z⟩
     ·exact .inl z
    ·rintro (z|⟨p,z|z,hk⟩)
     ·exact .inr z
     ·exact .inl (by rw [hk,<-z];rfl)
     ·cases z
 | some e=>
   have ee:∀p:Pl,(Eu p=((e.num,(e.den:Int)),0))↔ep (b,h,some e)=some p:=λp=>⟨λz=>by rw [<-Qf (p:=(e,0)) (q:=p) z.symm];rfl,λz=>by cases z;rfl⟩
   refine ⟨λp=> ?_,λk=> ?_⟩
   ·show (BI (bump (bump m ((b.num,(b.den:Int)),1-h) 1) ((e.num,(e.den:Int)),0) (-1)) (Eu p)).getD 0=_
    rw [Ky,Ky]
    simp only [eb,ee,Nf]
    split <;> split <;> omega
   ·show k∈(bump (bump m ((b.num,(b.den:Int)),1-h) 1) ((e.num,(e.den:Int)),0) (-1)).map (·.1)↔_
    rw [NQ,NQ]
    constructor
    ·rintro (z|z|z)
     ·exact .inr ⟨(e,0), .inr rfl,z⟩
     ·exact .inr ⟨_, .inl rfl,z⟩
     ·exact .inl z
    ·rintro (z|⟨p,z|z,hk⟩)
     ·exact .inr (.inr z)
     ·exact .inr (.inl (by rw [hk,<-z];rfl))
     ·exact .inl (by rw [hk];exact (ee p).mpr z)
theorem Pm:∀{xs:List PV} {ss:List Bn} (m0:List (FK×Int)),GP xs ss->∃m,FQ xs m0=some m/\(∀p,(BI m (Eu p)).getD 0=(BI m0 (Eu p)).getD 0+cnt ss p)/\(∀k,k∈m.map (·.1)↔k∈m0.map (·.1)\/∃p,JR ss p/\k=Eu p)/\m.length<=m0.length+2*ss.length
 | _,_,m0, .nil=>⟨m0,rfl,λp=>by simp [cnt],λk=>by simp [JR],by simp⟩
 | x::xs,s::ss,m0, .cons h t=>by
   obtain ⟨m,h1,h2,h3,h4⟩:=Pm (GG m0 (s.1.num,(s.1.den:Int)) s.2.1 (s.2.2.map λe=>(e.num,(e.den:Int)))) t
   obtain ⟨t1,t2⟩:=Tn (m:=m0) (s:=s)
   refine ⟨m, ?_,λp=> ?_,λk=> ?_, ?_⟩
   ·unfold FQ
    rw [iO h]
    exact h1
   ·rw [h2,t1];simp [cnt];omega
   ·rw [h3,t2]
    constructor
    ·rintro ((z|⟨p,z,e⟩)|⟨p,⟨s',cH,z⟩,e⟩)
     ·exact .inl z
     ·exact .inr ⟨p,⟨s,by simp,z⟩,e⟩
     ·exact .inr ⟨p,⟨s',by simp [cH],z⟩,e⟩
    ·rintro (z|⟨p,⟨s',cH,z⟩,e⟩)
     ·exact .inl (.inl z)
     ·rcases List.mem_cons.mp cH with rfl|cH
      ·exact .inl (.inr ⟨p,z,e⟩)
      ·exact .inr ⟨p,⟨s',cH,z⟩,e⟩
   ·have:=Ld (m:=m0) (b:=(s.1.num,(s.1.den:Int))) (h:=s.2.1) (e:=s.2.2.map λe=>(e.num,(e.den:Int)))
    simp only [List.length_cons];omega
def OB (x p:Pl):Bool:=decide (x.1<p.1)||(decide (x.1=p.1)&&decide (x.2<=p.2))
def Bw (s:Bn) (p:Pl):Bool:=(decide (s.1<p.1)||(decide (s.1=p.1)&&decide (0<s.2.1+p.2)))&&(match s.2.2 with | none=>true|some e=>decide (p.1<e))
structure Di (B:Nat) (s:Bn):Prop where
 b:Bd B s.1
 h:s.2.1=0\/s.2.1=1
 e:∀e,s.2.2=some e->s.1<e/\Bd B e
def tm (s:Bn) (p:Pl):Int:=(if OB (bp s) p=true then 1 else 0)-(if (ep s).any (OB · p)=true then 1 else 0)
theorem lg {B:Nat} {s:Bn} {p:Pl} (ok:Di B s) (hp:0<=p.2):tm s p=if Bw s p=true then 1 else 0:=by
 obtain ⟨b,h,e⟩:=s
 obtain ⟨q,i⟩:=p
 have hh:h=0\/h=1:=ok.h
 have hp:0<=i:=hp
 have e1:OB (bp (b,h,e)) (q,i)=(decide (b<q)||(decide (b=q)&&decide (0<h+i))):=by
  unfold OB bp
  congr 2
  exact decide_eq_decide.mpr (by show 1-h<=i↔0<h+i;omega)
 cases e with
 | none=>
   unfold tm Bw
   rw [e1]
   simp [ep]
 | some e=>
   have PK:b<e:=(ok.e e rfl).1
   have e2:(ep (b,h,some e)).any (OB · (q,i))= !decide (q<e):=by
    show OB (e,0) (q,i)=_
    unfold OB
    by_cases z:q<e
    ·have z1:¬e<q:=by grind
     have z2:¬e=q:=by grind
     simp [z,z1,z2]
    ·by_cases z1:e<q
     ·simp [z,z1]
     ·have z2:e=q:=by grind
      simp [z2,hp]
   unfold tm Bw
   rw [e1,e2]
   by_cases z:q<e
   ·simp [z]
   ·have z1:b<q:=by grind
    simp [z,z1]
def Hn (ss:List Bn) (p:Pl):Nat:=(ss.filter (Bw · p)).length
theorem Uk {B:Nat} {p:Pl} (hp:0<=p.2):∀{ss:List Bn},(∀s∈ss,Di B s)->(Hn ss p:Int)=(ss.map λs=>tm s p).sum
 | [],_=>rfl
 | s::ss,h=>by
   have ih:=Uk hp (ss:=ss) λx hx=>h x (by simp [hx])
   have e:=lg (p:=p) (h s (by simp)) hp
   rw [List.map_cons,List.sum_cons,<-ih,e]
   unfold Hn
   rw [List.filter_cons]
   split
   ·simp;omega
   ·simp
def ME (x p:Pl):Prop:=x.1<p.1\/(x.1=p.1/\x.2<p.2)
theorem K0 {a b c:Pl} (h:ME a b) (h2:ME b c):ME a c:=by
 unfold ME at *
 rcases h with h|⟨h,h'⟩ <;> rcases h2 with h2|⟨h2,l8⟩
 ·left;grind
 ·left;grind
 ·left;grind
 ·right;exact ⟨by grind,by omega⟩
theorem Gz {x p:Pl}:OB x p=true↔ME x p\/x=p:=by
 obtain ⟨a,i⟩:=x
 obtain ⟨b,j⟩:=p
 unfold OB ME
 simp only [Bool.or_eq_true,Bool.and_eq_true,decide_eq_true_iff,Prod.mk.injEq]
 constructor
 ·rintro (h|⟨h,h2⟩)
  ·exact .inl (.inl h)
  ·by_cases e:i=j
   ·exact .inr ⟨h,e⟩
   ·exact .inl (.inr ⟨h,by omega⟩)
 ·rintro ((h|⟨h,h2⟩)|⟨h,h2⟩)
  ·exact .inl h
  ·exact .inr ⟨h,by omega⟩
  ·exact .inr ⟨h,by omega⟩
theorem MF {p:Pl}:¬ME p p:=by
 unfold ME
 rintro (h|⟨_,h⟩)
 ·grind
 ·omega
def S1 (x:Pl):Option Pl->Bool|none=>false|some p=>OB x p
def dg (s:Bn) (o:Option Pl):Int:=(if S1 (bp s) o=true then 1 else 0)-(if (ep s).any (S1 · o)=true then 1 else 0)
def n6:Option Pl->Pl->Prop|none,_=>True|some q,p=>ME q p
theorem Jz {x p:Pl} {o:Option Pl} (hx:S1 x o=true\/x=p\/ME p x) (ho:n6 o p):OB x p=(S1 x o||decide (x=p))/\¬(S1 x o=true/\x=p):=by
 have h1:S1 x o=true->ME x p:=λh=>by
  cases o with
  | none=>cases h
  | some q=>rcases Gz.mp h with h|h
            ·exact K0 h ho
            ·rw [h];exact ho
 refine ⟨?_,λh=>by rw [h.2] at h1;exact MF (h1 (h.2 ▸ h.1))⟩
 rw [Bool.eq_iff_iff,Bool.or_eq_true,decide_eq_true_iff,Gz]
 constructor
 ·rintro (h|h)
  ·rcases hx with z|z|z
   ·exact .inl z
   ·exact .inr z
   ·exact absurd (K0 h z) MF
  ·exact .inr h
 ·rintro (h|h)
  ·exact .inl (h1 h)
  ·exact .inr h
theorem ZF {A:Bool} {E:Prop} [Decidable E] (h:¬(A=true/\E)):(if (A||decide E)=true then (1:Int) else 0)=(if A=true then 1 else 0)+if E then 1 else 0:=by
 cases A <;> by_cases e:E <;> simp_all
theorem dh {s:Bn} {p:Pl} {o:Option Pl} (hb:S1 (bp s) o=true\/bp s=p\/ME p (bp s)) (he:∀x,ep s=some x->S1 x o=true\/x=p\/ME p x) (ho:n6 o p):tm s p=dg s o+Nf s p:=by
 obtain ⟨b1,b2⟩:=Jz hb ho
 unfold tm dg Nf
 rw [b1,ZF b2]
 cases e:ep s with
 | none=>simp
 | some x=>
   obtain ⟨e1,e2⟩:=Jz (he x e) ho
   have h1:(if (some x).any (OB · p)=true then (1:Int) else 0)=(if S1 x o=true then 1 else 0)+if x=p then 1 else 0:=by
    show (if OB x p=true then (1:Int) else 0)=_
    rw [e1,ZF e2]
   rw [h1]
   show _=(_-(if S1 x o=true then (1:Int) else 0))+(_-(if some x=some p then (1:Int) else 0))
   have h2:(if some x=some p then (1:Int) else 0)=if x=p then 1 else 0:=by by_cases z:x=p <;> simp [z]
   rw [h2]
   omega
def Yb (X:List Pl):Prop:=X.Pairwise ME
def IH (ss:List Bn):Int->List Pl->Prop
 | _, [] =>True
 | c,p::r=>(Hn ss p:Int)=c+cnt ss p/\IH ss (Hn ss p) r
theorem Wi {α:Type} (f g:α->Int):∀xs:List α,(xs.map λx=>f x+g x).sum=(xs.map f).sum+(xs.map g).sum
 | [] =>rfl
 | x::xs=>by simp only [List.map_cons,List.sum_cons,Wi f g xs];omega
theorem ND {B:Nat} {ss:List Bn} (ok:∀s∈ss,Di B s):∀(X:List Pl) (o:Option Pl),Yb X->(∀p∈X,n6 o p/\0<=p.2)->(∀s∈ss,(S1 (bp s) o=true\/bp s∈X)/\∀x,ep s=some x->S1 x o=true\/x∈X)->IH ss ((ss.map λs=>dg s o).sum) X
 | [],_,_,_,_=>True.intro
 | p::r,o,hs,ho,hk=>by
   obtain ⟨h1,h2⟩:=List.pairwise_cons.mp hs
   obtain ⟨op,p0⟩:=ho p (by simp)
   have cls:∀x,(S1 x o=true\/x∈p::r)->S1 x o=true\/x=p\/ME p x:=λx h=>by
    rcases h with h|h
    ·exact .inl h
    ·rcases List.mem_cons.mp h with h|h
     ·exact .inr (.inl h)
     ·exact .inr (.inr (h1 x h))
   have e:(Hn ss p:Int)=(ss.map λs=>dg s o).sum+cnt ss p:=by
    rw [Uk p0 ok]
    unfold cnt
    rw [<-Wi]
    congr 1
    apply List.map_congr_left
    intro s hs
    exact dh (cls _ (hk s hs).1) (λx ex=>cls x ((hk s hs).2 x ex)) op
   refine ⟨e, ?_⟩
   have:=ND ok r (some p) h2 (λq hq=>⟨h1 q hq,(ho q (by simp [hq])).2⟩) (λs hs=>⟨?_,λx ex=> ?_⟩)
   ·rw [show (ss.map λs=>dg s (some p)).sum=(Hn ss p:Int) from (Uk p0 ok).symm] at this
    exact this
   ·rcases cls _ (hk s hs).1 with z|z|z
    ·exact .inl (by rw [show S1 (bp s) (some p)=OB (bp s) p from rfl,(Jz (.inl z) op).1,z];rfl)
    ·exact .inl (Gz.mpr (.inr z))
    ·rcases (hk s hs).1 with y|y
     ·exact .inl (by rw [show S1 (bp s) (some p)=OB (bp s) p from rfl,(Jz (.inl y) op).1,y];rfl)
     ·rcases List.mem_cons.mp y with y|y
      ·exact .inl (Gz.mpr (.inr y))
      ·exact .inr y
   ·rcases (hk s hs).2 x ex with y|y
    ·exact .inl (by rw [show S1 x (some p)=OB x p from rfl,(Jz (.inl y) op).1,y];rfl)
    ·rcases List.mem_cons.mp y with y|y
     ·exact .inl (Gz.mpr (.inr y))
     ·exact .inr y
def places (qs:List Rat):List Pl:=qs.flatMap λq=> [(q,0),(q,1)]
theorem Bl {qs:List Rat} {p:Pl}:p∈places qs↔p.1∈qs/\(p.2=0\/p.2=1):=by
 obtain ⟨a,i⟩:=p
 unfold places
 simp only [List.mem_flatMap,List.mem_cons,List.not_mem_nil,or_false,Prod.mk.injEq]
 constructor
 ·rintro ⟨q,hq,⟨rfl,rfl⟩|⟨rfl,rfl⟩⟩
  ·exact ⟨hq, .inl rfl⟩
  ·exact ⟨hq, .inr rfl⟩
 ·rintro ⟨h,h2⟩
  exact ⟨a,h,h2.elim (λz=> .inl ⟨rfl,z⟩) (λz=> .inr ⟨rfl,z⟩)⟩
theorem Ei:∀{qs:List Rat},QJ qs->Yb (places qs)
 | [],_=>List.Pairwise.nil
 | q::r,h=>by
   obtain ⟨h1,h2⟩:=List.pairwise_cons.mp h
   have ih:=Ei h2
   have lt:∀(i:Int),∀p∈places r,ME (q,i) p:=λi p hp=> .inl (h1 _ (Bl.mp hp).1)
   show Yb ((q,0)::(q,1)::places r)
   refine List.pairwise_cons.mpr ⟨λp hp=> ?_,List.pairwise_cons.mpr ⟨lt 1,ih⟩⟩
   rcases List.mem_cons.mp hp with rfl|hp
   ·exact .inr ⟨rfl,by show (0:Int)<1;decide⟩
   ·exact lt 0 p hp
def B9 (ss:List Bn):List Rat:=ss.flatMap λs=>s.1::s.2.2.toList
def DK (ss:List Bn):List Pl:=places (CD (B9 ss))
theorem NR {B:Nat} {ss:List Bn} (ok:∀s∈ss,Di B s) {s:Bn} (hs:s∈ss):bp s∈DK ss/\∀x,ep s=some x->x∈DK ss:=by
 refine ⟨Bl.mpr ⟨Bm.mpr (List.mem_flatMap.mpr ⟨s,hs,by simp [bp]⟩), ?_⟩,λx ex=> ?_⟩
 ·have:=(ok s hs).h;unfold bp;simp only;omega
 ·obtain ⟨e,he,rfl⟩:=Option.map_eq_some_iff.mp ex
  exact Bl.mpr ⟨Bm.mpr (List.mem_flatMap.mpr ⟨s,hs,by simp [he]⟩), .inl rfl⟩
theorem Gs {B:Nat} {ss:List Bn} (ok:∀s∈ss,Di B s):IH ss 0 (DK ss):=by
 have h:=ND ok (DK ss) none (Ei CJ) (λp hp=>⟨True.intro,by rcases (Bl.mp hp).2 with z|z <;> omega⟩) (λs hs=>⟨.inr (NR ok hs).1,λx ex=> .inr ((NR ok hs).2 x ex)⟩)
 have:(ss.map λs=>dg s none).sum=0:=by
  clear h ok
  induction ss with
  | nil=>rfl
  | cons s ss ih=>
    rw [List.map_cons,List.sum_cons,ih]
    unfold dg
    cases ep s <;> rfl
 rw [this] at h
 exact h
def CV (val:Pl->Option Int) (st:List (Pl×Int)×Int) (p:Pl):List (Pl×Int)×Int:=match val p with | some v=>(st.1 ++ [(p,st.2+v)],st.2+v)|none=>st
theorem Rf {ss:List Bn} {val:Pl->Option Int} (h1:∀p v,val p=some v->v=cnt ss p) (h2:∀p,val p=none->cnt ss p=0):∀(X:List Pl) (acc:List (Pl×Int)) (c:Int),IH ss c X->(X.foldl (CV val) (acc,c)).1=acc++(X.filter λp=>(val p).isSome).map λp=>(p,(Hn ss p:Int))
 | [],acc,c,_=>by simp
 | p::r,acc,c,h=>by
   rw [List.foldl_cons]
   cases e:val p with
   | none=>
     have hc:(Hn ss p:Int)=c:=by rw [h.1,h2 p e];omega
     rw [show CV val (acc,c) p=(acc,c) by unfold CV;rw [e],Rf h1 h2 r acc c (hc ▸ h.2),List.filter_cons,if_neg (by rw [e];decide)]
   | some v=>
     have hc:c+v=(Hn ss p:Int):=by rw [h.1,h1 p v e]
     rw [show CV val (acc,c) p=(acc ++ [(p,c+v)],c+v) by unfold CV;rw [e],hc,Rf h1 h2 r _ _ h.2,List.filter_cons,if_pos (by rw [e];rfl),List.map_cons,List.append_assoc]
     rfl
section
variable {ta tb td:AE} {r:AA} {τ:BC} {Q:PV->Prop} {QL:List PV->Prop} {m:List (FK×Int)}
def kU (xs:List PV) (Q:List PV->Prop):Prop:=match xs with | [.dct kvs] =>Q (kvs.map λp=>Uq p.1)|_=>False
instance mO:Wp (UK r τ QL) (r τ λxs=>kU xs QL):=⟨id⟩
instance pK:Wp (kU [.dct m] QL) (QL (m.map λp=>Uq p.1)):=⟨id⟩
class bL (m:List (FK×Int)) (k:FK) (i:outParam Int):Prop where
 e:BI m k=some i
def oA (m:List (FK×Int)) (k:FK) (Q:PV->Prop):Prop:=match BI m k with | some i=>Q (.int i)|none=>False
instance rL:Wp (bM ta tb td τ Q) (ta τ λx=>tb τ λy=>td τ λm=>jD m λkvs=>Nd x y λk=>Q (.bl (BI kvs k).isSome)):=⟨id⟩
instance pH:Wp (Yi td ta tb τ Q) (td τ λm=>ta τ λx=>tb τ λy=>jD m λkvs=>Nd x y λk=>oA kvs k Q):=⟨id⟩
instance rO {k:FK} {i:Int} [h:bL m k i] :Wp (oA m k Q) (Q (.int i)):=⟨λz=>by unfold oA;rw [h.e];exact z⟩
instance rN {R:List (FK×Int)->Prop}:Wp (jD (.dct m) R) (R m):=⟨id⟩
instance mP {q:Rat} {i:Int} {R:FK->Prop}:Wp (Nd (fr q) (.int i) R) (R (Eu (q,i))):=⟨id⟩
end
theorem aS {v:PV} {xs:List PV} {m:List (FK×Int)} (hv:v= .tup xs\/v= .lst xs) (hl:xs.length<=1000) (h:FQ xs [] =some m) {Q:PV->Prop} (q:Q (.dct m)):HG [v] Q:=by
 have hz:2*xs.length+2<sizeLine:=Nat.lt_of_le_of_lt (by omega:_<=2002) (Nat.lt_of_lt_of_le (by decide:2002<2003) (Nat.le_of_ble_eq_true rfl))
 rcases hv with rfl|rfl
 ·exact ⟨hz,m,h,q⟩
 ·exact ⟨hz,m,h,q⟩
def un (k:FK):Rat:=mkRat k.1.1 k.1.2.toNat
theorem iq (p:Pl):un (Eu p)=p.1:=by
 unfold un Eu
 show mkRat p.1.num ((p.1.den:Int).toNat)=p.1
 rw [Int.toNat_natCast]
 exact Rat.mkRat_self p.1
theorem gZ (p:Pl):Uq (Eu p)= .tup [fr p.1, .int p.2] :=rfl
def mK (x:Pl×Int):PV:= .tup [fr x.1.1, .int x.1.2, .int x.2]
def Qn (ss:List Bn) (key:Pl->Bool):List (Pl×Int):=((DK ss).filter key).map λp=>(p,(Hn ss p:Int))
theorem XX {v:PV} {xs:List PV} {ss:List Bn} {B:Nat} (hv:v= .tup xs\/v= .lst xs) (hr:GP xs ss) (ok:∀s∈ss,Di B s) (hl:ss.length<=400) (hB:B<=4000) {Q:PV->Prop} (q:∀key:Pl->Bool,(∀p,key p=true↔JR ss p)->Q (.lst ((Qn ss key).map mK))):Gj [v] Q:=by
 obtain ⟨m,t1,t2,t3,t4⟩:=Pm [] hr
 have hx:=hr.length
 have kk:∀p:Pl,(BI m (Eu p)).isSome=true↔JR ss p:=λp=>by
  rw [dn,t3]
  constructor
  ·rintro (z|⟨p',z,e⟩)
   ·cases z
   ·rw [Qf e];exact z
  ·exact λz=> .inr ⟨p,z,rfl⟩
 have q':=q (λp=>(BI m (Eu p)).isSome) kk
 have v1:∀p w,BI m (Eu p)=some w->w=cnt ss p:=λp w e=>by
  have:=t2 p
  rw [e] at this
  simpa [BI] using this
 have v2:∀p,BI m (Eu p)=none->cnt ss p=0:=λp e=>by
  have:=t2 p
  rw [e] at this
  simp [BI] at this
  omega
 have wk:=Rf v1 v2 (DK ss) [] 0 (Gs ok)
 have mk:∀k∈m,∃p,k.1=Eu p/\JR ss p:=λk hk=>by
  rcases (t3 k.1).mp (List.mem_map.mpr ⟨k,hk,rfl⟩) with z|⟨p,z,e⟩
  ·cases z
  ·exact ⟨p,e,z⟩
 have ms:∀x,x∈m.map (λk=>un k.1)↔x∈B9 ss:=λx=>by
  rw [List.mem_map]
  unfold B9
  rw [List.mem_flatMap]
  constructor
  ·rintro ⟨k,hk,rfl⟩
   obtain ⟨p,e,s,hs,z⟩:=mk k hk
   rw [e,iq]
   refine ⟨s,hs, ?_⟩
   rcases z with z|z
   ·rw [<-z];simp [bp]
   ·obtain ⟨e',he,rfl⟩:=Option.map_eq_some_iff.mp z
    simp [he]
  ·rintro ⟨s,hs,hx⟩
   have go:∀p:Pl,JR ss p->∃a∈m,un a.1=p.1:=λp hp=>by
    obtain ⟨a,ha,e⟩:=List.mem_map.mp ((t3 (Eu p)).mpr (.inr ⟨p,hp,rfl⟩))
    exact ⟨a,ha,by rw [e,iq]⟩
   rcases List.mem_cons.mp hx with rfl|hx
   ·exact go (bp s) ⟨s,hs, .inl rfl⟩
   ·have hx:s.2.2=some x:=by simpa using hx
    exact go (x,0) ⟨s,hs, .inr (by unfold ep;rw [hx];rfl)⟩
 have bm:∀x∈m.map (λk=>un k.1),Bd B x:=λx h=>by
  obtain ⟨s,hs,hx⟩:=List.mem_flatMap.mp ((ms x).mp h)
  rcases List.mem_cons.mp hx with rfl|hx
  ·exact (ok s hs).b
  ·exact ((ok s hs).e x (by simpa using hx)).2
 have er:CD (m.map λk=>un k.1)=CD (B9 ss):=Z4 ms
 have ml:m.length<=800:=by simp at t4;omega
 apply VF
 ac_rfl
 refine aS hv (by omega) t1 ?_
 ac_rfl
 refine Fy (λk:FK×Int=>Uq k.1) fr (λk=>un k.1) (λk=>k∈m) (λk hk R hR=> ?_) m [] (λ_ h=>h) ?_
 ·obtain ⟨p,e,_⟩:=mk k hk
  rw [e,iq] at hR
  rw [e,gZ]
  repeat' array_get_dec
  exact hR
 ac_rfl
 rw [List.nil_append]
 refine PR (.inl rfl) (by rw [List.length_map];omega) bm hB ?_
 rw [er]
 have rl:(CD (B9 ss)).length<=800:=by rw [<-er];exact Nat.le_trans Ef (by rw [List.length_map];omega)
 ac_rfl
 refine C1 fr (λus vs τ=>∃z4 z5,τ= [some (.val v),some (.val (.dct m)),some (.own (((places us).foldl (CV λp=>BI m (Eu p)) ([],0)).1.map mK)),some (.val (.int ((places us).foldl (CV λp=>BI m (Eu p)) ([],0)).2)),z4,z5]) ?_ ?_ ⟨_,_,rfl⟩
 ·rintro τ ⟨z4,z5,rfl⟩
  repeat' array_get_dec
  have e:Qn ss (λp=>(BI m (Eu p)).isSome)=((places (CD (B9 ss))).foldl (CV λp=>BI m (Eu p)) ([],0)).1:=by
   rw [show places (CD (B9 ss))=DK ss from rfl,wk];rfl
  rw [e] at q'
  exact q'
 ·rintro us c vs e τ R hR ⟨z4,z5,rfl⟩
  have ep:places (us ++ [c])=places us ++ [(c,0),(c,1)] :=by unfold places;simp
  have es:(places (us ++ [c])).foldl (CV λp=>BI m (Eu p)) ([],0)=CV (λp=>BI m (Eu p)) (CV (λp=>BI m (Eu p)) ((places us).foldl (CV λp=>BI m (Eu p)) ([],0)) (c,0)) (c,1):=by rw [ep,List.foldl_append];rfl
  have al:((places us).foldl (CV λp=>BI m (Eu p)) ([],0)).1.length<=2*us.length:=by
   have go:∀(X:List Pl) (st:List (Pl×Int)×Int),(X.foldl (CV λp=>BI m (Eu p)) st).1.length<=st.1.length+X.length:=by
    intro X
    induction X with
    | nil=>intro st;simp
    | cons p X ih=>
      intro st
      have h1:=ih (CV (λp=>BI m (Eu p)) st p)
      have h2:(CV (λp=>BI m (Eu p)) st p).1.length<=st.1.length+1:=by
       unfold CV;split <;> simp
      rw [List.foldl_cons,List.length_cons];omega
   have h1:=go (places us) ([],0)
   have h2:(places us).length=2*us.length:=by
    unfold places
    clear hR es ep e h1
    induction us with
    | nil=>rfl
    | cons u us ih=>rw [List.flatMap_cons,List.length_append,ih];simp;omega
   simp at h1;omega
  have ul:us.length<=800:=by have:=congrArg List.length e;simp at this;omega
  generalize (places us).foldl (CV λp=>BI m (Eu p)) ([],0)=st at *
  obtain ⟨L,n⟩:=st
  have fin:∀(L2:List (Pl×Int)) n2 z4 z5,(L2,n2)=CV (λp=>BI m (Eu p)) (CV (λp=>BI m (Eu p)) (L,n) (c,0)) (c,1)->R [some (.val v),some (.val (.dct m)),some (.own (L2.map mK)),some (.val (.int n2)),z4,z5] :=λL2 n2 z4 z5 h=>hR _ ⟨z4,z5,by rw [es,<-h]⟩
  clear hR
  have n0:(Rat.num 0:Int)=0:=rfl
  have d0:((Rat.den 0:Nat):Int)=1:=rfl
  have al':L.length<=1600:=by have h:L.length<=2*us.length:=al;omega
  cases e0:BI m (Eu (c,0)) with
  | none=>
    cases e1:BI m (Eu (c,1)) with
    | none=>
      have f:=fin L n
      repeat' array_get_dec
      simp only [n0,d0,e0]
      repeat' array_get_dec
      simp only [n0,d0,e1]
      repeat' array_get_dec
      exact f _ _ (by unfold CV;simp only [e0,e1])
    | some v1=>
      have f:=fin (L ++ [((c,1),n+v1)]) (n+v1)
      rw [List.map_append] at f
      haveI:bL m (Eu (c,1)) v1:=⟨e1⟩
      repeat' array_get_dec
      simp only [n0,d0,e0]
      repeat' array_get_dec
      simp only [n0,d0,e1]
      repeat' array_get_dec
      exact f _ _ (by unfold CV;simp only [e0,e1])
  | some v0=>
    haveI:bL m (Eu (c,0)) v0:=⟨e0⟩
    cases e1:BI m (Eu (c,1)) with
    | none=>
      have f:=fin (L ++ [((c,0),n+v0)]) (n+v0)
      rw [List.map_append] at f
      repeat' array_get_dec
      simp only [n0,d0,e0]
      repeat' array_get_dec
      simp only [n0,d0,e1]
      repeat' array_get_dec
      exact f _ _ (by unfold CV;simp only [e0,e1])
    | some v1=>
      have f:=fin (L ++ [((c,0),n+v0)] ++ [((c,1),n+v0+v1)]) (n+v0+v1)
      rw [List.map_append,List.map_append] at f
      haveI:bL m (Eu (c,1)) v1:=⟨e1⟩
      repeat' array_get_dec
      simp only [n0,d0,e0]
      repeat' array_get_dec
      simp only [n0,d0,e1]
      repeat' array_get_dec
      exact f _ _ (by unfold CV;simp only [e0,e1])
def stepI (st:List Bn×Option Pl) (x:Pl×Bool):List Bn×Option Pl:=
 match st.2,x.2 with
 | none,true=>(st.1,some x.1)
 | some b,false=>(st.1 ++ [(b.1,1-b.2,some x.1.1)],none)
 | _,_=>st
def SY (st:List Bn×Option Pl):List Bn:=match st.2 with | none=>st.1|some b=>st.1 ++ [(b.1,1-b.2,none)]
def Hs (X:List (Pl×Bool)):List Bn:=SY (X.foldl stepI ([],none))
def jl:Option Pl->PV|none=> .non|some b=> .tup [fr b.1, .int (1-b.2)]
theorem Xy {st:List Bn×Option Pl} {x:Pl×Bool}:(stepI st x).1.length<=st.1.length+1:=by
 unfold stepI
 split <;> simp
theorem Kx:∀(X:List (Pl×Bool)) (st:List Bn×Option Pl),(X.foldl stepI st).1.length<=st.1.length+X.length
 | [],st=>by simp
 | x::X,st=>by
   have h1:=Kx X (stepI st x)
   have h2:=Xy (st:=st) (x:=x)
   rw [List.foldl_cons,List.length_cons];omega
theorem K1:∀{ss:List Bn},(B9 ss).length<=2*ss.length
 | [] =>by simp [B9]
 | s::ss=>by
   have ih:=K1 (ss:=ss)
   unfold B9 at *
   rw [List.flatMap_cons,List.length_append,List.length_cons,List.length_cons]
   have:s.2.2.toList.length<=1:=by cases s.2.2 <;> simp
   omega
theorem IY:∀{qs:List Rat},(places qs).length=2*qs.length
 | [] =>rfl
 | q::qs=>by
   have ih:=IY (qs:=qs)
   unfold places at *
   rw [List.flatMap_cons,List.length_append,ih,List.length_cons];simp;omega
theorem ZQ {ss:List Bn} {key:Pl->Bool}:(Qn ss key).length<=4*ss.length:=by
 unfold Qn DK
 rw [List.length_map]
 have h1:=List.length_filter_le key (places (CD (B9 ss)))
 have h2:=IY (qs:=CD (B9 ss))
 have h3:=Ef (xs:=B9 ss)
 have h4:=K1 (ss:=ss)
 omega
theorem UV {v:PV} {xs:List PV} {ss:List Bn} {B:Nat} {n:Int} (hv:v= .tup xs\/v= .lst xs) (hr:GP xs ss) (ok:∀s∈ss,Di B s) (hl:ss.length<=400) (hB:B<=4000) {Q:PV->Prop} (q:∀key:Pl->Bool,(∀p,key p=true↔JR ss p)->Q (.tup ((Hs ((Qn ss key).map λx=>(x.1,decide (n<=x.2)))).map Dm))):EO [v, .int n] Q:=by
 apply TV
 ac_rfl
 refine XX hv hr ok hl hB λkey hk=> ?_
 have q':=q key hk
 have ll:(Qn ss key).length<=2000:=Nat.le_trans ZQ (by omega)
 clear q
 generalize Qn ss key=Ls at *
 ac_rfl
 refine C1 mK (λus vs τ=>∃z4 z5 z6,τ= [some (.val v),some (.val (.int n)),some (.own (((us.map λx=>(x.1,decide (n<=x.2))).foldl stepI ([],none)).1.map Dm)),some (.val (jl ((us.map λx=>(x.1,decide (n<=x.2))).foldl stepI ([],none)).2)),z4,z5,z6]) ?_ ?_ ⟨_,_,_,rfl⟩
 ·rintro τ ⟨z4,z5,z6,rfl⟩
  have al:=Kx (Ls.map λx=>(x.1,decide (n<=x.2))) ([],none)
  unfold Hs at q'
  generalize (Ls.map λx=>(x.1,decide (n<=x.2))).foldl stepI ([],none)=st at *
  obtain ⟨L,b⟩:=st
  have al':L.length<=2000:=by have h:L.length<=0+_:=al;rw [List.length_map] at h;omega
  cases b with
  | none=>
    have q2:Q (.tup (L.map Dm)):=q'
    show Fo _ [some (.val v),some (.val (.int n)),some (.own (L.map Dm)),some (.val .non),z4,z5,z6]
    repeat' array_get_dec
    exact q2
  | some b=>
    have q2:Q (.tup ((L ++ [(b.1,1-b.2,none)]).map Dm)):=q'
    rw [List.map_append] at q2
    show Fo _ [some (.val v),some (.val (.int n)),some (.own (L.map Dm)),some (.val (.tup [fr b.1, .int (1-b.2)])),z4,z5,z6]
    repeat' array_get_dec
    exact q2
 ·rintro us c vs e τ R hR ⟨z4,z5,z6,rfl⟩
  have al:=Kx (us.map λx=>(x.1,decide (n<=x.2))) ([],none)
  have ul:us.length<=2000:=by have:=congrArg List.length e;simp at this;omega
  have es:((us ++ [c]).map λx=>(x.1,decide (n<=x.2))).foldl stepI ([],none)=stepI ((us.map λx=>(x.1,decide (n<=x.2))).foldl stepI ([],none)) (c.1,decide (n<=c.2)):=by rw [List.map_append,List.foldl_append];rfl
  generalize (us.map λx=>(x.1,decide (n<=x.2))).foldl stepI ([],none)=st at *
  obtain ⟨L,b⟩:=st
  have al':L.length<=2000:=by have h:L.length<=0+_:=al;rw [List.length_map] at h;omega
  have fin:∀L2 b2 z4 z5 z6,(L2,b2)=stepI (L,b) (c.1,decide (n<=c.2))->R [some (.val v),some (.val (.int n)),some (.own (L2.map Dm)),some (.val (jl b2)),z4,z5,z6] :=λL2 b2 z4 z5 z6 h=>hR _ ⟨z4,z5,z6,by rw [es,<-h]⟩
  clear hR
  obtain ⟨p,k⟩:=c
  show L9 3 (Ak (Aw 4) (Ak (Aw 5) (Ak (Aw 6) CS))) (.tup [fr p.1, .int p.2, .int k]) _ _
  cases b with
  | none=>
    show L9 3 (Ak (Aw 4) (Ak (Aw 5) (Ak (Aw 6) CS))) (.tup [fr p.1, .int p.2, .int k]) [some (.val v),some (.val (.int n)),some (.own (L.map Dm)),some (.val .non),z4,z5,z6] _
    repeat' array_get_dec
    ·rename_i h;exact fin L (some p) _ _ _ (by unfold stepI;simp only [decide_eq_true h])
    ·rename_i h;exact fin L none _ _ _ (by unfold stepI;simp only [decide_eq_false h])
  | some b=>
    show L9 3 (Ak (Aw 4) (Ak (Aw 5) (Ak (Aw 6) CS))) (.tup [fr p.1, .int p.2, .int k]) [some (.val v),some (.val (.int n)),some (.own (L.map Dm)),some (.val (.tup [fr b.1, .int (1-b.2)])),z4,z5,z6] _
    repeat' array_get_dec
    ·rename_i h
     have f:=fin (L ++ [(b.1,1-b.2,some p.1)]) none (some (.val (fr p.1))) (some (.val (.int p.2))) (some (.val (.int k))) (by unfold stepI;simp only [decide_eq_false (show ¬n<=k by omega)])
     rw [List.map_append] at f
     exact f
    ·rename_i h;exact fin L (some b) _ _ _ (by unfold stepI;simp only [decide_eq_true (show n<=k by omega)])
def UH (In key:Pl->Bool):Bool->List Pl->Prop
 | _, [] =>True
 | c,p::r=>(key p=false->In p=c)/\UH In key (In p) r
theorem VT {st:List Bn×Option Pl} {p:Pl} {i:Bool}:(stepI st (p,i)).2.isSome=i:=by
 obtain ⟨L,b⟩:=st
 cases b <;> cases i <;> rfl
theorem VS {st:List Bn×Option Pl} {p:Pl} {i:Bool} (h:i=st.2.isSome):stepI st (p,i)=st:=by
 obtain ⟨L,b⟩:=st
 cases b <;> cases i <;> first | rfl|cases h
theorem HN {In key:Pl->Bool}:∀(X:List Pl) (st:List Bn×Option Pl),UH In key st.2.isSome X->(X.map λp=>(p,In p)).foldl stepI st=((X.filter key).map λp=>(p,In p)).foldl stepI st
 | [],st,_=>rfl
 | p::r,st,h=>by
   rw [List.map_cons,List.foldl_cons,List.filter_cons]
   cases k:key p with
   | true=>
     rw [if_pos rfl,List.map_cons,List.foldl_cons]
     exact HN r _ (by rw [VT];exact h.2)
   | false=>
     have e:=h.1 k
     rw [if_neg (by decide),VS e]
     exact HN r st (by have:=h.2;rw [e] at this;exact this)
theorem IZ {ss:List Bn} {key:Pl->Bool} {n:Int} (hk:∀p,key p=false->cnt ss p=0):∀(X:List Pl) (c:Int),IH ss c X->UH (λp=>decide (n<=(Hn ss p:Int))) key (decide (n<=c)) X
 | [],_,_=>True.intro
 | p::r,c,h=>⟨λk=>(by show decide (n<=(Hn ss p:Int))=_;rw [h.1,hk p k,Int.add_zero]),IZ hk r _ h.2⟩
def canon (n:Int) (ss:List Bn):List Bn:=Hs ((DK ss).map λp=>(p,decide (n<=(Hn ss p:Int))))
theorem SU {ss:List Bn} {p:Pl} (h:¬JR ss p):cnt ss p=0:=by
 have key:∀ss:List Bn,(∀s∈ss,¬(bp s=p\/ep s=some p))->cnt ss p=0:=by
  intro ss
  induction ss with
  | nil=>intro _;rfl
  | cons s ss ih=>
    intro h
    have h1:=h s (by simp)
    have e:cnt (s::ss) p=Nf s p+cnt ss p:=by simp [cnt]
    rw [e,ih λx hx=>h x (by simp [hx])]
    unfold Nf
    rw [if_neg λz=>h1 (.inl z),if_neg λz=>h1 (.inr z)]
    rfl
 exact key ss λs hs z=>h ⟨s,hs,z⟩
theorem Yn {ss:List Bn} {B:Nat} {n:Int} {key:Pl->Bool} (ok:∀s∈ss,Di B s) (hn:0<n) (hk:∀p,key p=true↔JR ss p):Hs ((Qn ss key).map λx=>(x.1,decide (n<=x.2)))=canon n ss:=by
 unfold canon Hs Qn
 rw [List.map_map]
 have h:=HN (In:=λp=>decide (n<=(Hn ss p:Int))) (key:=key) (DK ss) ([],none) (by
  have:=IZ (n:=n) (key:=key) (λp z=>SU λy=>by rw [(hk p).mpr y] at z;cases z) (DK ss) 0 (Gs ok)
  rw [decide_eq_false (by omega)] at this
  exact this)
 rw [h]
 rfl
theorem UU {v:PV} {xs:List PV} {ss:List Bn} {B:Nat} {n:Int} (hv:v= .tup xs\/v= .lst xs) (hr:GP xs ss) (ok:∀s∈ss,Di B s) (hl:ss.length<=400) (hB:B<=4000) (hn:0<n) {Q:PV->Prop} (q:Q (.tup ((canon n ss).map Dm))):EO [v, .int n] Q:=
 UV hv hr ok hl hB λkey hk=>by rw [Yn ok hn hk];exact q
theorem Tq {v:PV} {xs:List PV} {ss:List Bn} {B:Nat} (hv:v= .tup xs\/v= .lst xs) (hr:GP xs ss) (ok:∀s∈ss,Di B s) (hl:ss.length<=400) (hB:B<=4000) {Q:PV->Prop} (q:Q (.tup ((canon 1 ss).map Dm))):EZ [v] Q:=by
 apply RF
 repeat' array_get_dec
 exact UU hv hr ok hl hB (by decide) q
theorem QZ {ss:List Bn} {p:Pl}:decide ((1:Int)<=(Hn ss p:Int))=ss.any (Bw · p):=by
 rw [Bool.eq_iff_iff,decide_eq_true_iff,List.any_eq_true]
 unfold Hn
 constructor
 ·intro h
  obtain ⟨s,hs⟩:=List.exists_mem_of_length_pos (l:=ss.filter (Bw · p)) (by omega)
  have:=List.mem_filter.mp hs
  exact ⟨s,this.1,this.2⟩
 ·rintro ⟨s,hs,h⟩
  have:=List.length_pos_of_mem (List.mem_filter.mpr ⟨hs,h⟩:s∈ss.filter (Bw · p))
  omega
def D8 (In:Pl->Bool):List Pl->Option Pl->List Bn
 | [],none=> []
 | [],some b=> [(b.1,1-b.2,none)]
 | p::r,none=>if In p=true then D8 In r (some p) else D8 In r none
 | p::r,some b=>if In p=true then D8 In r (some b) else (b.1,1-b.2,some p.1)::D8 In r none
theorem Nj {In:Pl->Bool}:∀(X:List Pl) (acc:List Bn) (b:Option Pl),SY ((X.map λp=>(p,In p)).foldl stepI (acc,b))=acc++D8 In X b
 | [],acc,none=>by simp [SY,D8]
 | [],acc,some b=>by simp [SY,D8]
 | p::r,acc,none=>by
   rw [List.map_cons,List.foldl_cons]
   unfold D8
   cases e:In p with
   | true=>exact Nj r acc (some p)
   | false=>exact Nj r acc none
 | p::r,acc,some b=>by
   rw [List.map_cons,List.foldl_cons]
   unfold D8
   cases e:In p with
   | true=>exact Nj r acc (some b)
   | false=>
     show SY ((r.map λp=>(p,In p)).foldl stepI (acc ++ [(b.1,1-b.2,some p.1)],none))=acc++((b.1,1-b.2,some p.1)::D8 In r none)
     rw [Nj r _ none];simp
theorem PX {In:Pl->Bool} {X:List Pl}:Hs (X.map λp=>(p,In p))=D8 In X none:=by
 unfold Hs;rw [Nj];rfl
theorem MA {q p:Pl} {e:Option Rat} (hq:q.2=0\/q.2=1) (hp:0<=p.2):Bw (q.1,1-q.2,e) p=(OB q p&&(match e with | none=>true|some e=>decide (p.1<e))):=by
 unfold Bw OB
 congr 2
 congr 1
 exact decide_eq_decide.mpr (by show 0<1-q.2+p.2↔q.2<=p.2;omega)
def KQ (In:Pl->Bool):Bool->List Pl->Prop
 | _, [] =>True
 | c,p::r=>(c=true->In p=false->p.2=0)/\KQ In (In p) r
theorem WP {In:Pl->Bool}:∀(X:List Pl),Yb X->(∀x∈X,x.2=0\/x.2=1)->
 (KQ In false X->(∀p:Pl,0<=p.2->(∀x∈X,ME p x)->(D8 In X none).any (Bw · p)=false)/\∀p∈X,(D8 In X none).any (Bw · p)=In p)/\
 (KQ In true X->∀q:Pl,(q.2=0\/q.2=1)->(∀x∈X,ME q x)->(∀p:Pl,0<=p.2->(∀x∈X,ME p x)->(D8 In X (some q)).any (Bw · p)=OB q p)/\∀p∈X,(D8 In X (some q)).any (Bw · p)=In p)
 | [],_,_=>⟨λ_=>⟨λp _ _=>rfl,λp hp=>by cases hp⟩,λ_ q hq _=>⟨λp hp _=>by show (Bw (q.1,1-q.2,none) p||false)=_;rw [MA hq hp];simp,λp hp=>by cases hp⟩⟩
 | x::r,hs,h01=>by
   obtain ⟨h1,h2⟩:=List.pairwise_cons.mp hs
   have ih:=WP (In:=In) r h2 λy hy=>h01 y (by simp [hy])
   have x01:=h01 x (by simp)
   have x0:0<=x.2:=by omega
   have lr:∀p:Pl,(∀y∈x::r,ME p y)->∀y∈r,ME p y:=λp h y hy=>h y (by simp [hy])
   have nl:∀p:Pl,ME p x->OB x p=false:=λp h=>by
    rw [<-Bool.not_eq_true,Gz]
    rintro (z|z)
    ·exact MF (K0 z h)
    ·rw [z] at h;exact MF h
   have lx:OB x x=true:=Gz.mpr (.inr rfl)
   refine ⟨λhd=> ?_,λhd q hq qP=> ?_⟩
   ·unfold D8
    cases e:In x with
    | true=>
      have d2:=hd.2;rw [e] at d2
      obtain ⟨a1,a2⟩:=ih.2 d2 x x01 h1
      rw [if_pos rfl]
      refine ⟨λp p0 hp=> ?_,λp hp=> ?_⟩
      ·rw [a1 p p0 (lr p hp),nl p (hp x (by simp))]
      ·rcases List.mem_cons.mp hp with rfl|hp
       ·rw [a1 p x0 h1,lx,e]
       ·exact a2 p hp
    | false=>
      have d2:=hd.2;rw [e] at d2
      obtain ⟨a1,a2⟩:=ih.1 d2
      rw [if_neg (by decide)]
      refine ⟨λp p0 hp=>a1 p p0 (lr p hp),λp hp=> ?_⟩
      rcases List.mem_cons.mp hp with rfl|hp
      ·rw [a1 p x0 h1,e]
      ·exact a2 p hp
   ·unfold D8
    have qx:OB q x=true:=Gz.mpr (.inl (qP x (by simp)))
    cases e:In x with
    | true=>
      have d2:=hd.2;rw [e] at d2
      obtain ⟨a1,a2⟩:=ih.2 d2 q hq (lr q qP)
      rw [if_pos rfl]
      refine ⟨λp p0 hp=>a1 p p0 (lr p hp),λp hp=> ?_⟩
      rcases List.mem_cons.mp hp with rfl|hp
      ·rw [a1 p x0 h1,qx,e]
      ·exact a2 p hp
    | false=>
      have d2:=hd.2;rw [e] at d2
      obtain ⟨a1,a2⟩:=ih.1 d2
      have xz:=hd.1 rfl e
      rw [if_neg (by decide)]
      have off:∀p:Pl,(p=x\/ME x p)->¬p.1<x.1:=λp h=>by
       rcases h with h|h|⟨h,_⟩ <;> grind
      refine ⟨λp p0 hp=> ?_,λp hp=> ?_⟩
      ·have lt:p.1<x.1:=by
        rcases hp x (by simp) with z|⟨_,z⟩
        ·exact z
        ·omega
       show (Bw (q.1,1-q.2,some x.1) p||(D8 In r none).any (Bw · p))=_
       rw [MA hq p0,a1 p p0 (lr p hp)]
       simp [lt]
      ·show (Bw (q.1,1-q.2,some x.1) p||(D8 In r none).any (Bw · p))=_
       rcases List.mem_cons.mp hp with rfl|hp
       ·rw [MA hq x0,a1 p x0 h1,e]
        simp [off p (.inl rfl)]
       ·rw [MA hq (by have:=h01 p (by simp [hp]);omega),a2 p hp]
        simp [off p (.inr (h1 p hp))]
theorem TQ {In:Pl->Bool} (P:Rat->Prop):∀(X:List Pl) (b:Option Pl),Yb X->(∀x∈X,(x.2=0\/x.2=1)/\P x.1)->KQ In b.isSome X->(∀q,b=some q->(q.2=0\/q.2=1)/\P q.1/\∀x∈X,ME q x)->
 ∀s∈D8 In X b,P s.1/\(s.2.1=0\/s.2.1=1)/\∀e,s.2.2=some e->s.1<e/\P e
 | [],none,_,_,_,_=>λs hs=>by cases hs
 | [],some q,_,_,_,hb=>λs hs=>by
   obtain ⟨h1,h2,_⟩:=hb q rfl
   simp only [D8,List.mem_singleton] at hs
   subst hs
   exact ⟨h2,by show 1-q.2=0\/1-q.2=1;omega,λe he=>by cases he⟩
 | x::r,b,hs,h01,hd,hb=>by
   obtain ⟨h1,h2⟩:=List.pairwise_cons.mp hs
   have ih:=λb d hb=>TQ (In:=In) P r b h2 (λy hy=>h01 y (by simp [hy])) d hb
   have d2:=hd.2
   cases b with
   | none=>
     unfold D8
     cases e:In x with
     | true=>
       rw [if_pos rfl]
       rw [e] at d2
       exact ih (some x) d2 λq hq=>by cases hq;exact ⟨(h01 x (by simp)).1,(h01 x (by simp)).2,h1⟩
     | false=>
       rw [if_neg (by decide)]
       rw [e] at d2
       exact ih none d2 λq hq=>by cases hq
   | some q=>
     obtain ⟨q1,q2,q3⟩:=hb q rfl
     unfold D8
     cases e:In x with
     | true=>
       rw [if_pos rfl]
       rw [e] at d2
       exact ih (some q) d2 λq' hq=>by cases hq;exact ⟨q1,q2,λy hy=>q3 y (by simp [hy])⟩
     | false=>
       rw [if_neg (by decide)]
       rw [e] at d2
       have xz:=hd.1 rfl e
       intro s hs
       rcases List.mem_cons.mp hs with rfl|hs
       ·refine ⟨q2,by show 1-q.2=0\/1-q.2=1;omega,λe' he=> ?_⟩
        cases he
        refine ⟨?_,(h01 x (by simp)).2⟩
        rcases q3 x (by simp) with z|⟨_,z⟩
        ·exact z
        ·omega
       ·exact ih none d2 (λq hq=>by cases hq) s hs
theorem IR {ss:List Bn}:∀(X:List Pl) (c:Int),(∀x∈X,x.2=0\/x.2=1)->IH ss c X->KQ (λp=>ss.any (Bw · p)) (decide (1<=c)) X
 | [],_,_,_=>True.intro
 | p::r,c,h01,h=>by
   have ih:=IR r (Hn ss p) (λx hx=>h01 x (by simp [hx])) h.2
   rw [QZ] at ih
   refine ⟨λhc hi=> ?_,ih⟩
   rcases h01 p (by simp) with z|z
   ·exact z
   ·have hc:1<=c:=by simpa using hc
    have hi:ss.any (Bw · p)=false:=hi
    rw [<-QZ] at hi
    have hi:¬(1:Int)<=Hn ss p:=by simpa using hi
    have c0:0<=cnt ss p:=by
     have go:∀ss:List Bn,0<=cnt ss p:=by
      intro ss
      induction ss with
      | nil=>exact Int.le_refl _
      | cons s ss ih=>
        have e:cnt (s::ss) p=Nf s p+cnt ss p:=by simp [cnt]
        have o:0<=Nf s p:=by
         unfold Nf
         have:¬ep s=some p:=λy=>by
          obtain ⟨e',_,e2⟩:=Option.map_eq_some_iff.mp y
          have:(0:Int)=p.2:=congrArg Prod.snd e2
          omega
         rw [if_neg this]
         split <;> decide
        omega
     exact go ss
    have:=h.1
    omega
theorem Wd {ss:List Bn}:∀x∈DK ss,x.2=0\/x.2=1:=λx hx=>(Bl.mp hx).2
theorem W6 {ss:List Bn}:canon 1 ss=D8 (λp=>ss.any (Bw · p)) (DK ss) none:=by
 unfold canon
 rw [<-PX]
 congr 1
 apply List.map_congr_left
 intro p _
 rw [QZ]
theorem VQ {ss:List Bn} {B:Nat} (ok:∀s∈ss,Di B s):KQ (λp=>ss.any (Bw · p)) false (DK ss):=IR (DK ss) 0 Wd (Gs ok)
theorem UR {ss:List Bn} {B:Nat} (ok:∀s∈ss,Di B s):∀s∈canon 1 ss,s.1∈B9 ss/\(s.2.1=0\/s.2.1=1)/\∀e,s.2.2=some e->s.1<e/\e∈B9 ss:=by
 rw [W6]
 exact TQ (· ∈B9 ss) (DK ss) none (Ei CJ) (λx hx=>⟨Wd x hx,Bm.mp (Bl.mp hx).1⟩) (VQ ok) λq hq=>by cases hq
theorem WF {ss:List Bn} {B:Nat} (ok:∀s∈ss,Di B s):∀x∈B9 ss,Bd B x:=λx h=>by
 obtain ⟨s,hs,hx⟩:=List.mem_flatMap.mp h
 rcases List.mem_cons.mp hx with rfl|hx
 ·exact (ok s hs).b
 ·exact ((ok s hs).e x (by simpa using hx)).2
theorem Yo {ss:List Bn} {B:Nat} (ok:∀s∈ss,Di B s):∀s∈canon 1 ss,Di B s:=λs hs=>by
 obtain ⟨h1,h2,h3⟩:=UR ok s hs
 exact ⟨WF ok _ h1,h2,λe he=>⟨(h3 e he).1,WF ok _ (h3 e he).2⟩⟩
theorem Hr (f:Rat->Bool):∀qs:List Rat,(places qs).filter (λp=>f p.1)=places (qs.filter f)
 | [] =>rfl
 | q::qs=>by
   show ((q,0)::(q,1)::places qs).filter (λp=>f p.1)=_
   rw [List.filter_cons,List.filter_cons,List.filter_cons,Hr f qs]
   cases f q <;> rfl
theorem O5:∀{qs:List Rat} {x:Rat},QJ qs->At qs x (qs.filter λq=>decide (q<x)).length
 | [],x,_=>⟨Nat.le_refl _,by simp,by simp⟩
 | q::r,x,h=>by
   obtain ⟨h1,h2⟩:=List.pairwise_cons.mp h
   obtain ⟨a1,a2,a3⟩:=O5 (x:=x) h2
   rw [List.filter_cons]
   by_cases e:q<x
   ·rw [if_pos (decide_eq_true e),List.length_cons]
    refine ⟨by rw [List.length_cons];omega,λy hy=> ?_,λy hy=>a3 y (by simpa using hy)⟩
    rw [List.take_succ_cons] at hy
    rcases List.mem_cons.mp hy with rfl|hy
    ·exact e
    ·exact a2 y hy
   ·have hn:∀y∈q::r,¬y<x:=λy hy=>by
     rcases List.mem_cons.mp hy with rfl|hy
     ·exact e
     ·have:=h1 y hy;grind
    have hf:r.filter (λq=>decide (q<x))= [] :=List.filter_eq_nil_iff.mpr λy hy=>by simpa using hn y (by simp [hy])
    rw [if_neg (by simpa using e),hf]
    exact ⟨Nat.zero_le _,by simp,λy hy=>hn y (by simpa using hy)⟩
def DC (ms:List Rat) (ss:List Bn):List Pl:=places (CD (ms++B9 ss))
theorem JI {B:Nat} {ms:List Rat} {ss:List Bn} (ok:∀s∈ss,Di B s):IH ss 0 (DC ms ss):=by
 have kin:∀s∈ss,bp s∈DC ms ss/\∀x,ep s=some x->x∈DC ms ss:=λs hs=>by
  obtain ⟨h1,h2⟩:=NR ok hs
  have up:∀x∈DK ss,x∈DC ms ss:=λx hx=>by
   obtain ⟨a,b⟩:=Bl.mp hx
   exact Bl.mpr ⟨Bm.mpr (List.mem_append_right _ (Bm.mp a)),b⟩
  exact ⟨up _ h1,λx ex=>up _ (h2 x ex)⟩
 have h:=ND ok (DC ms ss) none (Ei CJ) (λp hp=>⟨True.intro,by rcases (Bl.mp hp).2 with z|z <;> omega⟩) (λs hs=>⟨.inr (kin s hs).1,λx ex=> .inr ((kin s hs).2 x ex)⟩)
 have z:(ss.map λs=>dg s none).sum=0:=by
  clear h kin ok
  induction ss with
  | nil=>rfl
  | cons s ss ih=>
    rw [List.map_cons,List.sum_cons,ih]
    unfold dg
    cases ep s <;> rfl
 rw [z] at h
 exact h
theorem UQ {B:Nat} {ms:List Rat} {ss:List Bn} {n:Int} (ok:∀s∈ss,Di B s) (hn:0<n):Hs ((DC ms ss).map λp=>(p,decide (n<=(Hn ss p:Int))))=canon n ss:=by
 have hk:∀p:Pl,decide (p.1∈B9 ss)=false->cnt ss p=0:=λp hp=>SU λ⟨s,hs,z⟩=>by
  have hp:¬p.1∈B9 ss:=by simpa using hp
  refine hp (List.mem_flatMap.mpr ⟨s,hs, ?_⟩)
  rcases z with z|z
  ·rw [<-z];simp [bp]
  ·obtain ⟨e',he,rfl⟩:=Option.map_eq_some_iff.mp z
   simp [he]
 have sk:=IZ (n:=n) (ss:=ss) (key:=λp=>decide (p.1∈B9 ss)) hk (DC ms ss) 0 (JI ok)
 rw [decide_eq_false (by omega)] at sk
 have h:=HN (DC ms ss) ([],none) sk
 have e1:(DC ms ss).filter (λp=>decide (p.1∈B9 ss))=DK ss:=by
  unfold DC DK
  rw [Hr (λx=>decide (x∈B9 ss))]
  congr 1
  refine RX (CJ.filter _) CJ λx=> ?_
  rw [List.mem_filter,Bm,Bm,decide_eq_true_iff]
  exact ⟨λh=>h.2,λh=>⟨List.mem_append_right _ h,h⟩⟩
 rw [e1] at h
 show SY _=SY _
 rw [h]
theorem SL {B:Nat} {ss:List Bn} (ok:∀s∈ss,Di B s) {p:Pl} (hp:p.2=0\/p.2=1):(canon 1 ss).any (Bw · p)=ss.any (Bw · p):=by
 have hm:p∈DC [p.1] ss:=Bl.mpr ⟨Bm.mpr (by simp),hp⟩
 have h01:∀x∈DC [p.1] ss,x.2=0\/x.2=1:=λx hx=>(Bl.mp hx).2
 have dr:=IR (DC [p.1] ss) 0 h01 (JI ok)
 have e:canon 1 ss=D8 (λp=>ss.any (Bw · p)) (DC [p.1] ss) none:=by
  rw [<-UQ (ms:= [p.1]) ok (by decide),<-PX]
  congr 1
  apply List.map_congr_left
  intro q _
  rw [QZ]
 rw [e]
 exact ((WP (DC [p.1] ss) (Ei CJ) h01).1 dr).2 p hm
def hN (L:List Bn) (p:Pl):Nat:=(L.filter (Bw · p)).length
theorem m8 (xs:List PV):Hd xs (some 1) none=xs.drop 1:=by
 unfold Hd
 rw [HT.sIx_none,show ((1:Int))=((1:Nat):Int) from rfl,HT.sIx_nat]
 cases xs with
 | nil=>rfl
 | cons x xs=>
   rw [Nat.min_eq_left (by simp)]
   simp
theorem aj (a b:List Rat):En (a.map fr) (b.map fr)=(a.zip b).map λp=> .tup [fr p.1,fr p.2] :=by
 unfold En
 rw [List.zipWith_map,List.zip,List.map_zipWith]
theorem NG:∀(X:List (Pl×Bool)) (st:List Bn×Option Pl),2*(X.foldl stepI st).1.length+(if (X.foldl stepI st).2.isSome then 1 else 0)<=2*st.1.length+(if st.2.isSome then 1 else 0)+X.length
 | [],st=>Nat.le_refl _
 | x::X,st=>by
   have h1:=NG X (stepI st x)
   have h2:2*(stepI st x).1.length+(if (stepI st x).2.isSome then 1 else 0)<=2*st.1.length+(if st.2.isSome then 1 else 0)+1:=by
    obtain ⟨L,b⟩:=st
    obtain ⟨p,c⟩:=x
    cases b <;> cases c <;> simp [stepI] <;> omega
   rw [List.foldl_cons,List.length_cons];omega
theorem Xq (X:List (Pl×Bool)):2*(Hs X).length<=X.length+1:=by
 have h:=NG X ([],none)
 unfold Hs
 generalize X.foldl stepI ([],none)=st at *
 obtain ⟨L,b⟩:=st
 cases b <;> simp [SY] at * <;> omega
theorem UP {n:Int} {ss:List Bn}:(canon n ss).length<=2*ss.length:=by
 unfold canon DK
 have h:=Xq ((places (CD (B9 ss))).map λp=>(p,decide (n<=(Hn ss p:Int))))
 have a1:=Ef (xs:=B9 ss)
 have a2:=K1 (ss:=ss)
 have a3:=IY (qs:=CD (B9 ss))
 rw [List.length_map] at h
 omega
inductive SD:List PV->List (List Bn)->Prop where
 | nil:SD [] []
 | cons {x:PV} {xs:List PV} {ss:List Bn} {r:List PV} {rs:List (List Bn)} (h:x= .tup xs\/x= .lst xs) (hr:GP xs ss) (t:SD r rs):SD (x::r) (ss::rs)
theorem SD.length:∀{xs:List PV} {ss:List (List Bn)},SD xs ss->xs.length=ss.length
 | _,_, .nil=>rfl
 | _,_, .cons _ _ t=>by simp [t.length]
theorem lt_size {k n:Nat} (h:k<=n) (hn:n<1000000):k<sizeLine:=Nat.lt_of_le_of_lt h (Nat.lt_of_lt_of_le hn (Nat.le_of_ble_eq_true rfl))
def lin (p q:T3) (s:Rat):T3:=(p.1+s*(q.1-p.1),p.2.1+s*(q.2.1-p.2.1),p.2.2+s*(q.2.2-p.2.2))
theorem gg {a0 D b e m x X:Rat} (hD:D≠0) (h:e-b≠0):x+(m-a0)/D*X=(x+(b-a0)/D*X)+(m-b)/(e-b)*((x+(e-a0)/D*X)-(x+(b-a0)/D*X)):=by
 grind
theorem XQ {a c:C4} {b e m:Rat} (h1:a.1<c.1) (h2:b<e):inter a c m=lin (inter a c b) (inter a c e) ((m-b)/(e-b)):=by
 have n1:c.1-a.1≠0:=by grind
 have n2:e-b≠0:=by grind
 simp only [inter,lin]
 rw [<-gg n1 n2,<-gg n1 n2,<-gg n1 n2]
theorem ZO (p q:T3):lin p q 0=p:=by
 obtain ⟨a,b,c⟩:=p
 simp [lin,Rat.zero_mul,Rat.add_zero]
theorem K8 {b e m:Rat} {p q:T3} (PK:b<e) (h1:b<=m) (h2:m<=e):∀{a:C4} {r:List C4},KZ (a::r)->(∀c∈r,¬(b<c.1/\c.1<e))->spotG a r b=some p->spotG a r e=some q->spotG a r m=some (lin p q ((m-b)/(e-b)))
 | a, [],_,_,hp,_=>by cases hp
 | a,c::r,hr,hn,hp,hq=>by
   have nJ:=(List.pairwise_cons.mp hr).1 c (by simp)
   have jB:KZ (c::r):=(List.pairwise_cons.mp hr).2
   by_cases k1:c.1<b
   ·simp only [spotG] at hp hq ⊢
    rw [if_pos k1] at hp
    rw [if_pos (by grind)] at hq ⊢
    exact K8 PK h1 h2 jB (λx hx=>hn x (by simp [hx])) hp hq
   ·simp only [spotG] at hp hq ⊢
    rw [if_neg k1] at hp
    by_cases k2:b=c.1
    ·subst k2
     rw [NO nJ] at hp
     cases hp
     by_cases k3:c.1<m
     ·rw [if_pos k3]
      rw [if_pos (by grind)] at hq
      refine K8 PK h1 h2 jB (λx hx=>hn x (by simp [hx])) ?_ hq
      cases r with
      | nil=>cases hq
      | cons d r=>
        have MB:=(List.pairwise_cons.mp jB).1 d (by simp)
        simp only [spotG]
        rw [if_neg (by grind),Sv MB]
     ·have e1:m=c.1:=by grind
      subst e1
      rw [if_neg k3,NO nJ]
      have z:(c.1-c.1)/(e-c.1)=0:=by grind
      rw [z,ZO]
    ·have k4:¬c.1<e:=λz=>hn c (by simp) ⟨by grind,z⟩
     cases hp
     rw [if_neg k4] at hq
     cases hq
     rw [if_neg (by grind)]
     rw [<-XQ nJ PK]
theorem Pk {b e m:Rat} {p q:T3} {cs:List C4} (hr:KZ cs) (PK:b<e) (h1:b<=m) (h2:m<=e) (hn:∀c∈cs,¬(b<c.1/\c.1<e)) (hp:spotC cs b=some p) (hq:spotC cs e=some q):spotC cs m=some (lin p q ((m-b)/(e-b))):=by
 cases cs with
 | nil=>cases hp
 | cons a r=>
   simp only [spotC] at hp hq ⊢
   by_cases k:b<a.1
   ·rw [if_pos k] at hp;cases hp
   ·rw [if_neg k] at hp
    rw [if_neg (by grind)] at hq ⊢
    exact K8 PK h1 h2 hr (λc hc=>hn c (by simp [hc])) hp hq
theorem Di.mono {B C:Nat} {s:Bn} (h:Di B s) (k:B<=C):Di C s:=⟨h.b.mono k,h.h,λe he=>⟨(h.e e he).1,(h.e e he).2.mono k⟩⟩
section
variable {B:Nat} {s:Bn} {a:List Bn} {e:Rat}
end
abbrev IG:AS:=
 (Ab (FD (M7 (aV 0)) (L9 2 (Ak (Aw 2) (Ak (Aw 3) CS))) (UJ 1 Co (AX QO (aV 3) (AN 2 Gi (AB (aV 1) (AB (aV 3) AL))))))
   (Ao (aV 1)))
abbrev GM:AS:=
 (Ab (Ay (aC (.int 1)) (Aw 1))
   IG)
def CI:AF:=Av 4 GM
theorem Jf {x0:PV} {Q:PV->Prop} (h:GM ⟨λ_=>Q .non,Q,λ_=>False,λ_=>False⟩ [some (.val x0),none,none,none]):CI [x0] Q:=h
def Th (xs:List Rat):Nat:=xs.foldl (λN r=>N*(r.den/Nat.gcd N r.den)) 1
theorem WX (xs:List Rat) (r:Rat):Th (xs ++ [r])=Th xs*(r.den/Nat.gcd (Th xs) r.den):=by unfold Th;rw [List.foldl_append];rfl
theorem dM {N d:Nat} (hN:0<N) (hd:0<d):0<N*(d/Nat.gcd N d)/\N ∣ N*(d/Nat.gcd N d)/\d ∣ N*(d/Nat.gcd N d)/\N*(d/Nat.gcd N d)<=N*d:=by
 have g:Nat.gcd N d ∣ d:=Nat.gcd_dvd_right ..
 have gp:0<Nat.gcd N d:=Nat.gcd_pos_of_pos_right _ hd
 refine ⟨Nat.mul_pos hN (Nat.div_pos (Nat.le_of_dvd hd g) gp),Nat.dvd_mul_right .., ?_,Nat.mul_le_mul_left _ (Nat.div_le_self ..)⟩
 rw [<-Nat.mul_div_assoc _ g]
 exact Nat.dvd_lcm_right ..
theorem RL {W:Nat}:∀(n:Nat) (xs:List Rat),xs.length=n->(∀x∈xs,Bd W x)->0<Th xs/\(∀x∈xs,x.den ∣ Th xs)/\Th xs<2^(n*W+1)
 | 0,xs,e,_=>by
   have:xs= [] :=List.length_eq_zero_iff.mp e
   subst this
   exact ⟨by decide,by simp,by simp [Th]⟩
 | n+1,xs,e,h=>by
   obtain ⟨ys,r,rfl⟩:∃ys r,xs=ys ++ [r] :=⟨xs.dropLast,xs.getLast (by intro z;subst z;cases e),(List.dropLast_concat_getLast _).symm⟩
   have el:ys.length=n:=by simpa using e
   obtain ⟨h1,h2,h3⟩:=RL n ys el λx hx=>h x (by simp [hx])
   have br:=(h r (by simp)).bot
   rw [WX]
   obtain ⟨k1,k2,k3,k4⟩:=dM h1 r.den_pos
   refine ⟨k1,λx hx=> ?_, ?_⟩
   ·rcases List.mem_append.mp hx with hx|hx
    ·exact Nat.dvd_trans (h2 x hx) k2
    ·simp at hx;subst hx;exact k3
   ·refine Nat.lt_of_le_of_lt k4 ?_
    have:=ZU h3 br
    rw [show n*W+1+W=(n+1)*W+1 by rw [Nat.succ_mul];omega] at this
    exact this
theorem Xv {v:PV} {xs:List Rat} {W:Nat} (hv:v= .lst (xs.map fr)) (hx:∀x∈xs,Bd W x) (hl:xs.length<=6) (hW:W<=1400) {Q:PV->Prop} (q:Q (.int (Th xs:Nat))):CI [v] Q:=by
 subst hv
 apply Jf
 ac_rfl
 refine C1 fr (λus vs τ=>∃z2 z3,τ= [some (.val (.lst (xs.map fr))),some (.val (.int (Th us:Nat))),z2,z3]) ?_ ?_ ⟨_,_,rfl⟩
 ·rintro τ ⟨z2,z3,rfl⟩
  ac_rfl
  exact q
 ·rintro us c vs e τ R hR ⟨z2,z3,rfl⟩
  have hu:∀x∈us,Bd W x:=λx kB=>hx x (by rw [<-e];simp [kB])
  have ul:us.length<=6:=by rw [<-e] at hl;simp at hl;omega
  obtain ⟨h1,h2,h3⟩:=RL us.length us rfl hu
  have bc:=(hx c (by rw [<-e];simp)).bot
  have mm:us.length*W<=6*1400:=Nat.mul_le_mul ul hW
  have g0:0<Nat.gcd (Th us) c.den:=Nat.gcd_pos_of_pos_right _ c.den_pos
  have gl:Nat.gcd (Th us) c.den<2^8900:=Ap (Nat.lt_of_le_of_lt (Nat.le_of_dvd c.den_pos (Nat.gcd_dvd_right ..)) bc) (by omega)
  ac_rfl
  refine LK _ _ _ ?_
  ac_rfl
  refine ⟨⟨by omega,by simpa using gl⟩, ?_⟩
  have ed:((c.den:Nat):Int).fdiv ((Nat.gcd (Th us) c.den:Nat):Int)=((c.den/Nat.gcd (Th us) c.den:Nat):Int):=by
   rw [Int.fdiv_eq_ediv_of_nonneg _ (by omega),Int.natCast_ediv]
  rw [ed]
  have dl:c.den/Nat.gcd (Th us) c.den<2^1400:=Ap (Nat.lt_of_le_of_lt (Nat.div_le_self ..) bc) hW
  ac_rfl
  refine ⟨MulOk.of (m:=8401) (n:=1400) (by simpa using Ap h3 (by omega)) (by rw [Int.natAbs_natCast];exact dl), ?_⟩
  exact hR _ ⟨some (.val (.int c.num)),some (.val (.int c.den)),by rw [WX,Int.natCast_mul];rfl⟩
abbrev KO:AS:=
 (Ab (EA 3 JW (AB (BF (AB (aV 6) (AB (aV 7) AL))) AL))
   (EA 3 JW (AB (BF (AB (M6 FF (aV 6)) (AB (M6 FF (aV 7)) AL))) AL)))
abbrev KM:AS:=
 (Ab (Ay (AX Co (AX Ai (aV 5) (aC (.int 0))) (AX QO (aV 2) (AX Ai (aV 5) (aC (.int 1))))) (Aw 7))
   KO)
abbrev OI:AS:=
 (Ab (Ay (AX Co (AX Ai (aV 4) (aC (.int 0))) (AX QO (aV 2) (AX Ai (aV 4) (aC (.int 1))))) (Aw 6))
   KM)
abbrev OK:AS:=
 (Ab (FD (eF (AB (aV 0) (AB (aV 1) AL))) (L9 2 (Ak (Aw 4) (Ak (Aw 5) CS))) OI)
   (Ao (BF (AB (aV 2) (AB (aV 3) AL)))))
abbrev OJ:AS:=
 (Ab (Kb (D2 AL) 3)
   OK)
abbrev Ml:AS:=
 (Ab (Ay (AN 1 CI (AB (AX BY (aV 0) (aV 1)) AL)) (Aw 2))
   OJ)
def EY:AF:=Av 8 Ml
theorem RD {x0 x1:PV} {Q:PV->Prop} (h:Ml ⟨λ_=>Q .non,Q,λ_=>False,λ_=>False⟩ [some (.val x0),some (.val x1),none,none,none,none,none,none]):EY [x0,x1] Q:=h
def EU (N:Nat) (r:Rat):Int:=r.num*((N:Int).fdiv (r.den:Int))
theorem G9 {N:Nat} {r:Rat} (h:r.den ∣ N):(EU N r:Rat)=r*N:=by
 obtain ⟨k,rfl⟩:=h
 have hd:=r.den_pos
 unfold EU
 rw [Int.natCast_mul,Int.mul_fdiv_cancel_left _ (by omega),Rat.intCast_mul]
 have hn:((r.den:Int):Rat)≠0:=λz=>by
  have:(r.den:Int)=0:=Rat.intCast_inj.mp z
  omega
 have e:r=(r.num:Rat)/((r.den:Int):Rat):=by rw [<-Rat.divInt_eq_div,Rat.num_divInt_den]
 have e2:r*((r.den:Int):Rat)=r.num:=by
  conv=>lhs;arg 1;rw [e]
  grind
 rw [<-e2,show ((r.den*k:Nat):Rat)=((r.den:Int):Rat)*((k:Int):Rat) by rw [<-Rat.intCast_mul,<-Int.natCast_mul,Rat.intCast_natCast]]
 grind
abbrev MD (p:Int×Int):PV:= .tup [.int p.1, .int p.2]
def Uy (t:T3):PV:= .lst [fr t.1,fr t.2.1,fr t.2.2]
structure Pc where
 b:Rat
 e:Rat
 o0:T3
 o1:T3
def Pc.six (p:Pc):List Rat:= [p.o0.1,p.o0.2.1,p.o0.2.2,p.o1.1,p.o1.2.1,p.o1.2.2]
def Pc.N (p:Pc):Nat:=Th p.six
def Pc.lns (p:Pc):List (Int×Int):= [(EU p.N p.o0.1,EU p.N p.o1.1),(-EU p.N p.o0.1, -EU p.N p.o1.1),(EU p.N p.o0.2.1,EU p.N p.o1.2.1),(-EU p.N p.o0.2.1, -EU p.N p.o1.2.1),(EU p.N p.o0.2.2,EU p.N p.o1.2.2),(-EU p.N p.o0.2.2, -EU p.N p.o1.2.2)]
def ka (p:Pc):PV:= .tup [fr p.b,fr p.e, .int p.N, .lst (p.lns.map MD)]
theorem aJ {W:Nat} {p:Pc} (h0:FT W p.o0) (h1:FT W p.o1):∀x∈p.six,Bd W x:=by
 intro x hx
 simp only [Pc.six,List.mem_cons,List.not_mem_nil,or_false] at hx
 rcases hx with rfl|rfl|rfl|rfl|rfl|rfl
 ·exact h0.x
 ·exact h0.y
 ·exact h0.z
 ·exact h1.x
 ·exact h1.y
 ·exact h1.z
theorem V0 {N d k:Nat} (h:N<2^k):((N:Int).fdiv (d:Int)).natAbs<2^k:=by
 rw [Int.fdiv_eq_ediv_of_nonneg _ (by omega),<-Int.natCast_ediv,Int.natAbs_natCast]
 exact Nat.lt_of_le_of_lt (Nat.div_le_self ..) h
theorem ZP {p:Pc} {W:Nat} (h0:FT W p.o0) (h1:FT W p.o1) (hW:W<=1400) {Q:PV->Prop} (q:Q (.tup [.int p.N, .lst (p.lns.map MD)])):EY [Uy p.o0,Uy p.o1] Q:=by
 have hs:=aJ h0 h1
 obtain ⟨k1,k2,k3⟩:=RL 6 p.six rfl hs
 have n0:(p.N:Nat)<2^8401:=Ap k3 (by omega)
 have dv:∀r:Rat,Bd W r->R8 (p.N:Int) (r.den:Int)/\MulOk r.num ((p.N:Int).fdiv (r.den:Int)):=λr br=>
  ⟨⟨BO r,by simpa using Ap br.bot (by omega)⟩,MulOk.of (m:=1400) (n:=8401) (Ap br.top hW) (V0 n0)⟩
 unfold Uy
 apply RD
 repeat' array_get_dec
 refine Xv (xs:=p.six) (W:=W) rfl hs (by show 6<=6;omega) hW ?_
 have q:Q (.tup [.int p.N, .lst [MD (EU p.N p.o0.1,EU p.N p.o1.1),MD (-EU p.N p.o0.1, -EU p.N p.o1.1),MD (EU p.N p.o0.2.1,EU p.N p.o1.2.1),MD (-EU p.N p.o0.2.1, -EU p.N p.o1.2.1),MD (EU p.N p.o0.2.2,EU p.N p.o1.2.2),MD (-EU p.N p.o0.2.2, -EU p.N p.o1.2.2)]]):=q
 unfold EU at q
 rw [show Th p.six=p.N from rfl]
 generalize p.N=N at *
 repeat' array_get_dec
 refine ⟨(dv _ h0.x).1,(dv _ h0.x).2, ?_⟩
 repeat' array_get_dec
 refine ⟨(dv _ h1.x).1,(dv _ h1.x).2, ?_⟩
 repeat' array_get_dec
 refine ⟨(dv _ h0.y).1,(dv _ h0.y).2, ?_⟩
 repeat' array_get_dec
 refine ⟨(dv _ h1.y).1,(dv _ h1.y).2, ?_⟩
 repeat' array_get_dec
 refine ⟨(dv _ h0.z).1,(dv _ h0.z).2, ?_⟩
 repeat' array_get_dec
 refine ⟨(dv _ h1.z).1,(dv _ h1.z).2, ?_⟩
 repeat' array_get_dec
 exact q
abbrev Ve:AS:=
 (Ab (Ay (AX BY (AN 3 Br (AB (aV 0) (AB (aV 2) (AB (aV 3) AL)))) (AN 3 Br (AB (aV 1) (AB (aV 2) (AB (aV 3) AL))))) (Aw 4))
   (Ao (AN 1 Fb (AB (AX BY (GW (D2 (AB (aV 2) (AB (aV 3) AL)))) (GW (Cw (M7 (aV 4)) 1 [] (Aw 0) Fe (AX Ai (aV 0) (aC (.int 0)))))) AL))))
def JA:AF:=Av 5 Ve
theorem Xs {x0 x1 x2 x3:PV} {Q:PV->Prop} (h:Ve ⟨λ_=>Q .non,Q,λ_=>False,λ_=>False⟩ [some (.val x0),some (.val x1),some (.val x2),some (.val x3),none]):JA [x0,x1,x2,x3] Q:=h
def Ek (cs ds:List C4) (b e:Rat):List Rat:=CD ([b,e] ++ ((cs.filter (Kq b e)++ds.filter (Kq b e)).map (·.1)))
theorem Fl {cs ds:List C4} {b e x:Rat}:x∈Ek cs ds b e↔x=b\/x=e\/(b<x/\x<e/\∃c,(c∈cs\/c∈ds)/\c.1=x):=by
 unfold Ek
 rw [Bm]
 simp only [List.cons_append,List.nil_append,List.mem_cons,List.mem_map,List.mem_append,List.mem_filter,Kq,Bool.and_eq_true,decide_eq_true_eq]
 constructor
 ·rintro (h|h|⟨c,h,rfl⟩)
  ·exact .inl h
  ·exact .inr (.inl h)
  ·rcases h with ⟨h1,h2,h3⟩|⟨h1,h2,h3⟩
   ·exact .inr (.inr ⟨h2,h3,c, .inl h1,rfl⟩)
   ·exact .inr (.inr ⟨h2,h3,c, .inr h1,rfl⟩)
 ·rintro (h|h|⟨h1,h2,c,h,rfl⟩)
  ·exact .inl h
  ·exact .inr (.inl h)
  ·exact .inr (.inr ⟨c,h.elim (λh=> .inl ⟨h,h1,h2⟩) (λh=> .inr ⟨h,h1,h2⟩),rfl⟩)
theorem LB {cs ds:List C4} {b e:Rat}:(Ek cs ds b e).length<=2+(cs.length+ds.length):=by
 unfold Ek
 refine Nat.le_trans Ef ?_
 have h1:=List.length_filter_le (Kq b e) cs
 have h2:=List.length_filter_le (Kq b e) ds
 simp only [List.length_append,List.length_map,List.length_cons,List.length_nil]
 omega
theorem ab {cs ds:List C4} {v w:PV} {b e:Rat} {B:Nat} (hv:CQ cs v) (hw:CQ ds w) (hl:cs.length<=100) (nU:ds.length<=100) (hc:∀c∈cs,Fm B c) (OA:∀c∈ds,Fm B c) (hB:B<=4000) (bb:Bd B b) (be:Bd B e) {Q:PV->Prop} (q:Q (.lst ((Ek cs ds b e).map fr))):JA [v,w,fr b,fr e] Q:=by
 have h1:=List.length_filter_le (Kq b e) cs
 have h2:=List.length_filter_le (Kq b e) ds
 apply Xs
 ac_rfl
 refine D1 hv (by omega) hc hB (bb.mono hB) (be.mono hB) ?_
 ac_rfl
 refine D1 hw (by omega) OA hB (bb.mono hB) (be.mono hB) ?_
 ac_rfl
 rw [<-List.map_append]
 ac_rfl
 refine Fy cor fr (λc=>c.1) (λ_=>True) (λc _ R hR=> ?_) _ [] (by simp) ?_
 ·ac_rfl
  exact hR
 rw [List.nil_append]
 ac_rfl
 refine PR (xs:= [b,e] ++ (cs.filter (Kq b e)++ds.filter (Kq b e)).map (·.1)) (B:=B) (.inl rfl) (by simp only [List.length_append,List.length_map,List.length_cons,List.length_nil];omega) (λx hx=> ?_) hB q
 rcases List.mem_append.mp hx with hx|hx
 ·simp only [List.mem_cons,List.not_mem_nil,or_false] at hx
  rcases hx with rfl|rfl
  ·exact bb
  ·exact be
 ·obtain ⟨c,h,rfl⟩:=List.mem_map.mp hx
  rcases List.mem_append.mp h with h|h
  ·exact (hc c (List.mem_filter.mp h).1).m
  ·exact (OA c (List.mem_filter.mp h).1).m
abbrev Ru:AS:=
 (Ab (Ay (AN 2 EY (AB (AX Ai (aV 5) (AX Gw (aV 7) (aC (.int 1)))) (AB (AX Ai (aV 5) (aV 7)) AL))) (L9 2 (Ak (Aw 8) (Ak (Aw 9) CS))))
   (EA 6 JW (AB (BF (AB (AX Ai (aV 4) (AX Gw (aV 7) (aC (.int 1)))) (AB (AX Ai (aV 4) (aV 7)) (AB (aV 8) (AB (aV 9) AL))))) AL)))
abbrev R0:AS:=
 (Ab (FD (bO (AB (aC (.int 1)) (AB (Fd Fg (AB (aV 4) AL)) AL))) (Aw 7) Ru)
   (Ao (aV 6)))
abbrev Rz:AS:=
 (Ab (Kb (D2 AL) 6)
   R0)
abbrev Ry:AS:=
 (Ab (Ay (GW (Cw (M7 (aV 4)) 1 [0,1,2] (Aw 0) Fe (AN 4 FZ (AB (aV 1) (AB (aV 2) (AB (aV 3) (AB (aV 0) AL))))))) (Aw 5))
   Rz)
abbrev Rx:AS:=
 (Ab (Ay (AN 4 JA (AB (aV 0) (AB (aV 1) (AB (AX Ai (aV 3) (aC (.int 0))) (AB (AX Ai (aV 3) (aC (.int 1))) AL))))) (Aw 4))
   Ry)
abbrev Rv:AS:=
 (Ab (Bj (Ar (AX UZ (aV 3) (aC .non))) (Ao (GW (D2 AL))) BB)
   Rx)
abbrev Rt:AS:=
 (Ab (Ay (AN 2 Dg (AB (aV 0) (AB (aV 1) AL))) (Aw 3))
   Rv)
def Gm:AF:=Av 10 Rt
theorem VG {x0 x1 x2:PV} {Q:PV->Prop} (h:Rt ⟨λ_=>Q .non,Q,λ_=>False,λ_=>False⟩ [some (.val x0),some (.val x1),some (.val x2),none,none,none,none,none,none,none]):Gm [x0,x1,x2] Q:=h
def F2 (cs ds:List C4) (d:Rat×Rat) (m:Rat):T3:=FG ((spotC cs m).getD (0,0,0)) ((spotC ds m).getD (0,0,0)) d
def Oo (cs ds:List C4) (d:Rat×Rat) (ts:List Rat):List Pc:=(ts.zip ts.tail).map λp=>⟨p.1,p.2,F2 cs ds d p.1,F2 cs ds d p.2⟩
theorem zip_get {ts:List Rat} {i:Nat} {x y:Rat} (hx:ts[i]? =some x) (hy:ts[i+1]? =some y):(ts.zip ts.tail)[i]? =some (x,y):=by
 rw [List.getElem?_zip_eq_some]
 exact ⟨hx,by rw [List.getElem?_tail];exact hy⟩
structure je (cs ds:List C4) (b e:Rat):Prop where
 lt:b<e
 one:∀m,b<=m->m<=e->∃t,spotC cs m=some t
 other:∀m,b<=m->m<=e->∃t,spotC ds m=some t
theorem aZ {a l a2 l2:C4} {r r2:List C4} (h0:r≠ []) (Tw:r2≠ []) (el:(a::r).getLast?=some l) (el2:(a2::r2).getLast?=some l2) (h:mx a.1 a2.1<mn l.1 l2.1):je (a::r) (a2::r2) (mx a.1 a2.1) (mn l.1 l2.1):=by
 have e1:a.1<=mx a.1 a2.1:=by unfold mx;split <;> grind
 have e2:a2.1<=mx a.1 a2.1:=by unfold mx;split <;> grind
 have e3:mn l.1 l2.1<=l.1:=by unfold mn;split <;> grind
 have e4:mn l.1 l2.1<=l2.1:=by unfold mn;split <;> grind
 exact ⟨h,λm h1 h2=>GF h0 el (by grind) (by grind),λm h1 h2=>GF Tw el2 (by grind) (by grind)⟩
theorem gw {cs ds:List C4} {d:Rat×Rat} {b e m:Rat} {B M D:Nat} (tg:je cs ds b e) (h1:b<=m) (h2:m<=e) (hr:KZ cs) (gU:KZ ds) (hc:∀c∈cs,Fm B c) (OA:∀c∈ds,Fm B c) (bm:Bd M m) (b1:Bd D d.1) (b2:Bd D d.2) (p1:d.1≠0) (p2:d.2≠0):FT (2*(M+6*B+10)+1+D) (F2 cs ds d m):=by
 obtain ⟨s,es⟩:=tg.one m h1 h2
 obtain ⟨t,et⟩:=tg.other m h1 h2
 have k1:=FT.spotC bm hr hc s es
 have k2:=FT.spotC bm gU OA t et
 unfold F2
 rw [es,et]
 exact ⟨(((k1.x.sub k2.x).div p1 b1)).mono (by omega),(((k1.y.sub k2.y).div p1 b1)).mono (by omega),(((k1.z.sub k2.z).div p2 b2)).mono (by omega)⟩
theorem MR (ts:List Rat):(ts.zip ts.tail).length=ts.length-1:=by
 rw [List.length_zip,List.length_tail];omega
theorem Q5 {cs ds:List C4} {d:Rat×Rat} {ts:List Rat}:(Oo cs ds d ts).length=ts.length-1:=by unfold Oo;rw [List.length_map,MR]
theorem HZ {cs ds:List C4} {b e:Rat}:QJ (Ek cs ds b e):=CJ
theorem HF {cs ds:List C4} {b e x:Rat} (h:b<e) (hx:x∈Ek cs ds b e):b<=x/\x<=e:=by
 rcases Fl.mp hx with rfl|rfl|⟨h1,h2,_⟩ <;> exact ⟨by grind,by grind⟩
theorem J0 {cs ds:List C4} {b e x:Rat} {M:Nat} (hc:∀c∈cs,Bd M c.1) (OA:∀c∈ds,Bd M c.1) (bb:Bd M b) (be:Bd M e) (hx:x∈Ek cs ds b e):Bd M x:=by
 rcases Fl.mp hx with rfl|rfl|⟨_,_,c,h,rfl⟩
 ·exact bb
 ·exact be
 ·rcases h with h|h
  ·exact hc c h
  ·exact OA c h
def OY (cs:List C4):Rat:=(cs.head?.getD (0,0,0,0)).1
def lstM (cs:List C4):Rat:=(cs.getLast?.getD (0,0,0,0)).1
def B5 (cs ds:List C4):Rat:=mx (OY cs) (OY ds)
def B6 (cs ds:List C4):Rat:=mn (lstM cs) (lstM ds)
def L3 (cs ds:List C4):List Rat:=Ek cs ds (B5 cs ds) (B6 cs ds)
structure Hc (cs ds:List C4) (d:Rat×Rat) (M W:Nat):Prop where
 c1:∀c∈cs,Fm 150 c
 c2:∀c∈ds,Fm 150 c
 r1:KZ cs
 r2:KZ ds
 t1:2<=cs.length
 t2:2<=ds.length
 f1:cs.length<=100
 f2:ds.length<=100
 m1:∀c∈cs,Bd M c.1
 m2:∀c∈ds,Bd M c.1
 b1:Bd 100 d.1
 b2:Bd 100 d.2
 p1:0<d.1
 p2:0<d.2
 w:B5 cs ds<B6 cs ds->∀m∈L3 cs ds,FT W (F2 cs ds d m)
 hM:M<=150
 hW:W<=1050
theorem open2 {cs:List C4} (h:2<=cs.length):∃a r l,cs=a::r/\r≠ [] /\(a::r).getLast?=some l:=by
 match cs,h with
 | a::b::r,_=>
   obtain ⟨l,el⟩:∃l,(a::b::r).getLast?=some l:=⟨_,List.getLast?_eq_some_getLast (by simp)⟩
   exact ⟨a,b::r,l,rfl,by simp,el⟩
theorem Ds {a:C4} {r:List C4}:OY (a::r)=a.1:=rfl
theorem Bb {cs:List C4} {l:C4} (e:cs.getLast?=some l):lstM cs=l.1:=by unfold lstM;rw [e];rfl
section
variable {cs ds:List C4} {d:Rat×Rat} {M W:Nat}
theorem Hc.fstB (D:Hc cs ds d M W):Bd M (OY cs):=by
 obtain ⟨a,r,l,rfl,h0,el⟩:=open2 D.t1
 exact D.m1 a (by simp)
theorem Hc.fstB2 (D:Hc cs ds d M W):Bd M (OY ds):=by
 obtain ⟨a,r,l,rfl,h0,el⟩:=open2 D.t2
 exact D.m2 a (by simp)
theorem Hc.lstB (D:Hc cs ds d M W):Bd M (lstM cs):=by
 obtain ⟨a,r,l,rfl,h0,el⟩:=open2 D.t1
 rw [Bb el]
 exact D.m1 l (List.mem_of_getLast? el)
theorem Hc.lstB2 (D:Hc cs ds d M W):Bd M (lstM ds):=by
 obtain ⟨a,r,l,rfl,h0,el⟩:=open2 D.t2
 rw [Bb el]
 exact D.m2 l (List.mem_of_getLast? el)
theorem Hc.begB (D:Hc cs ds d M W):Bd M (B5 cs ds):=D.fstB.mx D.fstB2
theorem Hc.endB (D:Hc cs ds d M W):Bd M (B6 cs ds):=D.lstB.mn D.lstB2
theorem Hc.tog (D:Hc cs ds d M W) (h:B5 cs ds<B6 cs ds):je cs ds (B5 cs ds) (B6 cs ds):=by
 obtain ⟨a,r,l,rfl,h0,el⟩:=open2 D.t1
 obtain ⟨a2,r2,l2,rfl,Tw,el2⟩:=open2 D.t2
 unfold B5 B6 at h ⊢
 rw [Ds,Ds,Bb el,Bb el2] at h ⊢
 exact aZ h0 Tw el el2 h
end
theorem di {cs ds:List C4} {d:Rat×Rat} {M W:Nat} (D:Hc cs ds d M W) {v w:PV} (hv:CQ cs v) (hw:CQ ds w) {Q:PV->Prop} (q1:B5 cs ds<B6 cs ds->Q (.tup [fr (B5 cs ds),fr (B6 cs ds)])) (q2:¬B5 cs ds<B6 cs ds->Q .non):Dg [v,w] Q:=by
 have k1:=D.fstB
 have k2:=D.fstB2
 have k3:=D.lstB
 have k4:=D.lstB2
 have hM:=D.hM
 obtain ⟨a,r,l,rfl,h0,el⟩:=open2 D.t1
 obtain ⟨a2,r2,l2,rfl,Tw,el2⟩:=open2 D.t2
 unfold B5 B6 at q1 q2
 rw [Ds,Ds,Bb el,Bb el2] at q1 q2
 rw [Bb el] at k3
 rw [Bb el2] at k4
 exact Tp hv hw el el2 (k1.mono (by omega)) (k3.mono (by omega)) (k2.mono (by omega)) (k4.mono (by omega)) q1 q2
def Rj (cs ds:List C4) (d:Rat×Rat):List Pc:=if B5 cs ds<B6 cs ds then Oo cs ds d (L3 cs ds) else []
theorem Xo {cs ds:List C4} {d:Rat×Rat} {M W:Nat} (D:Hc cs ds d M W) {v w u:PV} (hv:CQ cs v) (hw:CQ ds w) (hu:aw d u) {Q:PV->Prop} (q:Q (.lst ((Rj cs ds d).map ka))):Gm [v,w,u] Q:=by
 have hM:=D.hM
 have hW:=D.hW
 have qH:=D.f1
 have qI:=D.f2
 apply VG
 ac_rfl
 refine di D hv hw (λh=> ?_) (λh=> ?_)
 rotate_left
 ·unfold Rj at q
  rw [if_neg h] at q
  ac_rfl
  exact q
 unfold Rj at q
 rw [if_pos h] at q
 have tg:=D.tog h
 ac_rfl
 refine ab (B:=150) hv hw qH qI D.c1 D.c2 (by decide) (D.begB.mono hM) (D.endB.mono hM) ?_
 have tl:=LB (cs:=cs) (ds:=ds) (b:=B5 cs ds) (e:=B6 cs ds)
 have ti:∀x∈L3 cs ds,B5 cs ds<=x/\x<=B6 cs ds:=λx hx=>HF h hx
 have tb:∀x∈L3 cs ds,Bd M x:=λx hx=>J0 D.m1 D.m2 D.begB D.endB hx
 have tw:∀x∈L3 cs ds,FT W (F2 cs ds d x):=D.w h
 have tl':(L3 cs ds).length<=2+(cs.length+ds.length):=tl
 rw [show Ek cs ds (B5 cs ds) (B6 cs ds)=L3 cs ds from rfl]
 generalize L3 cs ds=ts at *
 ac_rfl
 refine Fy fr Uy (F2 cs ds d) (λx=>x∈ts) (λx hx R hR=> ?_) ts [] (λx hx=>hx) ?_
 ·obtain ⟨s,es⟩:=tg.one x (ti x hx).1 (ti x hx).2
  obtain ⟨t,et⟩:=tg.other x (ti x hx).1 (ti x hx).2
  have hR:R (Uy (FG ((spotC cs x).getD (0,0,0)) ((spotC ds x).getD (0,0,0)) d)):=hR
  rw [es,et] at hR
  ac_rfl
  exact cX hv hw hu D.c1 D.c2 D.r1 D.r2 (by have:=D.t1;intro z;subst z;simp at this) (by have:=D.t2;intro z;subst z;simp at this) qH qI ((tb x hx).mono (by omega)) D.b1 D.b2 (by have:=D.p1;grind) (by have:=D.p2;grind) es et hR
 rw [List.nil_append]
 ac_rfl
 refine V1 (λi τ=>∃z8 z9 z10,τ= [some (.val v),some (.val w),some (.val u),some (.val (.tup [fr (B5 cs ds),fr (B6 cs ds)])),some (.val (.lst (ts.map fr))),some (.val (.lst ((ts.map (F2 cs ds d)).map Uy))),some (.own (((Oo cs ds d ts).take i).map ka)),z8,z9,z10]) ?_ ?_ ⟨_,_,_,rfl⟩
 ·rintro τ ⟨z8,z9,z10,rfl⟩
  rw [List.take_of_length_le (by rw [Q5];omega)]
  ac_rfl
  exact q
 ·rintro i hi τ R hR ⟨z8,z9,z10,rfl⟩
  have am:i+1<ts.length:=by omega
  obtain ⟨x,ex⟩:∃x,ts[i]? =some x:=⟨_,List.getElem?_eq_getElem (by omega)⟩
  obtain ⟨y,ey⟩:∃y,ts[i+1]? =some y:=⟨_,List.getElem?_eq_getElem am⟩
  have pl:=Q5 (cs:=cs) (ds:=ds) (d:=d) (ts:=ts)
  have k1:=tw x (List.mem_of_getElem? ex)
  have k2:=tw y (List.mem_of_getElem? ey)
  have ep:(Oo cs ds d ts).take (i+1)=(Oo cs ds d ts).take i ++ [⟨x,y,F2 cs ds d x,F2 cs ds d y⟩] :=by
   have e1:(Oo cs ds d ts)[i]? =some ⟨x,y,F2 cs ds d x,F2 cs ds d y⟩:=by
    unfold Oo
    rw [List.getElem?_map,zip_get ex ey]
    rfl
   rw [List.take_succ,e1]
   rfl
  have t1:((1:Int)+(i:Int)-1).toNat=i:=by omega
  have t2:((1:Int)+(i:Int)).toNat=i+1:=by omega
  have fin:∀z8 z9 z10,R [some (.val v),some (.val w),some (.val u),some (.val (.tup [fr (B5 cs ds),fr (B6 cs ds)])),some (.val (.lst (ts.map fr))),some (.val (.lst ((ts.map (F2 cs ds d)).map Uy))),some (.own (((Oo cs ds d ts).take i).map ka ++ [ka ⟨x,y,F2 cs ds d x,F2 cs ds d y⟩])),z8,z9,z10] :=λz8 z9 z10=>hR _ ⟨z8,z9,z10,by rw [ep,List.map_append];rfl⟩
  ac_rfl
  rename_i c1 ec1 _ c2 ec2 _
  rw [t1,List.getElem?_map,ex] at ec1
  rw [t2,List.getElem?_map,ey] at ec2
  cases ec1
  cases ec2
  refine ZP (p:=⟨x,y,F2 cs ds d x,F2 cs ds d y⟩) k1 k2 (by omega) ?_
  ac_rfl
  rename_i c1 ec1 _ c2 ec2 _
  rw [t1,ex] at ec1
  cases ec1
  rw [t2,ey] at ec2
  cases ec2
  ac_rfl
  exact fin _ _ _
abbrev LI:AS:=
 (Ao (AN 2 IJ (AB (aV 0) (AB (AN 2 Ft (AB (AN 2 Gk (AB (AX Ai (aV 2) (aC (.int 0))) (AB (AX Ai (aV 2) (aC (.int 1))) AL))) (AB (AN 2 Dr (AB (aV 1) (AB (aV 0) AL))) AL))) AL))))
def DF:AF:=Av 3 LI
theorem Ou {x0 x1 x2:PV} {Q:PV->Prop} (h:LI ⟨λ_=>Q .non,Q,λ_=>False,λ_=>False⟩ [some (.val x0),some (.val x1),some (.val x2)]):DF [x0,x1,x2] Q:=h
def sv (p:Int×Int):Rat:=(p.1:Rat)/(p.2:Rat)
theorem PD {i:Int} (h:0<i):(0:Rat)<(i:Rat):=by
 have:=Rat.intCast_lt_intCast.mpr h
 simpa using this
theorem lU {a b:Int×Int} (ha:0<a.2) (hb:0<b.2):sv a<sv b↔a.1*b.2<b.1*a.2:=by
 have h1:=PD ha
 have h2:=PD hb
 unfold sv
 rw [Rat.div_lt_iff h1,<-Rat.intCast_lt_intCast,Rat.intCast_mul,Rat.intCast_mul]
 have e:(b.1:Rat)/(b.2:Rat)*(a.2:Rat)=(b.1:Rat)*(a.2:Rat)/(b.2:Rat):=by grind
 rw [e,Rat.lt_div_iff h2]
structure Sz (p:Int×Int):Prop where
 pos:0<p.2
 t:p.1.natAbs<2^8850
 n:p.2.natAbs<2^8850
theorem Kk {a b:Int×Int} (ha:Sz a) (hb:Sz b) {Q:PV->Prop} (q:Q (.bl (decide (sv a<sv b)))):Ag [MD a,MD b] Q:=by
 refine ⟨MulOk.of ha.t hb.n,MulOk.of hb.t ha.n, ?_⟩
 rw [decide_eq_decide.mpr (lU ha.pos hb.pos)] at q
 exact q
theorem XW {a b:Int×Int} (ha:Sz a) (hb:Sz b) {Q:PV->Prop} (q:Q (MD (if sv b<sv a then b else a))):EX [MD a,MD b] Q:=by
 refine ⟨rfl,Kk hb ha ?_⟩
 refine Em (b:=decide (sv b<sv a)) (λz=> ?_) (λz=> ?_)
 ·rw [if_pos (of_decide_eq_true z)] at q;exact q
 ·rw [if_neg (of_decide_eq_false z)] at q;exact q
theorem NU {b e:Rat} {p:Int×Int} {M S:Nat} (hp:Sz p) (bs:Bd S (sv p)) (bb:Bd M b) (be:Bd M e) (hM:M<=300) (hS:S<=3200) {Q:PV->Prop} (q:Q (fr (b+sv p*(e-b)))):DF [fr b,fr e,MD p] Q:=by
 have ne:p.2≠0:=by have:=hp.pos;omega
 have es:Rat.divInt p.1 p.2=sv p:=Rat.divInt_eq_div ..
 have k:=be.sub bb
 have k2:=bs.mul k
 apply Ou
 ac_rfl
 refine Fa _ _ ne (Ap hp.n (by decide)) _ ?_
 rw [es]
 ac_rfl
 exact q
def lv (l:Int×Int) (s:Rat):Rat:=(l.1:Rat)+s*((l.2:Rat)-(l.1:Rat))
structure NI (N:Nat) (S:Nat) (us:List (Int×Int)) (lo hi:Int×Int) (h:Int):Prop where
 l:Sz lo
 r:Sz hi
 bl:Bd S (sv lo)
 br:Bd S (sv hi)
 h01:h=0\/h=1
 lo0:0<=sv lo
 hi1:sv hi<=1
 sem:∀s,0<=s->s<1->((∀l∈us,lv l s<N)↔(sv lo<s\/(sv lo=s/\h=1))/\s<sv hi)
theorem ig:sv (0,1)=0:=by decide +kernel
theorem ii:sv (1,1)=1:=by decide +kernel
theorem gv {N S:Nat} (hS:1<=S):NI N S [] (0,1) (1,1) 1:=by
 refine ⟨⟨by decide, ?_, ?_⟩,⟨by decide, ?_, ?_⟩, ?_, ?_, .inr rfl,by rw [ig];grind,by rw [ii];grind,λs h0 h1=> ?_⟩
 ·exact Ap (m:=1) (by decide) (by decide)
 ·exact Ap (m:=1) (by decide) (by decide)
 ·exact Ap (m:=1) (by decide) (by decide)
 ·exact Ap (m:=1) (by decide) (by decide)
 ·rw [ig];exact jj.mono hS
 ·rw [ii];exact eG.mono hS
 ·rw [ig,ii]
  exact ⟨λ_=>⟨by grind,h1⟩,λ_=>by simp⟩
structure QH (N W:Nat) (l:Int×Int):Prop where
 a:l.1.natAbs<2^8848
 b:l.2.natAbs<2^8848
 n:N<2^8848
 n0:0<N
 ex:∃u v:Rat,Bd W u/\Bd W v/\(l.1:Rat)=u*N/\(l.2:Rat)=v*N
theorem YY {N:Nat} (h:0<N):(0:Rat)<(N:Rat):=Rat.natCast_pos.mpr h
theorem Wh {a b:Int} {k:Nat} (ha:a.natAbs<2^k) (hb:b.natAbs<2^k):(a-b).natAbs<2^(k+1):=RZ ha hb
theorem JE {us:List (Int×Int)} {l:Int×Int} {P:Int×Int->Prop}:(∀x∈us ++ [l],P x)↔(∀x∈us,P x)/\P l:=by
 constructor
 ·intro h
  exact ⟨λx hx=>h x (by simp [hx]),h l (by simp)⟩
 ·rintro ⟨h1,h2⟩ x hx
  rcases List.mem_append.mp hx with hx|hx
  ·exact h1 x hx
  ·simp at hx;subst hx;exact h2
theorem Hm (N:Nat):((N:Int):Rat)=(N:Rat):=Rat.intCast_natCast N
theorem Ur {N W:Nat} {l:Int×Int} (h:QH N W l) (h1:(N:Int)<=l.1) (h2:l.2<(N:Int)):Sz (l.1-N,l.1-l.2)/\Bd (3*W+3) (sv (l.1-N,l.1-l.2))/\0<=sv (l.1-N,l.1-l.2)/\∀s,lv l s<N↔sv (l.1-N,l.1-l.2)<s:=by
 obtain ⟨u,v,bu,bv,e1,e2⟩:=h.ex
 have hn:=YY h.n0
 have p2:0<l.1-l.2:=by omega
 have q1:((N:Rat))<=(l.1:Rat):=by rw [<-Hm];exact Rat.intCast_le_intCast.mpr h1
 have q2:(l.2:Rat)<(N:Rat):=by rw [<-Hm];exact Rat.intCast_lt_intCast.mpr h2
 have es:sv (l.1-N,l.1-l.2)=((l.1:Rat)-N)/((l.1:Rat)-l.2):=by
  unfold sv
  show ((l.1-(N:Int):Int):Rat)/((l.1-l.2:Int):Rat)=_
  rw [Rat.intCast_sub,Rat.intCast_sub,Hm]
 have d0:(0:Rat)<(l.1:Rat)-l.2:=by grind
 have ne:u-v≠0:=by
  intro z
  have:u=v:=by grind
  subst this
  grind
 have eu:sv (l.1-N,l.1-l.2)=(u-1)/(u-v):=by
  rw [es,e1,e2]
  have:u*(N:Rat)-v*N≠0:=by rw [e1,e2] at d0;grind
  have:(N:Rat)≠0:=by grind
  grind
 refine ⟨⟨p2,Ap (Wh h.a (by simpa using h.n)) (by decide),Ap (Wh h.a h.b) (by decide)⟩, ?_, ?_,λs=> ?_⟩
 ·rw [eu]
  exact ((bu.sub eG).div ne (bu.sub bv)).mono (by omega)
 ·rw [es,<-Rat.not_lt,Rat.div_lt_iff d0]
  grind
 ·rw [es,Rat.div_lt_iff d0]
  unfold lv
  constructor <;> intro z <;> grind
theorem V7 {N W:Nat} {l:Int×Int} (h:QH N W l) (h1:l.1<(N:Int)) (h2:(N:Int)<l.2):Sz (N-l.1,l.2-l.1)/\Bd (3*W+3) (sv (N-l.1,l.2-l.1))/\sv (N-l.1,l.2-l.1)<=1/\∀s,lv l s<N↔s<sv (N-l.1,l.2-l.1):=by
 obtain ⟨u,v,bu,bv,e1,e2⟩:=h.ex
 have hn:=YY h.n0
 have p2:0<l.2-l.1:=by omega
 have q1:(l.1:Rat)<(N:Rat):=by rw [<-Hm];exact Rat.intCast_lt_intCast.mpr h1
 have q2:(N:Rat)<(l.2:Rat):=by rw [<-Hm];exact Rat.intCast_lt_intCast.mpr h2
 have es:sv (N-l.1,l.2-l.1)=((N:Rat)-l.1)/((l.2:Rat)-l.1):=by
  unfold sv
  show (((N:Int)-l.1:Int):Rat)/((l.2-l.1:Int):Rat)=_
  rw [Rat.intCast_sub,Rat.intCast_sub,Hm]
 have d0:(0:Rat)<(l.2:Rat)-l.1:=by grind
 have ne:v-u≠0:=by
  intro z
  have:u=v:=by grind
  subst this
  grind
 have eu:sv (N-l.1,l.2-l.1)=(1-u)/(v-u):=by
  rw [es,e1,e2]
  have:v*(N:Rat)-u*N≠0:=by rw [e1,e2] at d0;grind
  have:(N:Rat)≠0:=by grind
  grind
 refine ⟨⟨p2,Ap (Wh (by simpa using h.n) h.a) (by decide),Ap (Wh h.b h.a) (by decide)⟩, ?_, ?_,λs=> ?_⟩
 ·rw [eu]
  exact ((eG.sub bu).div ne (bv.sub bu)).mono (by omega)
 ·rw [es,<-Rat.not_lt,Rat.lt_div_iff d0]
  grind
 ·rw [es,Rat.lt_div_iff d0]
  unfold lv
  constructor <;> intro z <;> grind
section
variable {N W:Nat} {us:List (Int×Int)} {lo hi l:Int×Int} {h:Int}
theorem gu (i:NI N (3*W+3) us lo hi h) (o:QH N W l) (h1:(N:Int)<=l.1) (h2:l.2<(N:Int)) (k:¬sv (l.1-N,l.1-l.2)<sv lo):NI N (3*W+3) (us ++ [l]) (l.1-N,l.1-l.2) hi 0:=by
 obtain ⟨a,b,c,e⟩:=Ur o h1 h2
 refine ⟨a,i.r,b,i.br, .inl rfl,c,i.hi1,λs s0 s1=> ?_⟩
 rw [JE,i.sem s s0 s1,e s]
 constructor
 ·rintro ⟨⟨x,y⟩,z⟩
  exact ⟨.inl z,y⟩
 ·rintro ⟨x|⟨_,x⟩,y⟩
  ·exact ⟨⟨.inl (by grind),y⟩,x⟩
  ·cases x
theorem cS (i:NI N (3*W+3) us lo hi h) (o:QH N W l) (h1:(N:Int)<=l.1) (h2:l.2<(N:Int)) (k:sv (l.1-N,l.1-l.2)<sv lo):NI N (3*W+3) (us ++ [l]) lo hi h:=by
 obtain ⟨a,b,c,e⟩:=Ur o h1 h2
 refine ⟨i.l,i.r,i.bl,i.br,i.h01,i.lo0,i.hi1,λs s0 s1=> ?_⟩
 rw [JE,i.sem s s0 s1,e s]
 constructor
 ·rintro ⟨x,z⟩
  exact x
 ·rintro ⟨x,y⟩
  refine ⟨⟨x,y⟩, ?_⟩
  rcases x with x|⟨x,_⟩ <;> grind
theorem cR (i:NI N (3*W+3) us lo hi h) (o:QH N W l) (h1:l.1<(N:Int)) (h2:(N:Int)<l.2):NI N (3*W+3) (us ++ [l]) lo (if sv (N-l.1,l.2-l.1)<sv hi then (N-l.1,l.2-l.1) else hi) h:=by
 obtain ⟨a,b,c,e⟩:=V7 o h1 h2
 by_cases k:sv (N-l.1,l.2-l.1)<sv hi
 ·rw [if_pos k]
  refine ⟨i.l,a,i.bl,b,i.h01,i.lo0,c,λs s0 s1=> ?_⟩
  rw [JE,i.sem s s0 s1,e s]
  constructor
  ·rintro ⟨⟨x,y⟩,z⟩
   exact ⟨x,z⟩
  ·rintro ⟨x,y⟩
   exact ⟨⟨x,by grind⟩,y⟩
 ·rw [if_neg k]
  refine ⟨i.l,i.r,i.bl,i.br,i.h01,i.lo0,i.hi1,λs s0 s1=> ?_⟩
  rw [JE,i.sem s s0 s1,e s]
  constructor
  ·rintro ⟨x,z⟩
   exact x
  ·rintro ⟨x,y⟩
   exact ⟨⟨x,y⟩,by grind⟩
theorem kS (i:NI N (3*W+3) us lo hi h) (h1:l.1<(N:Int)) (h2:¬(N:Int)<l.2):NI N (3*W+3) (us ++ [l]) lo hi h:=by
 have q1:(l.1:Rat)<(N:Rat):=by rw [<-Hm];exact Rat.intCast_lt_intCast.mpr h1
 have q2:(l.2:Rat)<=(N:Rat):=by rw [<-Hm];exact Rat.intCast_le_intCast.mpr (by omega)
 refine ⟨i.l,i.r,i.bl,i.br,i.h01,i.lo0,i.hi1,λs s0 s1=> ?_⟩
 rw [JE,i.sem s s0 s1]
 constructor
 ·rintro ⟨x,z⟩
  exact x
 ·intro x
  refine ⟨x, ?_⟩
  have y:lv l s=(1-s)*(l.1:Rat)+s*(l.2:Rat):=by unfold lv;grind
  have k1:(1-s)*(l.1:Rat)<(1-s)*N:=Rat.mul_lt_mul_of_pos_left q1 (by grind)
  have k2:s*(l.2:Rat)<=s*N:=Rat.mul_le_mul_of_nonneg_left q2 s0
  rw [y]
  grind
end
abbrev Px:AS:=
 (Ab (Ay (aV 10) (Aw 1))
   (Ay (aC (.int 0)) (Aw 2)))
abbrev Py:AS:=
 (Ab (Ay (BF (AB (AX Gw (aV 8) (aV 6)) (AB (AX Gw (aV 8) (aV 9)) AL))) (Aw 10))
   (Bj (DG (Ar (AN 2 Ag (AB (aV 10) (AB (aV 1) AL))))) Px BB))
abbrev Pz:AS:=
 (Ab (Bj (Gq (Ar (AX i8 (aV 8) (aV 6))) (Ar (AX i8 (aV 9) (aV 6)))) (Ao (GW (D2 AL))) BB)
   (Bj (Ar (AX i8 (aV 8) (aV 6))) Py (Bj (Ar (AX fy (aV 9) (aV 6))) (Ay (AN 2 EX (AB (aV 3) (AB (BF (AB (AX Gw (aV 6) (aV 8)) (AB (AX Gw (aV 9) (aV 8)) AL))) AL))) (Aw 3)) BB)))
abbrev P7:AS:=
 (Ab (Bj (DG (Ar (AN 2 Ag (AB (aV 1) (AB (aV 3) AL))))) (Ao (GW (D2 AL))) BB)
   (Ao (GW (D2 (AB (BF (AB (AN 3 DF (AB (aV 4) (AB (aV 5) (AB (aV 1) AL)))) (AB (aV 2) (AB (AN 3 DF (AB (aV 4) (AB (aV 5) (AB (aV 3) AL)))) AL)))) AL)))))
abbrev P6:AS:=
 (Ab (FD (M7 (aV 7)) (L9 2 (Ak (Aw 8) (Ak (Aw 9) CS))) Pz)
   P7)
abbrev P5:AS:=
 (Ab (Ay (BF (AB (aC (.int 1)) (AB (aC (.int 1)) AL))) (Aw 3))
   P6)
abbrev P4:AS:=
 (Ab (Ay (aC (.int 1)) (Aw 2))
   P5)
abbrev P3:AS:=
 (Ab (Ay (BF (AB (aC (.int 0)) (AB (aC (.int 1)) AL))) (Aw 1))
   P4)
abbrev Oz:AS:=
 (Ab (Ay (aV 0) (L9 4 (Ak (Aw 4) (Ak (Aw 5) (Ak (Aw 6) (Ak (Aw 7) CS))))))
   P3)
def FY:AF:=Av 11 Oz
theorem TX {x0:PV} {Q:PV->Prop} (h:Oz ⟨λ_=>Q .non,Q,λ_=>False,λ_=>False⟩ [some (.val x0),none,none,none,none,none,none,none,none,none,none]):FY [x0] Q:=h
def WG (N:Nat) (lns:List (Int×Int)) (b e m:Rat):Prop:=b<=m/\m<e/\∀l∈lns,lv l ((m-b)/(e-b))<N
structure Ya (N:Nat) (lns:List (Int×Int)) (b e:Rat) (B:Nat) (ss:List Bn):Prop where
 few:ss.length<=1
 ok:∀s∈ss,Di B s
 fin:∀s∈ss,∃x,s.2.2=some x
 sem:∀m,ss.any (Bw · (m,0))=true↔WG N lns b e m
theorem PP {N:Nat} {lns:List (Int×Int)} {b e:Rat} {B:Nat} (h:∀s,0<=s->s<1->¬∀l∈lns,lv l s<N) (PK:b<e):Ya N lns b e B [] :=by
 refine ⟨by simp,by simp,by simp,λm=> ?_⟩
 refine ⟨λz=>by simp at z,λz=> ?_⟩
 obtain ⟨h1,h2,h3⟩:=z
 have d0:0<e-b:=by grind
 refine absurd h3 (h _ ?_ ?_)
 ·rw [<-Rat.not_lt,Rat.div_lt_iff d0];grind
 ·rw [Rat.div_lt_iff d0];grind
theorem Xd {N S B M:Nat} {lns:List (Int×Int)} {b e:Rat} {lo hi:Int×Int} {h:Int} (i:NI N S lns lo hi h) (PK:b<e) (k:sv lo<sv hi) (bb:Bd M b) (be:Bd M e) (hB:3*M+S+3<=B):Ya N lns b e B [(b+sv lo*(e-b),h,some (b+sv hi*(e-b)))] :=by
 have d0:0<e-b:=by grind
 have mono:∀{x y:Rat},x<y->b+x*(e-b)<b+y*(e-b):=λ{x y} h=>by
  have:=Rat.mul_lt_mul_of_pos_right h d0
  grind
 refine ⟨by simp,λs hs=> ?_,λs hs=> ?_,λm=> ?_⟩
 ·simp at hs;subst hs
  refine ⟨(bb.add (i.bl.mul (be.sub bb))).mono (by omega),i.h01,λx hx=> ?_⟩
  cases hx
  exact ⟨mono k,(bb.add (i.br.mul (be.sub bb))).mono (by omega)⟩
 ·simp at hs;subst hs
  exact ⟨_,rfl⟩
 ·obtain ⟨s,rfl⟩:∃s,m=b+s*(e-b):=⟨(m-b)/(e-b),by grind⟩
  have es:(b+s*(e-b)-b)/(e-b)=s:=by grind
  unfold WG
  rw [es]
  have lt:∀x y:Rat,b+x*(e-b)<b+y*(e-b)↔x<y:=λx y=>by
   refine ⟨λz=> ?_,mono⟩
   by_cases w:x<y
   ·exact w
   ·by_cases w2:y<x
    ·have:=mono w2;grind
    ·have:x=y:=by grind
     subst this;grind
  have eq:∀x y:Rat,b+x*(e-b)=b+y*(e-b)↔x=y:=λx y=>by
   refine ⟨λz=> ?_,λz=>by rw [z]⟩
   by_cases w:x<y
   ·have:=mono w;grind
   ·by_cases w2:y<x
    ·have:=mono w2;grind
    ·grind
  have A: [((b+sv lo*(e-b),h,some (b+sv hi*(e-b))):Bn)].any (Bw · (b+s*(e-b),0))=true↔(sv lo<s\/(sv lo=s/\h=1))/\s<sv hi:=by
   simp only [List.any_cons,List.any_nil,Bool.or_false,Bw,Bool.and_eq_true,Bool.or_eq_true,decide_eq_true_eq,lt,eq]
   have:0<h+0↔h=1:=by have:=i.h01;omega
   rw [this]
  rw [A]
  constructor
  ·intro z
   have s0:0<=s:=by
    have:=i.lo0
    rcases z.1 with y|⟨y,_⟩ <;> grind
   have s1:s<1:=by have:=i.hi1;have:=z.2;grind
   refine ⟨?_, ?_,(i.sem s s0 s1).mpr z⟩
   ·have:=Rat.mul_nonneg s0 (show 0<=e-b by grind);grind
   ·have:=mono s1;grind
  ·rintro ⟨z1,z2,z3⟩
   have s0:0<=s:=by
    rw [<-Rat.not_lt]
    intro w
    have:=mono w;grind
   have s1:s<1:=by
    have:=(lt s 1).mp (by grind)
    exact this
   exact (i.sem s s0 s1).mp z3
theorem Ux {b e:Rat} {N M W:Nat} {lns:List (Int×Int)} (ok:∀l∈lns,QH N W l) (PK:b<e) (bb:Bd M b) (be:Bd M e) (hM:M<=300) (hW:W<=1050) (hl:lns.length<=1000) {Q:PV->Prop} (q:∀ss,Ya N lns b e (3*M+3*W+6) ss->Q (.lst (ss.map Dm))):FY [.tup [fr b,fr e, .int N, .lst (lns.map MD)]] Q:=by
 apply TX
 ac_rfl
 refine C1 MD (λus vs τ=>∃lo hi h z8 z9 z10,NI N (3*W+3) us lo hi h/\τ= [some (.val (.tup [fr b,fr e, .int N, .lst (lns.map MD)])),some (.val (MD lo)),some (.val (.int h)),some (.val (MD hi)),some (.val (fr b)),some (.val (fr e)),some (.val (.int N)),some (.val (.lst (lns.map MD))),z8,z9,z10]) ?_ ?_ ⟨(0,1),(1,1),1,_,_,_,gv (by omega),rfl⟩
 ·rintro τ ⟨lo,hi,h,z8,z9,z10,i,rfl⟩
  ac_rfl
  refine Kk i.l i.r ?_
  ac_rfl
  ·rename_i k
   refine q [] (PP (λs s0 s1=> ?_) PK)
   rw [i.sem s s0 s1]
   rintro ⟨x,y⟩
   rcases x with x|⟨x,_⟩ <;> grind
  ·rename_i k
   refine NU i.l i.bl bb be hM (by omega) ?_
   ac_rfl
   refine NU i.r i.br bb be hM (by omega) ?_
   ac_rfl
   exact q _ (Xd i PK k bb be (by omega))
 ·rintro us l vs el τ R hR ⟨lo,hi,h,z8,z9,z10,i,rfl⟩
  have o:=ok l (by rw [<-el];simp)
  have fin:∀{lo hi h z8 z9 z10},NI N (3*W+3) (us ++ [l]) lo hi h->R [some (.val (.tup [fr b,fr e, .int N, .lst (lns.map MD)])),some (.val (MD lo)),some (.val (.int h)),some (.val (MD hi)),some (.val (fr b)),some (.val (fr e)),some (.val (.int N)),some (.val (.lst (lns.map MD))),z8,z9,z10] :=λ{lo hi h z8 z9 z10} k=>hR _ ⟨lo,hi,h,z8,z9,z10,k,rfl⟩
  ac_rfl
  all_goals first | (exfalso;omega)|skip
  ·rename_i k1 k2
   refine q [] (PP (λs s0 s1 z=> ?_) PK)
   have z:=z l (by rw [<-el];simp)
   have q1:(N:Rat)<=(l.1:Rat):=by rw [<-Hm];exact Rat.intCast_le_intCast.mpr k1
   have q2:(N:Rat)<=(l.2:Rat):=by rw [<-Hm];exact Rat.intCast_le_intCast.mpr k2
   have y:lv l s=(1-s)*(l.1:Rat)+s*(l.2:Rat):=by unfold lv;grind
   have j1:(1-s)*N<=(1-s)*(l.1:Rat):=Rat.mul_le_mul_of_nonneg_left q1 (by grind)
   have j2:s*N<=s*(l.2:Rat):=Rat.mul_le_mul_of_nonneg_left q2 s0
   rw [y] at z
   grind
  ·rename_i k1 k2 k3
   obtain ⟨a,_,_,_⟩:=Ur o k1 (by omega)
   refine Kk a i.l ?_
   ac_rfl
   ·rename_i k4
    exact fin (gu i o k1 (by omega) k4)
   ·rename_i k4
    exact fin (cS i o k1 (by omega) k4)
  ·rename_i k1 k2 k3
   obtain ⟨a,_,_,_⟩:=V7 o (by omega) k3
   refine XW i.r a ?_
   exact fin (cR i o (by omega) k3)
  ·rename_i k1 k2 k3
   exact fin (kS i (by omega) k3)
abbrev Mp:AS:=
 (Ao (AN 1 EZ (AB (GW (M4 (M7 (AN 3 Gm (AB (aV 0) (AB (aV 1) (AB (aV 2) AL))))) 2 [] (Aw 1) Fe (M7 (AN 1 FY (AB (aV 1) AL))) 1 (Aw 0) Fe (aV 0))) AL)))
def Ea:AF:=Av 3 Mp
theorem RG {x0 x1 x2:PV} {Q:PV->Prop} (h:Mp ⟨λ_=>Q .non,Q,λ_=>False,λ_=>False⟩ [some (.val x0),some (.val x1),some (.val x2)]):Ea [x0,x1,x2] Q:=h
theorem QK {x:Rat}:absR x<1↔x<1/\ -x<1:=by unfold absR;split <;> grind
theorem gF {o:T3}:Sd o<1↔absR o.1<1/\absR o.2.1<1/\absR o.2.2<1:=by
 unfold Sd mx
 repeat' split
 all_goals grind
theorem K7 {N:Nat} {u v s:Rat} (h0:0<N) (h1:u.den ∣ N) (h2:v.den ∣ N):(lv (EU N u,EU N v) s<N↔u+s*(v-u)<1)/\(lv (-EU N u, -EU N v) s<N↔ -(u+s*(v-u))<1):=by
 have hn:=YY h0
 have e1:lv (EU N u,EU N v) s=(u+s*(v-u))*N:=by
  unfold lv
  show ((EU N u:Int):Rat)+s*(((EU N v:Int):Rat)-((EU N u:Int):Rat))=_
  rw [G9 h1,G9 h2];grind
 have e2:lv (-EU N u, -EU N v) s= -(u+s*(v-u))*N:=by
  unfold lv
  show ((-EU N u:Int):Rat)+s*(((-EU N v:Int):Rat)-((-EU N u:Int):Rat))=_
  rw [Rat.intCast_neg,Rat.intCast_neg,G9 h1,G9 h2];grind
 have key:∀x:Rat,x*N<N↔x<1:=λx=>by
  constructor
  ·intro z
   by_cases w:x<1
   ·exact w
   ·have:=Rat.mul_le_mul_of_nonneg_right (show 1<=x by grind) (show (0:Rat)<=N by grind)
    grind
  ·intro z
   have:=Rat.mul_lt_mul_of_pos_right z hn
   grind
 rw [e1,e2,key,key]
 exact ⟨Iff.rfl,Iff.rfl⟩
theorem Wa {W:Nat} {p:Pc} (h0:FT W p.o0) (h1:FT W p.o1):0<p.N/\(∀x∈p.six,x.den ∣ p.N)/\p.N<2^(6*W+1):=RL 6 p.six rfl (aJ h0 h1)
theorem WE {W:Nat} {p:Pc} (h0:FT W p.o0) (h1:FT W p.o1) (s:Rat):(∀l∈p.lns,lv l s<p.N)↔Sd (lin p.o0 p.o1 s)<1:=by
 obtain ⟨n0,dv,_⟩:=Wa h0 h1
 have d1:=dv p.o0.1 (by simp [Pc.six])
 have d2:=dv p.o0.2.1 (by simp [Pc.six])
 have d3:=dv p.o0.2.2 (by simp [Pc.six])
 have d4:=dv p.o1.1 (by simp [Pc.six])
 have d5:=dv p.o1.2.1 (by simp [Pc.six])
 have d6:=dv p.o1.2.2 (by simp [Pc.six])
 rw [gF,QK,QK,QK]
 unfold Pc.lns lin
 simp only [List.mem_cons,List.not_mem_nil,or_false,forall_eq_or_imp,forall_eq]
 rw [(K7 n0 d1 d4).1,(K7 n0 d1 d4).2,(K7 n0 d2 d5).1,(K7 n0 d2 d5).2,(K7 n0 d3 d6).1,(K7 n0 d3 d6).2]
 constructor
 ·rintro ⟨a,b,c,d,e,f⟩;exact ⟨⟨a,b⟩,⟨c,d⟩,e,f⟩
 ·rintro ⟨⟨a,b⟩,⟨c,d⟩,e,f⟩;exact ⟨a,b,c,d,e,f⟩
theorem Z8 {N W:Nat} {r:Rat} (br:Bd W r) (hN:N<2^(6*W+1)):(EU N r).natAbs<2^(W+(6*W+1)):=BQ br.top (V0 hN)
theorem gh {W:Nat} {p:Pc} (h0:FT W p.o0) (h1:FT W p.o1) (hW:W<=1200):∀l∈p.lns,QH p.N W l:=by
 obtain ⟨n0,dv,nl⟩:=Wa h0 h1
 have one:∀{u v:Rat},Bd W u->Bd W v->u.den ∣ p.N->v.den ∣ p.N->QH p.N W (EU p.N u,EU p.N v)/\QH p.N W (-EU p.N u, -EU p.N v):=λ{u v} bu bv du dv=>by
  have s1:=Z8 bu nl
  have s2:=Z8 bv nl
  have nn:=Ap (n:=8848) nl (by omega)
  refine ⟨⟨Ap s1 (by omega),Ap s2 (by omega),nn,n0,u,v,bu,bv,G9 du,G9 dv⟩,⟨Ap (by rw [Int.natAbs_neg];exact s1) (by omega),Ap (by rw [Int.natAbs_neg];exact s2) (by omega),nn,n0, -u, -v,bu.neg,bv.neg, ?_, ?_⟩⟩
  ·show ((-EU p.N u:Int):Rat)=_
   rw [Rat.intCast_neg,G9 du];grind
  ·show ((-EU p.N v:Int):Rat)=_
   rw [Rat.intCast_neg,G9 dv];grind
 have l1:=one h0.x h1.x (dv _ (by simp [Pc.six])) (dv _ (by simp [Pc.six]))
 have l2:=one h0.y h1.y (dv _ (by simp [Pc.six])) (dv _ (by simp [Pc.six]))
 have l3:=one h0.z h1.z (dv _ (by simp [Pc.six])) (dv _ (by simp [Pc.six]))
 intro l hl
 simp only [Pc.lns,List.mem_cons,List.not_mem_nil,or_false] at hl
 rcases hl with rfl|rfl|rfl|rfl|rfl|rfl
 ·exact l1.1
 ·exact l1.2
 ·exact l2.1
 ·exact l2.2
 ·exact l3.1
 ·exact l3.2
theorem cW {p q p' q':T3} {d:Rat×Rat} {s:Rat}:FG (lin p q s) (lin p' q' s) d=lin (FG p p' d) (FG q q' d) s:=by
 unfold FG lin
 simp only [Rat.div_def]
 congr 1
 ·grind
 ·congr 1 <;> grind
theorem ak {ts:List Rat} (h:QJ ts):∀p∈ts.zip ts.tail,p.1∈ts/\p.2∈ts/\p.1<p.2/\∀x∈ts,¬(p.1<x/\x<p.2):=by
 induction ts with
 | nil=>intro p hp;simp at hp
 | cons a r ih=>
   cases r with
   | nil=>intro p hp;simp at hp
   | cons b r=>
     have h1:=List.pairwise_cons.mp h
     intro p hp
     simp only [List.tail_cons,List.zip_cons_cons,List.mem_cons] at hp
     rcases hp with rfl|hp
     ·refine ⟨by simp,by simp,h1.1 b (by simp),λx hx z=> ?_⟩
      rcases List.mem_cons.mp hx with rfl|hx
      ·grind
      ·rcases List.mem_cons.mp hx with rfl|hx
       ·grind
       ·have:=(List.pairwise_cons.mp h1.2).1 x hx
        grind
     ·obtain ⟨k1,k2,k3,k4⟩:=ih h1.2 p hp
      refine ⟨by simp [k1],by simp [k2],k3,λx hx z=> ?_⟩
      rcases List.mem_cons.mp hx with rfl|hx
      ·have:=h1.1 p.1 k1;grind
      ·exact k4 x hx z
theorem Pp:∀{ts:List Rat} {m:Rat} {a z:Rat},QJ ts->ts.head?=some a->ts.getLast?=some z->a<=m->m<z->∃p∈ts.zip ts.tail,p.1<=m/\m<p.2
 | [],_,_,_,_,h,_,_,_=>by cases h
 | [a],m,_,_,_,h1,h2,h3,h4=>by simp at h1 h2;subst h1 h2;grind
 | a::b::r,m,x,z,h,h1,h2,h3,h4=>by
   simp at h1;subst h1
   by_cases k:m<b
   ·exact ⟨(a,b),by simp,h3,k⟩
   ·obtain ⟨p,hp,q⟩:=Pp (m:=m) (a:=b) (z:=z) (List.pairwise_cons.mp h).2 rfl (by simpa [List.getLast?_cons_cons] using h2) (by grind) h4
    exact ⟨p,by simp only [List.tail_cons,List.zip_cons_cons,List.mem_cons];exact .inr (by simpa using hp),q⟩
section
variable {cs ds:List C4} {d:Rat×Rat} {M W:Nat}
structure mq (cs ds:List C4) (d:Rat×Rat) (M W:Nat) (p:Pc):Prop where
 lt:p.b<p.e
 w0:FT W p.o0
 w1:FT W p.o1
 bb:Bd M p.b
 be:Bd M p.e
 lo:B5 cs ds<=p.b
 hi:p.e<=B6 cs ds
 at0:p.o0=F2 cs ds d p.b
 p6:p.o1=F2 cs ds d p.e
 lin:∀m,p.b<=m->m<=p.e->F2 cs ds d m=lin p.o0 p.o1 ((m-p.b)/(p.e-p.b))
theorem Hc.pc (D:Hc cs ds d M W):∀p∈Rj cs ds d,mq cs ds d M W p:=by
 intro p hp
 unfold Rj at hp
 by_cases h:B5 cs ds<B6 cs ds
 ·rw [if_pos h] at hp
  have tg:=D.tog h
  have ti:∀x∈L3 cs ds,B5 cs ds<=x/\x<=B6 cs ds:=λx hx=>HF h hx
  have tb:∀x∈L3 cs ds,Bd M x:=λx hx=>J0 D.m1 D.m2 D.begB D.endB hx
  have tw:∀x∈L3 cs ds,FT W (F2 cs ds d x):=D.w h
  unfold Oo at hp
  obtain ⟨q,hq,rfl⟩:=List.mem_map.mp hp
  obtain ⟨k1,k2,k3,k4⟩:=ak HZ q hq
  have i1:=ti _ k1
  have i2:=ti _ k2
  refine ⟨k3,tw _ k1,tw _ k2,tb _ k1,tb _ k2,i1.1,i2.2,rfl,rfl,λm m1 m2=> ?_⟩
  have m1:q.1<=m:=m1
  have m2:m<=q.2:=m2
  have no:∀c,c∈cs\/c∈ds->¬(q.1<c.1/\c.1<q.2):=λc hc z=>by
   refine k4 c.1 (Fl.mpr (.inr (.inr ⟨by grind,by grind,c,hc,rfl⟩))) z
  obtain ⟨s1,e1⟩:=tg.one q.1 i1.1 i1.2
  obtain ⟨s2,e2⟩:=tg.one q.2 i2.1 i2.2
  obtain ⟨t1,f1⟩:=tg.other q.1 i1.1 i1.2
  obtain ⟨t2,f2⟩:=tg.other q.2 i2.1 i2.2
  have l1:=Pk D.r1 k3 m1 m2 (λc hc=>no c (.inl hc)) e1 e2
  have l2:=Pk D.r2 k3 m1 m2 (λc hc=>no c (.inr hc)) f1 f2
  show F2 cs ds d m=PL.lin (F2 cs ds d q.1) (F2 cs ds d q.2) ((m-q.1)/(q.2-q.1))
  unfold F2
  rw [l1,l2,e1,e2,f1,f2]
  exact cW
 ·rw [if_neg h] at hp;cases hp
theorem dk (h:B5 cs ds<B6 cs ds):(L3 cs ds).head?=some (B5 cs ds):=by
 have mb:B5 cs ds∈L3 cs ds:=Fl.mpr (.inl rfl)
 have hs:QJ (L3 cs ds):=HZ
 have hi:∀x∈L3 cs ds,B5 cs ds<=x:=λx hx=>(HF h hx).1
 generalize L3 cs ds=ts at *
 cases ts with
 | nil=>cases mb
 | cons a r=>
   rcases List.mem_cons.mp mb with e|e
   ·rw [e];rfl
   ·have:=(List.pairwise_cons.mp hs).1 _ e
    have:=hi a (by simp)
    grind
theorem dm (h:B5 cs ds<B6 cs ds):(L3 cs ds).getLast?=some (B6 cs ds):=by
 have mb:B6 cs ds∈L3 cs ds:=Fl.mpr (.inr (.inl rfl))
 have hs:QJ (L3 cs ds):=HZ
 have hi:∀x∈L3 cs ds,x<=B6 cs ds:=λx hx=>(HF h hx).2
 generalize L3 cs ds=ts at *
 obtain ⟨l,el⟩:∃l,ts.getLast?=some l:=⟨_,List.getLast?_eq_some_getLast (by intro z;subst z;cases mb)⟩
 rw [el]
 have l1:=hi l (List.mem_of_getLast? el)
 obtain ⟨i,am,e⟩:=List.mem_iff_getElem.mp mb
 rw [List.getLast?_eq_getElem?] at el
 obtain ⟨hl,el⟩:=List.getElem?_eq_some_iff.mp el
 by_cases k:i=ts.length-1
 ·subst k;rw [<-e,<-el]
 ·have:=List.pairwise_iff_getElem.mp hs i (ts.length-1) am hl (by omega)
  rw [e,el] at this
  grind
theorem Hc.cover (D:Hc cs ds d M W) {m:Rat} (h1:B5 cs ds<=m) (h2:m<B6 cs ds):∃p∈Rj cs ds d,p.b<=m/\m<p.e:=by
 have h:B5 cs ds<B6 cs ds:=by grind
 unfold Rj
 rw [if_pos h]
 obtain ⟨p,hp,k⟩:=Pp HZ (dk h) (dm h) h1 h2
 exact ⟨_,List.mem_map.mpr ⟨p,hp,rfl⟩,k⟩
def Ee (cs ds:List C4) (d:Rat×Rat) (m:Rat):Prop:=B5 cs ds<=m/\m<B6 cs ds/\Sd (F2 cs ds d m)<1
instance {m:Rat}:Decidable (Ee cs ds d m):=by unfold Ee;infer_instance
theorem Hc.near_iff (D:Hc cs ds d M W) {m:Rat}:(∃p∈Rj cs ds d,WG p.N p.lns p.b p.e m)↔Ee cs ds d m:=by
 constructor
 ·rintro ⟨p,hp,h1,h2,h3⟩
  have o:=D.pc p hp
  have lo:=o.lo
  have hi:=o.hi
  rw [WE o.w0 o.w1,<-o.lin m h1 (by grind)] at h3
  exact ⟨by grind,by grind,h3⟩
 ·rintro ⟨h1,h2,h3⟩
  obtain ⟨p,hp,k1,k2⟩:=D.cover h1 h2
  have o:=D.pc p hp
  refine ⟨p,hp,k1,k2, ?_⟩
  rw [WE o.w0 o.w1,<-o.lin m k1 (by grind)]
  exact h3
theorem Q4 (D:Hc cs ds d M W):(Rj cs ds d).length<=201:=by
 have h1:=D.f1
 have h2:=D.f2
 unfold Rj
 split
 ·rw [Q5]
  have:=LB (cs:=cs) (ds:=ds) (b:=B5 cs ds) (e:=B6 cs ds)
  unfold L3
  omega
 ·simp
structure YZ (cs ds:List C4) (d:Rat×Rat) (B:Nat) (ss:List Bn):Prop where
 few:ss.length<=201
 ok:∀s∈ss,Di B s
 fin:∀s∈ss,∃x,s.2.2=some x
 sem:∀m,ss.any (Bw · (m,0))=true↔Ee cs ds d m
theorem cP {p:Pc}:p.lns.length=6:=rfl
theorem Tr (D:Hc cs ds d M W) {v w u:PV} (hv:CQ cs v) (hw:CQ ds w) (hu:aw d u) {Q:PV->Prop} (q:∀ss,YZ cs ds d (3*M+3*W+6) ss->Q (.tup ((canon 1 ss).map Dm))):Ea [v,w,u] Q:=by
 have hM:=D.hM
 have hW:=D.hW
 have fw:=Q4 D
 apply RG
 ac_rfl
 refine Xo D hv hw hu ?_
 ac_rfl
 refine SQ (λr acc=>∃us rs ss,us++rs=Rj cs ds d/\r=rs.map ka/\acc=ss.map Dm/\ss.length<=us.length/\(∀s∈ss,Di (3*M+3*W+6) s)/\(∀s∈ss,∃x,s.2.2=some x)/\∀m,ss.any (Bw · (m,0))=true↔∃p∈us,WG p.N p.lns p.b p.e m) ?_ ?_ _ _ ⟨[],_, [],rfl,rfl,rfl,by simp,by simp,by simp,by simp⟩
 ·rintro acc ⟨us,rs,ss,e,hr,rfl,h1,h2,h3,h4⟩
  have:rs= [] :=by cases rs with | nil=>rfl|cons _ _=>cases hr
  subst this
  rw [List.append_nil] at e
  subst e
  ac_rfl
  refine Tq (.inr rfl) (Xr ss) h2 (by omega) (by omega) ?_
  exact q ss ⟨by omega,h2,h3,λm=>by rw [h4,D.near_iff]⟩
 ·rintro y r acc R hR ⟨us,rs,ss,e,hr,rfl,h1,h2,h3,h4⟩
  cases rs with
  | nil=>cases hr
  | cons p rs=>
    cases hr
    have pm:p∈Rj cs ds d:=by rw [<-e];simp
    have ul:us.length+1<=201:=by rw [<-e] at fw;simp at fw;omega
    have o:=D.pc p pm
    repeat' array_get_dec
    refine Ux (gh o.w0 o.w1 (by omega)) o.lt o.bb o.be (by omega) hW (by rw [cP];decide) λtt nt=> ?_
    have tf:=nt.few
    repeat' array_get_dec
    refine Yr _ _ (hR _ ⟨us ++ [p],rs,ss++tt,by simpa using e,rfl,by rw [List.map_append],by simp;omega,λs hs=> ?_,λs hs=> ?_,λm=> ?_⟩)
    ·rcases List.mem_append.mp hs with hs|hs
     ·exact h2 s hs
     ·exact nt.ok s hs
    ·rcases List.mem_append.mp hs with hs|hs
     ·exact h3 s hs
     ·exact nt.fin s hs
    ·rw [List.any_append,Bool.or_eq_true,h4,nt.sem]
     constructor
     ·rintro (⟨x,hx,z⟩|z)
      ·exact ⟨x,by simp [hx],z⟩
      ·exact ⟨p,by simp,z⟩
     ·rintro ⟨x,hx,z⟩
      rcases List.mem_append.mp hx with hx|hx
      ·exact .inl ⟨x,hx,z⟩
      ·simp at hx;subst hx;exact .inr z
end
theorem De {a b:Rat} (h0:b≠0) (ha:Bd 8000 a) (hb:Bd 500 b) {Q:PV->Prop} (h:Q (fr (a/b))):Be [fr a,fr b] Q:=by
 refine ⟨MulOk.of ha.top hb.botI,MulOk.of ha.botI hb.top,rfl,Bk _ _ (DA (BO a) (Qq h0)) (Ap (BQ ha.top hb.botI) (by omega)) (Ap (BQ ha.botI hb.top) (by omega)) ?_⟩
 rw [F0] at h
 exact h
theorem D6 {a b:Rat} (ha:Bd 8000 a) (hb:Bd 8000 b) {Q:PV->Prop} (h:Q (.bl (decide (a<b)))):SB [fr a,fr b] Q:=by
 refine ⟨MulOk.of ha.top hb.botI,MulOk.of hb.top ha.botI, ?_⟩
 rw [<-e5] at h
 exact h
theorem Sy {B M:Nat} (vF:M+6*B+10<=3900) {a l a2 l2:C4} {r r2:List C4} {d:Rat×Rat} {m:Rat} (hc:∀c∈a::r,Fm B c) (OA:∀c∈a2::r2,Fm B c) (hr:KZ (a::r)) (gU:KZ (a2::r2)) (h0:r≠ []) (Tw:r2≠ []) (hl:(a::r).length<=100) (nU:(a2::r2).length<=100) (el:(a::r).getLast?=some l) (el2:(a2::r2).getLast?=some l2) (bm:Bd M m) (b1:Bd 100 d.1) (b2:Bd 100 d.2) (p1:d.1≠0) (p2:d.2≠0)
 {Q:PV->Prop} (q:Q (gE (XC a l a2 l2 (a::r) (a2::r2) d m))):EW [Al (a::r),Al (a2::r2), .tup [fr d.1,fr d.2],fr m, .bl false] Q:=by
 have ba:=(hc a (by simp)).m
 have bl:=(hc l (List.mem_of_getLast? el)).m
 have ba2:=(OA a2 (by simp)).m
 have bl2:=(OA l2 (List.mem_of_getLast? el2)).m
 have no:¬DD a l a2 l2 m->Q .non:=λh=>by unfold XC at q;rw [if_neg h] at q;exact q
 apply RB
 ac_rfl
 ·exact no λz=>by unfold DD at z;grind
 ·exact no λz=>by unfold DD at z;grind
 ·exact no λz=>by unfold DD at z;grind
 ·exact no λz=>by unfold DD at z;grind
 rename_i k1 k2 k3 k4
 have th:DD a l a2 l2 m:=by
  unfold DD
  exact ⟨⟨by grind,by grind⟩,by grind,by grind⟩
 have g1:a.1<=m/\m<=l.1:=by unfold DD at th;exact ⟨by grind,by grind⟩
 have g2:a2.1<=m/\m<=l2.1:=by unfold DD at th;exact ⟨by grind,by grind⟩
 obtain ⟨s1,es1⟩:=GF h0 el g1.1 g1.2
 obtain ⟨s2,es2⟩:=GF Tw el2 g2.1 g2.2
 have t1:=FT.spotC bm hr hc s1 es1
 have t2:=FT.spotC bm gU OA s2 es2
 unfold XC at q
 rw [if_pos th,es1,es2] at q
 have q:Q (fr (Sd (FG s1 s2 d))):=q
 have x1:=t1.x
 have x2:=t1.y
 have x3:=t1.z
 have y1:=t2.x
 have y2:=t2.y
 have y3:=t2.z
 have w1:=x1.sub y1
 have w2:=x2.sub y2
 have w3:=x3.sub y3
 have o1:Bd 8000 (absR (FG s1 s2 d).1):=((w1.div p1 b1).absR).mono (by omega)
 have o2:Bd 8000 (absR (FG s1 s2 d).2.1):=((w2.div p1 b1).absR).mono (by omega)
 have o3:Bd 8000 (absR (FG s1 s2 d).2.2):=((w3.div p2 b2).absR).mono (by omega)
 have m0:Bd 8000 (0:Rat):=jj.mono (by omega)
 have m1:=m0.mx o1
 have m2:=m1.mx o2
 refine DQ hc hr (by simp) (by omega) bm (by omega) ?_
 rw [es1,show IB (some s1)= .tup [fr s1.1,fr s1.2.1,fr s1.2.2] from rfl]
 ac_rfl
 refine DQ OA gU (by simp) (by omega) bm (by omega) ?_
 rw [es2,show IB (some s2)= .tup [fr s2.1,fr s2.2.1,fr s2.2.2] from rfl]
 ac_rfl
 rw [show rng 0 (Int.toNat 3)= [.int 0, .int 1, .int 2] from rfl]
 unfold Sd at q
 have st:∀{ls:List PV} {g o:Rat} {τ:Option AV->Rat->Option AV->BC} (k:∀z6 z9 g',g'=mx g (absR o)->Cc (Aw 6) Bh {nx:=Ao (aV 5) {nx:=λx=>Q PV.non,rt:=Q,bk:=λx=>False,ct:=λx=>False},rt:=Q,bk:=λx=>False,ct:=λx=>False} ls (τ z6 g' z9)),
  (g<absR o->∀z6 z9,Cc (Aw 6) Bh {nx:=Ao (aV 5) {nx:=λx=>Q PV.non,rt:=Q,bk:=λx=>False,ct:=λx=>False},rt:=Q,bk:=λx=>False,ct:=λx=>False} ls (τ z6 (absR o) z9))/\(¬g<absR o->∀z6 z9,Cc (Aw 6) Bh {nx:=Ao (aV 5) {nx:=λx=>Q PV.non,rt:=Q,bk:=λx=>False,ct:=λx=>False},rt:=Q,bk:=λx=>False,ct:=λx=>False} ls (τ z6 g z9)):=λk=>
  ⟨λh z6 z9=>k z6 z9 _ (by unfold mx;rw [if_pos h]),λh z6 z9=>k z6 z9 _ (by unfold mx;rw [if_neg h])⟩
 have d0:(if decide ((0:Int)=2)=true then (1:Int) else 0)=0:=rfl
 have d1:(if decide ((1:Int)=2)=true then (1:Int) else 0)=0:=rfl
 have d2:(if decide ((2:Int)=2)=true then (1:Int) else 0)=1:=rfl
 generalize Al (a::r)=P1 at *
 generalize Al (a2::r2)=P2 at *
 let S:Option AV->Rat->Option AV->BC:=λz6 g z9=> [some (.val P1),some (.val P2),some (.val (.tup [fr d.1,fr d.2])),some (.val (fr m)),some (.val (.bl false)),some (.val (fr g)),z6,some (.val (.tup [fr s1.1,fr s1.2.1,fr s1.2.2])),some (.val (.tup [fr s2.1,fr s2.2.1,fr s2.2.2])),z9]
 have k3:∀z6 z9 g,g=mx (mx (mx 0 (absR (FG s1 s2 d).1)) (absR (FG s1 s2 d).2.1)) (absR (FG s1 s2 d).2.2)->Cc (Aw 6) Bh {nx:=Ao (aV 5) {nx:=λx=>Q PV.non,rt:=Q,bk:=λx=>False,ct:=λx=>False},rt:=Q,bk:=λx=>False,ct:=λx=>False} [] (S z6 g z9):=by
  intro z6 z9 g e
  subst e
  dsimp only [S]
  ac_rfl
  exact q
 have o1':Bd 8000 (absR ((s1.1-s2.1)/d.1)):=o1
 have o2':Bd 8000 (absR ((s1.2.1-s2.2.1)/d.1)):=o2
 have o3':Bd 8000 (absR ((s1.2.2-s2.2.2)/d.2)):=o3
 have k2:∀z6 z9 g,g=mx (mx 0 (absR (FG s1 s2 d).1)) (absR (FG s1 s2 d).2.1)->Cc (Aw 6) Bh {nx:=Ao (aV 5) {nx:=λx=>Q PV.non,rt:=Q,bk:=λx=>False,ct:=λx=>False},rt:=Q,bk:=λx=>False,ct:=λx=>False} [.int 2] (S z6 g z9):=by
  intro z6 z9 g e
  subst e
  obtain ⟨t1,t2⟩:=st k3
  dsimp only [S] at t1 t2 ⊢
  refine jg.go ?_
  ac_rfl
  rw [d2]
  ac_rfl
  refine De p2 (w3.mono (by omega)) (b2.mono (by omega)) ?_
  ac_rfl
  rw [Kh]
  refine D6 (by first | exact m0|exact m1|exact m2) (by first | exact o1'|exact o2'|exact o3') ?_
  ac_rfl
  ·rename_i h
   rw [Kh]
   first | exact t1 h none none|exact t1 h _ _
  ·rename_i h
   first | exact t2 h none none|exact t2 h _ _
 have k1:∀z6 z9 g,g=mx 0 (absR (FG s1 s2 d).1)->Cc (Aw 6) Bh {nx:=Ao (aV 5) {nx:=λx=>Q PV.non,rt:=Q,bk:=λx=>False,ct:=λx=>False},rt:=Q,bk:=λx=>False,ct:=λx=>False} [.int 1, .int 2] (S z6 g z9):=by
  intro z6 z9 g e
  subst e
  obtain ⟨t1,t2⟩:=st k2
  dsimp only [S] at t1 t2 ⊢
  refine jg.go ?_
  ac_rfl
  rw [d1]
  ac_rfl
  refine De p1 (w2.mono (by omega)) (b1.mono (by omega)) ?_
  ac_rfl
  rw [Kh]
  refine D6 (by first | exact m0|exact m1|exact m2) (by first | exact o1'|exact o2'|exact o3') ?_
  ac_rfl
  ·rename_i h
   rw [Kh]
   first | exact t1 h none none|exact t1 h _ _
  ·rename_i h
   first | exact t2 h none none|exact t2 h _ _
 have k0:∀z6 z9 g,g=0->Cc (Aw 6) Bh {nx:=Ao (aV 5) {nx:=λx=>Q PV.non,rt:=Q,bk:=λx=>False,ct:=λx=>False},rt:=Q,bk:=λx=>False,ct:=λx=>False} [.int 0, .int 1, .int 2] (S z6 g z9):=by
  intro z6 z9 g e
  subst e
  obtain ⟨t1,t2⟩:=st k1
  dsimp only [S] at t1 t2 ⊢
  refine jg.go ?_
  ac_rfl
  rw [d0]
  ac_rfl
  refine De p1 (w1.mono (by omega)) (b1.mono (by omega)) ?_
  ac_rfl
  rw [Kh]
  refine D6 (by first | exact m0|exact m1|exact m2) (by first | exact o1'|exact o2'|exact o3') ?_
  ac_rfl
  ·rename_i h
   rw [Kh]
   first | exact t1 h none none|exact t1 h _ _
  ·rename_i h
   first | exact t2 h none none|exact t2 h _ _
 exact k0 _ _ 0 rfl
abbrev KG:AS:=
 (Ab (Ay (Wz (Fd Fg (AB (GW (Cw (M7 (aV 1)) 1 [2] (Aw 0) (Ar (AN 2 Ag (AB (aV 0) (AB (aV 1) AL)))) (aV 0))) AL))) (Aw 3))
   (Bj (SH (Gr (Ar (AX NF (aV 3) (Fd Fg (AB (aV 1) AL)))) (Ar (AX XA (AX Ai (aV 1) (aV 3)) (aV 2))))) (EA 1 ZS (AB (aV 3) (AB (aV 2) AL))) BB))
abbrev KH:AS:=
 (Ab (FD (M7 (aV 0)) (Aw 2) KG)
   (Ao (aV 1)))
abbrev Hj:AS:=
 (Ab (Kb (D2 AL) 1)
   KH)
def CM:AF:=Av 4 Hj
theorem L0 {x0:PV} {Q:PV->Prop} (h:Hj ⟨λ_=>Q .non,Q,λ_=>False,λ_=>False⟩ [some (.val x0),none,none,none]):CM [x0] Q:=h
abbrev Hi:AS:=
 (Ao (AN 2 BL (AB (AN 2 BS (AB (aV 0) (AB (aV 1) AL))) (AB (BF (AB (aC (.int 1)) (AB (aC (.int 2)) AL))) AL))))
def Cs:AF:=Av 2 Hi
theorem Lz {x0 x1:PV} {Q:PV->Prop} (h:Hi ⟨λ_=>Q .non,Q,λ_=>False,λ_=>False⟩ [some (.val x0),some (.val x1)]):Cs [x0,x1] Q:=h
abbrev Lh:AS:=
 (Ab (Ay (GW (Cw (M7 (AX BY (aV 0) (aV 1))) 1 [2,3] (Aw 0) (Gq (Ar (AN 2 Ag (AB (aV 1) (AB (AX Ai (aV 0) (aC (.int 0))) AL)))) (Ar (AN 2 Ag (AB (AX Ai (aV 0) (aC (.int 0))) (AB (aV 2) AL))))) (AX Ai (aV 0) (aC (.int 0))))) (Aw 4))
   (Ao (AN 1 CM (AB (AX BY (GW (D2 (AB (aV 2) (AB (aV 3) AL)))) (aV 4)) AL))))
abbrev D5:AS:=
 (Ab (Bj (DG (Ar (AN 2 Ag (AB (aV 2) (AB (aV 3) AL))))) (Ao (GW (D2 AL))) BB)
   Lh)
abbrev GL:AS:=
 (Ab (Ay (eB (Ar (AN 2 Ag (AB (AX Ai (AX Ai (aV 0) (M6 FF (aC (.int 1)))) (aC (.int 0))) (AB (AX Ai (AX Ai (aV 1) (M6 FF (aC (.int 1)))) (aC (.int 0))) AL)))) (AX Ai (AX Ai (aV 0) (M6 FF (aC (.int 1)))) (aC (.int 0))) (AX Ai (AX Ai (aV 1) (M6 FF (aC (.int 1)))) (aC (.int 0)))) (Aw 3))
   D5)
abbrev Fn:AS:=
 (Ab (Ay (eB (Ar (AN 2 Ag (AB (AX Ai (AX Ai (aV 1) (aC (.int 0))) (aC (.int 0))) (AB (AX Ai (AX Ai (aV 0) (aC (.int 0))) (aC (.int 0))) AL)))) (AX Ai (AX Ai (aV 0) (aC (.int 0))) (aC (.int 0))) (AX Ai (AX Ai (aV 1) (aC (.int 0))) (aC (.int 0)))) (Aw 2))
   GL)
def DR:AF:=Av 5 Fn
theorem Nn {x0 x1:PV} {Q:PV->Prop} (h:Fn ⟨λ_=>Q .non,Q,λ_=>False,λ_=>False⟩ [some (.val x0),some (.val x1),none,none,none]):DR [x0,x1] Q:=h
abbrev Ma:AS:=
 (Ab (Ay (GW (Cw (SJ (AB (aC (.int 3)) AL)) 1 [2,5,6] (Aw 0) Fe (AN 2 Be (AB (AN 2 A9 (AB (AX Ai (aV 2) (aV 0)) (AB (AX Ai (aV 3) (aV 0)) AL))) (AB (AX Ai (aV 1) (Fd Uc (AB (AX NF (aV 0) (aC (.int 2))) AL))) AL))))) (Aw 4))
   (Ao (AX BY (aV 4) (GW (Cw (M7 (aV 4)) 1 [] (Aw 0) Fe (BF (AB (M6 FF (AX Ai (aV 0) (aC (.int 0)))) (AB (AX Ai (aV 0) (aC (.int 1))) AL))))))))
abbrev LH:AS:=
 (Ab (Ay (BF (AB (AN 2 Ca (AB (aV 0) (AB (aV 3) AL))) (AB (AN 2 Ca (AB (aV 1) (AB (aV 3) AL))) AL))) (L9 2 (Ak (Aw 5) (Ak (Aw 6) CS))))
   Ma)
def DE:AF:=Av 7 LH
theorem Ot {x0 x1 x2 x3:PV} {Q:PV->Prop} (h:LH ⟨λ_=>Q .non,Q,λ_=>False,λ_=>False⟩ [some (.val x0),some (.val x1),some (.val x2),some (.val x3),none,none,none]):DE [x0,x1,x2,x3] Q:=h
abbrev Lg:AS:=
 (Ab (Ay (AN 2 Be (AB (aV 0) (AB (AN 2 A9 (AB (aV 0) (AB (aV 1) AL))) AL))) (Aw 4))
   (Ao (AN 2 BS (AB (aV 2) (AB (AN 2 BL (AB (aV 4) (AB (AN 2 A9 (AB (aV 3) (AB (aV 2) AL))) AL))) AL)))))
abbrev Iq:AS:=
 (Ab (Bj (Ar (AX i8 (AX Co (AX Ai (aV 0) (aC (.int 0))) (AX Ai (aV 1) (aC (.int 0)))) (aC (.int 0)))) (Ao (aC .non)) BB)
   Lg)
def DP:AF:=Av 5 Iq
theorem Nm {x0 x1 x2 x3:PV} {Q:PV->Prop} (h:Iq ⟨λ_=>Q .non,Q,λ_=>False,λ_=>False⟩ [some (.val x0),some (.val x1),some (.val x2),some (.val x3),none]):DP [x0,x1,x2,x3] Q:=h
abbrev IC:AS:=
 (Ab (Ay (AN 4 DP (AB (AN 2 A9 (AB (aV 9) (AB (BF (AB (aC (.int 1)) (AB (aC (.int 1)) AL))) AL))) (AB (AN 2 A9 (AB (aV 10) (AB (BF (AB (aC (.int 1)) (AB (aC (.int 1)) AL))) AL))) (AB (aV 5) (AB (aV 6) AL))))) (Aw 11))
   (Bj (Ar (AX LM (aV 11) (aC .non))) (EA 4 JW (AB (aV 11) AL)) BB))
abbrev ID:AS:=
 (Ab (OS 7 8 (AB (AN 4 DE (AB (aV 0) (AB (aV 1) (AB (aV 2) (AB (aV 5) AL))))) (AB (AN 4 DE (AB (aV 0) (AB (aV 1) (AB (aV 2) (AB (aV 6) AL))))) AL)))
   (FD (eF (AB (aV 7) (AB (aV 8) AL))) (L9 2 (Ak (Aw 9) (Ak (Aw 10) CS))) IC))
abbrev IF:AS:=
 (Ab (FD (eF (AB (aV 3) (AB (Vk (aV 3) (Vn (aC (.int 1))) Vm) AL))) (L9 2 (Ak (Aw 5) (Ak (Aw 6) CS))) ID)
   (Ao (AN 1 CM (AB (aV 4) AL))))
abbrev IE:AS:=
 (Ab (Kb (Vi (AB (aV 3) AL)) 4)
   IF)
abbrev GJ:AS:=
 (Ab (Ay (AN 2 DR (AB (aV 0) (AB (aV 1) AL))) (Aw 3))
   IE)
def CH:AF:=Av 12 GJ
theorem Jd {x0 x1 x2:PV} {Q:PV->Prop} (h:GJ ⟨λ_=>Q .non,Q,λ_=>False,λ_=>False⟩ [some (.val x0),some (.val x1),some (.val x2),none,none,none,none,none,none,none,none,none]):CH [x0,x1,x2] Q:=h
abbrev Gb:AS:=
 (Ab (Ay (AN 5 EW (AB (aV 0) (AB (aV 1) (AB (aV 2) (AB (aV 3) (AB (aC (.bl false)) AL)))))) (Aw 4))
   (Ao (Yh (AX LM (aV 4) (aC .non)) (AX X9 (AX Ai (aV 4) (aC (.int 0))) (AX Ai (aV 4) (aC (.int 1)))))))
def CZ:AF:=Av 5 Gb
theorem K5 {x0 x1 x2 x3:PV} {Q:PV->Prop} (h:Gb ⟨λ_=>Q .non,Q,λ_=>False,λ_=>False⟩ [some (.val x0),some (.val x1),some (.val x2),some (.val x3),none]):CZ [x0,x1,x2,x3] Q:=h
theorem Hq {v:PV} {ms:List Rat} {B:Nat} (hv:v= .lst (ms.map fr)) (hB:B<=4000) (hl:ms.length<=10000) (hb:∀m∈ms,Bd B m) {Q:PV->Prop} (q:Q (.lst ((CD ms).map fr))):CM [v] Q:=by
 subst hv
 apply L0
 ac_rfl
 refine C1 fr (λus vs τ=>∃(z2 z3:Option AV),τ= [some (.val (.lst (ms.map fr))),some (.own ((CD us).map fr)),z2,z3]) ?_ ?_ ⟨_,_,rfl⟩
 ·rintro τ ⟨z2,z3,rfl⟩
  ac_rfl
  exact q
 ·rintro us m vs e τ R hR ⟨z2,z3,rfl⟩
  have ul:us.length<=10000:=by rw [<-e] at hl;simp at hl;omega
  have rl:=Ef (xs:=us)
  have bm:=hb m (by rw [<-e];simp)
  have bu:∀x∈CD us,Bd B x:=λx hx=>hb x (by rw [<-e];simp [Bm.mp hx])
  have hs:QJ (CD us):=CJ
  have fin:∀(ws:List Rat) z2 z3,ws=ins (CD us) m->R [some (.val (.lst (ms.map fr))),some (.own (ws.map fr)),z2,z3] :=λws z2 z3 h=>hR _ ⟨z2,z3,by rw [h,show CD (us ++ [m])=ins (CD us) m by unfold CD;rw [List.foldl_append];rfl]⟩
  clear hR
  generalize CD us=rs at *
  ac_rfl
  refine Dk fr fr (λx=>decide (x<m)) (Bd B) (λx bx R N h1 h2=> ?_) rs [] bu ?_
  ·ac_rfl
   ·rename_i z;exact h1 (decide_eq_true z)
   ·rename_i z;exact h2 (decide_eq_false z)
  have fl:(rs.filter λx=>decide (x<m)).length<=rs.length:=List.length_filter_le _ _
  have ei:=UM hs (O5 (x:=m) hs)
  rw [List.nil_append]
  generalize (rs.filter λx=>decide (x<m))=fs at *
  ac_rfl
  ·rename_i h1
   have e1:rs[fs.length]? =none:=List.getElem?_eq_none (by omega)
   rw [e1,if_neg (by simp)] at ei
   have:=fin _ (some (.val (fr m))) (some (.val (.int fs.length))) ei.symm
   rw [List.map_append,List.map_cons,List.map_take,List.map_drop] at this
   exact this
  ·rename_i h1 d e1 _ h2
   have e1':rs[fs.length]? =some d:=e1
   rw [e1',if_neg (by simpa using h2)] at ei
   have:=fin _ (some (.val (fr m))) (some (.val (.int fs.length))) ei.symm
   rw [List.map_append,List.map_cons,List.map_take,List.map_drop] at this
   exact this
  ·rename_i h1 d e1 _ h2
   have e1':rs[fs.length]? =some d:=e1
   rw [e1',if_pos (by rw [h2])] at ei
   exact fin _ _ _ ei.symm
theorem Od {a b:Rat} (ba:Bd 3900 a) (bb:Bd 3900 b) (hb:Bd 4000 (a+b)) {Q:PV->Prop} (q:Q (fr ((a+b)*(1/2)))):Cs [fr a,fr b] Q:=by
 have bh:Bd 8 (1/2:Rat):=oF
 apply Lz
 ac_rfl
 exact q
theorem kP {a b:Rat} (h:b<a):a=mx a b:=by unfold mx;split <;> grind
theorem kQ {a b:Rat} (h:¬b<a):b=mx a b:=by unfold mx;split <;> grind
theorem kN {a b:Rat} (h:a<b):a=mn a b:=by unfold mn;split <;> grind
theorem kO {a b:Rat} (h:¬a<b):b=mn a b:=by unfold mn;split <;> grind
def Tz (cs ds:List C4):List Rat:=if B5 cs ds<B6 cs ds then L3 cs ds else []
theorem Qk {cs ds:List C4} {d:Rat×Rat} {M W:Nat} (D:Hc cs ds d M W) {Q:PV->Prop} (q:Q (.lst ((Tz cs ds).map fr))):DR [Al cs,Al ds] Q:=by
 have k1:=D.fstB
 have k2:=D.fstB2
 have k3:=D.lstB
 have k4:=D.lstB2
 have k5:=D.begB
 have k6:=D.endB
 have hM:=D.hM
 have f1:=D.f1
 have f2:=D.f2
 have hc:∀c∈cs++ds,Bd M c.1:=λc hc=>by
  rcases List.mem_append.mp hc with h|h
  ·exact D.m1 c h
  ·exact D.m2 c h
 unfold Tz L3 Ek B5 B6 at q
 unfold B5 at k5
 unfold B6 at k6
 obtain ⟨a,r,l,ecs,h0,el⟩:=open2 D.t1
 obtain ⟨a2,r2,l2,eds,Tw,el2⟩:=open2 D.t2
 have el':cs.getLast?=some l:=by rw [ecs];exact el
 have el2':ds.getLast?=some l2:=by rw [eds];exact el2
 rw [Bb el',Bb el2'] at q k6
 rw [show OY cs=a.1 by rw [ecs];rfl,show OY ds=a2.1 by rw [eds];rfl] at q k5
 rw [Bb el'] at k3
 rw [Bb el2'] at k4
 rw [show OY cs=a.1 by rw [ecs];rfl] at k1
 rw [show OY ds=a2.1 by rw [eds];rfl] at k2
 have P0:∀{Q:PV->Prop},Q (cor a)->Ai (Al cs) (.int 0) Q:=λh=>by rw [ecs];exact VI h
 have P1:∀{Q:PV->Prop},Q (cor a2)->Ai (Al ds) (.int 0) Q:=λh=>by rw [eds];exact VI h
 have rest:∀{f t:Rat} {z4:Option AV},f=mx a.1 a2.1->t=mn l.1 l2.1->D5 ⟨λ_=>Q .non,Q,λ_=>False,λ_=>False⟩ [some (.val (Al cs)),some (.val (Al ds)),some (.val (fr f)),some (.val (fr t)),z4] :=by
  rintro f t z4 ef et
  rw [<-ef] at q k5
  rw [<-et] at q k6
  ac_rfl
  ·rename_i z
   rw [if_neg z] at q
   exact q
  ·rename_i z
   rw [if_pos z] at q
   refine Dk cor (λc=>fr c.1) (Kq f t) (λc=>Bd M c.1) (λc bc R N h1 h2=> ?_) (cs++ds) [] hc ?_
   ·ac_rfl
    ·rename_i y1 y2;exact h1 (by unfold Kq;rw [decide_eq_true y1,decide_eq_true y2];rfl)
    ·rename_i y1 y2;exact h2 (by unfold Kq;rw [decide_eq_true y1,decide_eq_false y2];rfl)
    ·rename_i y1;exact h2 (by unfold Kq;rw [decide_eq_false y1];rfl)
   rw [List.nil_append]
   have fl1:=List.length_filter_le (Kq f t) (cs++ds)
   rw [List.length_append] at fl1
   ac_rfl
   refine Hq (ms:= [f,t] ++ (cs.filter (Kq f t)++ds.filter (Kq f t)).map (·.1)) (B:=M) ?_ (by omega) ?_ ?_ q
   ·rw [<-List.filter_append,List.map_append,List.map_map];rfl
   ·rw [<-List.filter_append]
    simp only [List.length_append,List.length_map,List.length_cons,List.length_nil]
    omega
   ·intro x hx
    rcases List.mem_append.mp hx with hx|hx
    ·simp only [List.mem_cons,List.not_mem_nil,or_false] at hx
     rcases hx with rfl|rfl
     ·exact k5
     ·exact k6
    ·obtain ⟨c,h,rfl⟩:=List.mem_map.mp hx
     rw [<-List.filter_append] at h
     exact hc c (List.mem_filter.mp h).1
 apply Nn
 unfold Fn GL
 generalize D5=T at rest ⊢
 clear q
 ac_rfl
 refine P1 ?_
 ac_rfl
 refine P0 ?_
 ac_rfl
 ·rename_i z
  refine P0 ?_
  ac_rfl
  ·rename_i y
   exact rest (kP z) (kN y)
  ·rename_i y
   exact rest (kP z) (kO y)
 ·rename_i z
  refine P1 ?_
  ac_rfl
  ·rename_i y
   exact rest (kQ z) (kN y)
  ·rename_i y
   exact rest (kQ z) (kO y)
theorem fD (i:Int):0<=i*i:=by
 rcases Int.le_total 0 i with h|h
 ·exact Int.mul_nonneg h h
 ·exact Int.mul_nonneg_of_nonpos_of_nonpos h h
def Tx (o:T3):List Rat:= [o.1,o.2.1,o.2.2, -o.1, -o.2.1, -o.2.2]
theorem LR {cs ds:List C4} {d:Rat×Rat} {M W:Nat} (D:Hc cs ds d M W) {b e m:Rat} (tg:je cs ds b e) (h1:b<=m) (h2:m<=e) (bm:Bd M m) {Q:PV->Prop} (q:Q (.lst ((Tx (F2 cs ds d m)).map fr))):DE [Al cs,Al ds, .tup [fr d.1,fr d.2],fr m] Q:=by
 have hM:=D.hM
 obtain ⟨s,es⟩:=tg.one m h1 h2
 obtain ⟨t,et⟩:=tg.other m h1 h2
 have t1:=(FT.spotC bm D.r1 D.c1 s es).mono (B':=1060) (by omega)
 have t2:=(FT.spotC bm D.r2 D.c2 t et).mono (B':=1060) (by omega)
 have x1:=t1.x
 have x2:=t1.y
 have x3:=t1.z
 have y1:=t2.x
 have y2:=t2.y
 have y3:=t2.z
 have z1:=x1.sub y1
 have z2:=x2.sub y2
 have z3:=x3.sub y3
 have b1:=D.b1
 have b2:=D.b2
 have n1:d.1≠0:=by have:=D.p1;grind
 have n2:d.2≠0:=by have:=D.p2;grind
 have f1:=D.f1
 have f2:=D.f2
 have k1:=D.t1
 have k2:=D.t2
 apply Ot
 ac_rfl
 refine DQ D.c1 D.r1 (by intro z;subst z;simp at k1) (by omega) bm (by omega) ?_
 rw [es,show IB (some s)= .tup [fr s.1,fr s.2.1,fr s.2.2] from rfl]
 ac_rfl
 refine DQ D.c2 D.r2 (by intro z;subst z;simp at k2) (by omega) bm (by omega) ?_
 rw [et,show IB (some t)= .tup [fr t.1,fr t.2.1,fr t.2.2] from rfl]
 ac_rfl
 rw [show rng 0 (Int.toNat 3)= [.int 0, .int 1, .int 2] from rfl]
 repeat' array_get_dec
 rw [show (if decide ((0:Int)=2)=true then (1:Int) else 0)=0 from rfl]
 repeat' array_get_dec
 rw [show (if decide ((1:Int)=2)=true then (1:Int) else 0)=0 from rfl]
 repeat' array_get_dec
 rw [show (if decide ((2:Int)=2)=true then (1:Int) else 0)=1 from rfl]
 repeat' array_get_dec
 have q:Q (.lst ((Tx (FG ((spotC cs m).getD (0,0,0)) ((spotC ds m).getD (0,0,0)) d)).map fr)):=q
 rw [es,et] at q
 exact q
def Dp (u v b e:Rat):Option Rat:=if 0<=u.num*v.num then none else some (b+u/(u-v)*(e-b))
theorem Qj {u v b e:Rat} {W M:Nat} (bu:Bd W u) (bv:Bd W v) (bb:Bd M b) (be:Bd M e) (hW:W<=1100) (hM:M<=150) {Q:PV->Prop} (q:Q (Yx (Dp u v b e))):DP [fr u,fr v,fr b,fr e] Q:=by
 apply Nm
 ac_rfl
 refine ⟨MulOk.of (m:=1100) (n:=1100) (Ap bu.top hW) (Ap bv.top hW), ?_⟩
 ac_rfl
 ·rename_i z
  unfold Dp at q
  rw [if_pos z] at q
  exact q
 ·rename_i z
  unfold Dp at q
  rw [if_neg z] at q
  have ne:u-v≠0:=λy=>by
   have:u=v:=by grind
   subst this
   exact z (fD _)
  have d1:=bu.sub bv
  have d2:=bu.div ne d1
  have d3:=be.sub bb
  have d4:=d2.mul d3
  ac_rfl
  exact q
def Gv (p:Pc):List Rat:=((Tx p.o0).zip (Tx p.o1)).filterMap λx=>Dp (x.1-1) (x.2-1) p.b p.e
def NT (cs ds:List C4) (d:Rat×Rat):List Rat:=CD (Tz cs ds++(Rj cs ds d).flatMap Gv)
theorem Kr (p:Pc):(Gv p).length<=6:=Nat.le_trans (List.length_filterMap_le ..) (by show 6<=6;omega)
theorem Qm {W:Nat} {o:T3} (h:FT W o):∀x∈Tx o,Bd W x:=by
 intro x hx
 simp only [Tx,List.mem_cons,List.not_mem_nil,or_false] at hx
 rcases hx with rfl|rfl|rfl|rfl|rfl|rfl
 ·exact h.x
 ·exact h.y
 ·exact h.z
 ·exact h.x.neg
 ·exact h.y.neg
 ·exact h.z.neg
theorem aE {u v b e x:Rat} {W M:Nat} (bu:Bd W u) (bv:Bd W v) (bb:Bd M b) (be:Bd M e) (h:Dp u v b e=some x):Bd (3*W+3*M+3) x:=by
 unfold Dp at h
 split at h
 ·cases h
 ·rename_i z
  cases h
  have ne:u-v≠0:=λy=>by
   have:u=v:=by grind
   subst this
   exact z (fD _)
  exact (bb.add ((bu.div ne (bu.sub bv)).mul (be.sub bb))).mono (by omega)
theorem Yt {p:Pc} {W M:Nat} (h0:FT W p.o0) (h1:FT W p.o1) (bb:Bd M p.b) (be:Bd M p.e):∀x∈Gv p,Bd (3*W+3*M+9) x:=by
 intro x hx
 unfold Gv at hx
 obtain ⟨y,hy,e⟩:=List.mem_filterMap.mp hx
 have u:=Qm h0 y.1 (List.of_mem_zip hy).1
 have v:=Qm h1 y.2 (List.of_mem_zip hy).2
 exact (aE (u.sub eG) (v.sub eG) bb be e).mono (by omega)
abbrev WJ (p:Rat×Rat):PV:= .tup [fr p.1,fr p.2]
theorem Tv (ts:List Rat):En (ts.map fr) (Hd (ts.map fr) (some 1) none)=(ts.zip ts.tail).map WJ:=by
 rw [m8,<-List.map_drop,aj]
 rw [List.drop_one]
def U9 (cs ds:List C4) (d:Rat×Rat) (p:Rat×Rat):Pc:=⟨p.1,p.2,F2 cs ds d p.1,F2 cs ds d p.2⟩
theorem HI {α:Type} {f:α->List Rat} (h:∀a,(f a).length<=6):∀us:List α,(us.flatMap f).length<=6*us.length
 | [] =>by simp
 | a::r=>by
   have:=h a
   have:=HI h r
   simp only [List.flatMap_cons,List.length_append,List.length_cons]
   omega
theorem S4 {cs ds:List C4} {d:Rat×Rat} {M W:Nat} (D:Hc cs ds d M W):∀x∈NT cs ds d,Bd (3*W+3*M+9) x:=by
 intro x hx
 rcases List.mem_append.mp (Bm.mp hx) with hx|hx
 ·unfold Tz at hx
  split at hx
  ·exact (J0 D.m1 D.m2 D.begB D.endB hx).mono (by omega)
  ·cases hx
 ·obtain ⟨p,hp,hx⟩:=List.mem_flatMap.mp hx
  have o:=D.pc p hp
  exact Yt o.w0 o.w1 o.bb o.be x hx
theorem Wl {cs ds:List C4} {d:Rat×Rat} {M W:Nat} (D:Hc cs ds d M W):(Tz cs ds).length<=202:=by
 have h1:=D.f1
 have h2:=D.f2
 unfold Tz
 split
 ·have:=LB (cs:=cs) (ds:=ds) (b:=B5 cs ds) (e:=B6 cs ds)
  unfold L3
  omega
 ·simp
theorem XZ {cs ds:List C4} {d:Rat×Rat} {M W:Nat} (D:Hc cs ds d M W):(NT cs ds d).length<=1500:=by
 refine Nat.le_trans Ef ?_
 have h1:=Wl D
 have h2:=HI Kr (Rj cs ds d)
 have h3:=Q4 D
 rw [List.length_append]
 omega
theorem Qg {cs ds:List C4} {d:Rat×Rat} {M W:Nat} (D:Hc cs ds d M W) {Q:PV->Prop} (q:Q (.lst ((NT cs ds d).map fr))):CH [Al cs,Al ds, .tup [fr d.1,fr d.2]] Q:=by
 have hM:=D.hM
 have hW:=D.hW
 have tf:=Wl D
 have mb:=S4 D
 apply Jd
 ac_rfl
 refine Qk D ?_
 ac_rfl
 rw [Tv]
 have ep:(Rj cs ds d)=((Tz cs ds).zip (Tz cs ds).tail).map (U9 cs ds d):=by
  unfold Rj Tz
  split
  ·rfl
  ·rfl
 refine C1 WJ (λus vs τ=>∃z5 z6 z7 z8 z9 z10 z11,τ= [some (.val (Al cs)),some (.val (Al ds)),some (.val (.tup [fr d.1,fr d.2])),some (.val (.lst ((Tz cs ds).map fr))),some (.own ((Tz cs ds++us.flatMap λp=>Gv (U9 cs ds d p)).map fr)),z5,z6,z7,z8,z9,z10,z11]) ?_ ?_ ⟨_,_,_,_,_,_,_,by rw [List.flatMap_nil,List.append_nil]⟩
 ·rintro τ ⟨z5,z6,z7,z8,z9,z10,z11,rfl⟩
  have fl:=HI Kr (Rj cs ds d)
  have pf:=Q4 D
  ac_rfl
  refine Hq rfl (B:=3*W+3*M+9) (by omega) ?_ ?_ ?_
  ·rw [ep,List.flatMap_map,List.length_map] at fl
   rw [ep,List.length_map] at pf
   rw [List.length_append]
   omega
  ·intro m hm
   refine mb m (Bm.mpr ?_)
   rw [ep,List.flatMap_map]
   exact hm
  ·unfold NT at q
   rw [ep,List.flatMap_map] at q
   exact q
 ·rintro us p vs e τ R hR ⟨z5,z6,z7,z8,z9,z10,z11,rfl⟩
  have pm:U9 cs ds d p∈Rj cs ds d:=by rw [ep];exact List.mem_map.mpr ⟨p,by rw [<-e];simp,rfl⟩
  have h:B5 cs ds<B6 cs ds:=by
   have o:=D.pc _ pm
   have:=o.lt
   have:=o.lo
   have:=o.hi
   grind
  have tg:=D.tog h
  have o:=D.pc _ pm
  have o1:B5 cs ds<=p.1:=o.lo
  have o2:p.2<=B6 cs ds:=o.hi
  have o3:p.1<p.2:=o.lt
  have bb:Bd M p.1:=o.bb
  have be:Bd M p.2:=o.be
  have ul:us.length<=202:=by
   have h1:=congrArg List.length e
   rw [MR] at h1
   simp at h1
   omega
  have fl:=HI (λp=>Kr (U9 cs ds d p)) us
  ac_rfl
  refine LR D tg o1 (by grind) bb ?_
  ac_rfl
  refine LR D tg (by grind) o2 be ?_
  ac_rfl
  rw [aj]
  refine C1 WJ (λas bs τ=>∃z9 z10 z11,τ= [some (.val (Al cs)),some (.val (Al ds)),some (.val (.tup [fr d.1,fr d.2])),some (.val (.lst ((Tz cs ds).map fr))),some (.own ((Tz cs ds++(us.flatMap λp=>Gv (U9 cs ds d p))++as.filterMap λx=>Dp (x.1-1) (x.2-1) p.1 p.2).map fr)),some (.val (fr p.1)),some (.val (fr p.2)),some (.val (.lst ((Tx (F2 cs ds d p.1)).map fr))),some (.val (.lst ((Tx (F2 cs ds d p.2)).map fr))),z9,z10,z11]) ?_ ?_ ⟨_,_,_,by rw [List.filterMap_nil,List.append_nil]⟩
  ·rintro τ ⟨z9,z10,z11,rfl⟩
   exact hR _ ⟨some (.val (fr p.1)),some (.val (fr p.2)),some (.val (.lst ((Tx (F2 cs ds d p.1)).map fr))),some (.val (.lst ((Tx (F2 cs ds d p.2)).map fr))),z9,z10,z11,by rw [List.flatMap_append,List.flatMap_cons,List.flatMap_nil,List.append_nil,<-List.append_assoc];rfl⟩
  ·rintro as x bs e2 τ R2 l9 ⟨z9,z10,z11,rfl⟩
   have xm:x∈(Tx (F2 cs ds d p.1)).zip (Tx (F2 cs ds d p.2)):=by rw [<-e2];simp
   have al:as.length<=6:=by
    have h1:=congrArg List.length e2
    have h2:((Tx (F2 cs ds d p.1)).zip (Tx (F2 cs ds d p.2))).length=6:=rfl
    rw [h2] at h1
    simp at h1
    omega
   have fm:=List.length_filterMap_le (λx:Rat×Rat=>Dp (x.1-1) (x.2-1) p.1 p.2) as
   have bu:=Qm o.w0 x.1 (List.of_mem_zip xm).1
   have bv:=Qm o.w1 x.2 (List.of_mem_zip xm).2
   have fin:∀(o:Option Rat) z9 z10 z11,o=Dp (x.1-1) (x.2-1) p.1 p.2->R2 [some (.val (Al cs)),some (.val (Al ds)),some (.val (.tup [fr d.1,fr d.2])),some (.val (.lst ((Tz cs ds).map fr))),some (.own ((Tz cs ds++(us.flatMap λp=>Gv (U9 cs ds d p))++(as.filterMap λx=>Dp (x.1-1) (x.2-1) p.1 p.2)).map fr++o.toList.map fr)),some (.val (fr p.1)),some (.val (fr p.2)),some (.val (.lst ((Tx (F2 cs ds d p.1)).map fr))),some (.val (.lst ((Tx (F2 cs ds d p.2)).map fr))),z9,z10,z11] :=λo z9 z10 z11 eo=>by
    refine l9 _ ⟨z9,z10,z11, ?_⟩
    rw [<-List.map_append,List.append_assoc (Tz cs ds++_),List.filterMap_append]
    have:List.filterMap (λx:Rat×Rat=>Dp (x.1-1) (x.2-1) p.1 p.2) [x] =o.toList:=by
     rw [List.filterMap_cons,<-eo]
     cases o <;> rfl
    rw [this]
   clear l9
   generalize (as.filterMap λx:Rat×Rat=>Dp (x.1-1) (x.2-1) p.1 p.2)=gs at *
   generalize (us.flatMap λp=>Gv (U9 cs ds d p))=ff at *
   ac_rfl
   refine Qj (W:=W+2) (M:=M) ((bu.sub eG).mono (by omega)) ((bv.sub eG).mono (by omega)) bb be (by omega) hM ?_
   generalize hq:Dp (x.1-1) (x.2-1) p.1 p.2=q' at *
   cases q' with
   | none=>
     rw [show Yx none= .non from rfl]
     ac_rfl
     have:=fin none (some (.val (fr x.1))) (some (.val (fr x.2))) (some (.val .non)) rfl
     rw [Option.toList_none,List.map_nil,List.append_nil] at this
     exact this
   | some m=>
     rw [show Yx (some m)=fr m from rfl]
     ac_rfl
     exact fin (some m) _ _ _ rfl
theorem NS {cs ds:List C4} {d:Rat×Rat} {M W:Nat} (D:Hc cs ds d M W) {B X:Nat} (hc:∀c∈cs,Fm B c) (OA:∀c∈ds,Fm B c) {m:Rat} (bm:Bd X m) (hB:X+6*B+10<=3900) {Q:PV->Prop} (q:Q (.bl (decide (Ee cs ds d m)))):CZ [Al cs,Al ds, .tup [fr d.1,fr d.2],fr m] Q:=by
 have n1:d.1≠0:=by have:=D.p1;grind
 have n2:d.2≠0:=by have:=D.p2;grind
 have f1:=D.f1
 have f2:=D.f2
 have r1:=D.r1
 have r2:=D.r2
 have b1:=D.b1
 have b2:=D.b2
 have hq:∀o:Option Rat,(match o with | none=>False|some g=>g<1)=Ee cs ds d m->Q (.bl (match o with | none=>false|some g=>decide (g<1))):=λo e=>by
  cases o with
  | none=>rw [decide_eq_false (by rw [<-e];exact λz=>z)] at q;exact q
  | some g=>rw [show decide (Ee cs ds d m)=decide (g<1) from decide_eq_decide.mpr (by rw [<-e])] at q;exact q
 obtain ⟨a,r,l,rfl,h0,el⟩:=open2 D.t1
 obtain ⟨a2,r2',l2,rfl,Tw,el2⟩:=open2 D.t2
 apply K5
 ac_rfl
 refine Sy hB hc OA r1 r2 h0 Tw f1 f2 el el2 bm b1 b2 n1 n2 ?_
 have eg:(match XC a l a2 l2 (a::r) (a2::r2') d m with | none=>False|some g=>g<1)=Ee (a::r) (a2::r2') d m:=by
  unfold XC Ee B5 B6
  rw [Ds,Ds,Bb el,Bb el2]
  by_cases t:DD a l a2 l2 m
  ·rw [if_pos t]
   unfold DD at t
   obtain ⟨⟨t1,t2⟩,t3,t4⟩:=t
   have e1:mx a.1 a2.1<=m:=by unfold mx;split <;> grind
   have e2:m<mn l.1 l2.1:=by unfold mn;split <;> grind
   show (Sd _<1)=_
   simp only [e1,e2,true_and]
   rfl
  ·rw [if_neg t]
   show False=_
   refine (eq_false λz=>t ?_).symm
   obtain ⟨z1,z2,_⟩:=z
   unfold DD
   have e1:a.1<=mx a.1 a2.1:=by unfold mx;split <;> grind
   have e2:a2.1<=mx a.1 a2.1:=by unfold mx;split <;> grind
   have e3:mn l.1 l2.1<=l.1:=by unfold mn;split <;> grind
   have e4:mn l.1 l2.1<=l2.1:=by unfold mn;split <;> grind
   exact ⟨⟨by grind,by grind⟩,by grind,by grind⟩
 have hq:=hq _ eg
 generalize XC a l a2 l2 (a::r) (a2::r2') d m=o at *
 cases o with
 | none=>
   rw [show gE none= .non from rfl]
   ac_rfl
   exact hq
 | some g=>
   rw [show gE (some g)=fr g from rfl]
   ac_rfl
   have e:decide (g.num<(g.den:Int))=decide (g<1):=decide_eq_decide.mpr (by rw [Rat.lt_iff];simp)
   rw [e]
   exact hq
theorem uV {r:Rat} (h:r.num.natAbs<2^3:=by decide +kernel) (h2:r.den<2^3:=by decide +kernel):Bd 3 r:=⟨h,h2⟩
theorem uU {r:Rat} (h:r.num.natAbs<2^2:=by decide +kernel) (h2:r.den<2^2:=by decide +kernel):Bd 2 r:=⟨h,h2⟩
theorem W0 {Q:PV->Prop} (q:∀d:Rat×Rat,Bd 3 d.1->Bd 3 d.2->1/3<=d.1->1/3<=d.2->Q (.tup [fr d.1,fr d.2])):DO [.tape] Q:=by
 apply Nk
 have all:∀x∈ [(1:Rat),2,3/2,1/3,5],Bd 3 x/\1/3<=x:=by
  intro x hx
  simp only [List.mem_cons,List.not_mem_nil,or_false] at hx
  rcases hx with rfl|rfl|rfl|rfl|rfl <;> exact ⟨uV,by decide +kernel⟩
 ac_rfl
 refine Qe (xs:= [(1:Rat),2,3/2,1/3,5]) (by omega) (by show _<(5:Int);omega) λx hx=> ?_
 ac_rfl
 refine Qe (xs:= [(1:Rat),2,3/2,1/3,5]) (by omega) (by show _<(5:Int);omega) λy hy=> ?_
 ac_rfl
 exact q (x,y) (all x hx).1 (all y hy).1 (all x hx).2 (all y hy).2
theorem Uw {n:Nat} {cs:List C4} {t:Rat} {o:T3} (p:C6 n 10 cs) (bt:Bd 11 t) (bo:FT 11 o):C6 n 22 (cs.map (gr t o)):=by
 refine ⟨by simpa using p.two,by simpa using p.few,λc hc=> ?_, ?_⟩
 ·obtain ⟨d,hd,rfl⟩:=List.mem_map.mp hc
  have b:=p.bd d hd
  exact ⟨(b.m.add bt).mono (by decide),(b.x.add bo.x).mono (by decide),(b.y.add bo.y).mono (by decide),(b.z.add bo.z).mono (by decide)⟩
 ·refine List.pairwise_map.mpr (p.ris.imp λ{a b} h=> ?_)
  show a.1+t<b.1+t
  grind
theorem Dj {cs:List C4} {w:Int} {o:T3} {z2 z5 z6 z7 z8:Option AV} {X Y Z:BC->Prop} (pm:M0 12 6 600 cs) (bo:FT 11 o) {Q:PV->Prop} (q:∀ds,C6 12 22 ds->Q (Al ds)):
 FV {nx:=X,rt:=Q,bk:=Y,ct:=Z} [some (.val .tape),some (.val (Al cs)),z2,some (.val (.int w)),some (.own [fr o.1,fr o.2.1,fr o.2.2]),z5,z6,z7,z8] :=by
 have few:=pm.few
 have two:=pm.two
 have p12:C6 12 10 cs:=pm.ok (by decide) (by decide)
 obtain ⟨a,r,l,ecs,h0,el,al⟩:=p12.open
 have el':cs.getLast?=some l:=by rw [ecs];exact el
 have ml:l∈cs:=List.mem_of_getLast? el'
 have bl:=(p12.bd l ml).m
 have b20:=jj.mono (n:=11) (by decide)
 have ok40:∀{ds:List C4},M0 12 6 600 ds->C6 12 22 ds:=λp=>⟨p.two,p.few,λc hc=>(p.mu c hc).bd (by decide) (by decide),p.ris⟩
 ac_rfl
 ·exact IS rfl (by omega) p12.bd b20 bo (by decide) (by decide) (q _ (Uw p12 b20 bo))
 ·rename_i sp bs ps k k0 k1
  refine Qe (xs:= [sp,0]) k0 k1 λt ht=> ?_
  have bt:Bd 11 t:=by
   simp only [List.mem_cons,List.not_mem_nil,or_false] at ht
   rcases ht with rfl|rfl
   ·exact bs.mono (by decide)
   ·exact b20
  ac_rfl
  exact IS rfl (by omega) p12.bd bt bo (by decide) (by decide) (q _ (Uw p12 bt bo))
 ·show (cs.map cor).length=(cs.map cor).length/\_
  refine ⟨rfl, ?_⟩
  rw [<-List.map_reverse,dw]
  refine ⟨kJ (n:=12) (by simp;omega) (by decide), ?_⟩
  refine Fy (λp:C4×C4=> .tup [cor p.1,cor p.2]) cor (λp=>(p.1.1,p.2.2)) (λ_=>True) (λp _ R hR=> ?_) _ [] (by simp) ?_
  ·ac_rfl
   exact hR
  rw [List.nil_append]
  ac_rfl
  refine q _ ⟨by simp;omega,by simp;omega,λc hc=> ?_, ?_⟩
  ·obtain ⟨⟨u,v⟩,hu,rfl⟩:=List.mem_map.mp hc
   have h1:=p12.bd u (List.of_mem_zip hu).1
   have h2:=p12.bd v (List.mem_reverse.mp (List.of_mem_zip hu).2)
   exact ⟨h1.m.mono (by decide),h2.x.mono (by decide),h2.y.mono (by decide),h2.z.mono (by decide)⟩
  ·refine WR pm.ris ?_
   rw [List.map_map]
   have e:((λx:C4=>x.1) ∘ λp:C4×C4=>((p.1.1,p.2.2):C4))=(λx:C4=>x.1) ∘ Prod.fst:=rfl
   rw [e,<-List.map_map,List.map_fst_zip (by simp)]
 ·refine K4 λds pd=> ?_
  have pd12:C6 12 10 ds:=pd.ok (by decide) (by decide)
  obtain ⟨a2,r2,l2,eds,Tw,el2,al2⟩:=pd12.open
  have few2:=pd.few
  have ba2:=(pd12.bd a2 (by rw [eds];simp)).m
  subst eds
  have bt:Bd 11 (l.1-a2.1):=(Mul.subQ (pm.mu l ml).m (pd.mu a2 (by simp)).m).bd (by decide) (by decide)
  ac_rfl
  exact IS (o:=(0,0,0)) rfl (by omega) pd12.bd bt ⟨b20,b20,b20⟩ (by decide) (by decide) (q _ (Uw pd12 bt ⟨b20,b20,b20⟩))
 ·rename_i k k0 k1 x bx y by' z bz c ec mc
  have bc:=p12.bd c mc
  have hk:k.toNat<cs.length:=by omega
  have ec':cs[k.toNat] =c:=by rw [List.getElem?_eq_getElem hk] at ec;exact Option.some.inj ec
  rw [show (k+1).toNat=k.toNat+1 by omega]
  refine q _ ⟨by simp;omega,by simp;omega,λd hd=> ?_, ?_⟩
  ·rcases List.mem_append.mp hd with hd|hd
   ·rcases List.mem_append.mp hd with hd|hd
    ·exact (p12.bd d (List.mem_of_mem_take hd)).mono (by decide)
    ·simp at hd;subst hd
     exact ⟨bc.m.mono (by decide),bx.mono (by decide),by'.mono (by decide),bz.mono (by decide)⟩
   ·exact (p12.bd d (List.mem_of_mem_drop hd)).mono (by decide)
  ·refine WR pm.ris ?_
   have e:cs=cs.take k.toNat ++ [c] ++ cs.drop (k.toNat+1):=by
    rw [List.append_assoc,List.singleton_append,<-ec',<-List.drop_eq_getElem_cons hk,List.take_append_drop]
   conv=>rhs;rw [e]
   simp only [List.map_append,List.map_cons,List.map_nil]
 ·rename_i k k0 k1 c ec mc c0 ec0 mc0 sp bs ps
  have bc:=p12.bd c mc
  have bc0:=p12.bd c0 mc0
  have e0:c0=a:=by rw [ecs] at ec0;exact (Option.some.inj ec0).symm
  refine q [(c0.1,c.2.1,c.2.2.1,c.2.2.2),(l.1+sp,c.2.1,c.2.2.1,c.2.2.2)] ⟨by simp,by simp,λd hd=> ?_, ?_⟩
  ·simp only [List.mem_cons,List.not_mem_nil,or_false] at hd
   rcases hd with rfl|rfl
   ·exact ⟨bc0.m.mono (by decide),bc.x.mono (by decide),bc.y.mono (by decide),bc.z.mono (by decide)⟩
   ·exact ⟨(bl.add bs).mono (by decide),bc.x.mono (by decide),bc.y.mono (by decide),bc.z.mono (by decide)⟩
  ·refine List.pairwise_cons.mpr ⟨λd hd=> ?_,List.pairwise_singleton _ _⟩
   simp at hd;subst hd
   show c0.1<l.1+sp
   rw [e0]
   grind
 ·exact K4 λds pd=>q ds (ok40 pd)
theorem UN {cs:List C4} {d:Rat×Rat} (p:M0 12 6 600 cs) (b1:Bd 3 d.1) (b2:Bd 3 d.2) {Q:PV->Prop} (q:∀ds,C6 12 22 ds->Q (Al ds)):Cr [.tape,Al cs, .tup [fr d.1,fr d.2]] Q:=by
 have few:=p.few
 have two:=p.two
 apply Lx
 ac_rfl
 rename_i w w0 w1 r r0 r1
 have hr:r=0\/r=1\/r=2:=by omega
 have bz:Bd 11 (0:Rat):=jj.mono (by decide)
 have fac:∀{k:Int} {R:PV->Prop},0<=k->k<3->(∀f:Rat,Bd 2 f->R (fr f))->Ai (.lst [fr (1/2),fr ((-1:Int):Rat), .tup [.int (-1), .int 3]]) (.int k) R:=λk0 k1 h=>by
  rw [lc]
  refine Qe (xs:= [(1/2:Rat),((-1:Int):Rat), -1/3]) k0 k1 λx hx=>h x ?_
  simp only [List.mem_cons,List.not_mem_nil,or_false] at hx
  rcases hx with rfl|rfl|rfl <;> exact uU
 rcases hr with rfl|rfl|rfl
 ·ac_rfl
  rw [show (if decide ((0:Int)=2)=true then (1:Int) else 0)=0 from rfl]
  ac_rfl
  simp only [eT,cg,List.set_cons_zero,List.set_cons_succ]
  repeat' (first | exact Dj (o:=(d.1,0,0)) p ⟨b1.mono (by decide),bz,bz⟩ q|array_mem_dec)
  refine fac (by omega) (by omega) λf bf=> ?_
  ac_rfl
  simp only [eT,cg,List.set_cons_zero,List.set_cons_succ]
  repeat' (first | exact Dj (o:=(d.1*f,0,0)) p ⟨(b1.mul bf).mono (by decide),bz,bz⟩ q|array_mem_dec)
 ·ac_rfl
  rw [show (if decide ((1:Int)=2)=true then (1:Int) else 0)=0 from rfl]
  ac_rfl
  simp only [eU,cg,List.set_cons_zero,List.set_cons_succ]
  repeat' (first | exact Dj (o:=(0,d.1,0)) p ⟨bz,b1.mono (by decide),bz⟩ q|array_mem_dec)
  refine fac (by omega) (by omega) λf bf=> ?_
  ac_rfl
  simp only [eU,cg,List.set_cons_zero,List.set_cons_succ]
  repeat' (first | exact Dj (o:=(0,d.1*f,0)) p ⟨bz,(b1.mul bf).mono (by decide),bz⟩ q|array_mem_dec)
 ·ac_rfl
  rw [show (if decide ((2:Int)=2)=true then (1:Int) else 0)=1 from rfl]
  ac_rfl
  simp only [eV,cg,List.set_cons_zero,List.set_cons_succ]
  repeat' (first | exact Dj (o:=(0,0,d.2)) p ⟨bz,bz,b2.mono (by decide)⟩ q|array_mem_dec)
  refine fac (by omega) (by omega) λf bf=> ?_
  ac_rfl
  simp only [eV,cg,List.set_cons_zero,List.set_cons_succ]
  repeat' (first | exact Dj (o:=(0,0,d.2*f)) p ⟨bz,bz,(b2.mul bf).mono (by decide)⟩ q|array_mem_dec)
theorem Yp {ns:List Int} {k:Nat} (hk:k<=1000) {Q:PV->Prop} (q:∀cs ds (d:Rat×Rat),C6 12 22 cs->C6 12 22 ds->Bd 3 d.1->Bd 3 d.2->1/3<=d.1->1/3<=d.2->Q (.tup [.tape,Al cs,Al ds, .tup [fr d.1,fr d.2]])):Dz [.scr ns, .int k] Q:=by
 apply Oq
 ac_rfl
 refine W0 λd b1 b2 p1 p2=> ?_
 ac_rfl
 refine K4 λcs pc=> ?_
 ac_rfl
 refine UN pc b1 b2 λds pd=> ?_
 have pc40:C6 12 22 cs:=⟨pc.two,pc.few,λc hc=>(pc.mu c hc).bd (by decide) (by decide),pc.ris⟩
 ac_rfl
 ·exact q ds cs d pd pc40 b1 b2 p1 p2
 ·exact q cs ds d pc40 pd b1 b2 p1 p2
theorem X0 {cs ds:List C4} (t1:2<=cs.length) (t2:2<=ds.length) (h:B5 cs ds<B6 cs ds):je cs ds (B5 cs ds) (B6 cs ds):=by
 obtain ⟨a,r,l,rfl,h0,el⟩:=open2 t1
 obtain ⟨a2,r2,l2,rfl,Tw,el2⟩:=open2 t2
 unfold B5 B6 at h ⊢
 rw [Ds,Ds,Bb el,Bb el2] at h ⊢
 exact aZ h0 Tw el el2 h
theorem bX {cs ds:List C4} {M:Nat} (t1:2<=cs.length) (t2:2<=ds.length) (m1:∀c∈cs,Bd M c.1) (m2:∀c∈ds,Bd M c.1):Bd M (B5 cs ds)/\Bd M (B6 cs ds):=by
 obtain ⟨a,r,l,rfl,h0,el⟩:=open2 t1
 obtain ⟨a2,r2,l2,rfl,Tw,el2⟩:=open2 t2
 unfold B5 B6
 rw [Ds,Ds,Bb el,Bb el2]
 exact ⟨(m1 a (by simp)).mx (m2 a2 (by simp)),(m1 l (List.mem_of_getLast? el)).mn (m2 l2 (List.mem_of_getLast? el2))⟩
theorem fu {cs ds:List C4} {d:Rat×Rat} {n B D:Nat} (hn:n<=100) (p:C6 n B cs) (p2:C6 n B ds) (b1:Bd D d.1) (b2:Bd D d.2) (g1:0<d.1) (g2:0<d.2) (hB:B<=150) (hD:D<=100) (hW:2*(7*B+10)+1+D<=1050):Hc cs ds d B (2*(7*B+10)+1+D) where
 c1:=λc hc=>(p.bd c hc).mono hB
 c2:=λc hc=>(p2.bd c hc).mono hB
 r1:=p.ris
 r2:=p2.ris
 t1:=p.two
 t2:=p2.two
 f1:=Nat.le_trans p.few hn
 f2:=Nat.le_trans p2.few hn
 m1:=λc hc=>(p.bd c hc).m
 m2:=λc hc=>(p2.bd c hc).m
 b1:=b1.mono hD
 b2:=b2.mono hD
 p1:=g1
 p2:=g2
 w:=λh m hm=>by
  have tg:=X0 p.two p2.two h
  obtain ⟨e1,e2⟩:=bX p.two p2.two (λc hc=>(p.bd c hc).m) (λc hc=>(p2.bd c hc).m)
  have ti:=HF h hm
  have bm:=J0 (λc hc=>(p.bd c hc).m) (λc hc=>(p2.bd c hc).m) e1 e2 hm
  exact (gw tg ti.1 ti.2 p.ris p2.ris p.bd p2.bd bm b1 b2 (by grind) (by grind)).mono (by omega)
 hM:=hB
 hW:=hW
theorem cD {ss:List Bn} (fin:∀s∈ss,∃x,s.2.2=some x) (k:Rat):∃m,k<m/\ss.any (Bw · (m,0))=false:=by
 induction ss with
 | nil=>exact ⟨k+1,by grind,rfl⟩
 | cons s ss ih=>
   obtain ⟨x,hx⟩:=fin s (by simp)
   have big:∀(tt:List Bn),(∀s∈tt,∃x,s.2.2=some x)->∃n:Rat,k<n/\∀s∈tt,∀x,s.2.2=some x->x<n:=by
    intro tt
    induction tt with
    | nil=>intro _;exact ⟨k+1,by grind,by simp⟩
    | cons t tt ih2=>
      intro hf
      obtain ⟨n,h1,h2⟩:=ih2 λs hs=>hf s (by simp [hs])
      obtain ⟨y,hy⟩:=hf t (by simp)
      by_cases z:y<n
      ·refine ⟨n,h1,λs hs x hx=> ?_⟩
       rcases List.mem_cons.mp hs with rfl|hs
       ·rw [hy] at hx;cases hx;exact z
       ·exact h2 s hs x hx
      ·refine ⟨y+1,by grind,λs hs x hx=> ?_⟩
       rcases List.mem_cons.mp hs with rfl|hs
       ·rw [hy] at hx;cases hx;grind
       ·have:=h2 s hs x hx;grind
   obtain ⟨n,h1,h2⟩:=big (s::ss) fin
   refine ⟨n,h1, ?_⟩
   rw [List.any_eq_false]
   intro t ht z
   obtain ⟨y,hy⟩:=fin t ht
   have:=h2 t ht y hy
   unfold Bw at z
   rw [hy] at z
   simp at z
   grind
theorem W5 {B:Nat} {ss:List Bn} (ok:∀s∈ss,Di B s) (fin:∀s∈ss,∃x,s.2.2=some x):∀r∈canon 1 ss,∃x,r.2.2=some x:=by
 intro r hr
 cases e:r.2.2 with
 | some x=>exact ⟨x,rfl⟩
 | none=>
   exfalso
   obtain ⟨m,h1,h2⟩:=cD fin r.1
   rw [<-SL ok (p:=(m,0)) (.inl rfl)] at h2
   rw [List.any_eq_false] at h2
   refine h2 r hr ?_
   unfold Bw
   rw [e]
   simp
   exact .inl h1
structure Told (P:Rat->Prop) (B:Nat) (cc:List Bn):Prop where
 ok:∀s∈cc,Di B s
 fin:∀s∈cc,∃x,s.2.2=some x
 few:cc.length<=2000
 sem:∀m,cc.any (Bw · (m,0))=true↔P m
theorem YZ.told {cs ds:List C4} {d:Rat×Rat} {B:Nat} {ss:List Bn} (n:YZ cs ds d B ss):Told (Ee cs ds d) B (canon 1 ss):=
 ⟨Yo n.ok,W5 n.ok n.fin,by have:=UP (n:=1) (ss:=ss);have:=n.few;omega,λm=>by rw [SL n.ok (p:=(m,0)) (.inl rfl)];exact n.sem m⟩
theorem PU {s:Bn} {x:Rat} (h:s.2.2=some x):Dm s= .tup [fr s.1, .int s.2.1,fr x] :=by unfold Dm;rw [h];rfl
abbrev Mj:AS:=
 (Ao (Yh (Fd Sa (AB (aV 0) (AB (aC (.ty "int")) AL))) (M6 fz (Fd Sa (AB (aV 0) (AB (aC (.ty "bool")) AL))))))
def C5:AF:=Av 1 Mj
theorem RC {x0:PV} {Q:PV->Prop} (h:Mj ⟨λ_=>Q .non,Q,λ_=>False,λ_=>False⟩ [some (.val x0)]):C5 [x0] Q:=h
abbrev Hh:AS:=
 (Ab (Bj (Gr (DG (Ar (Fd Sa (AB (aV 0) (AB (aC (.ty "tuple")) AL))))) (Gr (Ar (AX XA (Fd Fg (AB (aV 0) AL)) (aC (.int 2)))) (Gr (DG (Ar (AN 1 C5 (AB (AX Ai (aV 0) (aC (.int 0))) AL)))) (DG (Ar (AN 1 C5 (AB (AX Ai (aV 0) (aC (.int 1))) AL))))))) (Ao (aC (.bl false))) BB)
   (Ao (Yh (AX fy (AX Ai (aV 0) (aC (.int 1))) (aC (.int 0))) (AX NF (aV 0) (AN 2 A1 (AB (AX Ai (aV 0) (aC (.int 0))) (AB (AX Ai (aV 0) (aC (.int 1))) AL)))))))
def CK:AF:=Av 1 Hh
theorem Ly {x0:PV} {Q:PV->Prop} (h:Hh ⟨λ_=>Q .non,Q,λ_=>False,λ_=>False⟩ [some (.val x0)]):CK [x0] Q:=h
abbrev Ow:AS:=
 (Ab (FD (M7 (aV 0)) (L9 3 (Ak (Aw 2) (Ak (Aw 3) (Ak (Aw 4) CS)))) (Bj (Gq (Ar (AN 2 Ag (AB (aV 1) (AB (aV 4) AL)))) (Gr (Ar (AN 2 Ag (AB (aV 2) (AB (aV 1) AL)))) (Gq (Ar (AX NF (aV 3) (aC (.int 1)))) (Ar (AX NF (aV 2) (aV 1)))))) (Ao (aC (.bl true))) BB))
   (Ao (aC (.bl false))))
def FX:AF:=Av 5 Ow
theorem TU {x0 x1:PV} {Q:PV->Prop} (h:Ow ⟨λ_=>Q .non,Q,λ_=>False,λ_=>False⟩ [some (.val x0),some (.val x1),none,none,none]):FX [x0,x1] Q:=h
theorem LD {i:Int} {Q:PV->Prop} (q:Q (.bl true)):C5 [.int i] Q:=by
 apply RC
 ac_rfl
 exact q
theorem PN {r:Rat} (b:Bd 8000 r) {Q:PV->Prop} (q:Q (.bl true)):CK [fr r] Q:=by
 apply Ly
 ac_rfl
 show Fg [.tup [.int r.num, .int (r.den:Int)]] _
 ac_rfl
 refine LD ?_
 ac_rfl
 refine LD ?_
 have dp:=r.den_pos
 ac_rfl
 rotate_left
 ·exfalso;omega
 refine Bk _ _ (BO r) (Ap b.top (by decide)) (Ap b.botI (by decide)) ?_
 rw [Rat.num_divInt_den]
 ac_rfl
 rw [decide_eq_true rfl]
 exact q
theorem Gx {B:Nat} {s:Bn} {m x:Rat} (os:Di B s) (hx:s.2.2=some x):Bw s (m,0)=true↔(s.1<m\/(s.1=m/\s.2.1=1))/\m<x:=by
 unfold Bw
 rw [hx]
 have:0<s.2.1+0↔s.2.1=1:=by have:=os.h;omega
 simp only [Bool.and_eq_true,Bool.or_eq_true,decide_eq_true_eq,this]
theorem XV {P:Rat->Prop} {B:Nat} {cc:List Bn} {m:Rat} (t:Told P B cc) (hB:B<=4000) (bm:Bd 4000 m) {Q:PV->Prop} (q:Q (.bl (cc.any (Bw · (m,0))))):FX [.tup (cc.map Dm),fr m] Q:=by
 have few:=t.few
 apply TU
 ac_rfl
 refine C1 Dm (λus vs τ=>∃z2 z3 z4,us.any (Bw · (m,0))=false/\τ= [some (.val (.tup (cc.map Dm))),some (.val (fr m)),z2,z3,z4]) ?_ ?_ ⟨_,_,_,rfl,rfl⟩
 ·rintro τ ⟨z2,z3,z4,h,rfl⟩
  rw [h] at q
  ac_rfl
  exact q
 ·rintro us s vs e τ R hR ⟨z2,z3,z4,h,rfl⟩
  have sm:s∈cc:=by rw [<-e];simp
  obtain ⟨x,hx⟩:=t.fin s sm
  have os:=t.ok s sm
  have b1:=os.b
  have b2:=(os.e x hx).2
  have yes:Bw s (m,0)=true->Q (.bl true):=λz=>by
   rw [show cc.any (Bw · (m,0))=true from List.any_eq_true.mpr ⟨s,sm,z⟩] at q;exact q
  have no:Bw s (m,0)=false->∀z2 z3 z4,R [some (.val (.tup (cc.map Dm))),some (.val (fr m)),z2,z3,z4] :=λz z2 z3 z4=>hR _ ⟨z2,z3,z4,by rw [List.any_append,h];simp [z],rfl⟩
  clear hR q
  rw [PU hx]
  ac_rfl
  ·exact yes ((Gx os hx).mpr ⟨.inl ‹_›, ‹_›⟩)
  ·exact yes ((Gx os hx).mpr ⟨.inr ⟨‹_›, ‹_›⟩, ‹_›⟩)
  ·refine no (Bool.eq_false_iff.mpr λz=> ?_) _ _ _
   have:=(Gx os hx).mp z
   grind
  ·refine no (Bool.eq_false_iff.mpr λz=> ?_) _ _ _
   have:=(Gx os hx).mp z
   grind
  ·refine no (Bool.eq_false_iff.mpr λz=> ?_) _ _ _
   have:=(Gx os hx).mp z
   grind
end PL
end
section
namespace PL.K22
open PySem L2 PL PyProof.Rows
abbrev MW:AS:=
 (Ab (Bj (Gr (DG (Ar (Fd Sa (AB (aV 1) (AB (aC (.ty "tuple")) AL))))) (Gr (Ar (AX XA (Fd Fg (AB (aV 1) AL)) (aC (.int 3)))) (Gr (DG (Ar (AN 1 CK (AB (AX Ai (aV 1) (aC (.int 0))) AL)))) (DG (Ar (AN 1 CK (AB (AX Ai (aV 1) (aC (.int 2))) AL))))))) (Ao (aC (.bl false))) BB)
   (Bj (Gr (DG (Ar (AN 1 C5 (AB (AX Ai (aV 1) (aC (.int 1))) AL)))) (Gr (Ar (AX (l5 true) (AX Ai (aV 1) (aC (.int 1))) (BF (AB (aC (.int 0)) (AB (aC (.int 1)) AL))))) (DG (Ar (AN 2 Ag (AB (AX Ai (aV 1) (aC (.int 0))) (AB (AX Ai (aV 1) (aC (.int 2))) AL))))))) (Ao (aC (.bl false))) BB))
abbrev MX:AS:=
 (Ab (FD (M7 (aV 0)) (Aw 1) MW)
   (Ao (aC (.bl true))))
abbrev LG:AS:=
 (Ab (Bj (DG (Ar (Fd Sa (AB (aV 0) (AB (aC (.ty "tuple")) AL))))) (Ao (aC (.bl false))) BB)
   MX)
def D0:AF:=Av 2 LG
theorem Os {x0:PV} {Q:PV->Prop} (h:LG ⟨λ_=>Q .non,Q,λ_=>False,λ_=>False⟩ [some (.val x0),none]):D0 [x0] Q:=h
abbrev Gc:AS:=
 (Ab (EA 4 JW (AB (AN 2 Cs (AB (aV 5) (AB (aV 6) AL))) AL))
   (EA 4 JW (AB (AN 2 BS (AB (aV 5) (AB (AN 2 BL (AB (AN 2 A9 (AB (aV 6) (AB (aV 5) AL))) (AB (BF (AB (aC (.int 1)) (AB (aC (.int 97)) AL))) AL))) AL))) AL)))
abbrev Ge:AS:=
 (Ab (FD (eF (AB (aV 3) (AB (Vk (aV 3) (Vn (aC (.int 1))) Vm) AL))) (L9 2 (Ak (Aw 5) (Ak (Aw 6) CS))) Gc)
   (Ao (AX BY (aV 4) (GW (D2 (AB (AN 2 A9 (AB (AX Ai (AX Ai (aV 0) (aC (.int 0))) (aC (.int 0))) (AB (BF (AB (aC (.int 1)) (AB (aC (.int 2)) AL))) AL))) (AB (AN 2 BS (AB (AX Ai (AX Ai (aV 0) (M6 FF (aC (.int 1)))) (aC (.int 0))) (AB (BF (AB (aC (.int 1)) (AB (aC (.int 2)) AL))) AL))) (AB (AX Ai (AX Ai (aV 0) (aC (.int 0))) (aC (.int 0))) (AB (AX Ai (AX Ai (aV 1) (M6 FF (aC (.int 1)))) (aC (.int 0))) AL)))))))))
abbrev Gd:AS:=
 (Ab (Kb (Vi (AB (aV 3) AL)) 4)
   Ge)
abbrev Eo:AS:=
 (Ab (Ay (AN 3 CH (AB (aV 0) (AB (aV 1) (AB (aV 2) AL)))) (Aw 3))
   Gd)
def Bq:AF:=Av 7 Eo
theorem Hf {x0 x1 x2:PV} {Q:PV->Prop} (h:Eo ⟨λ_=>Q .non,Q,λ_=>False,λ_=>False⟩ [some (.val x0),some (.val x1),some (.val x2),none,none,none,none]):Bq [x0,x1,x2] Q:=h
abbrev Lj:AS:=
 (Ab (Bj (DG (Ar (AN 1 D0 (AB (aV 2) AL)))) (Ao (aC (.bl false))) BB)
   (FD (M7 (AN 3 Bq (AB (aV 5) (AB (aV 6) (AB (aV 7) AL))))) (Aw 3) (Bj (Ar (AX XA (AN 2 FX (AB (aV 2) (AB (aV 3) AL))) (AN 4 CZ (AB (aV 5) (AB (aV 6) (AB (aV 7) (AB (aV 3) AL))))))) (Ao (aC (.bl false))) BB)))
abbrev Li:AS:=
 (Ab (Ay (AN 3 Ea (AB (aV 5) (AB (aV 6) (AB (aV 7) AL)))) (Aw 2))
   Lj)
abbrev Pw:AS:=
 (Ab (Ay (AN 2 Dz (AB (aV 0) (AB (aV 1) AL))) (L9 4 (Ak (Aw 4) (Ak (Aw 5) (Ak (Aw 6) (Ak (Aw 7) CS))))))
   Li)
abbrev Oy:AS:=
 (Ab (FD (SJ (AB (AX BY (aC (.int 1)) (Fd (jp min) (AB (aC (.int 3)) (AB (Fd Fg (AB (aV 0) AL)) AL)))) AL)) (Aw 1) Pw)
   (Ao (aC (.bl true))))
def EQ:AF:=Av 8 Oy
theorem TW {x0:PV} {Q:PV->Prop} (h:Oy ⟨λ_=>Q .non,Q,λ_=>False,λ_=>False⟩ [some (.val x0),none,none,none,none,none,none,none]):EQ [x0] Q:=h
theorem cU {h:Int} (hh:h=0\/h=1) {Q:PV->Prop} (q:Q (.bl false)):l5 true (.int h) (fr 0) Q:=by
 rcases hh with rfl|rfl
 ·exact ⟨⟨rfl,rfl⟩,q⟩
 ·exact ⟨⟨rfl,rfl⟩,q⟩
theorem bY {P:Rat->Prop} {B:Nat} {cc:List Bn} (t:Told P B cc) (hB:B<=4000) {Q:PV->Prop} (q:Q (.bl true)):D0 [.tup (cc.map Dm)] Q:=by
 have few:=t.few
 apply Os
 ac_rfl
 refine C1 Dm (λus vs τ=>∃z1,τ= [some (.val (.tup (cc.map Dm))),z1]) ?_ ?_ ⟨_,rfl⟩
 ·rintro τ ⟨z1,rfl⟩
  ac_rfl
  exact q
 ·rintro us s vs e τ R hR ⟨z1,rfl⟩
  have sm:s∈cc:=by rw [<-e];simp
  obtain ⟨x,hx⟩:=t.fin s sm
  have os:=t.ok s sm
  have b1:=os.b
  have b2:=(os.e x hx).2
  have lt:=(os.e x hx).1
  rw [PU hx]
  ac_rfl
  refine PN (b1.mono (by omega)) ?_
  ac_rfl
  refine PN (b2.mono (by omega)) ?_
  ac_rfl
  refine LD ?_
  ac_rfl
  refine cU os.h ?_
  ac_rfl
  ·rename_i z;exact absurd lt z
  ·exact hR _ ⟨_,rfl⟩
theorem Uv {cs ds:List C4} {d:Rat×Rat} {M W:Nat} (D:Hc cs ds d M W) (hX:3*(3*W+3*M+9)<=3250) {Q:PV->Prop} (q:∀ms:List Rat,(∀m∈ms,Bd 3300 m)->Q (.lst (ms.map fr))):Bq [Al cs,Al ds, .tup [fr d.1,fr d.2]] Q:=by
 have mb:=S4 D
 have mf:=XZ D
 have hM:=D.hM
 have k1:=D.fstB
 have k3:=D.lstB
 have k4:=D.lstB2
 obtain ⟨a,r,l,ecs,h0,el⟩:=open2 D.t1
 obtain ⟨a2,r2,l2,eds,Tw,el2⟩:=open2 D.t2
 have el':cs.getLast?=some l:=by rw [ecs];exact el
 have el2':ds.getLast?=some l2:=by rw [eds];exact el2
 rw [Bb el'] at k3
 rw [Bb el2'] at k4
 rw [show OY cs=a.1 by rw [ecs];rfl] at k1
 have P0:∀{Q:PV->Prop},Q (cor a)->Ai (Al cs) (.int 0) Q:=λh=>by rw [ecs];exact VI h
 have b2:Bd 8 (1/2:Rat):=oF
 have b97:Bd 8 (1/97:Rat):=oF
 have e97:PV.tup [.int 1, .int 97] =fr (1/97):=by
  unfold fr
  rw [show (1/97:Rat).num=1 by decide +kernel,show (1/97:Rat).den=97 by decide +kernel]
  rfl
 apply Hf
 ac_rfl
 refine Qg D ?_
 generalize 3*W+3*M+9=X at *
 generalize NT cs ds d=mk at *
 ac_rfl
 rw [Tv]
 refine C1 WJ (λus vs τ=>∃(gs:List Rat) (z5 z6:Option AV),gs.length<=mk.length+2*us.length/\(∀g∈gs,Bd 3300 g)/\τ= [some (.val (Al cs)),some (.val (Al ds)),some (.val (.tup [fr d.1,fr d.2])),some (.val (.lst (mk.map fr))),some (.own (gs.map fr)),z5,z6]) ?_ ?_ ⟨mk,_,_,by omega,λg hg=>(mb g hg).mono (by omega),rfl⟩
 ·rintro τ ⟨gs,z5,z6,h1,h2,rfl⟩
  have zl:=MR mk
  ac_rfl
  refine P0 ?_
  ac_rfl
  refine P0 ?_
  ac_rfl
  have:=q (gs ++ [a.1-1/2,l.1+1/2,a.1,l2.1]) (λm hm=> ?_)
  ·rw [List.map_append] at this
   exact this
  ·rcases List.mem_append.mp hm with hm|hm
   ·exact h2 m hm
   ·simp only [List.mem_cons,List.not_mem_nil,or_false] at hm
    rcases hm with rfl|rfl|rfl|rfl
    ·exact (k1.sub b2).mono (by omega)
    ·exact (k3.add b2).mono (by omega)
    ·exact k1.mono (by omega)
    ·exact k4.mono (by omega)
 ·rintro us p vs e τ R hR ⟨gs,z5,z6,h1,h2,rfl⟩
  have zl:=MR mk
  have ul:us.length+vs.length+1=(mk.zip mk.tail).length:=by rw [<-e];simp;omega
  have pm:p∈mk.zip mk.tail:=by rw [<-e];simp
  have c1:=mb p.1 (List.of_mem_zip pm).1
  have c2:=mb p.2 (List.mem_of_mem_tail (List.of_mem_zip pm).2)
  have c3:=c1.add c2
  have c4:=c2.sub c1
  have c5:=c4.mul b97
  ac_rfl
  refine Od (c1.mono (by omega)) (c2.mono (by omega)) (c3.mono (by omega)) ?_
  ac_rfl
  rw [e97]
  ac_rfl
  refine hR _ ⟨gs ++ [(p.1+p.2)*(1/2),p.1+(p.2-p.1)*(1/97)],some (.val (fr p.1)),some (.val (fr p.2)),by simp;omega,λg hg=> ?_,by rw [List.map_append,List.append_assoc];rfl⟩
  ·rcases List.mem_append.mp hg with hg|hg
   ·exact h2 g hg
   ·simp only [List.mem_cons,List.not_mem_nil,or_false] at hg
    rcases hg with rfl|rfl
    ·exact (c3.mul b2).mono (by omega)
    ·exact (c1.add c5).mono (by omega)
theorem ZN (ns:List Int) (hn:ns.length<=63):EQ [.scr ns] λx=>x= .bl true:=by
 apply TW
 repeat' array_get_dec
 refine V1 (λi τ=>∃z1 z2 z3 z4 z5 z6 z7,τ= [some (.val (.scr ns)),z1,z2,z3,z4,z5,z6,z7]) ?_ ?_ ⟨_,_,_,_,_,_,_,rfl⟩
 ·rintro τ ⟨z1,z2,z3,z4,z5,z6,z7,rfl⟩
  repeat' array_get_dec
 ·rintro i hi τ R hR ⟨z1,z2,z3,z4,z5,z6,z7,rfl⟩
  have e0:(0:Int)+i=i:=by omega
  rw [e0]
  ac_rfl
  refine Yp (by omega) λcs ds d p p2 b1 b2 g1 g2=> ?_
  have D:=fu (by decide) p p2 b1 b2 (by grind) (by grind) (by decide) (by decide) (by decide)
  ac_rfl
  refine Tr D (.self _) (.self _) (.inl rfl) λss n=> ?_
  have t:=n.told
  generalize canon 1 ss=cc at *
  ac_rfl
  refine bY t (by decide) ?_
  ac_rfl
  refine Uv D (by decide) λms uC=> ?_
  ac_rfl
  refine C1 fr (λus vs τ=>∃z3,τ= [some (.val (.scr ns)),some (.val (.int i)),some (.val (.tup (cc.map Dm))),z3,some (.val .tape),some (.val (Al cs)),some (.val (Al ds)),some (.val (.tup [fr d.1,fr d.2]))]) ?_ ?_ ⟨_,rfl⟩
  ·rintro τ ⟨z3,rfl⟩
   exact hR _ ⟨_,_,_,_,_,_,_,rfl⟩
  ·rintro us m vs e τ R2 l9 ⟨z3,rfl⟩
   have bm:=uC m (by rw [<-e];simp)
   have em:cc.any (Bw · (m,0))=decide (Ee cs ds d m):=by
    rw [Bool.eq_iff_iff,t.sem,decide_eq_true_eq]
   ac_rfl
   refine XV t (by decide) (bm.mono (by decide)) ?_
   rw [em]
   ac_rfl
   refine NS D p.bd p2.bd bm (by decide) ?_
   ac_rfl
   exact l9 _ ⟨_,rfl⟩
end PL.K22
end
section
namespace K22
open PySem L2 PL PL.K22 PyProof.Rows
def top (i:Nat):Stmt:=PySem.Challenge.pw_skylanes_k22_too_near_at_moments.main.body.getD i (.Pass ⟨0,0,0,0⟩)
abbrev Ez:Stmt:=top 34
abbrev EF:Stmt:=top 44
abbrev E4:Stmt:=top 35
abbrev F7:Stmt:=top 37
abbrev EH:Stmt:=top 46
abbrev F6:Stmt:=top 38
abbrev EI:Stmt:=top 41
abbrev E6:Stmt:=top 42
abbrev E5:Stmt:=top 43
abbrev DX:Stmt:=top 39
abbrev Du:Stmt:=top 47
abbrev E8:Stmt:=top 33
abbrev Ey:Stmt:=top 48
abbrev E2:Stmt:=top 36
abbrev EM:Stmt:=top 57
abbrev Dv:Stmt:=top 58
abbrev E1:Stmt:=top 59
abbrev HP:Stmt:=top 60
abbrev EJ:Stmt:=top 40
abbrev E7:Stmt:=top 45
abbrev F5:Stmt:=top 49
abbrev DV:Stmt:=top 56
abbrev E3:Stmt:=top 52
abbrev Dx:Stmt:=top 50
abbrev EK:Stmt:=top 53
abbrev EL:Stmt:=top 51
abbrev EG:Stmt:=top 54
abbrev Dw:Stmt:=top 55
abbrev DW:Stmt:=top 61
abbrev Jg:Stmt:=top 7
abbrev Ji:Stmt:=top 8
abbrev Jh:Stmt:=top 1
abbrev RI:Stmt:=top 2
abbrev MK:Stmt:=top 4
abbrev RJ:Stmt:=top 3
abbrev ML:Stmt:=top 5
abbrev E9:Stmt:=top 29
abbrev HS:Stmt:=top 30
abbrev C2:Stmt:=top 10
abbrev F8:Stmt:=top 27
abbrev RH:Stmt:=top 6
abbrev HV:Stmt:=top 25
abbrev DY:Stmt:=top 14
abbrev HW:Stmt:=top 15
abbrev HU:Stmt:=top 26
abbrev HR:Stmt:=top 9
abbrev GA:Stmt:=top 23
abbrev CT:Stmt:=top 16
abbrev Dy:Stmt:=top 11
abbrev Jl:Stmt:=top 12
abbrev MM:Stmt:=top 24
abbrev Jk:Stmt:=top 28
abbrev F9:Stmt:=top 18
abbrev Jj:Stmt:=top 19
abbrev HQ:Stmt:=top 20
abbrev GB:Stmt:=top 21
abbrev GC:Stmt:=top 31
abbrev Np:Stmt:=top 62
section
variable (P:Program) (w:World) (K:PySem.W.Frag) (mg:Str->Option Value) (base:Heap) (n:Nat)
abbrev DH:=Has P w K mg base n "_law_draw" ["_law_tape_here","_law_many"] (BJ K 2 BX)
abbrev QR:=Has P w K mg base n "_law_apart" ["_law_tape_here"] (BJ K 1 DO)
abbrev Cd:=Has P w K mg base n "_law_part" ["_law_top","_law_bottom"] (BJ K 2 A1)
abbrev C8:=Has P w K mg base n "_law_sum" ["_law_one","_law_other"] (BJ K 2 BS)
abbrev QU:=Has P w K mg base n "_law_moved" ["_law_plan_here","_law_late","_law_by"] (BJ K 3 Bc)
abbrev C7:=Has P w K mg base n "_law_off" ["_law_one","_law_other"] (BJ K 2 A9)
abbrev JN:=Has P w K mg base n "_law_place" ["_law_tape_here"] (BJ K 1 A2)
abbrev LO:=Has P w K mg base n "_law_span" ["_law_tape_here"] (BJ K 1 B7)
abbrev LN:=Has P w K mg base n "_law_plan" ["_law_tape_here"] (BJ K 1 B3)
abbrev Ce:=Has P w K mg base n "_law_product" ["_law_one","_law_other"] (BJ K 2 BL)
abbrev OZ:=Has P w K mg base n "_law_beside" ["_law_tape_here","_law_plan_here","_law_apart_here"] (BJ K 3 Cr)
abbrev Si:=Has P w K mg base n "_law_tape" ["_law_script","_law_k"] (BJ K 2 Mx)
abbrev Se:=Has P w K mg base n "_law_case" ["_law_script","_law_k"] (BJ K 2 Dz)
abbrev DI:=Has P w K mg base n "_law_less" ["_law_one","_law_other"] (BJ K 2 Ag)
abbrev JO:=Has P w K mg base n "_law_whole" ["_law_thing"] (BJ K 1 C5)
abbrev Oa:=Has P w K mg base n "_law_lowest" ["_law_thing"] (BJ K 1 CK)
abbrev Sf:=Has P w K mg base n "_law_fine" ["_law_found"] (BJ K 1 D0)
abbrev XD:=Has P w K mg base n "_law_in" ["_law_found","_law_m"] (BJ K 2 FX)
abbrev EE:=Has P w K mg base n "_law_ratio" ["_law_one","_law_other"] (BJ K 2 Be)
abbrev LP:=Has P w K mg base n "_law_spot" ["_law_plan_here","_law_m"] (BJ K 2 Ca)
abbrev Ud:=Has P w K mg base n "_law_gap" ["_law_one","_law_other","_law_apart_here","_law_m","_law_end"] (BJ K 5 EW)
abbrev NJ:=Has P w K mg base n "_law_is_near" ["_law_one","_law_other","_law_apart_here","_law_m"] (BJ K 4 CZ)
abbrev Sg:=Has P w K mg base n "_law_offs" ["_law_one","_law_other","_law_apart_here","_law_m"] (BJ K 4 DE)
abbrev Ho:=Has P w K mg base n "_law_rising" ["_law_moments_here"] (BJ K 1 CM)
abbrev QV:=Has P w K mg base n "_law_share" ["_law_low","_law_high","_law_begin","_law_end"] (BJ K 4 DP)
abbrev QW:=Has P w K mg base n "_law_turns" ["_law_one","_law_other"] (BJ K 2 DR)
abbrev QS:=Has P w K mg base n "_law_marks" ["_law_one","_law_other","_law_apart_here"] (BJ K 3 CH)
abbrev Ob:=Has P w K mg base n "_law_middle" ["_law_one","_law_other"] (BJ K 2 Cs)
abbrev NK:=Has P w K mg base n "_law_moments" ["_law_one","_law_other","_law_apart_here"] (BJ K 3 Bq)
abbrev Ed:=Has P w K mg base n "before" ["one","other"] (BJ K 2 Ag)
abbrev Sk:=Has P w K mg base n "lesser" ["one","other"] (BJ K 2 EX)
abbrev Sj:=Has P w K mg base n "common" ["one","other"] (BJ K 2 Gi)
abbrev NL:=Has P w K mg base n "part" ["top","bottom"] (BJ K 2 Gk)
abbrev QX:=Has P w K mg base n "minus" ["one","other"] (BJ K 2 Dr)
abbrev Y9:=Has P w K mg base n "plus" ["one","other"] (BJ K 2 IJ)
abbrev V4:=Has P w K mg base n "times" ["one","other"] (BJ K 2 Ft)
abbrev Sm:=Has P w K mg base n "moment_at" ["begin","end","share"] (BJ K 3 DF)
abbrev XG:=Has P w K mg base n "near_in" ["piece"] (BJ K 1 FY)
abbrev Lp:=Has P w K mg base n "shared_bottom" ["numbers"] (BJ K 1 CI)
abbrev Ue:=Has P w K mg base n "lines_of" ["first","last"] (BJ K 2 EY)
abbrev Y7:=Has P w K mg base n "over" ["one","other"] (BJ K 2 KS)
abbrev XI:=Has P w K mg base n "size_of" ["apart","side"] (BJ K 2 ES)
abbrev NM:=Has P w K mg base n "spot_between" ["former","latter","m"] (BJ K 3 DS)
abbrev XJ:=Has P w K mg base n "spot_at" ["plan","m"] (BJ K 2 Fc)
abbrev XH:=Has P w K mg base n "offs_at" ["one","other","apart","m"] (BJ K 4 FZ)
abbrev XF:=Has P w K mg base n "greater" ["one","other"] (BJ K 2 CY)
abbrev Ug:=Has P w K mg base n "together" ["one","other"] (BJ K 2 Dg)
abbrev JP:=Has P w K mg base n "corners_between" ["plan","begin","end"] (BJ K 3 Br)
abbrev Oc:=Has P w K mg base n "count_below" ["numbers","number"] (BJ K 2 Cu)
abbrev Sn:=Has P w K mg base n "rising" ["numbers"] (BJ K 1 Fb)
abbrev cB:=Has P w K mg base n "turns" ["one","other","begin","end"] (BJ K 4 JA)
abbrev Y8:=Has P w K mg base n "pieces" ["one","other","apart"] (BJ K 3 Gm)
abbrev Uf:=Has P w K mg base n "steps_of" ["stretches"] (BJ K 1 HG)
abbrev Y6:=Has P w K mg base n "levels" ["stretches"] (BJ K 1 Gj)
abbrev XE:=Has P w K mg base n "counted" ["stretches","n"] (BJ K 2 EO)
abbrev Uh:=Has P w K mg base n "told_set" ["stretches"] (BJ K 1 EZ)
abbrev Ui:=Has P w K mg base n "too_near" ["one","other","apart"] (BJ K 3 Ea)
end
section
variable {P:Program} {w:World} {K:PySem.W.Frag} {mg:Str->Option Value} {base:Heap} {n m:Nat} {f:Addr} {fd:FuncData}
theorem Jn:AZ ["_law_tape_here","_law_many","_law_once","_law_found"] ["_law_tape_here","_law_many"] (AU Ez):=⟨rfl,rfl,rfl,by decide +kernel,rfl,by decide +kernel,by decide +kernel⟩
theorem Qs (F:Ck K "_law_draw" "_law_draw" Ez f fd):
 Az P w K mg base Cf (n+1) f fd ["_law_tape_here","_law_many"] (BJ K 2 BX):=by
 have nd:=Jn.nd
 refine F.ok Jn (λvs H Q E h=> ?_) (λcdv A outer s H vs Q E hr h=> ?_)
 ·obtain ⟨T,M,xs,AQ,_,_,r,hl,_⟩:=h
  rw [r.length,hl] <;> rfl
 obtain ⟨T,M,xs,AQ,va,_,r,hl,hF,hQ⟩:=h
 unfold BX at hF
 split at hF <;> first | exact hF.elim|skip
 rename_i m
 obtain ⟨⟨m0,m1⟩,hF⟩:=hF
 cases r with
 | cons r rr=>
 cases rr with
 | cons r2 rr=>
 cases rr
 cases r2
 cases r with
 | tape tp=>
 rename_i p
 obtain ⟨d,x,hp,d0,x0,x1⟩:=va.tp p tp
 refine ⟨_,(Bu (WM (MI e7 (LU Et (pv 0) BA (λ_ _=>rfl)) BA (DB _)) (Bu (FJ (i:=3) nd rfl (Or.inl rfl) (CA F4 (LU Et (pv 0) BA (λ_ _=>rfl)) (pv 1)))
  (Bu (Q8 (CA Zd (LU Et (pv 0) BA (λ_ _=>rfl)) (pv 1)) (VB (pv 0) BA Nz))
  (Ew (Ni (pv 3))))) MH)
  (Bu (Q8 (CA F4 (CA IX (CA HL (LU Et (pv 0) BA (λ_ _=>rfl)) BA) BA) BA) (VB (pv 0) BA Nz))
  (Bu (FJ (i:=2) nd rfl (Or.inl rfl) (CA F4 (CA HL (LU Et (pv 0) BA (λ_ _=>rfl)) (CA IX (CA F4 (LU Et (pv 0) BA (λ_ _=>rfl)) BA) BA)) BA))
  (Ew (Ni (CA F4 (CA F4 (CA HL (pv 2) (CA IX (CA F4 (pv 2) BA) BA)) BA) (pv 1))))))), ?_⟩
 have fin:∀(r d' x':Int),0<=r->r<m->0<=d'->0<=x'->x'<2147483647->Q (.int r) (upd H p (.lst [.int d', .int x'])):=λr d' x' r0 r1 a b c=>
  hQ _ (.int r) T _ (aY va.tp tp a b c) (.int r) (hF r r0 r1)
 refine ⟨_,rfl,p,_,_,_,rfl,rfl,Fw.of hp,rfl,_,_,rfl,rfl,_,rfl, ?_⟩
 refine kH (λc=> ?_) (λc=> ?_)
 ·refine ⟨_,rfl,p,_,_,_,rfl,rfl,Fw.of hp,rfl,_,rfl,_,_,rfl,rfl,m0, ?_⟩
  refine ⟨_,rfl,p,_,_,_,rfl,rfl,Fw.of hp,rfl,_,rfl,_,_,rfl,rfl,⟨m0,by omega⟩, ?_⟩
  refine ⟨_,rfl,p,_,_,_,rfl,rfl,hp,rfl, ?_⟩
  exact ⟨_,rfl,fin _ _ _ (Int.emod_nonneg _ (by omega)) (Int.emod_lt_of_pos _ m0) (Int.ediv_nonneg d0 (by omega)) x0 x1⟩
 ·refine ⟨_,rfl,p,_,_,_,rfl,rfl,Fw.of hp,rfl,_,_,rfl,rfl, .inl (.inr ⟨by decide,by decide⟩),_,_,rfl,rfl,_,_,rfl,rfl,(show (0:Int)<2147483647 by decide), ?_⟩
  refine ⟨_,rfl,p,_,_,_,rfl,rfl,hp,rfl, ?_⟩
  have y0:0<=(x*48271+12345) % 2147483647:=Int.emod_nonneg _ (by decide)
  have y1:(x*48271+12345) % 2147483647<2147483647:=Int.emod_lt_of_pos _ (by decide)
  have jA:upd H p (.lst ([V.int d,V.int x].set (Int.toNat 1) (V.int ((x*48271+12345) % 2147483647)))) p=some (.lst [.int d, .int ((x*48271+12345) % 2147483647)]):=Ah
  have z0:0<=(x*48271+12345) % 2147483647*((x*48271+12345) % 2147483647 % 1009+3) % 2147483629:=Int.emod_nonneg _ (by decide)
  have z1:(x*48271+12345) % 2147483647*((x*48271+12345) % 2147483647 % 1009+3) % 2147483629<2147483629:=Int.emod_lt_of_pos _ (by decide)
  refine ⟨_,rfl,p,_,_,_,rfl,rfl,Fw.of jA,rfl,_,rfl,p,_,_,_,rfl,rfl,Fw.of jA,rfl,_,_,rfl,rfl,(show (0:Int)<1009 by decide),_,_,rfl,rfl,_,_,rfl,rfl, .inl (.inl (N2 y0 y1)),_,_,rfl,rfl,(show (0:Int)<2147483629 by decide), ?_⟩
  refine ⟨_,rfl,_,rfl,_,_,rfl,rfl,(show (0:Int)<997 by decide),_,_,rfl,rfl,_,_,rfl,rfl, .inl (.inl (N2 z0 (Int.lt_trans z1 (by decide)))),_,_,rfl,rfl,(show (0:Int)<998244353 by decide),_,rfl,_,_,rfl,rfl,m0, ?_⟩
  exact fin _ _ _ (Int.emod_nonneg _ (by omega)) (Int.emod_lt_of_pos _ m0) d0 y0 y1
theorem Ht:AZ ["_law_tape_here","_law_some"] ["_law_tape_here"] (AU EF):=⟨rfl,rfl,rfl,by decide +kernel,rfl,by decide +kernel,by decide +kernel⟩
theorem Oe (F:Ck K "_law_apart" "_law_apart" EF f fd) (Aj:DH P w K mg base n):
 Az P w K mg base Cf (n+1) f fd ["_law_tape_here"] (BJ K 1 DO):=by
 have nd:=Ht.nd
 exact Aa F Ht rfl λ_ _ _ _ _ _ hr=>(AM (DN 1 nd (DM (Bg (Bf (Ae (An AH AH)) (Bf (Ae (An AH AH)) (GQ (Ae (An AH AH)) (Ae (An AH AH)) (Ae (An AH AH)))))))) (AR (AY (Ae (An (AW (AJ 1) (AK Aj hr rfl (An (AJ 0) AH))) (AW (AJ 1) (AK Aj hr rfl (An (AJ 0) AH))))))))
theorem Jr:AZ ["_law_top","_law_bottom","_law_sign","_law_one","_law_other"] ["_law_top","_law_bottom"] (AU E4):=⟨rfl,rfl,rfl,by decide +kernel,rfl,by decide +kernel,by decide +kernel⟩
theorem Qw (F:Ck K "_law_part" "_law_part" E4 f fd) (EB:mg "abs" =none) (Dd:mg "int" =none):
 Az P w K mg base Cf (n+1) f fd ["_law_top","_law_bottom"] (BJ K 2 A1):=by
 have nd:=Jr.nd
 exact Aa F Jr rfl λ_ _ _ _ _ _ hr=>(AM (K9 (i:=3) (j:=4) rfl nd rfl rfl (by decide) rfl rfl (An (A3 K6 rfl EB boot_abs (Bo (AJ 0))) (A3 K6 rfl EB boot_abs (Bo (AJ 1)))) rfl) (AM (Jy PassesOwn.never (FP Tk (AJ 4) AH) (AR (K9 (i:=3) (j:=4) rfl nd rfl rfl (by decide) rfl rfl (An (AJ 4) (Ad aK (AJ 3) (AJ 4))) rfl))) (AM (DN 2 nd (Ad Cp AH (Ad BH AH (Bp RK rfl Dd boot_int (Bo (FM HB (AJ 1) AH (DB _))))))) (AR (AY (Ae (An (Ad FA (Ad BH (AJ 2) (AJ 0)) (AJ 3)) (Ad FA (Ad BH (AJ 2) (AJ 1)) (AJ 3)))))))))
theorem LX:AZ ["_law_one","_law_other"] ["_law_one","_law_other"] (AU F7):=⟨rfl,rfl,rfl,by decide +kernel,rfl,by decide +kernel,by decide +kernel⟩
theorem S8 (F:Ck K "_law_sum" "_law_sum" F7 f fd) (BK:Cd P w K mg base n):
 Az P w K mg base Cf (n+1) f fd ["_law_one","_law_other"] (BJ K 2 BS):=by
 have nd:=LX.nd
 exact Aa F LX rfl λ_ _ _ _ _ _ hr=>(AR (AY (AK BK hr rfl (An (Ad A8 (Ad BH (AW (AJ 0) AH) (AW (AJ 1) AH)) (Ad BH (AW (AJ 1) AH) (AW (AJ 0) AH))) (Ad BH (AW (AJ 0) AH) (AW (AJ 1) AH))))))
theorem Hv:AZ ["_law_plan_here","_law_late","_law_by"] ["_law_plan_here","_law_late","_law_by"] (AU EH):=⟨rfl,rfl,rfl,by decide +kernel,rfl,by decide +kernel,by decide +kernel⟩
theorem Og (F:Ck K "_law_moved" "_law_moved" EH f fd) (BR:C8 P w K mg base n) (BG:mg "range" =none) (A4:mg "tuple" =none):
 Az P w K mg base Cf (n+1) f fd ["_law_plan_here","_law_late","_law_by"] (BJ K 3 Bc):=by
 have nd:=Hv.nd
 have nd0:(["_law_one","_law_late","_law_by"] :List Str).Nodup:=by decide +kernel
 have nd1:(["_law_k","_law_one","_law_by"] :List Str).Nodup:=by decide +kernel
 exact Aa F Hv rfl λ_ _ _ _ _ _ hr=>(AR (AY (Bp D4 rfl A4 boot_tuple (Bo (DM (aB rfl (FN (AJ 0)) (bV (own:=1) (ix:= [1,2]) (N:= ["_law_one","_law_late" ,"_law_by" ]) "_law_one" rfl rfl (λ_ _=>rfl) (λ_=>rfl) rfl rfl rfl rfl rfl (λ_ _ _ _ _ _=>(Wb (i:=0) nd0 rfl (Or.inr rfl) (by decide))) (λ_ _ _ _ _ _=>CU) (λ_ _ _ _ _ _=>(Ad A8 (Ae (Bo (AK BR hr rfl (An (AW (AJ 0) AH) (AJ 1))))) (Bp D4 rfl A4 boot_tuple (Bo (DM (DZ rfl (Pg rfl BG (Bo AH)) (DU (own:=1) (ix:= [0,2]) (N:= ["_law_k","_law_one" ,"_law_by" ]) rfl rfl rfl rfl rfl rfl (λ_ _ _ _ _ _=>(RS 0 nd1)) (λ_ _ _ _ _ _=>CU) (λ_ _ _ _ _ _=>(AK BR hr rfl (An (AW (AJ 1) (Ad A8 (AJ 0) AH)) (AW (AJ 2) (AJ 0)))))))))))))))))))
theorem LW:AZ ["_law_one","_law_other"] ["_law_one","_law_other"] (AU F6):=⟨rfl,rfl,rfl,by decide +kernel,rfl,by decide +kernel,by decide +kernel⟩
theorem S7 (F:Ck K "_law_off" "_law_off" F6 f fd) (BK:Cd P w K mg base n):
 Az P w K mg base Cf (n+1) f fd ["_law_one","_law_other"] (BJ K 2 A9):=by
 have nd:=LW.nd
 exact Aa F LW rfl λ_ _ _ _ _ _ hr=>(AR (AY (AK BK hr rfl (An (Ad Cp (Ad BH (AW (AJ 0) AH) (AW (AJ 1) AH)) (Ad BH (AW (AJ 1) AH) (AW (AJ 0) AH))) (Ad BH (AW (AJ 0) AH) (AW (AJ 1) AH))))))
theorem Hw:AZ ["_law_tape_here","_law_kind"] ["_law_tape_here"] (AU EI):=⟨rfl,rfl,rfl,by decide +kernel,rfl,by decide +kernel,by decide +kernel⟩
theorem Oh (F:Ck K "_law_place" "_law_place" EI f fd) (Aj:DH P w K mg base n) (BK:Cd P w K mg base n):
 Az P w K mg base Cf (n+1) f fd ["_law_tape_here"] (BJ K 1 A2):=by
 have nd:=Hw.nd
 exact Aa F Hw rfl λ_ _ _ _ _ _ hr=>(AM (DN 1 nd (AK Aj hr rfl (An (AJ 0) AH))) (AM (A7 (FP HB (AJ 1) AH) (AR (AY (Ae (An (Ad Cp (AK Aj hr rfl (An (AJ 0) AH)) AH) AH)))) Au) (AM (A7 (FP (Dc hr) (AJ 1) AH) (AR (AY (AK BK hr rfl (An (Ad Cp (AK Aj hr rfl (An (AJ 0) AH)) AH) AH)))) Au) (AR (AY (AK BK hr rfl (An (Ad Cp (AK Aj hr rfl (An (AJ 0) AH)) AH) AH)))))))
theorem Jt:AZ ["_law_tape_here","_law_way"] ["_law_tape_here"] (AU E6):=⟨rfl,rfl,rfl,by decide +kernel,rfl,by decide +kernel,by decide +kernel⟩
theorem Qy (F:Ck K "_law_span" "_law_span" E6 f fd) (Aj:DH P w K mg base n) (BK:Cd P w K mg base n):
 Az P w K mg base Cf (n+1) f fd ["_law_tape_here"] (BJ K 1 B7):=by
 have nd:=Jt.nd
 exact Aa F Jt rfl λ_ _ _ _ _ _ hr=>(AM (DN 1 nd (AK Aj hr rfl (An (AJ 0) AH))) (AM (A7 (FP HB (AJ 1) AH) (AR (AY (Ae (An (Ad A8 AH (AK Aj hr rfl (An (AJ 0) AH))) AH)))) Au) (AR (AY (AK BK hr rfl (An (Ad A8 AH (AK Aj hr rfl (An (AJ 0) AH))) (Ad Cp (AJ 1) AH)))))))
theorem Js:AZ ["_law_tape_here","_law_many","_law_m","_law_spot_here","_law_corners","_law_way"] ["_law_tape_here"] (AU E5):=⟨rfl,rfl,rfl,by decide +kernel,rfl,by decide +kernel,by decide +kernel⟩
theorem Qx (F:Ck K "_law_plan" "_law_plan" E5 f fd) (Aj:DH P w K mg base n) (BW:JN P w K mg base n) (Fs:LO P w K mg base n) (BR:C8 P w K mg base n) (BZ:mg "len" =none) (A4:mg "tuple" =none):
 Az P w K mg base Cf (n+1) f fd ["_law_tape_here"] (BJ K 1 B3):=by
 have nd:=Js.nd
 exact Aa F Js rfl λ_ _ _ _ _ _ hr=>(AM (DN 1 nd (Ad A8 AH (AK Aj hr rfl (An (AJ 0) AH)))) (AM (A7 (FP (Dc hr) (AK Aj hr rfl (An (AJ 0) AH)) AH) (AR (DN 1 nd (AW (DM (Bg (Bf AH (GQ AH AH AH)))) (AK Aj hr rfl (An (AJ 0) AH))))) Au) (AM (DN 2 nd (Ae (An (AK Aj hr rfl (An (AJ 0) AH)) AH))) (AM (DN 3 nd (DM (Bg (GQ (AK BW hr rfl (Bo (AJ 0))) (AK BW hr rfl (Bo (AJ 0))) (AK BW hr rfl (Bo (AJ 0))))))) (AM (FO (i:=4) nd rfl (Or.inl rfl) (Bg (Bo (Ae (Bf (AJ 2) (GQ (AW (AJ 3) AH) (AW (AJ 3) AH) (AW (AJ 3) AH))))))) (AM (Jy PassesOwn.never (FP HB (A3 D9 rfl BZ PySem.boot_len (Bo (AJ 4))) (AJ 1)) (AM (DN 2 nd (AK BR hr rfl (An (AJ 2) (AK Fs hr rfl (Bo (AJ 0)))))) (AM (DN 5 nd (AK Aj hr rfl (An (AJ 0) AH))) (AM (A7 (FP Tk (AJ 5) AH) (AR (DN 3 nd (DM (Bg (GQ (AK BW hr rfl (Bo (AJ 0))) (AK BW hr rfl (Bo (AJ 0))) (AK BW hr rfl (Bo (AJ 0)))))))) (AR (A7 (FP Tk (AJ 5) AH) (AR (DN 3 nd (Ad A8 (Ad A8 (GV (AJ 3) YD (YE (Ad Cp (AJ 5) AH))) (DM (Bg (Bo (AK BW hr rfl (Bo (AJ 0))))))) (GV (AJ 3) (YE (AJ 5)) YD)))) Au))) (AR (C3 (i:=4) PySem.F.slot_list_append PySem.F.type_list_append CN (Bo (Ae (Bf (AJ 2) (GQ (AW (AJ 3) AH) (AW (AJ 3) AH) (AW (AJ 3) AH))))))))))) (AR (AY (Bp D4 rfl A4 boot_tuple (Bo (AJ 4)))))))))))
theorem GT:AZ ["_law_one","_law_other"] ["_law_one","_law_other"] (AU DX):=⟨rfl,rfl,rfl,by decide +kernel,rfl,by decide +kernel,by decide +kernel⟩
theorem Lv (F:Ck K "_law_product" "_law_product" DX f fd) (BK:Cd P w K mg base n):
 Az P w K mg base Cf (n+1) f fd ["_law_one","_law_other"] (BJ K 2 BL):=by
 have nd:=GT.nd
 exact Aa F GT rfl λ_ _ _ _ _ _ hr=>(AR (AY (AK BK hr rfl (An (Ad BH (AW (AJ 0) AH) (AW (AJ 1) AH)) (Ad BH (AW (AJ 0) AH) (AW (AJ 1) AH))))))
theorem G4:AZ ["_law_tape_here","_law_plan_here","_law_apart_here","_law_way","_law_by","_law_side","_law_other","_law_k","_law_spot_here"] ["_law_tape_here","_law_plan_here","_law_apart_here"] (AU Du):=⟨rfl,rfl,rfl,by decide +kernel,rfl,by decide +kernel,by decide +kernel⟩
theorem NY (F:Ck K "_law_beside" "_law_beside" Du f fd) (Aj:DH P w K mg base n) (Gh:QU P w K mg base n) (BD:C7 P w K mg base n) (BW:JN P w K mg base n) (Fp:LN P w K mg base n) (BU:Ce P w K mg base n) (Fs:LO P w K mg base n) (BR:C8 P w K mg base n) (Dd:mg "int" =none) (BZ:mg "len" =none) (Ie:mg "reversed" =none) (A4:mg "tuple" =none) (Db:mg "zip" =none):
 Az P w K mg base Cf (n+1) f fd ["_law_tape_here","_law_plan_here","_law_apart_here"] (BJ K 3 Cr):=by
 have nd:=G4.nd
 have nd0:(["_law_one","_law_other"] :List Str).Nodup:=by decide +kernel
 exact Aa F G4 rfl λ_ _ _ _ _ _ hr=>(AM (DN 3 nd (AK Aj hr rfl (An (AJ 0) AH))) (AM (FO (i:=4) nd rfl (Or.inl rfl) (Bg (GQ (Ae (An AH AH)) (Ae (An AH AH)) (Ae (An AH AH))))) (AM (DN 5 nd (AK Aj hr rfl (An (AJ 0) AH))) (AM (aO (i:=4) (AJ 5) (AW (AJ 2) (Bp RK rfl Dd boot_int (Bo (FM (Dc hr) (AJ 5) AH (DB _)))))) (AM (A7 (FP (Dc hr) (AJ 3) AH) (AR (aO (i:=4) (AJ 5) (VL (AK BU hr rfl (An (AW (AJ 4) (AJ 5)) (AW (DM (Bg (GQ (Ae (An AH AH)) (Ae (An (CF AH) AH)) (Ae (An (CF AH) AH))))) (AK Aj hr rfl (An (AJ 0) AH)))))))) Au) (AM (A7 (FP HB (AJ 3) AH) (AR (AY (AK Gh hr rfl (GQ (AJ 1) (Ae (An AH AH)) (AJ 4))))) Au) (AM (A7 (FP (Dc hr) (AJ 3) AH) (AR (AY (AK Gh hr rfl (GQ (AJ 1) (AW (DM (Bg (An (AK Fs hr rfl (Bo (AJ 0))) (Ae (An AH AH))))) (AK Aj hr rfl (An (AJ 0) AH))) (AJ 4))))) Au) (AM (A7 (FP (Dc hr) (AJ 3) AH) (AR (AY (Bp D4 rfl A4 boot_tuple (Bo (DM (DZ rfl (lR rfl Db rfl Ie (AJ 1) (AJ 1)) (DU (own:=2) (ix:= []) (N:= ["_law_one","_law_other" ]) rfl rfl rfl rfl rfl rfl (λ_ _ _ _ _ _=>(VP (n:=2) rfl (Fj (RS 0 nd0) (Fj (RS 1 nd0) RT)))) (λ_ _ _ _ _ _=>CU) (λ_ _ _ _ _ _=>(Ad A8 (Ae (Bo (AW (AJ 0) AH))) (GV (AJ 1) (YE AH) YD)))))))))) Au) (AM (A7 (FP (Dc hr) (AJ 3) AH) (AM (DN 6 nd (AK Fp hr rfl (Bo (AJ 0)))) (AR (AY (AK Gh hr rfl (GQ (AJ 6) (AK BD hr rfl (An (AW (AW (AJ 1) (CF AH)) AH) (AW (AW (AJ 6) AH) AH))) (DM (Bg (GQ (Ae (An AH AH)) (Ae (An AH AH)) (Ae (An AH AH)))))))))) Au) (AM (A7 (FP (Dc hr) (AJ 3) AH) (AM (DN 7 nd (AK Aj hr rfl (An (AJ 0) (A3 D9 rfl BZ PySem.boot_len (Bo (AJ 1)))))) (AM (DN 8 nd (Ae (GQ (AK BW hr rfl (Bo (AJ 0))) (AK BW hr rfl (Bo (AJ 0))) (AK BW hr rfl (Bo (AJ 0)))))) (AR (AY (Ad A8 (Ad A8 (GV (AJ 1) YD (YE (AJ 7))) (Ae (Bo (Ad A8 (GV (AW (AJ 1) (AJ 7)) YD (YE AH)) (AJ 8))))) (GV (AJ 1) (YE (Ad A8 (AJ 7) AH)) YD)))))) Au) (AM (A7 (FP (Dc hr) (AJ 3) AH) (AM (DN 8 nd (GV (AW (AJ 1) (AK Aj hr rfl (An (AJ 0) (A3 D9 rfl BZ PySem.boot_len (Bo (AJ 1)))))) (YE AH) YD)) (AR (AY (Ae (An (Ad A8 (Ae (Bo (AW (AW (AJ 1) AH) AH))) (AJ 8)) (Ad A8 (Ae (Bo (AK BR hr rfl (An (AW (AW (AJ 1) (CF AH)) AH) (AK Fs hr rfl (Bo (AJ 0))))))) (AJ 8))))))) Au) (AR (AY (AK Fp hr rfl (Bo (AJ 0))))))))))))))))
theorem Jv:AZ ["_law_script","_law_k","_law_cell","_law_digits"] ["_law_script","_law_k"] (AU E8):=⟨rfl,rfl,rfl,by decide +kernel,rfl,by decide +kernel,by decide +kernel⟩
theorem Q0 (F:Ck K "_law_tape" "_law_tape" E8 f fd) (EB:mg "abs" =none) (Dd:mg "int" =none) (BZ:mg "len" =none):
 Az P w K mg base Cf (n+1) f fd ["_law_script","_law_k"] (BJ K 2 Mx):=by
 have nd:=Jv.nd
 refine F.ok Jv (λvs H Q E h=> ?_) (λcdv A outer s H vs Q E hr h=> ?_)
 ·obtain ⟨T,M,xs,AQ,_,_,r,hl,_⟩:=h
  rw [r.length,hl] <;> rfl
 obtain ⟨T,M,xs,AQ,va,_,r,hl,hF,hQ⟩:=h
 unfold Mx at hF
 split at hF <;> first | exact hF.elim|skip
 rename_i ns k
 obtain ⟨⟨k0,k1⟩,hF⟩:=hF
 cases r with
 | cons r rr=>
 cases rr with
 | cons r2 rr=>
 cases rr
 cases r2
 obtain ⟨a,rfl,hS⟩:=Z9 r
 refine ⟨_,(Bu (FJ (i:=2) nd rfl (Or.inl rfl) BA)
  (Bu (WM (MI e8 (pv 1) (JY JH rfl BZ PySem.boot_len (CC (pv 0) FH)) (DB _)) (Ew (FJ (i:=2) nd rfl (Or.inl rfl) (LU Et (pv 0) (pv 1) (λ_ _=>rfl)))) MH)
  (Bu (FJ (i:=3) nd rfl (Or.inl rfl) (CA HL (JY NC rfl EB boot_abs (CC (pv 2) FH)) (HM PB rfl Dd PyProof.Rows.boot_int (CC (WL e6 (JY NC rfl EB boot_abs (CC (pv 2) FH)) (CA hZ BA BA) (DB _)) FH))))
  (Ew (Ni (Zj (CC (pv 3) (CC (CA F4 (CA HL (CA F4 (CA IX (CA IX (pv 2) (CA HL BA (pv 1))) BA) BA) BA) BA) FH)))))))), ?_⟩
 have hl:(ns.map V.int).length=ns.length:=List.length_map _
 have fin:∀(c:Int) (p:Addr),H p=none->Q (.ref p) (upd H p (.lst [.int ((if c<0 then -c else c)*(if decide ((10:Int)^18<=(if c<0 then -c else c)) then 1 else 0)), .int ((c+7919*k+1) % 2147483647*48271 % 2147483647)])):=λc p hp=>
  hQ _ .tape (λb=>T b\/b=p) _ (aX va.tp hp (Int.mul_nonneg (by split <;> omega) (tH _)) (Int.emod_nonneg _ (by decide)) (Int.emod_lt_of_pos _ (by decide))) (.tape (.inr rfl)) hF
 refine ⟨_,rfl,_,rfl,a,_,rfl, .inl hS,_,_,rfl,rfl,_,rfl, ?_⟩
 refine kH (λc=> ?_) (λc=> ?_)
 ·have c':k<(((ns.map V.int).length:Nat):Int):=of_decide_eq_true c
  rw [hl] at c'
  have hk:k.toNat<ns.length:=by omega
  have hv:Ih (ns.map V.int) k=some (.int ns[k.toNat]):=by
   have q:Ih (ns.map V.int) ((k.toNat:Nat):Int)=some (.int ns[k.toNat]):=Cg (by rw [List.getElem?_map,List.getElem?_eq_getElem hk] <;> rfl)
   rwa [show ((k.toNat:Nat):Int)=k by omega] at q
  refine ⟨_,rfl,_,rfl,a,_,_,_,rfl,rfl,hS,hv, ?_⟩
  refine ⟨_,rfl,_,rfl,_,rfl,_,rfl,_,_,rfl,rfl,⟨by decide,by decide,by decide⟩,_,_,rfl,rfl, .inr ⟨_,rfl,_,_,rfl,rfl, .inl (.inr (p7 _)), ?_⟩⟩
  exact ⟨_,rfl,_,rfl,_,rfl,_,_,rfl,rfl, .inl (.inl ⟨by decide,by decide⟩),_,_,rfl,rfl,_,_,rfl,rfl,_,_,rfl,rfl,(show (0:Int)<2147483647 by decide),_,_,rfl,rfl, .inl (.inr ⟨by decide,by decide⟩),_,_,rfl,rfl,(show (0:Int)<2147483647 by decide),(show 2<=sizeLine by decide),λp hp=>fin _ p hp⟩
 ·refine ⟨_,rfl,_,rfl,_,rfl,_,rfl,_,_,rfl,rfl,⟨by decide,by decide,by decide⟩,_,_,rfl,rfl, .inr ⟨_,rfl,_,_,rfl,rfl, .inl (.inr (p7 _)), ?_⟩⟩
  exact ⟨_,rfl,_,rfl,_,rfl,_,_,rfl,rfl, .inl (.inl ⟨by decide,by decide⟩),_,_,rfl,rfl,_,_,rfl,rfl,_,_,rfl,rfl,(show (0:Int)<2147483647 by decide),_,_,rfl,rfl, .inl (.inr ⟨by decide,by decide⟩),_,_,rfl,rfl,(show (0:Int)<2147483647 by decide),(show 2<=sizeLine by decide),λp hp=>fin 0 p hp⟩
theorem Jm:AZ ["_law_script","_law_k","_law_tape_here","_law_apart_here","_law_one","_law_other"] ["_law_script","_law_k"] (AU Ey):=⟨rfl,rfl,rfl,by decide +kernel,rfl,by decide +kernel,by decide +kernel⟩
theorem Qr (F:Ck K "_law_case" "_law_case" Ey f fd) (R4:QR P w K mg base n) (QA:OZ P w K mg base n) (Aj:DH P w K mg base n) (Fp:LN P w K mg base n) (UD:Si P w K mg base n):
 Az P w K mg base Cf (n+1) f fd ["_law_script","_law_k"] (BJ K 2 Dz):=by
 have nd:=Jm.nd
 exact Aa F Jm rfl λ_ _ _ _ _ _ hr=>(AM (DN 2 nd (AK UD hr rfl (An (AJ 0) (AJ 1)))) (AM (DN 3 nd (AK R4 hr rfl (Bo (AJ 2)))) (AM (DN 4 nd (AK Fp hr rfl (Bo (AJ 2)))) (AM (DN 5 nd (AK QA hr rfl (GQ (AJ 2) (AJ 4) (AJ 3)))) (AM (A7 (FP (Dc hr) (AK Aj hr rfl (An (AJ 2) AH)) AH) (AR (K9 (i:=4) (j:=5) rfl nd rfl rfl (by decide) rfl rfl (An (AJ 5) (AJ 4)) rfl)) Au) (AR (AY (Ae (Bf (AJ 2) (GQ (AJ 4) (AJ 5) (AJ 3)))))))))))
theorem Jp:AZ ["_law_one","_law_other"] ["_law_one","_law_other"] (AU E2):=⟨rfl,rfl,rfl,by decide +kernel,rfl,by decide +kernel,by decide +kernel⟩
theorem Qu (F:Ck K "_law_less" "_law_less" E2 f fd):
 Az P w K mg base Cf (n+1) f fd ["_law_one","_law_other"] (BJ K 2 Ag):=by
 have nd:=Jp.nd
 exact Aa F Jp rfl λ_ _ _ _ _ _ hr=>(AR (AY (FM HB (Ad BH (AW (AJ 0) AH) (AW (AJ 1) AH)) (Ad BH (AW (AJ 1) AH) (AW (AJ 0) AH)) (DB _))))
theorem IA:AZ ["_law_thing"] ["_law_thing"] (AU EM):=⟨rfl,rfl,rfl,by decide +kernel,rfl,by decide +kernel,by decide +kernel⟩
theorem Om (F:Ck K "_law_whole" "_law_whole" EM f fd) (Vc:mg "bool" =none) (Dd:mg "int" =none) (BM:mg "isinstance" =none):
 Az P w K mg base Cf (n+1) f fd ["_law_thing"] (BJ K 1 C5):=by
 have nd:=IA.nd
 exact Aa F IA rfl λ_ _ _ _ _ _ hr=>(AR (AY (VJ (A3 Nq rfl BM boot_isinstance (An (AJ 0) (Tf (n:="int") rfl Dd boot_int rfl))) (VM (iV (A3 Nq rfl BM boot_isinstance (An (AJ 0) (Tf (n:="bool") rfl Vc boot_bool rfl))))))))
theorem G5:AZ ["_law_thing"] ["_law_thing"] (AU Dv):=⟨rfl,rfl,rfl,by decide +kernel,rfl,by decide +kernel,by decide +kernel⟩
theorem NZ (F:Ck K "_law_lowest" "_law_lowest" Dv f fd) (BK:Cd P w K mg base n) (Er:JO P w K mg base n) (BM:mg "isinstance" =none) (BZ:mg "len" =none) (A4:mg "tuple" =none):
 Az P w K mg base Cf (n+1) f fd ["_law_thing"] (BJ K 1 CK):=by
 have nd:=G5.nd
 exact Aa F G5 rfl λ_ _ _ _ _ _ hr=>(AM (A7 (GY (Ej (CO (A5 (A3 Nq rfl BM boot_isinstance (An (AJ 0) (Tf (n:="tuple") rfl A4 boot_tuple rfl))))) (Ej (FP (Pj hr) (A3 D9 rfl BZ PySem.boot_len (Bo (AJ 0))) AH) (Ej (CO (A5 (AK Er hr rfl (Bo (AW (AJ 0) AH))))) (FR (CO (A5 (AK Er hr rfl (Bo (AW (AJ 0) AH)))))))))) (AR (AY HA)) Au) (AR (AY (VJ (FM Tk (AW (AJ 0) AH) AH (DB _)) (VM (FM (Dc hr) (AJ 0) (AK BK hr rfl (An (AW (AJ 0) AH) (AW (AJ 0) AH))) (DB _)))))))
theorem Jo:AZ ["_law_found","_law_one"] ["_law_found"] (AU E1):=⟨rfl,rfl,rfl,by decide +kernel,rfl,by decide +kernel,by decide +kernel⟩
theorem Qt (F:Ck K "_law_fine" "_law_fine" E1 f fd) (Aq:DI P w K mg base n) (Iv:Oa P w K mg base n) (Er:JO P w K mg base n) (BM:mg "isinstance" =none) (BZ:mg "len" =none) (A4:mg "tuple" =none):
 Az P w K mg base Cf (n+1) f fd ["_law_found"] (BJ K 1 D0):=by
 have nd:=Jo.nd
 exact Aa F Jo rfl λ_ _ _ _ _ _ hr=>(AM (A7 (CO (A5 (A3 Nq rfl BM boot_isinstance (An (AJ 0) (Tf (n:="tuple") rfl A4 boot_tuple rfl))))) (AR (AY HA)) Au) (AM (CG PassesOwn.never rfl (FN (AJ 0)) (GX 1 nd) (AM (A7 (GY (Ej (CO (A5 (A3 Nq rfl BM boot_isinstance (An (AJ 1) (Tf (n:="tuple") rfl A4 boot_tuple rfl))))) (Ej (FP (Pj hr) (A3 D9 rfl BZ PySem.boot_len (Bo (AJ 1))) AH) (Ej (CO (A5 (AK Iv hr rfl (Bo (AW (AJ 1) AH))))) (FR (CO (A5 (AK Iv hr rfl (Bo (AW (AJ 1) AH)))))))))) (AR (AY HA)) Au) (AR (A7 (GY (Ej (CO (A5 (AK Er hr rfl (Bo (AW (AJ 1) AH))))) (Ej (aQ (ia hr) (AW (AJ 1) AH) (Ae (An AH AH)) rfl) (FR (CO (A5 (AK Aq hr rfl (An (AW (AJ 1) AH) (AW (AJ 1) AH))))))))) (AR (AY HA)) Au)))) (AR (AY HA))))
theorem Nr:AZ ["_law_found","_law_m","_law_begin","_law_held","_law_end"] ["_law_found","_law_m"] (AU HP):=⟨rfl,rfl,rfl,by decide +kernel,rfl,by decide +kernel,by decide +kernel⟩
theorem Uz (F:Ck K "_law_in" "_law_in" HP f fd) (Aq:DI P w K mg base n):
 Az P w K mg base Cf (n+1) f fd ["_law_found","_law_m"] (BJ K 2 FX):=by
 have nd:=Nr.nd
 exact Aa F Nr rfl λ_ _ _ _ _ _ hr=>(AM (CG PassesOwn.never rfl (FN (AJ 0)) (Dn (n:=3) rfl (Am (GX 2 nd) (Am (GX 3 nd) (Am (GX 4 nd) Ci)))) (AR (A7 (GY (HE (A5 (AK Aq hr rfl (An (AJ 1) (AJ 4)))) (FB (GY (Ej (A5 (AK Aq hr rfl (An (AJ 2) (AJ 1)))) (FR (GY (HE (FP (Dc hr) (AJ 3) AH) (FB (FP (Dc hr) (AJ 2) (AJ 1))))))))))) (AR (AY HA)) Au))) (AR (AY HA)))
theorem Hx:AZ ["_law_one","_law_other"] ["_law_one","_law_other"] (AU EJ):=⟨rfl,rfl,rfl,by decide +kernel,rfl,by decide +kernel,by decide +kernel⟩
theorem Oi (F:Ck K "_law_ratio" "_law_ratio" EJ f fd) (BK:Cd P w K mg base n):
 Az P w K mg base Cf (n+1) f fd ["_law_one","_law_other"] (BJ K 2 Be):=by
 have nd:=Hx.nd
 exact Aa F Hx rfl λ_ _ _ _ _ _ hr=>(AR (AY (AK BK hr rfl (An (Ad BH (AW (AJ 0) AH) (AW (AJ 1) AH)) (Ad BH (AW (AJ 0) AH) (AW (AJ 1) AH))))))
theorem Ju:AZ ["_law_plan_here","_law_m","_law_one","_law_other","_law_share_here","_law_gone"] ["_law_plan_here","_law_m"] (AU E7):=⟨rfl,rfl,rfl,by decide +kernel,rfl,by decide +kernel,by decide +kernel⟩
theorem Qz (F:Ck K "_law_spot" "_law_spot" E7 f fd) (Aq:DI P w K mg base n) (BD:C7 P w K mg base n) (BU:Ce P w K mg base n) (CW:EE P w K mg base n) (BR:C8 P w K mg base n) (BG:mg "range" =none) (A4:mg "tuple" =none) (Db:mg "zip" =none):
 Az P w K mg base Cf (n+1) f fd ["_law_plan_here","_law_m"] (BJ K 2 Ca):=by
 have nd:=Ju.nd
 have nd0:(["_law_k","_law_share_here","_law_other","_law_one"] :List Str).Nodup:=by decide +kernel
 have nd1:(["_law_k","_law_one","_law_gone"] :List Str).Nodup:=by decide +kernel
 exact Aa F Ju rfl λ_ _ _ _ _ _ hr=>(AM (A7 (GY (Ej (A5 (AK Aq hr rfl (An (AJ 1) (AW (AW (AJ 0) AH) AH)))) (FR (A5 (AK Aq hr rfl (An (AW (AW (AJ 0) (CF AH)) AH) (AJ 1))))))) (AR (AY B4)) Au) (AM (CG PassesOwn.never rfl (Xw rfl Db (An (AJ 0) (GV (AJ 0) (YE AH) YD))) (Dn (n:=2) rfl (Am (HX (i:=2) nd rfl (Or.inr rfl)) (Am (HX (i:=3) nd rfl (Or.inr rfl)) Ci))) (AR (A7 (CO (A5 (AK Aq hr rfl (An (AW (AJ 3) AH) (AJ 1))))) (AM (HC (i:=4) nd rfl (Or.inr rfl) (AK CW hr rfl (An (AK BD hr rfl (An (AJ 1) (AW (AJ 2) AH))) (AK BD hr rfl (An (AW (AJ 3) AH) (AW (AJ 2) AH)))))) (AM (HC (i:=5) nd rfl (Or.inr rfl) (DM (DZ rfl (FN (Ae (GQ AH AH AH))) (DU (own:=1) (ix:= [4,3,2]) (N:= ["_law_k","_law_share_here" ,"_law_other" ,"_law_one" ]) rfl rfl rfl rfl rfl rfl (λ_ _ _ _ _ _=>(RS 0 nd0)) (λ_ _ _ _ _ _=>CU) (λ_ _ _ _ _ _=>(AK BU hr rfl (An (AJ 1) (AK BD hr rfl (An (AW (AJ 2) (AJ 0)) (AW (AJ 3) (AJ 0))))))))))) (AR (AY (Bp D4 rfl A4 boot_tuple (Bo (DM (DZ rfl (Pg rfl BG (Bo AH)) (DU (own:=1) (ix:= [2,5]) (N:= ["_law_k","_law_one" ,"_law_gone" ]) rfl rfl rfl rfl rfl rfl (λ_ _ _ _ _ _=>(RS 0 nd1)) (λ_ _ _ _ _ _=>CU) (λ_ _ _ _ _ _=>(AK BR hr rfl (An (AW (AJ 1) (Ad A8 (AJ 0) AH)) (AW (AJ 2) (AJ 0)))))))))))))) Au))) (AR (AY B4))))
theorem LV:AZ ["_law_one","_law_other","_law_apart_here","_law_m","_law_end","_law_found","_law_k","_law_here","_law_there","_law_off_here"] ["_law_one","_law_other","_law_apart_here","_law_m","_law_end"] (AU F5):=⟨rfl,rfl,rfl,by decide +kernel,rfl,by decide +kernel,by decide +kernel⟩
theorem S6 (F:Ck K "_law_gap" "_law_gap" F5 f fd) (Aq:DI P w K mg base n) (BD:C7 P w K mg base n) (CW:EE P w K mg base n) (EV:LP P w K mg base n) (EB:mg "abs" =none) (Dd:mg "int" =none) (BG:mg "range" =none):
 Az P w K mg base Cf (n+1) f fd ["_law_one","_law_other","_law_apart_here","_law_m","_law_end"] (BJ K 5 EW):=by
 have nd:=LV.nd
 exact Aa F LV rfl λ_ _ _ _ _ _ hr=>(AM (A7 (GY (Ej (A5 (AK Aq hr rfl (An (AJ 3) (AW (AW (AJ 0) AH) AH)))) (FR (A5 (AK Aq hr rfl (An (AJ 3) (AW (AW (AJ 1) AH) AH))))))) (AR (AY B4)) Au) (AM (A7 (GY (HE (CO (ic (AJ 4))) (FB (GY (Ej (CO (A5 (AK Aq hr rfl (An (AJ 3) (AW (AW (AJ 0) (CF AH)) AH))))) (FR (CO (A5 (AK Aq hr rfl (An (AJ 3) (AW (AW (AJ 1) (CF AH)) AH))))))))))) (AR (AY B4)) Au) (AM (K9 (i:=7) (j:=8) rfl nd rfl rfl (by decide) rfl rfl (An (AK EV hr rfl (An (AJ 0) (AJ 3))) (AK EV hr rfl (An (AJ 1) (AJ 3)))) rfl) (AM (A7 (GY (Ej (FP RV (AJ 7) B4) (FR (FP RV (AJ 8) B4)))) (AR (AY B4)) Au) (AM (DN 5 nd (Ae (An AH AH))) (AM (CG PassesOwn.never rfl (Pg rfl BG (Bo AH)) (GX 6 nd) (AM (DN 9 nd (AK CW hr rfl (An (AK BD hr rfl (An (AW (AJ 7) (AJ 6)) (AW (AJ 8) (AJ 6)))) (AW (AJ 2) (Bp RK rfl Dd boot_int (Bo (FM (Dc hr) (AJ 6) AH (DB _)))))))) (AR (A7 (A5 (AK Aq hr rfl (An (AJ 5) (Ae (An (A3 K6 rfl EB boot_abs (Bo (AW (AJ 9) AH))) (AW (AJ 9) AH)))))) (AR (DN 5 nd (Ae (An (A3 K6 rfl EB boot_abs (Bo (AW (AJ 9) AH))) (AW (AJ 9) AH))))) Au)))) (AR (AY (AJ 5)))))))))
theorem GR:AZ ["_law_one","_law_other","_law_apart_here","_law_m","_law_gap_here"] ["_law_one","_law_other","_law_apart_here","_law_m"] (AU DV):=⟨rfl,rfl,rfl,by decide +kernel,rfl,by decide +kernel,by decide +kernel⟩
theorem Lr (F:Ck K "_law_is_near" "_law_is_near" DV f fd) (Ws:Ud P w K mg base n):
 Az P w K mg base Cf (n+1) f fd ["_law_one","_law_other","_law_apart_here","_law_m"] (BJ K 4 CZ):=by
 have nd:=GR.nd
 exact Aa F GR rfl λ_ _ _ _ _ _ hr=>(AM (DN 4 nd (AK Ws hr rfl (Bf (AJ 0) (Bf (AJ 1) (GQ (AJ 2) (AJ 3) HA))))) (AR (AY (VJ (FM MP (AJ 4) B4 (DB _)) (VM (FM HB (AW (AJ 4) AH) (AW (AJ 4) AH) (DB _)))))))
theorem Jq:AZ ["_law_one","_law_other","_law_apart_here","_law_m","_law_offs_here","_law_here","_law_there"] ["_law_one","_law_other","_law_apart_here","_law_m"] (AU E3):=⟨rfl,rfl,rfl,by decide +kernel,rfl,by decide +kernel,by decide +kernel⟩
theorem Qv (F:Ck K "_law_offs" "_law_offs" E3 f fd) (BD:C7 P w K mg base n) (CW:EE P w K mg base n) (EV:LP P w K mg base n) (Dd:mg "int" =none) (BG:mg "range" =none):
 Az P w K mg base Cf (n+1) f fd ["_law_one","_law_other","_law_apart_here","_law_m"] (BJ K 4 DE):=by
 have nd:=Jq.nd
 have nd0:(["_law_k","_law_apart_here","_law_here","_law_there"] :List Str).Nodup:=by decide +kernel
 have nd1:(["_law_off_here"] :List Str).Nodup:=by decide +kernel
 exact Aa F Jq rfl λ_ _ _ _ _ _ hr=>(AM (RY (Ae (An (AK EV hr rfl (An (AJ 0) (AJ 3))) (AK EV hr rfl (An (AJ 1) (AJ 3))))) (Dn (n:=2) rfl (Am (HX (i:=5) nd rfl (Or.inr rfl)) (Am (HX (i:=6) nd rfl (Or.inr rfl)) Ci)))) (AM (N5 (i:=4) rfl nd rfl (Or.inl rfl) (Pg rfl BG (Bo AH)) (DU (own:=1) (ix:= [2,5,6]) (N:= ["_law_k","_law_apart_here" ,"_law_here" ,"_law_there" ]) rfl rfl rfl rfl rfl rfl (λ_ _ _ _ _ _=>(RS 0 nd0)) (λ_ _ _ _ _ _=>CU) (λ_ _ _ _ _ _=>(AK CW hr rfl (An (AK BD hr rfl (An (AW (AJ 2) (AJ 0)) (AW (AJ 3) (AJ 0)))) (AW (AJ 1) (Bp RK rfl Dd boot_int (Bo (FM (Dc hr) (AJ 0) AH (DB _)))))))))) (AR (AY (Ad A8 (AJ 4) (DM (DZ rfl (FN (AJ 4)) (DU (own:=1) (ix:= []) (N:= ["_law_off_here"]) rfl rfl rfl rfl rfl rfl (λ_ _ _ _ _ _=>(RS 0 nd1)) (λ_ _ _ _ _ _=>CU) (λ_ _ _ _ _ _=>(Ae (An (CF (AW (AJ 0) AH)) (AW (AJ 0) AH))))))))))))
theorem G7:AZ ["_law_moments_here","_law_found","_law_m","_law_at"] ["_law_moments_here"] (AU Dx):=⟨rfl,rfl,rfl,by decide +kernel,rfl,by decide +kernel,by decide +kernel⟩
theorem Nb (F:Ck K "_law_rising" "_law_rising" Dx f fd) (Aq:DI P w K mg base n) (BZ:mg "len" =none):
 Az P w K mg base Cf (n+1) f fd ["_law_moments_here"] (BJ K 1 CM):=by
 have nd:=G7.nd
 have nd0:(["_law_one","_law_m"] :List Str).Nodup:=by decide +kernel
 exact Aa F G7 rfl λ_ _ _ _ _ _ hr=>(AM (FO (i:=1) nd rfl (Or.inl rfl) (Bg Eg)) (AM (CG PassesOwn.never rfl (FN (AJ 0)) (HX (i:=2) nd rfl (Or.inr rfl)) (AM (DN 3 nd (VL (A3 D9 rfl BZ PySem.boot_len (Bo (DM (DZ rfl (FN (AJ 1)) (DU (own:=1) (ix:= [2]) (N:= ["_law_one","_law_m" ]) rfl rfl rfl rfl rfl rfl (λ_ _ _ _ _ _=>(RS 0 nd0)) (λ_ _ _ _ _ _=>(RM (A5 (AK Aq hr rfl (An (AJ 0) (AJ 1)))))) (λ_ _ _ _ _ _=>(AJ 0))))))))) (AR (A7 (aP (GY (Ej (FP (Dc hr) (AJ 3) (A3 D9 rfl BZ PySem.boot_len (Bo (AJ 1)))) (FR (FP (Pj hr) (AW (AJ 1) (AJ 3)) (AJ 2)))))) (AR (C3 (i:=1) PySem.F.slot_list_insert PySem.F.type_list_insert Pi (An (AJ 3) (AJ 2)))) Au)))) (AR (AY (AJ 1)))))
theorem Hy:AZ ["_law_low","_law_high","_law_begin","_law_end","_law_share_here"] ["_law_low","_law_high","_law_begin","_law_end"] (AU EK):=⟨rfl,rfl,rfl,by decide +kernel,rfl,by decide +kernel,by decide +kernel⟩
theorem Oj (F:Ck K "_law_share" "_law_share" EK f fd) (BD:C7 P w K mg base n) (BU:Ce P w K mg base n) (CW:EE P w K mg base n) (BR:C8 P w K mg base n):
 Az P w K mg base Cf (n+1) f fd ["_law_low","_law_high","_law_begin","_law_end"] (BJ K 4 DP):=by
 have nd:=Hy.nd
 exact Aa F Hy rfl λ_ _ _ _ _ _ hr=>(AM (A7 (FP Tj (Ad BH (AW (AJ 0) AH) (AW (AJ 1) AH)) AH) (AR (AY B4)) Au) (AM (DN 4 nd (AK CW hr rfl (An (AJ 0) (AK BD hr rfl (An (AJ 0) (AJ 1)))))) (AR (AY (AK BR hr rfl (An (AJ 2) (AK BU hr rfl (An (AJ 4) (AK BD hr rfl (An (AJ 3) (AJ 2)))))))))))
theorem Hz:AZ ["_law_one","_law_other","_law_first","_law_last","_law_inner"] ["_law_one","_law_other"] (AU EL):=⟨rfl,rfl,rfl,by decide +kernel,rfl,by decide +kernel,by decide +kernel⟩
theorem Ol (F:Ck K "_law_turns" "_law_turns" EL f fd) (Aq:DI P w K mg base n) (Fq:Ho P w K mg base n):
 Az P w K mg base Cf (n+1) f fd ["_law_one","_law_other"] (BJ K 2 DR):=by
 have nd:=Hz.nd
 have nd0:(["_law_corner","_law_first","_law_last"] :List Str).Nodup:=by decide +kernel
 exact Aa F Hz rfl λ_ _ _ _ _ _ hr=>(AM (HC (i:=2) nd rfl (Or.inr rfl) (Pf (A5 (AK Aq hr rfl (An (AW (AW (AJ 1) AH) AH) (AW (AW (AJ 0) AH) AH)))) (AW (AW (AJ 0) AH) AH) (AW (AW (AJ 1) AH) AH))) (AM (HC (i:=3) nd rfl (Or.inr rfl) (Pf (A5 (AK Aq hr rfl (An (AW (AW (AJ 0) (CF AH)) AH) (AW (AW (AJ 1) (CF AH)) AH)))) (AW (AW (AJ 0) (CF AH)) AH) (AW (AW (AJ 1) (CF AH)) AH))) (AM (A7 (CO (A5 (AK Aq hr rfl (An (AJ 2) (AJ 3))))) (AR (AY (DM (Bg Eg)))) Au) (AM (N5 (i:=4) rfl nd rfl (Or.inl rfl) (FN (Ad A8 (AJ 0) (AJ 1))) (DU (own:=1) (ix:= [2,3]) (N:= ["_law_corner","_law_first" ,"_law_last" ]) rfl rfl rfl rfl rfl rfl (λ_ _ _ _ _ _=>(RS 0 nd0)) (λ_ _ _ _ _ _=>(RM (GY (HE (A5 (AK Aq hr rfl (An (AJ 1) (AW (AJ 0) AH)))) (FB (A5 (AK Aq hr rfl (An (AW (AJ 0) AH) (AJ 2))))))))) (λ_ _ _ _ _ _=>(AW (AJ 0) AH)))) (AR (AY (AK Fq hr rfl (Bo (Ad A8 (DM (Bg (An (AJ 2) (AJ 3)))) (AJ 4))))))))))
theorem Hu:AZ ["_law_one","_law_other","_law_apart_here","_law_turns_here","_law_found","_law_begin","_law_end","_law_lows","_law_highs","_law_low","_law_high","_law_m"] ["_law_one","_law_other","_law_apart_here"] (AU EG):=⟨rfl,rfl,rfl,by decide +kernel,rfl,by decide +kernel,by decide +kernel⟩
theorem Of (F:Ck K "_law_marks" "_law_marks" EG f fd) (BD:C7 P w K mg base n) (Mr:Sg P w K mg base n) (Fq:Ho P w K mg base n) (R6:QV P w K mg base n) (R7:QW P w K mg base n) (GI:mg "list" =none) (Db:mg "zip" =none):
 Az P w K mg base Cf (n+1) f fd ["_law_one","_law_other","_law_apart_here"] (BJ K 3 CH):=by
 have nd:=Hu.nd
 exact Aa F Hu rfl λ_ _ _ _ _ _ hr=>(AM (DN 3 nd (AK R7 hr rfl (An (AJ 0) (AJ 1)))) (AM (FO (i:=4) nd rfl (Or.inl rfl) (WW rfl GI boot_list (Bo (AJ 3)))) (AM (CG PassesOwn.never rfl (Xw rfl Db (An (AJ 3) (GV (AJ 3) (YE AH) YD))) (Dn (n:=2) rfl (Am (GX 5 nd) (Am (GX 6 nd) Ci))) (AM (K9 (i:=7) (j:=8) rfl nd rfl rfl (by decide) rfl rfl (An (AK Mr hr rfl (Bf (AJ 0) (GQ (AJ 1) (AJ 2) (AJ 5)))) (AK Mr hr rfl (Bf (AJ 0) (GQ (AJ 1) (AJ 2) (AJ 6))))) rfl) (AR (CG PassesOwn.never rfl (Xw rfl Db (An (AJ 7) (AJ 8))) (Dn (n:=2) rfl (Am (GX 9 nd) (Am (GX 10 nd) Ci))) (AM (DN 11 nd (AK R6 hr rfl (Bf (AK BD hr rfl (An (AJ 9) (Ae (An AH AH)))) (GQ (AK BD hr rfl (An (AJ 10) (Ae (An AH AH)))) (AJ 5) (AJ 6))))) (AR (A7 (FP MP (AJ 11) B4) (AR (C3 (i:=4) PySem.F.slot_list_append PySem.F.type_list_append CN (Bo (AJ 11)))) Au))))))) (AR (AY (AK Fq hr rfl (Bo (AJ 4))))))))
theorem G6:AZ ["_law_one","_law_other"] ["_law_one","_law_other"] (AU Dw):=⟨rfl,rfl,rfl,by decide +kernel,rfl,by decide +kernel,by decide +kernel⟩
theorem Na (F:Ck K "_law_middle" "_law_middle" Dw f fd) (BU:Ce P w K mg base n) (BR:C8 P w K mg base n):
 Az P w K mg base Cf (n+1) f fd ["_law_one","_law_other"] (BJ K 2 Cs):=by
 have nd:=G6.nd
 exact Aa F G6 rfl λ_ _ _ _ _ _ hr=>(AR (AY (AK BU hr rfl (An (AK BR hr rfl (An (AJ 0) (AJ 1))) (Ae (An AH AH))))))
theorem GS:AZ ["_law_one","_law_other","_law_apart_here","_law_marks_here","_law_found","_law_m","_law_further"] ["_law_one","_law_other","_law_apart_here"] (AU DW):=⟨rfl,rfl,rfl,by decide +kernel,rfl,by decide +kernel,by decide +kernel⟩
theorem Lu (F:Ck K "_law_moments" "_law_moments" DW f fd) (R5:QS P w K mg base n) (QC:Ob P w K mg base n) (BD:C7 P w K mg base n) (BU:Ce P w K mg base n) (BR:C8 P w K mg base n) (GI:mg "list" =none) (Db:mg "zip" =none):
 Az P w K mg base Cf (n+1) f fd ["_law_one","_law_other","_law_apart_here"] (BJ K 3 Bq):=by
 have nd:=GS.nd
 exact Aa F GS rfl λ_ _ _ _ _ _ hr=>(AM (DN 3 nd (AK R5 hr rfl (GQ (AJ 0) (AJ 1) (AJ 2)))) (AM (FO (i:=4) nd rfl (Or.inl rfl) (WW rfl GI boot_list (Bo (AJ 3)))) (AM (CG PassesOwn.never rfl (Xw rfl Db (An (AJ 3) (GV (AJ 3) (YE AH) YD))) (Dn (n:=2) rfl (Am (GX 5 nd) (Am (GX 6 nd) Ci))) (AM (C3 (i:=4) PySem.F.slot_list_append PySem.F.type_list_append CN (Bo (AK QC hr rfl (An (AJ 5) (AJ 6))))) (AR (C3 (i:=4) PySem.F.slot_list_append PySem.F.type_list_append CN (Bo (AK BR hr rfl (An (AJ 5) (AK BU hr rfl (An (AK BD hr rfl (An (AJ 6) (AJ 5))) (Ae (An AH AH))))))))))) (AR (AY (Ad A8 (AJ 4) (DM (Bg (Bf (AK BD hr rfl (An (AW (AW (AJ 0) AH) AH) (Ae (An AH AH)))) (GQ (AK BR hr rfl (An (AW (AW (AJ 0) (CF AH)) AH) (Ae (An AH AH)))) (AW (AW (AJ 0) AH) AH) (AW (AW (AJ 1) (CF AH)) AH)))))))))))
theorem PY:AZ ["one","other"] ["one","other"] (AU Jg):=⟨rfl,rfl,rfl,by decide +kernel,rfl,by decide +kernel,by decide +kernel⟩
theorem Xf (F:Ck K "before" "before" Jg f fd):
 Az P w K mg base Cf (n+1) f fd ["one","other"] (BJ K 2 Ag):=by
 have nd:=PY.nd
 exact Aa F PY rfl λ_ _ _ _ _ _ hr=>(AR (AY (FM HB (Ad BH (AW (AJ 0) AH) (AW (AJ 1) AH)) (Ad BH (AW (AJ 1) AH) (AW (AJ 0) AH)) (DB _))))
theorem Pa:AZ ["one","other"] ["one","other"] (AU Ji):=⟨rfl,rfl,rfl,by decide +kernel,rfl,by decide +kernel,by decide +kernel⟩
theorem Xh (F:Ck K "lesser" "lesser" Ji f fd) (B2:Ed P w K mg base n):
 Az P w K mg base Cf (n+1) f fd ["one","other"] (BJ K 2 EX):=by
 have nd:=Pa.nd
 exact Aa F Pa rfl λ_ _ _ _ _ _ hr=>(AR (AY (Pf (A5 (AK B2 hr rfl (An (AJ 1) (AJ 0)))) (AJ 1) (AJ 0))))
theorem PZ:AZ ["one","other"] ["one","other"] (AU Jh):=⟨rfl,rfl,rfl,by decide +kernel,rfl,by decide +kernel,by decide +kernel⟩
theorem Xg (F:Ck K "common" "common" Jh f fd):
 Az P w K mg base Cf (n+1) f fd ["one","other"] (BJ K 2 Gi):=by
 have nd:=PZ.nd
 exact Aa F PZ rfl λ_ _ _ _ _ _ hr=>(AM (Jy PassesOwn.never (FP (Pj hr) (AJ 1) AH) (AR (K9 (i:=0) (j:=1) rfl nd rfl rfl (by decide) rfl rfl (An (AJ 1) (Ad aK (AJ 0) (AJ 1))) rfl))) (AR (AY (AJ 0))))
theorem WT:AZ ["top","bottom","shared"] ["top","bottom"] (AU RI):=⟨rfl,rfl,rfl,by decide +kernel,rfl,by decide +kernel,by decide +kernel⟩
theorem cZ (F:Ck K "part" "part" RI f fd) (QD:Sj P w K mg base n) (EB:mg "abs" =none):
 Az P w K mg base Cf (n+1) f fd ["top","bottom"] (BJ K 2 Gk):=by
 have nd:=WT.nd
 exact Aa F WT rfl λ_ _ _ _ _ _ hr=>(AM (DN 2 nd (AK QD hr rfl (An (A3 K6 rfl EB boot_abs (Bo (AJ 0))) (A3 K6 rfl EB boot_abs (Bo (AJ 1)))))) (AM (A7 (FP HB (AJ 1) AH) (AR (DN 2 nd (CF (AJ 2)))) Au) (AR (AY (Ae (An (Ad FA (AJ 0) (AJ 2)) (Ad FA (AJ 1) (AJ 2))))))))
theorem Ta:AZ ["one","other"] ["one","other"] (AU MK):=⟨rfl,rfl,rfl,by decide +kernel,rfl,by decide +kernel,by decide +kernel⟩
theorem ZY (F:Ck K "minus" "minus" MK f fd) (Iw:NL P w K mg base n):
 Az P w K mg base Cf (n+1) f fd ["one","other"] (BJ K 2 Dr):=by
 have nd:=Ta.nd
 exact Aa F Ta rfl λ_ _ _ _ _ _ hr=>(AR (AY (AK Iw hr rfl (An (Ad Cp (Ad BH (AW (AJ 0) AH) (AW (AJ 1) AH)) (Ad BH (AW (AJ 1) AH) (AW (AJ 0) AH))) (Ad BH (AW (AJ 0) AH) (AW (AJ 1) AH))))))
theorem WU:AZ ["one","other"] ["one","other"] (AU RJ):=⟨rfl,rfl,rfl,by decide +kernel,rfl,by decide +kernel,by decide +kernel⟩
theorem ca (F:Ck K "plus" "plus" RJ f fd) (Iw:NL P w K mg base n):
 Az P w K mg base Cf (n+1) f fd ["one","other"] (BJ K 2 IJ):=by
 have nd:=WU.nd
 exact Aa F WU rfl λ_ _ _ _ _ _ hr=>(AR (AY (AK Iw hr rfl (An (Ad A8 (Ad BH (AW (AJ 0) AH) (AW (AJ 1) AH)) (Ad BH (AW (AJ 1) AH) (AW (AJ 0) AH))) (Ad BH (AW (AJ 0) AH) (AW (AJ 1) AH))))))
theorem Tc:AZ ["one","other"] ["one","other"] (AU ML):=⟨rfl,rfl,rfl,by decide +kernel,rfl,by decide +kernel,by decide +kernel⟩
theorem ZZ (F:Ck K "times" "times" ML f fd) (Iw:NL P w K mg base n):
 Az P w K mg base Cf (n+1) f fd ["one","other"] (BJ K 2 Ft):=by
 have nd:=Tc.nd
 exact Aa F Tc rfl λ_ _ _ _ _ _ hr=>(AR (AY (AK Iw hr rfl (An (Ad BH (AW (AJ 0) AH) (AW (AJ 1) AH)) (Ad BH (AW (AJ 0) AH) (AW (AJ 1) AH))))))
theorem Jw:AZ ["begin","end","share"] ["begin","end","share"] (AU E9):=⟨rfl,rfl,rfl,by decide +kernel,rfl,by decide +kernel,by decide +kernel⟩
theorem Q1 (F:Ck K "moment_at" "moment_at" E9 f fd) (II:QX P w K mg base n) (Iw:NL P w K mg base n) (YV:Y9 P w K mg base n) (UE:V4 P w K mg base n):
 Az P w K mg base Cf (n+1) f fd ["begin","end","share"] (BJ K 3 DF):=by
 have nd:=Jw.nd
 exact Aa F Jw rfl λ_ _ _ _ _ _ hr=>(AR (AY (AK YV hr rfl (An (AJ 0) (AK UE hr rfl (An (AK Iw hr rfl (An (AW (AJ 2) AH) (AW (AJ 2) AH))) (AK II hr rfl (An (AJ 1) (AJ 0)))))))))
theorem Nv:AZ ["piece","low","held","high","begin","end","bottom","lines","first","last","share"] ["piece"] (AU HS):=⟨rfl,rfl,rfl,by decide +kernel,rfl,by decide +kernel,by decide +kernel⟩
theorem U2 (F:Ck K "near_in" "near_in" HS f fd) (B2:Ed P w K mg base n) (QF:Sk P w K mg base n) (Ms:Sm P w K mg base n):
 Az P w K mg base Cf (n+1) f fd ["piece"] (BJ K 1 FY):=by
 have nd:=Nv.nd
 exact Aa F Nv rfl λ_ _ _ _ _ _ hr=>(AM (RY (AJ 0) (Dn (n:=4) rfl (Am (GX 4 nd) (Am (GX 5 nd) (Am (GX 6 nd) (Am (GX 7 nd) Ci)))))) (AM (DN 1 nd (Ae (An AH AH))) (AM (DN 2 nd AH) (AM (DN 3 nd (Ae (An AH AH))) (AM (CG PassesOwn.never rfl (FN (AJ 7)) (Dn (n:=2) rfl (Am (GX 8 nd) (Am (GX 9 nd) Ci))) (AM (A7 (GY (HE (FP Tj (AJ 8) (AJ 6)) (FB (FP Tj (AJ 9) (AJ 6))))) (AR (AY (DM (Bg Eg)))) Au) (AR (A7 (FP Tj (AJ 8) (AJ 6)) (AM (DN 10 nd (Ae (An (Ad Cp (AJ 8) (AJ 6)) (Ad Cp (AJ 8) (AJ 9))))) (AR (A7 (CO (A5 (AK B2 hr rfl (An (AJ 10) (AJ 1))))) (AM (DN 1 nd (AJ 10)) (AR (DN 2 nd AH))) Au))) (AR (A7 (FP Tk (AJ 9) (AJ 6)) (AR (DN 3 nd (AK QF hr rfl (An (AJ 3) (Ae (An (Ad Cp (AJ 6) (AJ 8)) (Ad Cp (AJ 9) (AJ 8)))))))) Au)))))) (AM (A7 (CO (A5 (AK B2 hr rfl (An (AJ 1) (AJ 3))))) (AR (AY (DM (Bg Eg)))) Au) (AR (AY (DM (Bg (Bo (Ae (GQ (AK Ms hr rfl (GQ (AJ 4) (AJ 5) (AJ 1))) (AJ 2) (AK Ms hr rfl (GQ (AJ 4) (AJ 5) (AJ 3))))))))))))))))
theorem Fi:AZ ["numbers","told","top","bottom"] ["numbers"] (AU C2):=⟨rfl,rfl,rfl,by decide +kernel,rfl,by decide +kernel,by decide +kernel⟩
theorem K3 (F:Ck K "shared_bottom" "shared_bottom" C2 f fd) (QD:Sj P w K mg base n):
 Az P w K mg base Cf (n+1) f fd ["numbers"] (BJ K 1 CI):=by
 have nd:=Fi.nd
 exact Aa F Fi rfl λ_ _ _ _ _ _ hr=>(AM (DN 1 nd AH) (AM (CG PassesOwn.never rfl (FN (AJ 0)) (Dn (n:=2) rfl (Am (GX 2 nd) (Am (GX 3 nd) Ci))) (AR (aN (i:=1) nd rfl (Or.inl rfl) (Ad FA (AJ 3) (AK QD hr rfl (An (AJ 1) (AJ 3)))) iX))) (AR (AY (AJ 1)))))
theorem LY:AZ ["first","last","bottom","lines","former","latter","low","high"] ["first","last"] (AU F8):=⟨rfl,rfl,rfl,by decide +kernel,rfl,by decide +kernel,by decide +kernel⟩
theorem S9 (F:Ck K "lines_of" "lines_of" F8 f fd) (Mt:Lp P w K mg base n) (Db:mg "zip" =none):
 Az P w K mg base Cf (n+1) f fd ["first","last"] (BJ K 2 EY):=by
 have nd:=LY.nd
 exact Aa F LY rfl λ_ _ _ _ _ _ hr=>(AM (DN 2 nd (AK Mt hr rfl (Bo (Ad A8 (AJ 0) (AJ 1))))) (AM (FO (i:=3) nd rfl (Or.inl rfl) (Bg Eg)) (AM (CG PassesOwn.never rfl (Xw rfl Db (An (AJ 0) (AJ 1))) (Dn (n:=2) rfl (Am (GX 4 nd) (Am (GX 5 nd) Ci))) (AM (DN 6 nd (Ad BH (AW (AJ 4) AH) (Ad FA (AJ 2) (AW (AJ 4) AH)))) (AM (DN 7 nd (Ad BH (AW (AJ 5) AH) (Ad FA (AJ 2) (AW (AJ 5) AH)))) (AM (C3 (i:=3) PySem.F.slot_list_append PySem.F.type_list_append CN (Bo (Ae (An (AJ 6) (AJ 7))))) (AR (C3 (i:=3) PySem.F.slot_list_append PySem.F.type_list_append CN (Bo (Ae (An (CF (AJ 6)) (CF (AJ 7))))))))))) (AR (AY (Ae (An (AJ 2) (AJ 3))))))))
theorem WS:AZ ["one","other"] ["one","other"] (AU RH):=⟨rfl,rfl,rfl,by decide +kernel,rfl,by decide +kernel,by decide +kernel⟩
theorem cY (F:Ck K "over" "over" RH f fd) (Iw:NL P w K mg base n):
 Az P w K mg base Cf (n+1) f fd ["one","other"] (BJ K 2 KS):=by
 have nd:=WS.nd
 exact Aa F WS rfl λ_ _ _ _ _ _ hr=>(AR (AY (AK Iw hr rfl (An (Ad BH (AW (AJ 0) AH) (AW (AJ 1) AH)) (Ad BH (AW (AJ 0) AH) (AW (AJ 1) AH))))))
theorem Nx:AZ ["apart","side"] ["apart","side"] (AU HV):=⟨rfl,rfl,rfl,by decide +kernel,rfl,by decide +kernel,by decide +kernel⟩
theorem U4 (F:Ck K "size_of" "size_of" HV f fd):
 Az P w K mg base Cf (n+1) f fd ["apart","side"] (BJ K 2 ES):=by
 have nd:=Nx.nd
 exact Aa F Nx rfl λ_ _ _ _ _ _ hr=>(AR (AY (Pf (FP (Dc hr) (AJ 1) AH) (AW (AJ 0) AH) (AW (AJ 0) AH))))
theorem GU:AZ ["former","latter","m","share"] ["former","latter","m"] (AU DY):=⟨rfl,rfl,rfl,by decide +kernel,rfl,by decide +kernel,by decide +kernel⟩
theorem Lw (F:Ck K "spot_between" "spot_between" DY f fd) (II:QX P w K mg base n) (YU:Y7 P w K mg base n) (YV:Y9 P w K mg base n) (UE:V4 P w K mg base n) (A4:mg "tuple" =none) (Db:mg "zip" =none):
 Az P w K mg base Cf (n+1) f fd ["former","latter","m"] (BJ K 3 DS):=by
 have nd:=GU.nd
 have nd0:(["low","high","share"] :List Str).Nodup:=by decide +kernel
 exact Aa F GU rfl λ_ _ _ _ _ _ hr=>(AM (HC (i:=3) nd rfl (Or.inr rfl) (AK YU hr rfl (An (AK II hr rfl (An (AJ 2) (AW (AJ 0) AH))) (AK II hr rfl (An (AW (AJ 1) AH) (AW (AJ 0) AH)))))) (AR (AY (Bp D4 rfl A4 boot_tuple (Bo (DM (DZ rfl (Xw rfl Db (An (GV (AJ 0) (YE AH) YD) (GV (AJ 1) (YE AH) YD))) (DU (own:=2) (ix:= [3]) (N:= ["low","high" ,"share" ]) rfl rfl rfl rfl rfl rfl (λ_ _ _ _ _ _=>(VP (n:=2) rfl (Fj (RS 0 nd0) (Fj (RS 1 nd0) RT)))) (λ_ _ _ _ _ _=>CU) (λ_ _ _ _ _ _=>(AK YV hr rfl (An (AJ 0) (AK UE hr rfl (An (AJ 2) (AK II hr rfl (An (AJ 1) (AJ 0))))))))))))))))
theorem Ny:AZ ["plan","m","at"] ["plan","m"] (AU HW):=⟨rfl,rfl,rfl,by decide +kernel,rfl,by decide +kernel,by decide +kernel⟩
theorem U5 (F:Ck K "spot_at" "spot_at" HW f fd) (B2:Ed P w K mg base n) (OO:NM P w K mg base n) (BZ:mg "len" =none) (BG:mg "range" =none):
 Az P w K mg base Cf (n+1) f fd ["plan","m"] (BJ K 2 Fc):=by
 have nd:=Ny.nd
 exact Aa F Ny rfl λ_ _ _ _ _ _ hr=>(AM (A7 (A5 (AK B2 hr rfl (An (AJ 1) (AW (AW (AJ 0) AH) AH)))) (AR (AY B4)) Au) (AM (CG PassesOwn.never rfl (fC rfl BG (An AH (A3 D9 rfl BZ PySem.boot_len (Bo (AJ 0))))) (GX 2 nd) (AR (A7 (CO (A5 (AK B2 hr rfl (An (AW (AW (AJ 0) (AJ 2)) AH) (AJ 1))))) (AR (AY (AK OO hr rfl (GQ (AW (AJ 0) (Ad Cp (AJ 2) AH)) (AW (AJ 0) (AJ 2)) (AJ 1))))) Au))) (AR (AY B4))))
theorem Nw:AZ ["one","other","apart","m","here","there"] ["one","other","apart","m"] (AU HU):=⟨rfl,rfl,rfl,by decide +kernel,rfl,by decide +kernel,by decide +kernel⟩
theorem U3 (F:Ck K "offs_at" "offs_at" HU f fd) (II:QX P w K mg base n) (YU:Y7 P w K mg base n) (YW:XI P w K mg base n) (R9:XJ P w K mg base n) (BG:mg "range" =none):
 Az P w K mg base Cf (n+1) f fd ["one","other","apart","m"] (BJ K 4 FZ):=by
 have nd:=Nw.nd
 have nd0:(["side","apart","here","there"] :List Str).Nodup:=by decide +kernel
 exact Aa F Nw rfl λ_ _ _ _ _ _ hr=>(AM (HC (i:=4) nd rfl (Or.inr rfl) (AK R9 hr rfl (An (AJ 0) (AJ 3)))) (AM (HC (i:=5) nd rfl (Or.inr rfl) (AK R9 hr rfl (An (AJ 1) (AJ 3)))) (AR (AY (DM (DZ rfl (Pg rfl BG (Bo AH)) (DU (own:=1) (ix:= [2,4,5]) (N:= ["side","apart" ,"here" ,"there" ]) rfl rfl rfl rfl rfl rfl (λ_ _ _ _ _ _=>(RS 0 nd0)) (λ_ _ _ _ _ _=>CU) (λ_ _ _ _ _ _=>(AK YU hr rfl (An (AK II hr rfl (An (AW (AJ 2) (AJ 0)) (AW (AJ 3) (AJ 0)))) (AK YW hr rfl (An (AJ 1) (AJ 0)))))))))))))
theorem Nu:AZ ["one","other"] ["one","other"] (AU HR):=⟨rfl,rfl,rfl,by decide +kernel,rfl,by decide +kernel,by decide +kernel⟩
theorem U1 (F:Ck K "greater" "greater" HR f fd) (B2:Ed P w K mg base n):
 Az P w K mg base Cf (n+1) f fd ["one","other"] (BJ K 2 CY):=by
 have nd:=Nu.nd
 exact Aa F Nu rfl λ_ _ _ _ _ _ hr=>(AR (AY (Pf (A5 (AK B2 hr rfl (An (AJ 0) (AJ 1)))) (AJ 1) (AJ 0))))
theorem La:AZ ["one","other","begin","end"] ["one","other"] (AU GA):=⟨rfl,rfl,rfl,by decide +kernel,rfl,by decide +kernel,by decide +kernel⟩
theorem TC (F:Ck K "together" "together" GA f fd) (B2:Ed P w K mg base n) (YR:XF P w K mg base n) (QF:Sk P w K mg base n):
 Az P w K mg base Cf (n+1) f fd ["one","other"] (BJ K 2 Dg):=by
 have nd:=La.nd
 exact Aa F La rfl λ_ _ _ _ _ _ hr=>(AM (DN 2 nd (AK YR hr rfl (An (AW (AW (AJ 0) AH) AH) (AW (AW (AJ 1) AH) AH)))) (AM (DN 3 nd (AK QF hr rfl (An (AW (AW (AJ 0) (CF AH)) AH) (AW (AW (AJ 1) (CF AH)) AH)))) (AR (AY (Pf (A5 (AK B2 hr rfl (An (AJ 2) (AJ 3)))) (Ae (An (AJ 2) (AJ 3))) B4)))))
theorem Eh:AZ ["plan","begin","end"] ["plan","begin","end"] (AU CT):=⟨rfl,rfl,rfl,by decide +kernel,rfl,by decide +kernel,by decide +kernel⟩
theorem IV (F:Ck K "corners_between" "corners_between" CT f fd) (B2:Ed P w K mg base n) (A4:mg "tuple" =none):
 Az P w K mg base Cf (n+1) f fd ["plan","begin","end"] (BJ K 3 Br):=by
 have nd:=Eh.nd
 have nd0:(["corner","begin","end"] :List Str).Nodup:=by decide +kernel
 exact Aa F Eh rfl λ_ _ _ _ _ _ hr=>(AR (AY (DM (DZ rfl (FN (AJ 0)) (DU (own:=1) (ix:= [1,2]) (N:= ["corner","begin" ,"end" ]) rfl rfl rfl rfl rfl rfl (λ_ _ _ _ _ _=>(RS 0 nd0)) (λ_ _ _ _ _ _=>(RM (GY (HE (A5 (AK B2 hr rfl (An (AJ 1) (AW (AJ 0) AH)))) (FB (A5 (AK B2 hr rfl (An (AW (AJ 0) AH) (AJ 2))))))))) (λ_ _ _ _ _ _=>(Bp D4 rfl A4 boot_tuple (Bo (AJ 0)))))))))
theorem G8:AZ ["numbers","number","low","high","middle"] ["numbers","number"] (AU Dy):=⟨rfl,rfl,rfl,by decide +kernel,rfl,by decide +kernel,by decide +kernel⟩
theorem Nc (F:Ck K "count_below" "count_below" Dy f fd) (B2:Ed P w K mg base n) (BZ:mg "len" =none):
 Az P w K mg base Cf (n+1) f fd ["numbers","number"] (BJ K 2 Cu):=by
 have nd:=G8.nd
 exact Aa F G8 rfl λ_ _ _ _ _ _ hr=>(AM (DN 2 nd AH) (AM (DN 3 nd (A3 D9 rfl BZ PySem.boot_len (Bo (AJ 0)))) (AM (Jy PassesOwn.never (FP HB (AJ 2) (AJ 3)) (AM (DN 4 nd (Ad FA (Ad A8 (AJ 2) (AJ 3)) AH)) (AR (A7 (A5 (AK B2 hr rfl (An (AW (AJ 0) (AJ 4)) (AJ 1)))) (AR (DN 2 nd (Ad A8 (AJ 4) AH))) (AR (DN 3 nd (AJ 4))))))) (AR (AY (AJ 2))))))
theorem Pe:AZ ["numbers","told","number","at"] ["numbers"] (AU Jl):=⟨rfl,rfl,rfl,by decide +kernel,rfl,by decide +kernel,by decide +kernel⟩
theorem Xk (F:Ck K "rising" "rising" Jl f fd) (QE:Oc P w K mg base n) (BZ:mg "len" =none):
 Az P w K mg base Cf (n+1) f fd ["numbers"] (BJ K 1 Fb):=by
 have nd:=Pe.nd
 exact Aa F Pe rfl λ_ _ _ _ _ _ hr=>(AM (FO (i:=1) nd rfl (Or.inl rfl) (Bg Eg)) (AM (CG PassesOwn.never rfl (FN (AJ 0)) (GX 2 nd) (AM (DN 3 nd (VL (AK QE hr rfl (An (AJ 1) (AJ 2))))) (AR (A7 (aP (GY (Ej (FP (Dc hr) (AJ 3) (A3 D9 rfl BZ PySem.boot_len (Bo (AJ 1)))) (FR (FP (Pj hr) (AW (AJ 1) (AJ 3)) (AJ 2)))))) (AR (C3 (i:=1) PySem.F.slot_list_insert PySem.F.type_list_insert Pi (An (AJ 3) (AJ 2)))) Au)))) (AR (AY (AJ 1)))))
theorem Td:AZ ["one","other","begin","end","corners"] ["one","other","begin","end"] (AU MM):=⟨rfl,rfl,rfl,by decide +kernel,rfl,by decide +kernel,by decide +kernel⟩
theorem Za (F:Ck K "turns" "turns" MM f fd) (FW:JP P w K mg base n) (QG:Sn P w K mg base n):
 Az P w K mg base Cf (n+1) f fd ["one","other","begin","end"] (BJ K 4 JA):=by
 have nd:=Td.nd
 have nd0:(["corner"] :List Str).Nodup:=by decide +kernel
 exact Aa F Td rfl λ_ _ _ _ _ _ hr=>(AM (DN 4 nd (Ad A8 (AK FW hr rfl (GQ (AJ 0) (AJ 2) (AJ 3))) (AK FW hr rfl (GQ (AJ 1) (AJ 2) (AJ 3))))) (AR (AY (AK QG hr rfl (Bo (Ad A8 (DM (Bg (An (AJ 2) (AJ 3)))) (DM (DZ rfl (FN (AJ 4)) (DU (own:=1) (ix:= []) (N:= ["corner"]) rfl rfl rfl rfl rfl rfl (λ_ _ _ _ _ _=>(RS 0 nd0)) (λ_ _ _ _ _ _=>CU) (λ_ _ _ _ _ _=>(AW (AJ 0) AH)))))))))))
theorem Pd:AZ ["one","other","apart","span","moments","offs","told","at","bottom","lines"] ["one","other","apart"] (AU Jk):=⟨rfl,rfl,rfl,by decide +kernel,rfl,by decide +kernel,by decide +kernel⟩
theorem Xj (F:Ck K "pieces" "pieces" Jk f fd) (Wt:Ue P w K mg base n) (YT:XH P w K mg base n) (Wv:Ug P w K mg base n) (fQ:cB P w K mg base n) (BZ:mg "len" =none) (BG:mg "range" =none):
 Az P w K mg base Cf (n+1) f fd ["one","other","apart"] (BJ K 3 Gm):=by
 have nd:=Pd.nd
 have nd0:(["m","one","other","apart"] :List Str).Nodup:=by decide +kernel
 exact Aa F Pd rfl λ_ _ _ _ _ _ hr=>(AM (DN 3 nd (AK Wv hr rfl (An (AJ 0) (AJ 1)))) (AM (A7 (FP RV (AJ 3) B4) (AR (AY (DM (Bg Eg)))) Au) (AM (DN 4 nd (AK fQ hr rfl (Bf (AJ 0) (GQ (AJ 1) (AW (AJ 3) AH) (AW (AJ 3) AH))))) (AM (N5 (i:=5) rfl nd rfl (Or.inl rfl) (FN (AJ 4)) (DU (own:=1) (ix:= [0,1,2]) (N:= ["m","one" ,"other" ,"apart" ]) rfl rfl rfl rfl rfl rfl (λ_ _ _ _ _ _=>(RS 0 nd0)) (λ_ _ _ _ _ _=>CU) (λ_ _ _ _ _ _=>(AK YT hr rfl (Bf (AJ 1) (GQ (AJ 2) (AJ 3) (AJ 0))))))) (AM (FO (i:=6) nd rfl (Or.inl rfl) (Bg Eg)) (AM (CG PassesOwn.never rfl (fC rfl BG (An AH (A3 D9 rfl BZ PySem.boot_len (Bo (AJ 4))))) (GX 7 nd) (AM (RY (AK Wt hr rfl (An (AW (AJ 5) (Ad Cp (AJ 7) AH)) (AW (AJ 5) (AJ 7)))) (Dn (n:=2) rfl (Am (GX 8 nd) (Am (GX 9 nd) Ci)))) (AR (C3 (i:=6) PySem.F.slot_list_append PySem.F.type_list_append CN (Bo (Ae (Bf (AW (AJ 4) (Ad Cp (AJ 7) AH)) (GQ (AW (AJ 4) (AJ 7)) (AJ 8) (AJ 9))))))))) (AR (AY (AJ 6)))))))))
theorem LZ:AZ ["stretches","steps","begin","held","end","first","last"] ["stretches"] (AU F9):=⟨rfl,rfl,rfl,by decide +kernel,rfl,by decide +kernel,by decide +kernel⟩
theorem TB (F:Ck K "steps_of" "steps_of" F9 f fd):
 Az P w K mg base Cf (n+1) f fd ["stretches"] (BJ K 1 HG):=by
 have nd:=LZ.nd
 refine F.ok LZ (λvs H Q E h=> ?_) (λcdv A outer s H vs Q E hr h=> ?_)
 ·obtain ⟨T,M,xs,AQ,_,_,r,hl,_⟩:=h
  rw [r.length,hl] <;> rfl
 obtain ⟨T,M,xs,AQ,va,_,r,hl,hF,hQ⟩:=h
 have hu:=dH hr
 obtain ⟨x,ys,m,rfl,hx,hz,hm,hq⟩:=UF hF
 cases r with
 | cons r rr=>
 cases rr
 refine ⟨_,(Bu (FJ (i:=1) nd rfl (Or.inl rfl) cw) (Bu (Zo PassesOwn.never rfl (Zm (pv 0)) (VA rfl (G1 (JZ (i:=2) nd rfl (Or.inl rfl)) (G1 (JZ (i:=3) nd rfl (Or.inl rfl)) (G1 (JZ (i:=4) nd rfl (Or.inl rfl)) Q7)))) (Bu (FJ (i:=5) nd rfl (Or.inl rfl) (Ng (CC (pv 2) (CC (CA U8 BA (pv 3)) FH)))) (Bu (WN hu (pv 1) (pv 5) (CA IX (TM hu (pv 1) (pv 5) BA ⟨rfl,rfl,rfl,rfl⟩) BA) rfl) (Ew (WM (MI WI (pv 4) Zk (DB _)) (Bu (FJ (i:=6) nd rfl (Or.inl rfl) (Ng (CC (pv 4) (CC BA FH)))) (Ew (WN hu (pv 1) (pv 6) (CA U8 (TM hu (pv 1) (pv 6) BA ⟨rfl,rfl,rfl,rfl⟩) BA) rfl))) MH))))) (Ew (Ni (pv 1))))), ?_⟩
 exact VV va r hx hz hm λp H' ex np hp=>hQ _ (.dct m) T H' (dX va ex) (dF va np hp) hq
theorem Pb:AZ ["stretches","steps","told","count","moment","side"] ["stretches"] (AU Jj):=⟨rfl,rfl,rfl,by decide +kernel,rfl,by decide +kernel,by decide +kernel⟩
theorem Xi (F:Ck K "levels" "levels" Jj f fd) (QG:Sn P w K mg base n) (Wu:Uf P w K mg base n) (GI:mg "list" =none):
 Az P w K mg base Cf (n+1) f fd ["stretches"] (BJ K 1 Gj):=by
 have nd:=Pb.nd
 have nd0:(["moment","side"] :List Str).Nodup:=by decide +kernel
 exact Aa F Pb rfl λ_ _ _ _ _ _ hr=>(AM (DN 1 nd (AK Wu hr rfl (Bo (AJ 0)))) (AM (FO (i:=2) nd rfl (Or.inl rfl) (Bg Eg)) (AM (DN 3 nd AH) (AM (CG PassesOwn.never rfl (FN (AK QG hr rfl (Bo (DM (DZ rfl (FN (DM (aD hr rfl GI boot_list (Bo (AJ 1))))) (DU (own:=2) (ix:= []) (N:= ["moment","side" ]) rfl rfl rfl rfl rfl rfl (λ_ _ _ _ _ _=>(VP (n:=2) rfl (Fj (RS 0 nd0) (Fj (RS 1 nd0) RT)))) (λ_ _ _ _ _ _=>CU) (λ_ _ _ _ _ _=>(AJ 0)))))))) (GX 4 nd) (AR (CG PassesOwn.never rfl (FN (Ae (An AH AH))) (GX 5 nd) (AR (A7 (ib hr (AJ 4) (AJ 5) (AJ 1)) (AM (aN (i:=3) nd rfl (Or.inl rfl) (dL hr (AJ 1) (AJ 4) (AJ 5) (λ_ _=>rfl)) iW) (AR (C3 (i:=2) PySem.F.slot_list_append PySem.F.type_list_append CN (Bo (Ae (GQ (AJ 4) (AJ 5) (AJ 3))))))) Au))))) (AR (AY (AJ 2)))))))
theorem Nt:AZ ["stretches","n","told","begin","moment","side","count"] ["stretches","n"] (AU HQ):=⟨rfl,rfl,rfl,by decide +kernel,rfl,by decide +kernel,by decide +kernel⟩
theorem U0 (F:Ck K "counted" "counted" HQ f fd) (bE:Y6 P w K mg base n) (A4:mg "tuple" =none):
 Az P w K mg base Cf (n+1) f fd ["stretches","n"] (BJ K 2 EO):=by
 have nd:=Nt.nd
 exact Aa F Nt rfl λ_ _ _ _ _ _ hr=>(AM (FO (i:=2) nd rfl (Or.inl rfl) (Bg Eg)) (AM (DN 3 nd B4) (AM (CG PassesOwn.never rfl (FN (AK bE hr rfl (Bo (AJ 0)))) (Dn (n:=3) rfl (Am (GX 4 nd) (Am (GX 5 nd) (Am (GX 6 nd) Ci)))) (AR (A7 (GY (HE (FP RV (AJ 3) B4) (FB (FP Tj (AJ 6) (AJ 1))))) (AR (DN 3 nd (Ae (An (AJ 4) (Ad Cp AH (AJ 5)))))) (AR (A7 (GY (HE (FP MP (AJ 3) B4) (FB (FP HB (AJ 6) (AJ 1))))) (AM (C3 (i:=2) PySem.F.slot_list_append PySem.F.type_list_append CN (Bo (Ae (GQ (AW (AJ 3) AH) (AW (AJ 3) AH) (AJ 4))))) (AR (DN 3 nd B4))) Au))))) (AM (A7 (FP MP (AJ 3) B4) (AR (C3 (i:=2) PySem.F.slot_list_append PySem.F.type_list_append CN (Bo (Ae (GQ (AW (AJ 3) AH) (AW (AJ 3) AH) B4))))) Au) (AR (AY (Bp D4 rfl A4 boot_tuple (Bo (AJ 2)))))))))
theorem Lb:AZ ["stretches"] ["stretches"] (AU GB):=⟨rfl,rfl,rfl,by decide +kernel,rfl,by decide +kernel,by decide +kernel⟩
theorem TD (F:Ck K "told_set" "told_set" GB f fd) (YQ:XE P w K mg base n):
 Az P w K mg base Cf (n+1) f fd ["stretches"] (BJ K 1 EZ):=by
 have nd:=Lb.nd
 exact Aa F Lb rfl λ_ _ _ _ _ _ hr=>(AR (AY (AK YQ hr rfl (An (AJ 0) AH))))
theorem Lc:AZ ["one","other","apart"] ["one","other","apart"] (AU GC):=⟨rfl,rfl,rfl,by decide +kernel,rfl,by decide +kernel,by decide +kernel⟩
theorem TF (F:Ck K "too_near" "too_near" GC f fd) (YS:XG P w K mg base n) (bF:Y8 P w K mg base n) (Ww:Uh P w K mg base n):
 Az P w K mg base Cf (n+1) f fd ["one","other","apart"] (BJ K 3 Ea):=by
 have nd:=Lc.nd
 have nd0:(["stretch","piece"] :List Str).Nodup:=by decide +kernel
 exact Aa F Lc rfl λ_ _ _ _ _ _ hr=>(AR (AY (AK Ww hr rfl (Bo (DM (aA rfl (FN (AK bF hr rfl (GQ (AJ 0) (AJ 1) (AJ 2)))) (bU (own:=2) (own2:=1) (ix:= []) (N:= ["stretch","piece" ]) rfl rfl rfl rfl rfl rfl (by decide) (λ_ _ _ _ _ _=>(RS 1 nd0)) (λ_ _ _ _ _ _=>CU) (λ_ _ _ _ _ _=>(FN (AK YS hr rfl (Bo (AJ 1))))) (λ_ _ _ _ _ _=>(RS 0 nd0)) (λ_ _ _ _ _ _=>CU) (λ_ _ _ _ _ _=>(AJ 0)))))))))
theorem Z7:AZ ["_law_script","_law_k","_law_found","_law_m","_law_tape_here","_law_one","_law_other","_law_apart_here"] ["_law_script"] (AU Np):=⟨rfl,rfl,rfl,by decide +kernel,rfl,by decide +kernel,by decide +kernel⟩
theorem gx (F:Ck K "law" "law" Np f fd) (UB:Se P w K mg base n) (UC:Sf P w K mg base n) (YO:XD P w K mg base n) (OM:NJ P w K mg base n) (ON:NK P w K mg base n) (Wx:Ui P w K mg base n) (BZ:mg "len" =none) (ah:mg "min" =none) (BG:mg "range" =none):
 Az P w K mg base Cf (n+1) f fd ["_law_script"] (BJ K 1 EQ):=by
 have nd:=Z7.nd
 exact Aa F Z7 rfl λ_ _ _ _ _ _ hr=>(AM (CG PassesOwn.never rfl (Pg rfl BG (Bo (Ad A8 AH (A3 (iU rfl) rfl ah boot_min (An AH (A3 D9 rfl BZ PySem.boot_len (Bo (AJ 0)))))))) (GX 1 nd) (AM (RY (AK UB hr rfl (An (AJ 0) (AJ 1))) (Dn (n:=4) rfl (Am (GX 4 nd) (Am (GX 5 nd) (Am (GX 6 nd) (Am (GX 7 nd) Ci)))))) (AM (DN 2 nd (AK Wx hr rfl (GQ (AJ 5) (AJ 6) (AJ 7)))) (AM (A7 (CO (A5 (AK UC hr rfl (Bo (AJ 2))))) (AR (AY HA)) Au) (AR (CG PassesOwn.never rfl (FN (AK ON hr rfl (GQ (AJ 5) (AJ 6) (AJ 7)))) (GX 3 nd) (AR (A7 (FP (Pj hr) (AK YO hr rfl (An (AJ 2) (AJ 3))) (AK OM hr rfl (Bf (AJ 5) (GQ (AJ 6) (AJ 7) (AJ 3))))) (AR (AY HA)) Au)))))))) (AR (AY HA)))
end
theorem gI {P:Program} {w:World} {K:PySem.W.Frag} {mg:Str->Option Value} {base:Heap} {k:Nat} {x:Str} {st:Stmt} {ps:List Str} {sp:Sp} {f:Addr} {fd:FuncData} (F:Ck K x x st f fd) (b:Binds K fd ps []) (m:mg x=some (.ref f)) (G:Az P w K mg base Cf k f fd ps sp):Has P w K mg base k x ps sp:=⟨f,fd,m,F.kp,b,G⟩
theorem Ev {us:List Value} (hl:us.length=1):∃x0:Value,us= [x0] :=by
 match us,hl with | [x0],_=>exact ⟨_,rfl⟩
theorem B0 {us:List Value} (hl:us.length=2):∃x0 x1:Value,us= [x0,x1] :=by
 match us,hl with | [x0,x1],_=>exact ⟨_,_,rfl⟩
theorem JU {us:List Value} (hl:us.length=3):∃x0 x1 x2:Value,us= [x0,x1,x2] :=by
 match us,hl with | [x0,x1,x2],_=>exact ⟨_,_,_,rfl⟩
theorem S2 {us:List Value} (hl:us.length=4):∃x0 x1 x2 x3:Value,us= [x0,x1,x2,x3] :=by
 match us,hl with | [x0,x1,x2,x3],_=>exact ⟨_,_,_,_,rfl⟩
theorem kI {us:List Value} (hl:us.length=5):∃x0 x1 x2 x3 x4:Value,us= [x0,x1,x2,x3,x4] :=by
 match us,hl with | [x0,x1,x2,x3,x4],_=>exact ⟨_,_,_,_,_,rfl⟩
def DL (K:PySem.W.Frag) (x:Str) (st:Stmt) (f:Addr):Prop:=PySem.W.nsIn K mainGlobals x=some (some (.ref f))/\∃fd,Ck K x x st f fd
theorem p6 {K:PySem.W.Frag} {x:Str} {st:Stmt} {f:Addr} {oc:Value} {od an:Option Addr} {osl:Array (Option Value)} {kV doc pm cdv ct:Value} (a:PySem.W.nsIn K mainGlobals x=some (some (.ref f))) (l:K.lookup f=some ⟨oc,od, .func (PySem.W.fnOf x x (Fz st) (ED st) (AU st) .none kV doc pm an cdv ct),osl⟩) (c:PySem.W.codeIn K cdv x=true) (k:PySem.W.keepIn K (.ref f)=true):DL K x st f:=⟨a,_,Y1 l c k⟩
theorem BP {P:Program} {w:World} {K:PySem.W.Frag} {h base:Heap} {mg:Str->Option Value} {k:Nat} {x:Str} {st:Stmt} {ps:List Str} {sp:Sp} {f:Addr} (A:DL K x st f) (X:K.In h) (G:h.Ns mainGlobals mg) (b:∀fd,Ck K x x st f fd->Binds K fd ps []) (g:∀fd,Ck K x x st f fd->Binds K fd ps [] ->mg x=some (.ref f)->Az P w K mg base Cf k f fd ps sp):Has P w K mg base k x ps sp:=
 let ⟨a,fd,F⟩:=A;gI F (b fd F) (PySem.W.mg_of X G a) (g fd F (b fd F) (PySem.W.mg_of X G a))
theorem all_mk {l:PySem.W.OpenLaw} {w:World} {K:PySem.W.Frag} {h:Heap} {mg:Str->Option Value} {fa f1 f2 f3 f4 f5 f6 f7 f8 f9 f10 f11 f12 f13 f14 f15 f16 f17 f18 f19 f20 f21 f22 f23 f24 f25 f26 f27 f28 f29 f30 f31 f32 f33 f34 f35 f36 f37 f38 f39 f40 f41 f42 f43 f44 f45 f46 f47 f48 f49 f50 f51 f52 f53 f54 f55 f56 f57 f58:Addr} (X:K.In h) (G:h.Ns mainGlobals mg) (tj:mg "law" =some (.ref fa))
 (a1:DL K "_law_draw" Ez f1) (a2:DL K "_law_apart" EF f2) (a3:DL K "_law_part" E4 f3) (a4:DL K "_law_sum" F7 f4) (a5:DL K "_law_moved" EH f5) (a6:DL K "_law_off" F6 f6) (a7:DL K "_law_place" EI f7) (a8:DL K "_law_span" E6 f8) (a9:DL K "_law_plan" E5 f9) (a10:DL K "_law_product" DX f10) (a11:DL K "_law_beside" Du f11) (a12:DL K "_law_tape" E8 f12) (a13:DL K "_law_case" Ey f13) (a14:DL K "_law_less" E2 f14) (a15:DL K "_law_whole" EM f15) (a16:DL K "_law_lowest" Dv f16) (a17:DL K "_law_fine" E1 f17) (a18:DL K "_law_in" HP f18) (a19:DL K "_law_ratio" EJ f19) (a20:DL K "_law_spot" E7 f20) (a21:DL K "_law_gap" F5 f21) (a22:DL K "_law_is_near" DV f22) (a23:DL K "_law_offs" E3 f23) (a24:DL K "_law_rising" Dx f24) (a25:DL K "_law_share" EK f25) (a26:DL K "_law_turns" EL f26) (a27:DL K "_law_marks" EG f27) (a28:DL K "_law_middle" Dw f28) (a29:DL K "_law_moments" DW f29) (a30:DL K "before" Jg f30) (a31:DL K "lesser" Ji f31) (a32:DL K "common" Jh f32) (a33:DL K "part" RI f33) (a34:DL K "minus" MK f34) (a35:DL K "plus" RJ f35) (a36:DL K "times" ML f36) (a37:DL K "moment_at" E9 f37) (a38:DL K "near_in" HS f38) (a39:DL K "shared_bottom" C2 f39) (a40:DL K "lines_of" F8 f40) (a41:DL K "over" RH f41) (a42:DL K "size_of" HV f42) (a43:DL K "spot_between" DY f43) (a44:DL K "spot_at" HW f44) (a45:DL K "offs_at" HU f45) (a46:DL K "greater" HR f46) (a47:DL K "together" GA f47) (a48:DL K "corners_between" CT f48) (a49:DL K "count_below" Dy f49) (a50:DL K "rising" Jl f50) (a51:DL K "turns" MM f51) (a52:DL K "pieces" Jk f52) (a53:DL K "steps_of" F9 f53) (a54:DL K "levels" Jj f54) (a55:DL K "counted" HQ f55) (a56:DL K "told_set" GB f56) (a57:DL K "too_near" GC f57) (a58:DL K "law" Np f58)
 (y_abs:PySem.W.nsIn K mainGlobals "abs" =some none) (y_bool:PySem.W.nsIn K mainGlobals "bool" =some none) (y_int:PySem.W.nsIn K mainGlobals "int" =some none) (y_isinstance:PySem.W.nsIn K mainGlobals "isinstance" =some none) (y_len:PySem.W.nsIn K mainGlobals "len" =some none) (y_list:PySem.W.nsIn K mainGlobals "list" =some none) (y_min:PySem.W.nsIn K mainGlobals "min" =some none) (y_range:PySem.W.nsIn K mainGlobals "range" =some none) (y_reversed:PySem.W.nsIn K mainGlobals "reversed" =some none) (y_tuple:PySem.W.nsIn K mainGlobals "tuple" =some none) (y_zip:PySem.W.nsIn K mainGlobals "zip" =some none):
 ∃fd:FuncData,(∀(s:Shared) (v:Value),BindsTo s fd ⟨[v], []⟩ [("_law_script",v)])/\∀base:Heap,K.In base->base.Ns mainGlobals mg->Az l.prog w K mg base Cf 9 fa fd ["_law_script"] (BJ K 1 EQ):=by
 have e:=tj.symm.trans (PySem.W.mg_of X G a58.1)
 cases e
 obtain ⟨aL,fdL,FL⟩:=a58
 obtain ⟨⟨oc,od,kV,doc,pm,an,cdv,ct,osl,eL,lL,cL⟩,kL⟩:=FL
 subst eL
 have FL:=Y1 lL cL kL
 have EB:=PySem.W.mg_none_of X G y_abs
 have Vc:=PySem.W.mg_none_of X G y_bool
 have Dd:=PySem.W.mg_none_of X G y_int
 have BM:=PySem.W.mg_none_of X G y_isinstance
 have BZ:=PySem.W.mg_none_of X G y_len
 have GI:=PySem.W.mg_none_of X G y_list
 have ah:=PySem.W.mg_none_of X G y_min
 have BG:=PySem.W.mg_none_of X G y_range
 have Ie:=PySem.W.mg_none_of X G y_reversed
 have A4:=PySem.W.mg_none_of X G y_tuple
 have Db:=PySem.W.mg_none_of X G y_zip
 refine ⟨PySem.W.fnOf "law" "law" (Fz Np) (ED Np) (AU Np) .none kV doc pm an cdv ct,λs v=> .of_eq rfl,λbase _ _=> ?_⟩
 have H1:=BP a1 X G (λ_ F=>F.binds (ps:= ["_law_tape_here","_law_many"]) λ_ _ _ _ _ _ us hl=>by obtain ⟨_,_,rfl⟩:=B0 hl;rfl) λ_ F _ _=>Qs (P:=l.prog) (w:=w) (base:=base) (n:=0) F
 have H2:=BP a2 X G (λ_ F=>F.binds (ps:= ["_law_tape_here"]) λ_ _ _ _ _ _ us hl=>by obtain ⟨_,rfl⟩:=Ev hl;rfl) λ_ F _ _=>Oe (P:=l.prog) (w:=w) (base:=base) (n:=1) F (BN H1)
 have H3:=BP a3 X G (λ_ F=>F.binds (ps:= ["_law_top","_law_bottom"]) λ_ _ _ _ _ _ us hl=>by obtain ⟨_,_,rfl⟩:=B0 hl;rfl) λ_ F _ _=>Qw (P:=l.prog) (w:=w) (base:=base) (n:=0) F EB Dd
 have H4:=BP a4 X G (λ_ F=>F.binds (ps:= ["_law_one","_law_other"]) λ_ _ _ _ _ _ us hl=>by obtain ⟨_,_,rfl⟩:=B0 hl;rfl) λ_ F _ _=>S8 (P:=l.prog) (w:=w) (base:=base) (n:=1) F (BN H3)
 have H5:=BP a5 X G (λ_ F=>F.binds (ps:= ["_law_plan_here","_law_late","_law_by"]) λ_ _ _ _ _ _ us hl=>by obtain ⟨_,_,_,rfl⟩:=JU hl;rfl) λ_ F _ _=>Og (P:=l.prog) (w:=w) (base:=base) (n:=2) F (BN H4) BG A4
 have H6:=BP a6 X G (λ_ F=>F.binds (ps:= ["_law_one","_law_other"]) λ_ _ _ _ _ _ us hl=>by obtain ⟨_,_,rfl⟩:=B0 hl;rfl) λ_ F _ _=>S7 (P:=l.prog) (w:=w) (base:=base) (n:=1) F (BN H3)
 have H7:=BP a7 X G (λ_ F=>F.binds (ps:= ["_law_tape_here"]) λ_ _ _ _ _ _ us hl=>by obtain ⟨_,rfl⟩:=Ev hl;rfl) λ_ F _ _=>Oh (P:=l.prog) (w:=w) (base:=base) (n:=1) F (BN H1) (BN H3)
 have H8:=BP a8 X G (λ_ F=>F.binds (ps:= ["_law_tape_here"]) λ_ _ _ _ _ _ us hl=>by obtain ⟨_,rfl⟩:=Ev hl;rfl) λ_ F _ _=>Qy (P:=l.prog) (w:=w) (base:=base) (n:=1) F (BN H1) (BN H3)
 have H9:=BP a9 X G (λ_ F=>F.binds (ps:= ["_law_tape_here"]) λ_ _ _ _ _ _ us hl=>by obtain ⟨_,rfl⟩:=Ev hl;rfl) λ_ F _ _=>Qx (P:=l.prog) (w:=w) (base:=base) (n:=2) F (BN H1) (BN H7) (BN H8) (BN H4) BZ A4
 have fS:=BP a10 X G (λ_ F=>F.binds (ps:= ["_law_one","_law_other"]) λ_ _ _ _ _ _ us hl=>by obtain ⟨_,_,rfl⟩:=B0 hl;rfl) λ_ F _ _=>Lv (P:=l.prog) (w:=w) (base:=base) (n:=1) F (BN H3)
 have i3:=BP a11 X G (λ_ F=>F.binds (ps:= ["_law_tape_here","_law_plan_here","_law_apart_here"]) λ_ _ _ _ _ _ us hl=>by obtain ⟨_,_,_,rfl⟩:=JU hl;rfl) λ_ F _ _=>NY (P:=l.prog) (w:=w) (base:=base) (n:=3) F (BN H1) (BN H5) (BN H6) (BN H7) (BN H9) (BN fS) (BN H8) (BN H4) Dd BZ Ie A4 Db
 have sB:=BP a12 X G (λ_ F=>F.binds (ps:= ["_law_script","_law_k"]) λ_ _ _ _ _ _ us hl=>by obtain ⟨_,_,rfl⟩:=B0 hl;rfl) λ_ F _ _=>Q0 (P:=l.prog) (w:=w) (base:=base) (n:=0) F EB Dd BZ
 have sC:=BP a13 X G (λ_ F=>F.binds (ps:= ["_law_script","_law_k"]) λ_ _ _ _ _ _ us hl=>by obtain ⟨_,_,rfl⟩:=B0 hl;rfl) λ_ F _ _=>Qr (P:=l.prog) (w:=w) (base:=base) (n:=4) F (BN H2) (BN i3) (BN H1) (BN H9) (BN sB)
 have i4:=BP a14 X G (λ_ F=>F.binds (ps:= ["_law_one","_law_other"]) λ_ _ _ _ _ _ us hl=>by obtain ⟨_,_,rfl⟩:=B0 hl;rfl) λ_ F _ _=>Qu (P:=l.prog) (w:=w) (base:=base) (n:=0) F
 have pY:=BP a15 X G (λ_ F=>F.binds (ps:= ["_law_thing"]) λ_ _ _ _ _ _ us hl=>by obtain ⟨_,rfl⟩:=Ev hl;rfl) λ_ F _ _=>Om (P:=l.prog) (w:=w) (base:=base) (n:=0) F Vc Dd BM
 have sD:=BP a16 X G (λ_ F=>F.binds (ps:= ["_law_thing"]) λ_ _ _ _ _ _ us hl=>by obtain ⟨_,rfl⟩:=Ev hl;rfl) λ_ F _ _=>NZ (P:=l.prog) (w:=w) (base:=base) (n:=1) F (BN H3) (BN pY) BM BZ A4
 have sE:=BP a17 X G (λ_ F=>F.binds (ps:= ["_law_found"]) λ_ _ _ _ _ _ us hl=>by obtain ⟨_,rfl⟩:=Ev hl;rfl) λ_ F _ _=>Qt (P:=l.prog) (w:=w) (base:=base) (n:=2) F (BN i4) (BN sD) (BN pY) BM BZ A4
 have sF:=BP a18 X G (λ_ F=>F.binds (ps:= ["_law_found","_law_m"]) λ_ _ _ _ _ _ us hl=>by obtain ⟨_,_,rfl⟩:=B0 hl;rfl) λ_ F _ _=>Uz (P:=l.prog) (w:=w) (base:=base) (n:=1) F (BN i4)
 have lu:=BP a19 X G (λ_ F=>F.binds (ps:= ["_law_one","_law_other"]) λ_ _ _ _ _ _ us hl=>by obtain ⟨_,_,rfl⟩:=B0 hl;rfl) λ_ F _ _=>Oi (P:=l.prog) (w:=w) (base:=base) (n:=1) F (BN H3)
 have pZ:=BP a20 X G (λ_ F=>F.binds (ps:= ["_law_plan_here","_law_m"]) λ_ _ _ _ _ _ us hl=>by obtain ⟨_,_,rfl⟩:=B0 hl;rfl) λ_ F _ _=>Qz (P:=l.prog) (w:=w) (base:=base) (n:=2) F (BN i4) (BN H6) (BN fS) (BN lu) (BN H4) BG A4 Db
 have sG:=BP a21 X G (λ_ F=>F.binds (ps:= ["_law_one","_law_other","_law_apart_here","_law_m","_law_end"]) λ_ _ _ _ _ _ us hl=>by obtain ⟨_,_,_,_,_,rfl⟩:=kI hl;rfl) λ_ F _ _=>S6 (P:=l.prog) (w:=w) (base:=base) (n:=3) F (BN i4) (BN H6) (BN lu) (BN pZ) EB Dd BG
 have sH:=BP a22 X G (λ_ F=>F.binds (ps:= ["_law_one","_law_other","_law_apart_here","_law_m"]) λ_ _ _ _ _ _ us hl=>by obtain ⟨_,_,_,_,rfl⟩:=S2 hl;rfl) λ_ F _ _=>Lr (P:=l.prog) (w:=w) (base:=base) (n:=4) F (BN sG)
 have sI:=BP a23 X G (λ_ F=>F.binds (ps:= ["_law_one","_law_other","_law_apart_here","_law_m"]) λ_ _ _ _ _ _ us hl=>by obtain ⟨_,_,_,_,rfl⟩:=S2 hl;rfl) λ_ F _ _=>Qv (P:=l.prog) (w:=w) (base:=base) (n:=3) F (BN H6) (BN lu) (BN pZ) Dd BG
 have pe:=BP a24 X G (λ_ F=>F.binds (ps:= ["_law_moments_here"]) λ_ _ _ _ _ _ us hl=>by obtain ⟨_,rfl⟩:=Ev hl;rfl) λ_ F _ _=>Nb (P:=l.prog) (w:=w) (base:=base) (n:=1) F (BN i4) BZ
 have sJ:=BP a25 X G (λ_ F=>F.binds (ps:= ["_law_low","_law_high","_law_begin","_law_end"]) λ_ _ _ _ _ _ us hl=>by obtain ⟨_,_,_,_,rfl⟩:=S2 hl;rfl) λ_ F _ _=>Oj (P:=l.prog) (w:=w) (base:=base) (n:=2) F (BN H6) (BN fS) (BN lu) (BN H4)
 have sK:=BP a26 X G (λ_ F=>F.binds (ps:= ["_law_one","_law_other"]) λ_ _ _ _ _ _ us hl=>by obtain ⟨_,_,rfl⟩:=B0 hl;rfl) λ_ F _ _=>Ol (P:=l.prog) (w:=w) (base:=base) (n:=2) F (BN i4) (BN pe)
 have sL:=BP a27 X G (λ_ F=>F.binds (ps:= ["_law_one","_law_other","_law_apart_here"]) λ_ _ _ _ _ _ us hl=>by obtain ⟨_,_,_,rfl⟩:=JU hl;rfl) λ_ F _ _=>Of (P:=l.prog) (w:=w) (base:=base) (n:=4) F (BN H6) (BN sI) (BN pe) (BN sJ) (BN sK) GI Db
 have sM:=BP a28 X G (λ_ F=>F.binds (ps:= ["_law_one","_law_other"]) λ_ _ _ _ _ _ us hl=>by obtain ⟨_,_,rfl⟩:=B0 hl;rfl) λ_ F _ _=>Na (P:=l.prog) (w:=w) (base:=base) (n:=2) F (BN fS) (BN H4)
 have sN:=BP a29 X G (λ_ F=>F.binds (ps:= ["_law_one","_law_other","_law_apart_here"]) λ_ _ _ _ _ _ us hl=>by obtain ⟨_,_,_,rfl⟩:=JU hl;rfl) λ_ F _ _=>Lu (P:=l.prog) (w:=w) (base:=base) (n:=5) F (BN sL) (BN sM) (BN H6) (BN fS) (BN H4) GI Db
 have fT:=BP a30 X G (λ_ F=>F.binds (ps:= ["one","other"]) λ_ _ _ _ _ _ us hl=>by obtain ⟨_,_,rfl⟩:=B0 hl;rfl) λ_ F _ _=>Xf (P:=l.prog) (w:=w) (base:=base) (n:=0) F
 have ph:=BP a31 X G (λ_ F=>F.binds (ps:= ["one","other"]) λ_ _ _ _ _ _ us hl=>by obtain ⟨_,_,rfl⟩:=B0 hl;rfl) λ_ F _ _=>Xh (P:=l.prog) (w:=w) (base:=base) (n:=1) F (BN fT)
 have pj:=BP a32 X G (λ_ F=>F.binds (ps:= ["one","other"]) λ_ _ _ _ _ _ us hl=>by obtain ⟨_,_,rfl⟩:=B0 hl;rfl) λ_ F _ _=>Xg (P:=l.prog) (w:=w) (base:=base) (n:=0) F
 have jW:=BP a33 X G (λ_ F=>F.binds (ps:= ["top","bottom"]) λ_ _ _ _ _ _ us hl=>by obtain ⟨_,_,rfl⟩:=B0 hl;rfl) λ_ F _ _=>cZ (P:=l.prog) (w:=w) (base:=base) (n:=1) F (BN pj) EB
 have ma:=BP a34 X G (λ_ F=>F.binds (ps:= ["one","other"]) λ_ _ _ _ _ _ us hl=>by obtain ⟨_,_,rfl⟩:=B0 hl;rfl) λ_ F _ _=>ZY (P:=l.prog) (w:=w) (base:=base) (n:=2) F (BN jW)
 have pk:=BP a35 X G (λ_ F=>F.binds (ps:= ["one","other"]) λ_ _ _ _ _ _ us hl=>by obtain ⟨_,_,rfl⟩:=B0 hl;rfl) λ_ F _ _=>ca (P:=l.prog) (w:=w) (base:=base) (n:=2) F (BN jW)
 have pp:=BP a36 X G (λ_ F=>F.binds (ps:= ["one","other"]) λ_ _ _ _ _ _ us hl=>by obtain ⟨_,_,rfl⟩:=B0 hl;rfl) λ_ F _ _=>ZZ (P:=l.prog) (w:=w) (base:=base) (n:=2) F (BN jW)
 have sO:=BP a37 X G (λ_ F=>F.binds (ps:= ["begin","end","share"]) λ_ _ _ _ _ _ us hl=>by obtain ⟨_,_,_,rfl⟩:=JU hl;rfl) λ_ F _ _=>Q1 (P:=l.prog) (w:=w) (base:=base) (n:=3) F (BN ma) (BN jW) (BN pk) (BN pp)
 have sP:=BP a38 X G (λ_ F=>F.binds (ps:= ["piece"]) λ_ _ _ _ _ _ us hl=>by obtain ⟨_,rfl⟩:=Ev hl;rfl) λ_ F _ _=>U2 (P:=l.prog) (w:=w) (base:=base) (n:=4) F (BN fT) (BN ph) (BN sO)
 have sQ:=BP a39 X G (λ_ F=>F.binds (ps:= ["numbers"]) λ_ _ _ _ _ _ us hl=>by obtain ⟨_,rfl⟩:=Ev hl;rfl) λ_ F _ _=>K3 (P:=l.prog) (w:=w) (base:=base) (n:=1) F (BN pj)
 have sR:=BP a40 X G (λ_ F=>F.binds (ps:= ["first","last"]) λ_ _ _ _ _ _ us hl=>by obtain ⟨_,_,rfl⟩:=B0 hl;rfl) λ_ F _ _=>S9 (P:=l.prog) (w:=w) (base:=base) (n:=2) F (BN sQ) Db
 have pq:=BP a41 X G (λ_ F=>F.binds (ps:= ["one","other"]) λ_ _ _ _ _ _ us hl=>by obtain ⟨_,_,rfl⟩:=B0 hl;rfl) λ_ F _ _=>cY (P:=l.prog) (w:=w) (base:=base) (n:=2) F (BN jW)
 have sS:=BP a42 X G (λ_ F=>F.binds (ps:= ["apart","side"]) λ_ _ _ _ _ _ us hl=>by obtain ⟨_,_,rfl⟩:=B0 hl;rfl) λ_ F _ _=>U4 (P:=l.prog) (w:=w) (base:=base) (n:=0) F
 have sT:=BP a43 X G (λ_ F=>F.binds (ps:= ["former","latter","m"]) λ_ _ _ _ _ _ us hl=>by obtain ⟨_,_,_,rfl⟩:=JU hl;rfl) λ_ F _ _=>Lw (P:=l.prog) (w:=w) (base:=base) (n:=3) F (BN ma) (BN pq) (BN pk) (BN pp) A4 Db
 have sU:=BP a44 X G (λ_ F=>F.binds (ps:= ["plan","m"]) λ_ _ _ _ _ _ us hl=>by obtain ⟨_,_,rfl⟩:=B0 hl;rfl) λ_ F _ _=>U5 (P:=l.prog) (w:=w) (base:=base) (n:=4) F (BN fT) (BN sT) BZ BG
 have sV:=BP a45 X G (λ_ F=>F.binds (ps:= ["one","other","apart","m"]) λ_ _ _ _ _ _ us hl=>by obtain ⟨_,_,_,_,rfl⟩:=S2 hl;rfl) λ_ F _ _=>U3 (P:=l.prog) (w:=w) (base:=base) (n:=5) F (BN ma) (BN pq) (BN sS) (BN sU) BG
 have sW:=BP a46 X G (λ_ F=>F.binds (ps:= ["one","other"]) λ_ _ _ _ _ _ us hl=>by obtain ⟨_,_,rfl⟩:=B0 hl;rfl) λ_ F _ _=>U1 (P:=l.prog) (w:=w) (base:=base) (n:=1) F (BN fT)
 have sX:=BP a47 X G (λ_ F=>F.binds (ps:= ["one","other"]) λ_ _ _ _ _ _ us hl=>by obtain ⟨_,_,rfl⟩:=B0 hl;rfl) λ_ F _ _=>TC (P:=l.prog) (w:=w) (base:=base) (n:=2) F (BN fT) (BN sW) (BN ph)
 have sY:=BP a48 X G (λ_ F=>F.binds (ps:= ["plan","begin","end"]) λ_ _ _ _ _ _ us hl=>by obtain ⟨_,_,_,rfl⟩:=JU hl;rfl) λ_ F _ _=>IV (P:=l.prog) (w:=w) (base:=base) (n:=1) F (BN fT) A4
 have sZ:=BP a49 X G (λ_ F=>F.binds (ps:= ["numbers","number"]) λ_ _ _ _ _ _ us hl=>by obtain ⟨_,_,rfl⟩:=B0 hl;rfl) λ_ F _ _=>Nc (P:=l.prog) (w:=w) (base:=base) (n:=1) F (BN fT) BZ
 have pw:=BP a50 X G (λ_ F=>F.binds (ps:= ["numbers"]) λ_ _ _ _ _ _ us hl=>by obtain ⟨_,rfl⟩:=Ev hl;rfl) λ_ F _ _=>Xk (P:=l.prog) (w:=w) (base:=base) (n:=2) F (BN sZ) BZ
 have sd:=BP a51 X G (λ_ F=>F.binds (ps:= ["one","other","begin","end"]) λ_ _ _ _ _ _ us hl=>by obtain ⟨_,_,_,_,rfl⟩:=S2 hl;rfl) λ_ F _ _=>Za (P:=l.prog) (w:=w) (base:=base) (n:=3) F (BN sY) (BN pw)
 have sf:=BP a52 X G (λ_ F=>F.binds (ps:= ["one","other","apart"]) λ_ _ _ _ _ _ us hl=>by obtain ⟨_,_,_,rfl⟩:=JU hl;rfl) λ_ F _ _=>Xj (P:=l.prog) (w:=w) (base:=base) (n:=6) F (BN sR) (BN sV) (BN sX) (BN sd) BZ BG
 have sj:=BP a53 X G (λ_ F=>F.binds (ps:= ["stretches"]) λ_ _ _ _ _ _ us hl=>by obtain ⟨_,rfl⟩:=Ev hl;rfl) λ_ F _ _=>TB (P:=l.prog) (w:=w) (base:=base) (n:=0) F
 have sn:=BP a54 X G (λ_ F=>F.binds (ps:= ["stretches"]) λ_ _ _ _ _ _ us hl=>by obtain ⟨_,rfl⟩:=Ev hl;rfl) λ_ F _ _=>Xi (P:=l.prog) (w:=w) (base:=base) (n:=3) F (BN pw) (BN sj) GI
 have so:=BP a55 X G (λ_ F=>F.binds (ps:= ["stretches","n"]) λ_ _ _ _ _ _ us hl=>by obtain ⟨_,_,rfl⟩:=B0 hl;rfl) λ_ F _ _=>U0 (P:=l.prog) (w:=w) (base:=base) (n:=4) F (BN sn) A4
 have sw:=BP a56 X G (λ_ F=>F.binds (ps:= ["stretches"]) λ_ _ _ _ _ _ us hl=>by obtain ⟨_,rfl⟩:=Ev hl;rfl) λ_ F _ _=>TD (P:=l.prog) (w:=w) (base:=base) (n:=5) F (BN so)
 have tD:=BP a57 X G (λ_ F=>F.binds (ps:= ["one","other","apart"]) λ_ _ _ _ _ _ us hl=>by obtain ⟨_,_,_,rfl⟩:=JU hl;rfl) λ_ F _ _=>TF (P:=l.prog) (w:=w) (base:=base) (n:=7) F (BN sP) (BN sf) (BN sw)
 exact gx (n:=8) FL (BN sC) (BN sE) (BN sF) (BN sH) (BN sN) (BN tD) BZ ah BG
theorem walk {l:PySem.W.OpenLaw} {q:Program} {loose:List Str} {XP:(Str->Option Value)->Heap->Prop} {YP:World->Heap->Prop} {d:DefRec} {K:Params->PySem.W.Frag} (hn:l.most=some 63) (jw:d.params.defaults= [])
 (hY:∀(w:World) (h:Heap),YP w h->(K w.params).In h)
 (F:∀(w:World) (mg:Str->Option Value) (fa:Addr) (h:Heap),(K w.params).In h->h.Ns mainGlobals mg->mg d.name=some (.ref fa)->
   ∃fd:FuncData,(∀(s:Shared) (u:Value),BindsTo s fd ⟨[u], []⟩ [("_law_script",u)])/\∀base:Heap,(K w.params).In base->base.Ns mainGlobals mg->Az l.prog w (K w.params) mg base Cf 9 fa fd ["_law_script"] (BJ (K w.params) 1 EQ)):
 PySem.W.WalkO q loose XP YP l.row.toRowW d [] (λf vs=>PySem.call f vs):=
 L2.walk_of (n:=63) (k:=9) (x:="_law_script") (CX:=λ_=>Cf) (sp:=λw=>BJ (K w.params) 1 EQ) hn (by decide) jw ⟨rfl,by decide,by decide,rfl⟩ hY F (λ_ _ a ns hl _ hS=>PL.law_sp hS (ZN ns hl)) λ_ _ _ _ _ z=>z
def m0:String:="law_skylanes_k22_too_near_at_moments"
def m1:String:="skylanes.fractions"
def m2:String:="skylanes.nearness"
def m3:String:="skylanes.plans"
def m4:String:="skylanes.stretches"
def eN (P:Params) (x:String) (i:Nat) (v:Value):DictEntry:=⟨PyData.keyHash P (Str.ofString x), .str (Str.ofString x) i,v⟩
abbrev eR (P:Params) (x:String) (i f:Nat):=eN P x i (.ref f)
def fO (x:String) (s:Stmt) (m:String) (i c:Nat):Obj:=⟨.type "function",none, .func (PySem.W.fnOf (Str.ofString x) (Str.ofString x) (Fz s) (ED s) (AU s) .none .none .none (.str (Str.ofString m) i) none (.ref c) .none), #[]⟩
def rV:Nat->Value
 | 0=> .none
 | n+1=> .ref (n+1)
def fc (x:String) (s:Stmt) (m:String) (mi c f i l n g a1 a2 a3 a4 a5 u:Nat) (r:PySem.W.Frag):PySem.W.Frag:=
 (c,⟨.type "code",none, .fields #[.str (Str.ofString x) i, .str (Str.ofString x) (i+1), .str (Str.ofString "/claim/cut.py") (i+2), .int l 0, .int n 0, .int 0 0, .int 0 0, .int g 0,rV a1, .bool true, .int 181 0,rV a2, .none,rV a3,rV a4,rV a5, .int u 0, .int l 0, .str (Str.ofString "/claim/cut.py") (u+1)], #[]⟩) ::
 (f,fO x s m mi c)::r
theorem atK {K:PySem.W.Frag} {x:String} {s:Stmt} (m:String) (i c f:Nat) (a:PySem.W.nsIn K mainGlobals (Str.ofString x)=some (some (.ref f)):=by kernel_rfl) (l:K.lookup f=some (fO x s m i c):=by kernel_rfl) (d:PySem.W.codeIn K (.ref c) (Str.ofString x)=true:=by kernel_rfl) (k:PySem.W.keepIn K (.ref f)=true:=by kernel_rfl):DL K (Str.ofString x) s f:=p6 a l d k
def oO (P:Params):Obj:=⟨.type "dict",none, .dict #[eN P "__name__" 165 (.str (Str.ofString "law_skylanes_k22_too_near_at_moments") 441),eN P "__doc__" 166 .none,eN P "__package__" 167 .none,eN P "__loader__" 168 (.builtin "__main__.__loader__#opaque"),eN P "__spec__" 169 .none,eR P "__annotations__" 170 6,eR P "__builtins__" 171 4,eN P "__file__" 173 (.str (Str.ofString "/claim/cut.py") 172),eN P "__cached__" 174 .none,eR P "common" 196 21,eR P "part" 205 28,eR P "plus" 213 35,eR P "minus" 221 42,eR P "times" 229 49,eR P "over" 237 56,eR P "before" 245 63,eR P "lesser" 253 70,eR P "greater" 261 77,eR P "shared_bottom" 271 84,eR P "count_below" 282 91,eR P "rising" 292 98,eR P "spot_between" 300 103,eR P "spot_at" 309 110,eR P "corners_between" 315 115,eR P "steps_of" 330 122,eR P "levels" 336 127,eR P "counted" 349 134,eR P "told_set" 356 141,eR P "together" 368 148,eR P "turns" 374 153,eR P "size_of" 382 160,eR P "offs_at" 388 165,eR P "lines_of" 402 172,eR P "pieces" 408 177,eR P "moment_at" 417 184,eR P "near_in" 434 191,eR P "too_near" 440 196,eR P "_law_tape" 452 203,eR P "_law_draw" 462 210,eR P "_law_part" 473 217,eR P "_law_less" 481 224,eR P "_law_sum" 489 231,eR P "_law_off" 497 238,eR P "_law_product" 505 245,eR P "_law_ratio" 513 252,eR P "_law_place" 521 259,eR P "_law_span" 529 266,eR P "_law_plan" 541 273,eR P "_law_apart" 549 280,eR P "_law_spot" 555 285,eR P "_law_moved" 561 290,eR P "_law_beside" 567 295,eR P "_law_case" 579 302,eR P "_law_gap" 595 309,eR P "_law_rising" 601 314,eR P "_law_turns" 607 319,eR P "_law_offs" 613 324,eR P "_law_share" 624 331,eR P "_law_marks" 642 338,eR P "_law_middle" 650 345,eR P "_law_is_near" 661 352,eR P "_law_whole" 668 359,eR P "_law_lowest" 675 366,eR P "_law_fine" 683 373,eR P "_law_in" 694 380,eR P "_law_moments" 707 387,eR P "law" 721 394] 67, #[]⟩
def KK (P:Params):PySem.W.Frag:=(3,oO P)::(fc "_law_draw" Ez m0 441 209 210 453 157 2 3 204 205 206 207 208 460 <| fc "_law_apart" EF m0 441 279 280 542 209 1 3 274 275 276 277 278 547 <| fc "_law_part" E4 m0 441 216 217 463 165 2 3 211 212 213 214 215 471 <| fc "_law_sum" F7 m0 441 230 231 482 173 2 3 225 226 227 228 229 487 <| fc "_law_moved" EH m0 441 289 290 556 221 3 3 286 287 0 0 288 559 <| fc "_law_off" F6 m0 441 237 238 490 175 2 3 232 233 234 235 236 495 <| fc "_law_place" EI m0 441 258 259 514 181 1 3 253 254 255 256 257 519 <| fc "_law_span" E6 m0 441 265 266 522 188 1 3 260 261 262 263 264 527 <| fc "_law_plan" E5 m0 441 272 273 530 193 1 3 267 268 269 270 271 539 <| fc "_law_product" DX m0 441 244 245 498 177 2 3 239 240 241 242 243 503 <| fc "_law_beside" Du m0 441 294 295 562 223 3 3 291 292 0 0 293 565 <| fc "_law_tape" E8 m0 441 202 203 443 151 2 3 197 198 199 200 201 450 <| fc "_law_case" Ey m0 441 301 302 568 247 2 3 296 297 298 299 300 577 <| fc "_law_less" E2 m0 441 223 224 474 171 2 3 218 219 220 221 222 479 <| fc "_law_whole" EM m0 441 358 359 662 307 1 3 353 354 355 356 357 666 <| fc "_law_lowest" Dv m0 441 365 366 669 309 1 3 360 361 362 363 364 673 <| fc "_law_fine" E1 m0 441 372 373 676 313 1 3 367 368 369 370 371 681 <| fc "_law_in" HP m0 441 379 380 684 322 2 3 374 375 376 377 378 692 <| fc "_law_ratio" EJ m0 441 251 252 506 179 2 3 246 247 248 249 250 511 <| fc "_law_spot" E7 m0 441 284 285 550 212 2 3 281 282 0 0 283 553 <| fc "_law_gap" F5 m0 441 308 309 580 255 5 3 303 304 305 306 307 593 <| fc "_law_is_near" DV m0 441 351 352 651 304 4 3 346 347 348 349 350 659 <| fc "_law_offs" E3 m0 441 323 324 608 283 4 3 320 321 0 0 322 611 <| fc "_law_rising" Dx m0 441 313 314 596 269 1 3 310 311 0 0 312 599 <| fc "_law_share" EK m0 441 330 331 614 287 4 3 325 326 327 328 329 622 <| fc "_law_turns" EL m0 441 318 319 602 276 2 3 315 316 0 0 317 605 <| fc "_law_marks" EG m0 441 337 338 625 292 3 3 332 333 334 335 336 640 <| fc "_law_middle" Dw m0 441 344 345 643 302 2 3 339 340 341 342 343 648 <| fc "_law_moments" DW m0 441 386 387 695 327 3 3 381 382 383 384 385 705 <| fc "before" Jg m1 187 62 63 238 19 2 3 57 58 59 60 61 243 <| fc "lesser" Ji m1 187 69 70 246 21 2 3 64 65 66 67 68 251 <| fc "common" Jh m1 187 20 21 189 2 2 3 15 16 17 18 19 194 <| fc "part" RI m1 187 27 28 197 6 2 3 22 23 24 25 26 203 <| fc "minus" MK m1 187 41 42 214 13 2 3 36 37 38 39 40 219 <| fc "plus" RJ m1 187 34 35 206 11 2 3 29 30 31 32 33 211 <| fc "times" ML m1 187 48 49 222 15 2 3 43 44 45 46 47 227 <| fc "moment_at" E9 m2 357 183 184 409 128 3 3 178 179 180 181 182 415 <| fc "near_in" HS m2 357 190 191 418 130 1 3 185 186 187 188 189 432 <| fc "shared_bottom" C2 m1 187 83 84 262 25 1 3 78 79 80 81 82 269 <| fc "lines_of" F8 m2 357 171 172 389 108 2 3 166 167 168 169 170 400 <| fc "over" RH m1 187 55 56 230 17 2 3 50 51 52 53 54 235 <| fc "size_of" HV m2 357 159 160 375 102 2 3 154 155 156 157 158 380 <| fc "spot_between" DY m3 293 102 103 295 48 3 3 99 100 0 0 101 298 <| fc "spot_at" HW m3 293 109 110 301 51 2 3 104 105 106 107 108 307 <| fc "offs_at" HU m2 357 164 165 383 104 4 3 161 162 0 0 163 386 <| fc "greater" HR m1 187 76 77 254 23 2 3 71 72 73 74 75 259 <| fc "together" GA m2 357 147 148 359 95 2 3 142 143 144 145 146 366 <| fc "corners_between" CT m3 293 114 115 310 58 3 3 111 112 0 0 113 313 <| fc "count_below" Dy m1 187 90 91 272 30 2 3 85 86 87 88 89 280 <| fc "rising" Jl m1 187 97 98 283 40 1 3 92 93 94 95 96 290 <| fc "turns" MM m2 357 152 153 369 99 4 3 149 150 0 0 151 372 <| fc "pieces" Jk m2 357 176 177 403 117 3 3 173 174 0 0 175 406 <| fc "steps_of" F9 m4 316 121 122 318 61 1 3 116 117 118 119 120 328 <| fc "levels" Jj m4 316 126 127 331 70 1 3 123 124 0 0 125 334 <| fc "counted" HQ m4 316 133 134 337 80 2 3 128 129 130 131 132 347 <| fc "told_set" GB m4 316 140 141 350 92 1 3 135 136 137 138 139 354 <| fc "too_near" GC m2 357 195 196 435 148 3 3 192 193 0 0 194 438 <| fc "law" Np m0 441 393 394 708 334 1 3 388 389 390 391 392 719 <| [])
def KA:List Addr:= [3,209,210,279,280,216,217,230,231,289,290,237,238,258,259,265,266,272,273,244,245,294,295,202,203,301,302,223,224,358,359,365,366,372,373,379,380,251,252,284,285,308,309,351,352,323,324,313,314,330,331,318,319,337,338,344,345,386,387,62,63,69,70,20,21,27,28,41,42,34,35,48,49,183,184,190,191,83,84,171,172,55,56,159,160,102,103,109,110,164,165,76,77,147,148,114,115,90,91,97,98,152,153,176,177,121,122,126,127,133,134,140,141,195,196,393,394]
def q:Program:={PySem.Challenge.pw_skylanes_k22_too_near_at_moments with main:={PySem.Challenge.pw_skylanes_k22_too_near_at_moments.main with body:= [top 1,top 2,top 3,top 4,top 5,top 6,top 7,top 8,top 9,top 10,top 11,top 12,top 14,top 15,top 16,top 18,top 19,top 20,top 21,top 23,top 24,top 25,top 26,top 27,top 28,top 29,top 30,top 31,top 33,top 34,top 35,top 36,top 37,top 38,top 39,top 40,top 41,top 42,top 43,top 44,top 45,top 46,top 47,top 48,top 49,top 50,top 51,top 52,top 53,top 54,top 55,top 56,top 57,top 58,top 59,top 60,top 61,top 62] }}
end K22
open PySem PySem.W PyProof.Rows
set_option maxRecDepth 100000 in
set_option maxHeartbeats 0 in
theorem K22.lf:∀w,(openEnds treeTable PySem.Challenge.pw_skylanes_k22_too_near_at_moments w 6000).map (λs=>(openSeen K22.q [] (importedModules (PySem.Challenge.pw_skylanes_k22_too_near_at_moments).main.body) (λs=>xlAt K22.q [] s&&recOk [] s) true s,K22.KA.map s.heap.get?))=some (openGood K22.q [],(K22.KK w.params).map λp=>some p.2):=by
 intro w;kernel_rfl
set_option maxRecDepth 100000 in
set_option maxHeartbeats 0 in
theorem PySem.Challenge.cw_skylanes_k22_too_near_at_moments_holds : PySem.Challenge.rw_skylanes_k22_too_near_at_moments.Holds := by
 w_on;o_law
 refine holds_open (q:=K22.q) (loose:= []) (Xt:=λs=>xlAt K22.q [] s&&recOk [] s) (XP:=XL K22.q []) (YP:=InK K22.KK) (N:=6000) K22.lf (InK.of (as:=K22.KA) λ_=>by kernel_rfl) InK.keeps (λs e=>xl_of s (Bool.and_eq_true_iff.mp e).1) XL.keeps (by rfl) (by rfl) (by rfl) (λs e=>recFacts_of (Bool.and_eq_true_iff.mp e).2) (by rfl) (by first | assumption|decide +kernel) (by decide +kernel) ⟨rfl,rfl,rfl,rfl,rfl,by decide +kernel⟩ ?hw ?hc
 (case hw=>w_witness2)
 case hc=>
 refine K22.walk (l:=PySem.Challenge.rw_skylanes_k22_too_near_at_moments) (K:=K22.KK) rfl rfl (λw h Y=>Y) ?F
 intro w mg fa h KX G j4
 exact K22.all_mk KX G j4 (K22.atK K22.m0 441 209 210) (K22.atK K22.m0 441 279 280) (K22.atK K22.m0 441 216 217) (K22.atK K22.m0 441 230 231) (K22.atK K22.m0 441 289 290) (K22.atK K22.m0 441 237 238) (K22.atK K22.m0 441 258 259) (K22.atK K22.m0 441 265 266) (K22.atK K22.m0 441 272 273) (K22.atK K22.m0 441 244 245) (K22.atK K22.m0 441 294 295) (K22.atK K22.m0 441 202 203) (K22.atK K22.m0 441 301 302) (K22.atK K22.m0 441 223 224) (K22.atK K22.m0 441 358 359) (K22.atK K22.m0 441 365 366) (K22.atK K22.m0 441 372 373) (K22.atK K22.m0 441 379 380) (K22.atK K22.m0 441 251 252) (K22.atK K22.m0 441 284 285) (K22.atK K22.m0 441 308 309) (K22.atK K22.m0 441 351 352) (K22.atK K22.m0 441 323 324) (K22.atK K22.m0 441 313 314) (K22.atK K22.m0 441 330 331) (K22.atK K22.m0 441 318 319) (K22.atK K22.m0 441 337 338) (K22.atK K22.m0 441 344 345) (K22.atK K22.m0 441 386 387) (K22.atK K22.m1 187 62 63) (K22.atK K22.m1 187 69 70) (K22.atK K22.m1 187 20 21) (K22.atK K22.m1 187 27 28) (K22.atK K22.m1 187 41 42) (K22.atK K22.m1 187 34 35) (K22.atK K22.m1 187 48 49) (K22.atK K22.m2 357 183 184) (K22.atK K22.m2 357 190 191) (K22.atK K22.m1 187 83 84) (K22.atK K22.m2 357 171 172) (K22.atK K22.m1 187 55 56) (K22.atK K22.m2 357 159 160) (K22.atK K22.m3 293 102 103) (K22.atK K22.m3 293 109 110) (K22.atK K22.m2 357 164 165) (K22.atK K22.m1 187 76 77) (K22.atK K22.m2 357 147 148) (K22.atK K22.m3 293 114 115) (K22.atK K22.m1 187 90 91) (K22.atK K22.m1 187 97 98) (K22.atK K22.m2 357 152 153) (K22.atK K22.m2 357 176 177) (K22.atK K22.m4 316 121 122) (K22.atK K22.m4 316 126 127) (K22.atK K22.m4 316 133 134) (K22.atK K22.m4 316 140 141) (K22.atK K22.m2 357 195 196) (K22.atK K22.m0 441 393 394) (by kernel_rfl) (by kernel_rfl) (by kernel_rfl) (by kernel_rfl) (by kernel_rfl) (by kernel_rfl) (by kernel_rfl) (by kernel_rfl) (by kernel_rfl) (by kernel_rfl) (by kernel_rfl)
end
